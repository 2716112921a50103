import PyProof.Rows.All
import Wide.All
import OpenK.AllK
import Wide.FinOn
import Lean
import PyProof.EqAt
import PyProof.EqKinds
import PyProof.TupleCall
import PySem.SetOps
import KE.KDictSum
import KE.KDictList
import PyProof.ZipIter
import KE.KFind
import PyProof.MaxThree
import PyProof.Rows.IntMath
import PyProof.EnumMake
import PyProof.Rows.EnumRows
import PyProof.DictWalks
import PyProof.Rows.SortRuns
import KE.KSortKey
import PySem.Challenge.RW_hookrail_k40_what_is_a_reason
open Array renaming length_toList→zc,getElem?_eq_getElem→zk,getElem?_toList→z5,getElem?_eq_none→yN,toArray_toList→wL,getElem?_push→ZJ,forIn_toList→ZP,toList_push→ZX,size_push→Zi,toList→Zs
open Bool renaming and_eq_true→zV,false_eq_true→z9,false_ne_true→yE,false_and→yF,and_false→yI,or_false→yg,true_and→yi,false_or→yw,not_false→yy,true_or→xD,or_true→xF,not_true→xP,and_true→xQ,eq_false_iff→wF,and_eq_true_iff→wM
open Int renaming toNat_natCast→yT,reducePow→yo,reduceToNat→yp,emod_lt_of_pos→yt,emod_nonneg→yz,reduceSub→xI,reduceAdd→xJ,reduceMul→xK,reduceMod→xL,reduceDiv→xM,reduceNeg→xN,reduceBEq→xO,reduceLT→xY,reduceLE→xZ,ne_of_lt→ww
open List renaming length_map→zA,length_append→zC,getElem?_eq_getElem→zD,mem_cons→zE,length_cons→zG,length_singleton→zH,not_mem_nil→zI,mem_cons_of_mem→zJ,mem_cons_self→zK,mem_singleton→zL,mem_map→zN,size_toArray→zO,mem_append→zP,getElem?_set_ne→zS,map_cons→zT,mem_append_right→zU,map_append→zW,getD_eq_getElem?_getD→zX,append_assoc→zY,getElem?_map→za,mem_append_left→zb,getElem?_append_right→zf,pairwise_cons→zg,getElem?_eq_some_iff→zh,append_nil→zi,getElem?_append_left→zj,mem_iff_getElem→zn,length_nil→zq,getElem?_cons_succ→zr,getElem?_eq_none→zt,mem_of_getElem?→zx,length_take→zy,getElem?_cons_zero→zz,map_nil→yA,all_eq_true→yG,cons_append→yH,length_filter_le→yK,flatten_cons→yM,length_set→yP,replicate_succ→yQ,replicate_zero→yR,flatten_append→yS,length_range→yU,set_cons_succ→yV,set_cons_zero→yW,nil_append→yY,length_drop→yZ,drop_eq_getElem_cons→yb,length_reverse→yc,nodup_append→yd,length_replicate→ye,all_cons→yh,nodup_cons→yj,range→yk,getElem?_replicate→yl,getElem_mem→ym,mem_reverse→yn,pairwise_iff_getElem→yq,lookup_cons→yr,mem_flatten→yu,eq_nil_of_length_eq_zero→yx,filterMap_cons→y0,length_pos_iff→xA,getElem?_set_self→xB,map_map→xC,flatten_nil→xR,filter_eq_self→xa,getElem_map→xb,map_id'→xf,mem_filter→xg,find?_cons→xh,take_append_drop→xj,reverse_cons→xk,pairwise_append→xl,getElem?_eq_none_iff→xo,getElem?_range→xq,any_cons→xt,map_drop→xu,all_append→xv,length→xy,length_eq_zero_iff→xz,mem_range→wA,nodup_nil→wB,ext_getElem?→wC,all_map→wE,take_length→wH,map_reverse→wJ,reverse→wP,mem_filterMap→wQ,replicate→wR,length_eraseIdx_of_lt→wT,perm_ext_iff_of_nodup→wU,map_take→wX,take_append_getElem→wY,getElem_inj→wZ,drop_length→we,filter_cons_of_pos→wf,filter_cons_of_neg→wj,take_of_length_le→wp,pairwise_lt_range→wq,range_succ_eq_map→wt,zipWith→wu,of_mem_zip→wy,forIn_cons→w8,length_zip→ZA,dropLast_eq_take→ZB,mem_erase_of_ne→ZG,flatMap_append→ZK,filterMap_map→ZN,take_sublist→ZU,getElem_take→ZV,set_set→ZZ,foldl_append→Zc,map→Ze,filter_map→Zk,forIn_nil→Zo,all→Zq
open List.Pairwise renaming nil→xW,sublist→wG
open List.Perm renaming refl→xm,trans→Zj
open Nat renaming le_refl→zQ,lt_of_lt_of_le→zd,ne_of_lt→ze,le_trans→zm,zero_le→zu,lt_or_ge→yC,lt_succ_of_lt→yJ,le_of_lt→yL,lt_succ_self→ya,lt_irrefl→yv,zero_add→xE,reduceSub→xG,reduceAdd→xH,reduceLT→xX,le_succ→xn,not_lt_zero→wN,ne_of_gt→wO,le_succ_of_le→wW,add_sub_cancel_left→wd,min_le_left→w9,lt_of_le_of_lt→ZO,add_sub_cancel→ZQ,lt_trans→ZW,le_total→Za,min_le_right→Zg,not_lt→Zn
open Option renaming bind_some→zZ,map_some→yD,isSome_iff_exists→yf,map_eq_some_iff→wD,bind→ZH,isSome_map→Zb,getD_none→Zh,none→Zt
open Option.some renaming inj→zo
open PySem.Heap renaming get?_push_of_some→zF,lt_size→zM,get?_push_size→zR,get?_update_other→yB,size_push→yO,get?_update_self→xT,SameBut→xU,get?_some_iff→xw,size_update→wI,FlyingW→Zd,MadeExcOf→Zp
open PySem.Heap.IsSliceOf renaming new→Zu
open PySem.Heap.SameBut renaming update→ZI,refl→ZY
open PySem.W renaming Frag→zB,mg_none_of→zp,nsIn→zw,kia_one→yX,keepIn→xS,fnOf→xV,excIn→xi,hideAll_get→xp,mroIn→xr,mg_of→wK,codeIn→wS,methodObj→wV,cellsFrom_some→wk,instObj→wx,OpenLaw→wz,lookIn→ZD,kitOne→ZF,of_hideAll→ZL,callWith_K→ZM,kitx_list→ZR,kitx_dict→ZT,plainGet→Zf,findIn→Zl,kIn_of→Zm,WalkO→Zr
open PyProof.Rows renaming IntsAre→v8,AllBare→uf,subscriptTail_builtinR→uy,envOfC→u5,subscriptTail→tI,args_tuple_getitem→tK,seqObj→tq
open PySem renaming wpAny_bind→vA,Value→vB,Addr→vC,Shared→vF,wpAny_pure→vG,FuncData→vH,starEach→vJ,wpAny→vL,Program→vO,Expr→vQ,mainGlobals→vS,World→vU,wpAny_ite_split→vW,Heap→vX,Around→vY,bootBuiltins→vZ,wpAny_mono→vc,wpAny_newObj_type→ve,Stmt→vf,wpAny_call_entry→vg,wpAny_holding→vh,builtinLookup_eq_fast→vi,wpAny_setState_of→vj,backTo→vk,swapsWith→vm,foldedSetIterable→vn,behindInMarks→vo,wpAny_Call_Name_kw→vp,wpAny_setField_rec→vq,codeAny_builtin→vt,typeLookup_type→vv,wpAny_updateSeq→vx,plainId_quiet→vy,compareOp→vz,wpAny_passesOwn→v4,wpAny_truthy_bool→v5,sysModules→v6,assignEach→v7,pyNext→v9,wpAny_isInstance→uA,sizeLine_eq→uB,wpAny_field→uC,rawInt→uD,binaryOp→uF,NameKind→uG,wpAny_specialOf→uH,codeAny→uI,wpAny_seqItems→uJ,codeAny_mono→uK,wpAny_typeOf→uL,scanBound→uM,Scope→uN,attributeBase→uO,wpAny_attempt→uP,wpAny_execs_nil→uQ,sliceBounds→uR,wpAny_pyIter_list→uS,cLine→uT,isSubtype_type→uU,IsPair→uV,wpAny_nextOf_list_item→uW,typeLookup→uX,wpAny_rule→uY,pickOrder→uZ,Keyword→ua,ZipApart→ub,wpAny_pyIter_revIter→uc,letOwnedTupleGo→ud,intKind→ue,getItem→ug,setNext→uh,updateSeq→ui,wpAny_fieldsOf→uj,firstArgMember→uk,isSubtype_stop→um,tupleKind_room_in1→uo,keywordEach→uq,wpAny_comprehension_free→ur,GenState→ut,wpAny_execs_cons→uu,wpAny_askSetting→uv,wpAny_pyIter_zip→uw,IsPart→ux,wpAny_isTrue_Compare1→uz,wpAny_nextOf_list_end→u0,wpAny_pyNext_zip_item→u3,wpAny_loadName_local→u4,codeAny_extend_loopS→u6,wpAny_pyNext_zip_end→u7,excClassObj→u8,tupleKind→u9,PassesOwn→tD,callerA→tE,valueAt→tF,wpAny_loadName_cell→tG,wpAny_isSubtype_exc→tH,Result→tJ,call_meets→tL,call_reversed_list→tM,Drawn→tN,Operator→tO,BindsTo→tP,backToKw→tQ,slotArgs→tS,Paired→tT,revObj→tU,CmpOp→tV,wpAny_of_eq→tW,atKey→tX,hashInt→tY,isTrue→tZ,pyIter→tf,argsOk→tj,raiseNew→tm
noncomputable def vK:=@absurd
noncomputable def vM:=@if_pos
noncomputable def vN:=@if_neg
noncomputable def vP:=@decide_eq_true
noncomputable def vT:=@decide_eq_false
noncomputable def uE:=@congrArg
local macro_rules|`(∅)=>`(by omega)
local macro_rules|`(⋯)=>`(by decide +kernel)
local macro_rules|`(↥$x)=>`(some (.sh $x))
local macro_rules|`(⇑$x)=>`(by simpa using $x)
local macro_rules|`(tactic|omega)=>`(tactic|lia)
set_option Elab.async false
set_option linter.all false
set_option maxRecDepth 100000
namespace L2
open PySem PySem.Spec PyProof.Rows
noncomputable abbrev Key:=Sum Int Str
noncomputable def WK:Key->vB->Bool
 | .inl k,v=>Value.isInt k v
 | .inr x,v=>Value.isStrOf x v
noncomputable def keyH(w:vU):Key->Int
 | .inl k=>tY k
 | .inr x=>hashStr w x
theorem q0n:∀{k:Key}{v:vB},WK k v=true->(∃i t,k=Sum.inl i/\v=Value.int i t)\/(∃x t,k=Sum.inr x/\v=Value.str x t)
 | .inl i,v,h=>by
  obtain⟨t,e⟩:=Value.isInt_shape (k:=i) (v:=v) h;exact .inl ⟨i,t,rfl,e⟩
 | .inr x,v,h=>by
  obtain⟨t,e⟩:=Value.isStrOf_shape (x:=x) (v:=v) h;exact .inr ⟨x,t,rfl,e⟩
theorem qen(i:Int)(t:Tok):WK (.inl i) (.int i t)=true:=by simp[WK,Value.isInt]
theorem qdY(x:Str)(t:Tok):WK (.inr x) (.str x t)=true:=by simp[WK,Value.isStrOf]
theorem qh9(a b:Int):decide ((Sum.inl a:Key)=Sum.inl b)=(a==b):=by
 by_cases e:a=b
 ·subst e;simp
 ·have h:¬(Sum.inl a:Key)=Sum.inl b:=λq=>e (Sum.inl.inj q)
  rw[vT h];exact(beq_eq_false_iff_ne.mpr e).symm
theorem qgX(a b:Str):decide ((Sum.inr a:Key)=Sum.inr b)=decide (a=b):=by
 by_cases e:a=b
 ·subst e;simp
 ·have h:¬(Sum.inr a:Key)=Sum.inr b:=λq=>e (Sum.inr.inj q)
  rw[vT h,vT e]
theorem qhN(a:Int)(b:Str):decide ((Sum.inl a:Key)=Sum.inr b)=false:=vT (λq=>nomatch q)
theorem qh6(a:Str)(b:Int):decide ((Sum.inr a:Key)=Sum.inl b)=false:=vT (λq=>nomatch q)
noncomputable def YT(prog:vO)(w:vU):PySem.KeyKind prog w Key where
 is:=WK
 hash:=keyH w
 inj:=λv a b ha hb=>by
  rcases q0n ha with⟨i,t,rfl,rfl⟩|⟨x,t,rfl,rfl⟩
  ·rcases q0n hb with⟨j,u,rfl,e⟩|⟨y,u,rfl,e⟩
   ·injection e with e1 _;rw[e1]
   ·exact nomatch e
  ·rcases q0n hb with⟨j,u,rfl,e⟩|⟨y,u,rfl,e⟩
   ·exact nomatch e
   ·injection e with e1 _;rw[e1]
 byValue:=λk v h=>by
  rcases q0n h with⟨i,t,rfl,rfl⟩|⟨x,t,rfl,rfl⟩ <;> rfl
 pyHash:=λhv h=>by
  rcases q0n hv with⟨i,t,rfl,rfl⟩|⟨x,t,rfl,rfl⟩
  ·exact wpAny_pyHash_int h
  ·exact wpAny_pyHash_str h
 eqBool:=λhu hv h=>by
  rcases q0n hu with⟨i,t,rfl,rfl⟩|⟨x,t,rfl,rfl⟩
  ·rcases q0n hv with⟨j,u,rfl,rfl⟩|⟨y,u,rfl,rfl⟩
   ·rw[qh9]at h;exact wpAny_eqBool_int h
   ·rw[qhN]at h;exact SeqAt.EqAt.int_str i t y u _ _ _ _ h
  ·rcases q0n hv with⟨j,u,rfl,rfl⟩|⟨y,u,rfl,rfl⟩
   ·rw[qh6]at h;exact SeqAt.EqAt.str_int x t j u _ _ _ _ h
   ·rw[qgX]at h;exact wpAny_eqBool_str h
 «strs»:=λk x t v h=>by
  rcases q0n h with⟨i,u,rfl,e⟩|⟨y,u,rfl,e⟩
  ·exact nomatch e
  ·injection e with e1 _
   subst e1;cases v <;> rfl
theorem qbD(prog:vO)(w:vU)(i:Int)(t:Tok):(YT prog w).is (.inl i) (.int i t)=true:=qen i t
theorem qbJ(prog:vO)(w:vU)(x:Str)(t:Tok):(YT prog w).is (.inr x) (.str x t)=true:=qdY x t
inductive V where
 | non|bl (b:Bool)|int (i:Int)|str (x:Str)|byt (b:Array UInt8)|flt (b:UInt64)|ref (a:vC)|ty (n:String)
 deriving DecidableEq
def RelV:V->vB->Prop
 | .non,u=>u=Value.none
 | .bl b,u=>u=Value.bool b
 | .int i,u=>∃t,u=Value.int i t
 | .str x,u=>∃t,u=Value.str x t
 | .byt b,u=>∃t,u=Value.bytes b t
 | .flt b,u=>∃t,u=Value.float b t
 | .ref a,u=>u=Value.ref a
 | .ty n,u=>u=Value.type n
abbrev YU:List V->List vB->Prop:=tT RelV
theorem YU.length{xs:List V}{us:List vB}(r:YU xs us):xs.length=us.length:=Paired.length r
theorem YU.get:∀{xs:List V}{us:List vB}{i:Nat}{x:V},YU xs us->xs[i]?=some x->∃u,us[i]?=some u/\RelV x u
 | _,_,_,_,.nil,e=>by simp at e
 | _,_,0,_,.cons r _,e=>by simp at e;subst e;exact⟨_,rfl,r⟩
 | _,_,i+1,x,.cons _ t,e=>by
  obtain⟨u,h1,h2⟩:=YU.get (i:=i) (x:=x) t ⇑e;exact⟨u,by simpa using h1,h2⟩
theorem YU.append:∀{xs ys:List V}{us ws:List vB},YU xs us->YU ys ws->YU (xs++ys) (us++ws)
 | _,_,_,_,.nil,s=>s
 | _,_,_,_,.cons r t,s=>.cons r (YU.append t s)
theorem YU.take:∀{xs:List V}{us:List vB}(n:Nat),YU xs us->YU (xs.take n) (us.take n)
 | _,_,0,_=>.nil
 | _,_,_+1,.nil=>.nil
 | _,_,n+1,.cons r t=>.cons r (YU.take n t)
theorem YU.drop:∀{xs:List V}{us:List vB}(n:Nat),YU xs us->YU (xs.drop n) (us.drop n)
 | _,_,0,r=>r
 | _,_,_+1,.nil=>.nil
 | _,_,n+1,.cons _ t=>YU.drop n t
def Wh:Option V->Option vB->Prop
 | some v,some u=>RelV v u
 | none,none=>True
 | _,_=>False
def KV{κ:Type}:List (κ×V)->List (κ×vB)->Prop:=tT λ(p:κ×V) (q:κ×vB)=>p.1=q.1/\RelV p.2 q.2
noncomputable def kV:Key->V
 | .inl i=>.int i
 | .inr x=>.str x
inductive HO where
 
 | lst (xs:List V)
 
 | tup (xs:List V)
 
 | dK (kvs:List (Key×V))|dT (kvs:List (List Key×V))
 
 | set (S:Int->Bool) (n:Nat)
 
 | ins (C dx:vC) (fs:List (Str×V))
 
 | own (x:vC)
 
 | xd (fs:List (Str×V))
 
 | met (f x:vC)
 
 | rng (lo hi:Int)
 
 | frz (o:Obj) (u:HO)
 
 | tbl (ps:Array vB)
 
 | ext (φ:vX->Prop)
noncomputable abbrev Hp:=vC->Option HO
noncomputable def upd(H:Hp)(a:vC)(o:HO):Hp:=λb=>if b=a then some o else H b
theorem qm{H:Hp}{a:vC}{o:HO}:upd H a o a=some o:=by unfold upd;rw[vM rfl]
theorem qf{H:Hp}{a b:vC}{o:HO}(h:b≠a):upd H a o b=H b:=by unfold upd;rw[vN h]
theorem qi1{H:Hp}{a b:vC}{o u:HO}(h:H a=some o)(h':H b=some u)(d:o≠u):a≠b:=by
 intro e;subst e;rw[h]at h';exact d (zo h')
theorem q1n{H:Hp}{a b:vC}{o:HO}(h:H a=some o)(h':H b=none):a≠b:=by
 intro e;subst e;rw[h]at h';cases h'
section
variable(P:vO)(w:vU)
def YQ(H:Hp)(h:vX)(a:vC):HO->Prop
 | .lst xs=>xs.length<=sizeLine/\∃(its:List vB) (n:Nat),YU xs its/\h.get? a=some { cls:=.type "list", data:=.seq its.toArray n }
 | .tup xs=>xs.length<=sizeLine/\∃its:List vB,YU xs its/\IsTup h a its.toArray
 | .dK kvs=>kvs.length<=sizeLine/\(a==v6)=false/\∃vs,KV kvs vs/\h.DictOf (YT P w) a vs
 | .dT kvs=>kvs.length<=sizeLine/\(a==v6)=false/\∃xs:List (List Key×vC×vB),
   tT (λ(p:List Key×V) (q:List Key×vC×vB)=>p.1=q.1/\H q.2.1=some (.tup (p.1.map kV))/\RelV p.2 q.2.2) kvs xs /\
   ∃o es ep,h.get? a=some o/\o.ExactDict/\o.data=.dict es ep/\es.toList=xs.map (entryOfKey (u9 (YT P w)))/\(xs.map (·.1)).Nodup
 | .set S n=>h.SetOf (ue P w) a S n
 | .ins C dx fs=>H dx=some (.own a)/\fs.length<=1000/\dx≠a/\h.get? a=some (wx C dx) /\
   ∃mA,h.Ns1 dx mA/\(∀f,Wh (fs.lookup f) (mA f))/\PySem.Within mA (fs.map (·.1))
 | .own _=>∃o,h.get? a=some o
 | .xd fs=>∃mA,h.Ns1 a mA/\∀f,Wh (fs.lookup f) (mA f)
 | .rng lo hi=>∃t u v,h.get? a=some { cls:=.type "range", data:=.fields #[.int lo t,.int hi u,.int 1 v] }
 | .frz o u=>h.get? a=some o/\YQ H h a u
 | .tbl ps=>h.get? a=some { cls:=.none,data:=.fields ps }
 | .met f x=>h.get? a=some (wV (.ref f) (.ref x))
 | .ext φ=>φ h/\(∃o,h.get? a=some o)/\∀h1 h2:vX,φ h1->(∀o,h1.get? a=some o->h2.get? a=some o)->φ h2
def HOk(H:Hp)(h:vX):Prop:=∀a o,H a=some o->YQ P w H h a o
end
section
variable{P:vO}{w:vU}{H H':Hp}{h h':vX}{a:vC}{o:HO}
theorem YQ.lt(x:YQ P w H h a o):a<h.objs.size:=by
 cases o with
 | lst xs=>obtain⟨_,_,_,_,e⟩:=x;exact zM e
 | tup xs=>obtain⟨_,_,_,p⟩:=x;exact p.lt
 | dK kvs=>obtain⟨_,_,_,_,o,_,_,e,_⟩:=x;exact zM e
 | dT kvs=>obtain⟨_,_,_,_,o,_,_,e,_⟩:=x;exact zM e
 | set S n=>obtain⟨o,_,_,_,e,_⟩:=x;exact zM e
 | ins C dx fs=>obtain⟨_,_,_,e,_⟩:=x;exact zM e
 | own y=>obtain⟨_,e⟩:=x;exact zM e
 | xd fs=>obtain⟨_,⟨_,_,_,e,_⟩,_⟩:=x;exact zM e
 | rng lo hi=>obtain⟨_,_,_,e⟩:=x;exact zM e
 | frz ob u=>obtain⟨e,_⟩:=x;exact zM e
 | tbl ps=>exact zM (show h.get? a=some _ from x)
 | met f y=>exact zM (show h.get? a=some _ from x)
 | ext φ=>obtain⟨_,⟨_,e⟩,_⟩:=x;exact zM e
theorem Paired.mapP{α β:Type}{F G:α->β->Prop}:∀{l₁:List α}{l₂:List β},tT F l₁ l₂->(∀a b,F a b->G a b)->tT G l₁ l₂
 | _,_,.nil,_=>.nil
 | _,_,.cons r t,f=>.cons (f _ _ r) (Paired.mapP t f)
theorem YQ.stay(x:YQ P w H h a o)(k:∀b u,(b=a\/H b=some (.own a))->h.get? b=some u->h'.get? b=some u)(ho:∀b,H b=some (.own a)->H' b=some (.own a))(ht:∀b xs,H b=some (.tup xs)->H' b=some (.tup xs)):YQ P w H' h' a o:=by
 induction o with
 | lst xs=>obtain⟨z,its,n,r,e⟩:=x;exact⟨z,its,n,r,k _ _ (.inl rfl) e⟩
 | tup xs=>obtain⟨z,its,r,ob,e,c⟩:=x;exact⟨z,its,r,ob,k _ _ (.inl rfl) e,c⟩
 | dK kvs=>obtain⟨z,y,vs,r,ob,es,ep,e,c⟩:=x;exact⟨z,y,vs,r,ob,es,ep,k _ _ (.inl rfl) e,c⟩
 | dT kvs=>
  obtain⟨z,y,xs,r,ob,es,ep,e,c⟩:=x;exact⟨z,y,xs,Paired.mapP r λp q z=>⟨z.1,ht _ _ z.2.1,z.2.2⟩,ob,es,ep,k _ _ (.inl rfl) e,c⟩
 | set S n=>obtain⟨ob,es,ep,t,e,c⟩:=x;exact⟨ob,es,ep,t,k _ _ (.inl rfl) e,c⟩
 | ins C dx fs=>
  obtain⟨d,z,ne,e,mA,⟨od,es,ep,e2,c⟩,r⟩:=x;exact⟨ho _ d,z,ne,k _ _ (.inl rfl) e,mA,⟨od,es,ep,k _ _ (.inr d) e2,c⟩,r⟩
 | own y=>obtain⟨ob,e⟩:=x;exact⟨ob,k _ _ (.inl rfl) e⟩
 | xd fs=>obtain⟨mA,⟨od,es,ep,e,c⟩,r⟩:=x;exact⟨mA,⟨od,es,ep,k _ _ (.inl rfl) e,c⟩,r⟩
 | rng lo hi=>obtain⟨t,u,v,e⟩:=x;exact⟨t,u,v,k _ _ (.inl rfl) e⟩
 | frz ob u ih=>obtain⟨e,q⟩:=x;exact⟨k _ _ (.inl rfl) e,ih q⟩
 | tbl ps=>
  have e:h.get? a=some { cls:=.none,data:=.fields ps }:=x;show h'.get? a=some { cls:=.none,data:=.fields ps };exact k a _ (.inl rfl) e
 | met f y=>
  have e:h.get? a=some (wV (.ref f) (.ref y)):=x;show h'.get? a=some (wV (.ref f) (.ref y));exact k a _ (.inl rfl) e
 | ext φ=>obtain⟨p,⟨o,e⟩,st⟩:=x;exact⟨st _ _ p λo q=>k _ _ (.inl rfl) q,⟨o,k _ _ (.inl rfl) e⟩,st⟩
theorem HOk.lt(x:HOk P w H h)(e:H a=some o):a<h.objs.size:=(x a o e).lt
theorem HOk.fresh(x:HOk P w H h)(e:h.objs.size<=a):H a=none:=by
 cases q:H a with
 | none=>rfl
 | some u=>exact vK (zd (x.lt q) e) (yv _)
theorem HOk.kept(x:HOk P w H h)(k:∀b u,h.get? b=some u->h'.get? b=some u):HOk P w H h':=λa o e=>
 (x a o e).stay (λb u _ q=>k b u q) (λ_ q=>q) λ_ _ q=>q
theorem HOk.laid(x:HOk P w H h)(k:∀b u,h.get? b=some u->h'.get? b=some u)(hp:h.objs.size<=a)(new:YQ P w (upd H a o) h' a o):HOk P w (upd H a o) h':=λb u e=>by
 have hn:=x.fresh hp
 by_cases hb:b=a
 ·subst hb;rw[qm]at e;cases e;exact new
 ·rw[qf hb]at e
  exact(x b u e).stay (λc v _ q=>k c v q) (λc q=>by rw[qf (q1n q hn)];exact q) λc xs q=>by rw[qf (q1n q hn)];exact q
end
def Rd(H:Hp)(a:vC)(u:HO):Prop:=H a=some u\/∃o,H a=some (.frz o u)
theorem Rd.ok{P:vO}{w:vU}{H:Hp}{h:vX}{a:vC}{u:HO}(r:Rd H a u)(x:HOk P w H h):YQ P w H h a u:=by
 rcases r with r|⟨o,r⟩
 ·exact x a u r
 ·obtain⟨_,q⟩:=x a _ r
  exact q
def Mut:Option HO->Prop
 | some (.lst _)=>True
 | some (.dK _)=>True
 | some (.dT _)=>True
 | some (.set _ _)=>True
 | some (.ins _ _ _)=>True
 | some (.ext _)=>True
 | _=>False
section
variable{P:vO}{w:vU}{H:Hp}{h h':vX}{x e:vC}{o':HO}
theorem HOk.write(ok:HOk P w H h)(mu:Mut (H x))(he:e=x\/H e=some (.own x))(k:∀b u,b≠e->h.get? b=some u->h'.get? b=some u)(heo:∃u,h'.get? e=some u)(new:YQ P w (upd H x o') h' x o'):HOk P w (upd H x o') h':=λb u q=>by
 have nown:∀c y,H c=some (.own y)->c≠x:=λc y r z=>by subst z;rw[r]at mu;exact mu
 have ntup:∀c xs,H c=some (.tup xs)->c≠x:=λc xs r z=>by subst z;rw[r]at mu;exact mu
 by_cases hb:b=x
 ·subst hb;rw[qm]at q;cases q;exact new
 ·rw[qf hb]at q
  by_cases hbe:b=e
  ·have q':H b=some (.own x):=by
    rcases he with z|z
    ·exact vK (hbe.trans z) hb
    ·rw[hbe];exact z
   rw[q]at q';cases q';obtain⟨v,hv⟩:=heo;exact⟨v,by rw[hbe];exact hv⟩
  ·refine(ok b u q).stay (λc v hc r=>k c v ?_ r) (λc r=>by rw[qf (nown c b r)];exact r) λc xs r=>by rw[qf (ntup c xs r)];exact r
   rcases hc with rfl|hc
   ·exact hbe
   ·rintro rfl
    rcases he with z|z
    ·exact nown c b hc z
    ·rw[hc]at z;cases z;exact hb rfl
end
structure Un (fs ex:List vC) (H H':Hp) (h h':vX):Prop where
 keep:∀b o,h.get? b=some o->H b=none->b∉fs->b∉ex->h'.get? b=some o
 slot:∀b o,h.get? b=some o->H b=none->b∈fs->b∉ex->∃sl,h'.get? b=some { o with slots:=sl }
 free:∀b o,h.get? b=some o->H b=none->b∉ex->H' b=none
 there:∀b o,h.get? b=some o->b∉ex->∃o',h'.get? b=some o'
 tups:∀b xs,H b=some (.tup xs)->H' b=some (.tup xs)
 frzs:∀b o u,H b=some (.frz o u)->H' b=some (.frz o u)
 tbls:∀b ps,H b=some (.tbl ps)->∃more,H' b=some (.tbl (ps++more))
section
variable{fs fs' ex ex':List vC}{H H1 H2:Hp}{h h1 h2 h':vX}{a x e:vC}{o:HO}
theorem Un.any(u:Un fs ex H H1 h h1){b:vC}{ob:Obj}(q:h.get? b=some ob)(n:H b=none)(hx:b∉ex):∃sl,h1.get? b=some { ob with slots:=sl }:=by
 by_cases hb:b∈fs
 ·exact u.slot b ob q n hb hx
 ·exact⟨ob.slots,u.keep b ob q n hb hx⟩
theorem Un.kept(k:∀b u,h.get? b=some u->h'.get? b=some u):Un fs ex H H h h' :=
 ⟨λb ob q _ _ _=>k b ob q,λb ob q _ _ _=>⟨ob.slots,k b ob q⟩,λ_ _ _ n _=>n,λb ob q _=>⟨ob,k b ob q⟩,λ_ _ q=>q,λ_ _ _ q=>q,λ_ ps q=>⟨#[],by rw[q];simp⟩⟩
theorem Un.refl:Un fs ex H H h h:=Un.kept λ_ _ q=>q
theorem Un.laid(k:∀b u,h.get? b=some u->h'.get? b=some u)(hp:h.objs.size<=a)(hn:H a=none):Un fs ex H (upd H a o) h h' where
 keep:=λb u q _ _ _=>k b u q
 slot:=λb u q _ _ _=>⟨u.slots,k b u q⟩
 free:=λb u q n _=>by rw[qf (ze (zd (zM q) hp))];exact n
 there:=λb u q _=>⟨u,k b u q⟩
 tups:=λb xs q=>by rw[qf (q1n q hn)];exact q
 frzs:=λb u xs q=>by rw[qf (q1n q hn)];exact q
 tbls:=λb ps q=>⟨#[],by rw[qf (q1n q hn),q];simp⟩
theorem Un.write(mu:Mut (H x))(he:e=x\/H e=some (.own x))(k:∀b u,b≠e->h.get? b=some u->h'.get? b=some u)(heo:∃u,h'.get? e=some u):Un fs ex H (upd H x o) h h':=by
 have hx:∀b,H b=none->b≠x:=λb n z=>by subst z;rw[n]at mu;exact mu
 have hb:∀b,H b=none->b≠e:=λb n z=>by
  subst z;rcases he with r|r
  ·exact hx b n r
  ·rw[n]at r;cases r
 have hm:∀b u,H b=some u->¬Mut (some u)->b≠x:=λb u q nm z=>by subst z;rw[q]at mu;exact nm mu
 refine⟨λb u q n _ _=>k b u (hb b n) q,λb u q n _ _=>⟨u.slots,k b u (hb b n) q⟩,λb u q n _=>by rw[qf (hx b n)];exact n,λb u q _=>?_,
  λb xs q=>by rw[qf (hm b _ q λz=>z)];exact q,λb u xs q=>by rw[qf (hm b _ q λz=>z)];exact q,λb ps q=>⟨#[],by rw[qf (hm b _ q λz=>z),q];simp⟩⟩
 by_cases hbe:b=e
 ·subst hbe;exact heo
 ·exact⟨u,k b u hbe q⟩
end
noncomputable def trk(h:vX)(H:Hp):List vC:=(yk h.objs.size).filter λa=>(H a).isSome
noncomputable def zAD(h:vX)(H:Hp):vX:=PySem.W.hideAll h (trk h H)
theorem qdt(h:vX)(H:Hp):(zAD h H).objs.size=h.objs.size:=PySem.W.hideAll_size _ _
theorem qeB{h:vX}{H:Hp}{b:vC}{o:Obj}(e:h.get? b=some o)(n:H b=none):(zAD h H).get? b=some o :=
 xp _ e λhm=>by
  have q:(H b).isSome=true:=(xg.mp hm).2;rw[n]at q;simp at q
theorem qgG{h:vX}{H:Hp}{b:vC}{o:Obj}(e:(zAD h H).get? b=some o):h.get? b=some o/\H b=none:=by
 have e':h.get? b=some o:=ZL (trk h H) e;refine⟨e',?_⟩;cases q:H b with
 | none=>rfl
 | some x=>
  have hm:b∈trk h H:=xg.mpr ⟨wA.mpr (zM e'),by simp[q]⟩;have z:(zAD h H).get? b=none:=PySem.W.hideAll_none (trk h H) hm;rw[z]at e;cases e
noncomputable def zAm(g h:vX)(L:vC):List (vC×Obj):=(yk h.objs.size).filterMap λa=>if a=L\/(g.get? a).isSome=true then none else (h.get? a).map λo=>(a,o)
noncomputable def rest(g h:vX)(L d:vC):List (vC×Obj):=(zAm g h L).filter λp=>decide (p.1≠d)
structure Mod (K:zB) (mg:Str->Option vB) (base:vX):Prop where
 kin:K.In base
 glob:base.Ns vS mg
 blt:∃mb,base.Ns builtinsNs mb/\∀x:Str,x ≠ "__name__" -> mb x=vZ x
 nolimit:base.NoLimit
structure Cx where
 prog:vO
 w:vU
 K:zB
 mg:Str->Option vB
 base:vX
 A:vY
 N:List Str
 s₀:vF
 H₀:Hp
 env:Env
 outer:List Env
 stack:List Env
 ex:List vC
 fn:Str->Bool
 calm:Bool
 pn:List (vC×Obj)
 xe:vB->vF->Prop
noncomputable def frs(l:List Env):List vC:=l.filterMap (·.frame)
noncomputable abbrev Cx.fs(X:Cx):List vC:=frs X.outer
def Vis(sc:uN)(x:Str):Prop:=sc.names.lookup x=some .local\/sc.names.lookup x=some .cell\/sc.names.lookup x=some .free
def Loc(sc:uN)(x:Str):Prop:=sc.names.lookup x=some .local\/sc.names.lookup x=some .cell
def Look(env:Env)(h:vX)(m:Str->Option vB)(x:Str)(u:vB):Prop :=
 (env.kindOf x=some .local/\m x=some u)\/((env.kindOf x=some .cell\/env.kindOf x=some .free)/\∃c,env.cells.lookup x=some c/\h.IsCell c (some u))
structure Cx.Ok (X:Cx):Prop where
 mod:Mod X.K X.mg X.base
 kind:X.env.scope.kind=.function
 glob:X.env.globals=vS
 blt:X.env.builtins=builtinsNs
 above:X.s₀.heap.objs.size<=X.env.locals
 inj:∀x y c,X.env.cells.lookup x=some c->X.env.cells.lookup y=some c->x=y
 has:∀x,(X.env.kindOf x=some .cell\/X.env.kindOf x=some .free)->∃c,X.env.cells.lookup x=some c
 cab:∀x c,X.fn x=true->X.env.cells.lookup x=some c->X.s₀.heap.objs.size<=c
 hd:X.calm=true->X.A.handled=none
 frames:X.A.frames=some X.stack
 stk:X.stack=X.outer\/(X.stack=X.env::X.outer/\X.env.frame=some X.env.locals)
 exf:∀b∈X.ex,b≠X.env.locals/\∀x c,X.env.cells.lookup x=some c->c≠b
 bs:∀b o,X.base.get? b=some o->X.s₀.heap.get? b=some o/\X.H₀ b=none
 bsz:X.base.objs.size<=X.s₀.heap.objs.size
 noex:∀b o,X.base.get? b=some o->b∉X.ex
 exfs:∀b∈X.ex,b∉X.fs
 funs:X.s₀.heap.FunFrames X.base X.outer
 frf:∀b∈X.fs,X.H₀ b=none
structure Inv (X:Cx) (pins:List (vC×Obj)) (σ:List (Option V)) (H:Hp) (s:vF):Prop where
 ok:X.Ok
 os:s.os=X.s₀.os
 bare:uf s.gens
 base:Un X.fs X.ex X.H₀ H X.s₀.heap s.heap
 loc:∃m,s.heap.Ns X.env.locals m/\∀(i:Nat)(x:Str)(v:V),X.N[i]?=some x->σ[i]?=some (some v)->Vis X.env.scope x->∃u,RelV v u/\Look X.env s.heap m x u
 cell:∀x c,X.env.cells.lookup x=some c->∃v,s.heap.IsCell c v
 free:H X.env.locals=none
 freeC:∀x c,X.env.cells.lookup x=some c->H c=none
 pin:∀p∈X.pn++pins,s.heap.get? p.1=some p.2/\H p.1=none/\p.1≠X.env.locals/\p.1∉X.fs/\∀v,p.2.data≠.cell v
 hok:HOk X.prog X.w H s.heap
 len:σ.length=X.N.length
section
variable{X:Cx}{pins:List (vC×Obj)}{σ:List (Option V)}{H H':Hp}{s:vF}{h':vX}
theorem Cx.Ok.nofr(ok:X.Ok){b:vC}{o:Obj}(e:X.base.get? b=some o):b∉X.fs:=λhb=>by
 have:=(ok.funs.mem hb).1;rw[e]at this;cases this
theorem Inv.bs(I:Inv X pins σ H s):∀b o,X.base.get? b=some o->s.heap.get? b=some o/\H b=none:=λb o e=>
 ⟨I.base.keep b o (I.ok.bs b o e).1 (I.ok.bs b o e).2 (I.ok.nofr e) (I.ok.noex b o e),I.base.free b o (I.ok.bs b o e).1 (I.ok.bs b o e).2 (I.ok.noex b o e)⟩
theorem Inv.bk(I:Inv X pins σ H s):∀b o,X.base.get? b=some o->s.heap.get? b=some o:=λb o e=>(I.bs b o e).1
theorem Inv.mod(I:Inv X pins σ H s):Mod X.K X.mg X.base:=I.ok.mod
theorem Inv.kIn(I:Inv X pins σ H s):X.K.In s.heap:=I.ok.mod.kin.keeps I.bk
theorem Inv.lt(I:Inv X pins σ H s):X.env.locals<s.heap.objs.size:=let ⟨_,hn,_⟩:=I.loc;hn.lt
theorem Inv.sz(I:Inv X pins σ H s):X.s₀.heap.objs.size<=s.heap.objs.size:=zm I.ok.above (yL I.lt)
theorem Inv.nofs(I:Inv X pins σ H s){a:vC}(h:s.heap.objs.size<=a):a∉X.fs:=λhb=>by
 obtain⟨_,o,ho,_⟩:=I.ok.funs.mem hb;exact vK (zd (zM ho) (zm I.sz h)) (yv _)
theorem Inv.cne(I:Inv X pins σ H s):∀x c,X.env.cells.lookup x=some c->c≠X.env.locals:=λx c e z=>by
 obtain⟨v,o,ho,hd⟩:=I.cell x c e;obtain⟨m,⟨o',es,ep,ho',hd',_⟩,_⟩:=I.loc;rw[z,ho']at ho;cases ho;rw[hd']at hd;cases hd
theorem Inv.funs(I:Inv X pins σ H s):s.heap.FunFrames X.base X.outer:=by
 have all:∀(l:List Env),(∀b∈frs l,b∈X.fs)->X.s₀.heap.FunFrames X.base l->s.heap.FunFrames X.base l:=by
  intro l
  induction l with
  | nil=>intro _ _;trivial
  | cons env r ih=>
   intro hs hl;obtain⟨hk,⟨L,o,hf,hn,ho,hd⟩,hr⟩:=hl;have hL:L∈X.fs:=hs L (by unfold frs;rw[y0,hf];exact zK);obtain⟨sl,e⟩:=I.base.slot L o ho (I.ok.frf L hL) hL λz=>I.ok.exfs L z hL;exact⟨hk,⟨L,_,hf,hn,e,hd⟩,ih (λb hb=>hs b (by unfold frs;rw[y0,hf];exact zJ _ hb)) hr⟩
 exact all X.outer (λ_ hb=>hb) I.ok.funs
theorem Inv.stack(I:Inv X pins σ H s):s.heap.FunFrames X.base X.stack:=by
 rcases I.ok.stk with e|⟨e,hf⟩
 ·rw[e];exact I.funs
 ·rw[e]
  obtain⟨m,hn,_⟩:=I.loc;refine .cons (by rw[I.ok.kind];decide) hf hn ?_ I.funs;exact Heap.get?_none_of_le (zm I.ok.bsz I.ok.above)
theorem Inv.stkSub(I:Inv X pins σ H s):∀b∈frs X.stack,b∈X.env.locals::X.fs:=λb hb=>by
 rcases I.ok.stk with e|⟨e,hf⟩
 ·rw[e]at hb;exact zJ _ hb
 ·rw[e]at hb
  unfold frs at hb;rw[y0,hf]at hb;exact hb
theorem Inv.stkFree(I:Inv X pins σ H s):∀b∈frs X.stack,H b=none:=λb hb=>by
 rcases zE.mp (I.stkSub b hb)with e|hb
 ·rw[e];exact I.free
 ·obtain⟨_,o,ho,_⟩:=I.ok.funs.mem hb
  exact I.base.free b o ho (I.ok.frf b hb) λz=>I.ok.exfs b z hb
theorem Inv.step{g':Array ut}{t':Nat}{d':tN}{ch:List vC}(I:Inv X pins σ H s)(hch:∀b∈ch,(b∈X.ex\/X.s₀.heap.objs.size<=b)/\b≠X.env.locals/\(∀x c,X.env.cells.lookup x=some c->c≠b)/\∀p∈X.pn++pins,p.1≠b)(keep:∀b o,b≠X.env.locals->b∉X.fs->b∉ch->s.heap.get? b=some o->H b=none->h'.get? b=some o)(slot:∀b o,b≠X.env.locals->b∈X.fs->b∉ch->s.heap.get? b=some o->H b=none->∃sl,h'.get? b=some { o with slots:=sl })(free:∀b o,b∉ch->s.heap.get? b=some o->H b=none->H' b=none)(there:∀b o,b∉ch->s.heap.get? b=some o->∃o',h'.get? b=some o')(tups:∀b xs,H b=some (.tup xs)->H' b=some (.tup xs))(frzs:∀b o u,H b=some (.frz o u)->H' b=some (.frz o u))(tbls:∀b ps,H b=some (.tbl ps)->∃more,H' b=some (.tbl (ps++more)))(ns:∀m,s.heap.Ns X.env.locals m->h'.Ns X.env.locals m)(hok:HOk X.prog X.w H' h')(hg:uf g'):
  Inv X pins σ H' { s with heap:=h',gens:=g',drawn:=d',toks:=t' }:=by
 have neL:∀b o,X.s₀.heap.get? b=some o->b≠X.env.locals:=λb o e=>ze (zd (zM e) I.ok.above);have neC:∀b o,X.s₀.heap.get? b=some o->b∉X.ex->b∉ch:=λb o e hx hb=>by
  rcases (hch b hb).1 with z|z
  ·exact hx z
  ·exact vK (zd (zM e) z) (yv _)
 have cellK:∀x c,X.env.cells.lookup x=some c->∀v,s.heap.IsCell c v->h'.IsCell c v:=λx c e v ⟨o,ho,hd⟩=>by
  have nch:c∉ch:=λz=>(hch c z).2.2.1 x c e rfl
  by_cases hc:c∈X.fs
  ·obtain⟨sl,q⟩:=slot c o (I.cne x c e) hc nch ho (I.freeC x c e)
   exact⟨_,q,hd⟩
  ·exact⟨o,keep c o (I.cne x c e) hc nch ho (I.freeC x c e),hd⟩
 refine⟨I.ok,I.os,hg,⟨λb o e n hb hx=>?_,λb o e n hb hx=>?_,λb o e n hx=>?_,λb o e hx=>?_,λb xs e=>tups b xs (I.base.tups b xs e),λb o xs e=>frzs b o xs (I.base.frzs b o xs e),λb ps e=>?_⟩,?_,λx c e=>?_,?_,λx c e=>?_,λp hp=>?_,hok,I.len⟩
 ·exact keep b o (neL b o e) hb (neC b o e hx) (I.base.keep b o e n hb hx) (I.base.free b o e n hx)
 ·obtain⟨sl,e1⟩:=I.base.slot b o e n hb hx
  obtain⟨sl',e2⟩:=slot b _ (neL b o e) hb (neC b o e hx) e1 (I.base.free b o e n hx);exact⟨sl',e2⟩
 ·obtain⟨o',e1⟩:=I.base.there b o e hx
  exact free b o' (neC b o e hx) e1 (I.base.free b o e n hx)
 ·obtain⟨o',e1⟩:=I.base.there b o e hx
  exact there b o' (neC b o e hx) e1
 ·obtain⟨m1,e1⟩:=I.base.tbls b ps e
  obtain⟨m2,e2⟩:=tbls b _ e1;exact⟨m1++m2,by rw[e2,Array.append_assoc]⟩
 ·obtain⟨m,hn,hl⟩:=I.loc
  refine⟨m,ns m hn,λi x v e1 e2 e3=>?_⟩;obtain⟨u,r,l⟩:=hl i x v e1 e2 e3;refine⟨u,r,?_⟩;rcases l with l|⟨k,c,e,z⟩
  ·exact .inl l
  ·exact .inr ⟨k,c,e,cellK x c e _ z⟩
 ·obtain⟨v,z⟩:=I.cell x c e
  exact⟨v,cellK x c e v z⟩
 ·obtain⟨m,⟨o,_,_,ho,_⟩,_⟩:=I.loc
  exact free _ o (λz=>(hch _ z).2.1 rfl) ho I.free
 ·obtain⟨v,o,ho,hd⟩:=I.cell x c e
  exact free c o (λz=>(hch c z).2.2.1 x c e rfl) ho (I.freeC x c e)
 ·obtain⟨e,n,ne,nf,d⟩:=I.pin p hp
  have nch:p.1∉ch:=λz=>(hch p.1 z).2.2.2 p hp rfl;exact⟨keep p.1 p.2 ne nf nch e n,free p.1 p.2 nch e n,ne,nf,d⟩
theorem Inv.un{t':Nat}(I:Inv X pins σ H s)(u:Un X.fs [] H H' s.heap h')(hok:HOk X.prog X.w H' h'):Inv X pins σ H' { s with heap:=h',toks:=t' }:=by
 obtain⟨m,⟨o,es,ep,ho,r⟩,_⟩:=id I.loc;obtain⟨sl,hL⟩:=u.any ho I.free (by simp);exact I.step (g':=s.gens) (d':=s.drawn) (ch:=[]) (λ_ z=>nomatch z) (λb o _ hb _ e n=>u.keep b o e n hb (by simp)) (λb o _ hb _ e n=>u.slot b o e n hb (by simp)) (λb o _ e n=>u.free b o e n (by simp)) (λb o _ e=>u.there b o e (by simp)) u.tups u.frzs u.tbls (λm' hm=>by
  obtain⟨o',es',ep',ho',r'⟩:=hm;rw[ho]at ho';cases ho';exact⟨_,es',ep',hL,r'⟩) hok I.bare
theorem Inv.call{g':Array ut}{t':Nat}{d':tN}{ch:List vC}(I:Inv X pins σ H s)(u:Un (frs X.stack) ch H H' s.heap h')(hok:HOk X.prog X.w H' h')(hg:uf g')(hch:∀b∈ch,(b∈X.ex\/X.s₀.heap.objs.size<=b)/\b≠X.env.locals/\(∀x c,X.env.cells.lookup x=some c->c≠b)/\∀p∈X.pn++pins,p.1≠b):
  Inv X pins σ H' { s with heap:=h',gens:=g',drawn:=d',toks:=t' }:=by
 obtain⟨m,⟨o,es,ep,ho,r⟩,_⟩:=id I.loc;obtain⟨sl,hL⟩:=u.any ho I.free λz=>(hch _ z).2.1 rfl;exact I.step (ch:=ch) hch (λb o hL hb hc e n=>u.keep b o e n (λz=>(zE.mp (I.stkSub b z)).elim hL hb) hc) (λb o _ _ hc e n=>u.any e n hc) (λb o hc e n=>u.free b o e n hc) (λb o hc e=>u.there b o e hc) u.tups u.frzs u.tbls (λm' hm=>by
  obtain⟨o',es',ep',ho',r'⟩:=hm;rw[ho]at ho';cases ho';exact⟨_,es',ep',hL,r'⟩) hok hg
theorem Inv.turned{t':Nat}{it:vC}(I:Inv X pins σ H s)(k:∀b o,b≠it->s.heap.get? b=some o->h'.get? b=some o)(hn:H it=none)(hL:it≠X.env.locals)(h1:it∈X.ex\/X.s₀.heap.objs.size<=it)(h2:∀x c,X.env.cells.lookup x=some c->c≠it)(h3:∀p∈X.pn++pins,p.1≠it):Inv X pins σ H { s with heap:=h',toks:=t' }:=by
 have nit:∀b u,H b=some u->b≠it:=λb u e z=>by rw[z,hn]at e;cases e
 refine I.step (g':=s.gens) (d':=s.drawn) (ch:=[it]) (λb hb=>?_) (λb o _ _ hc e _=>k b o (λz=>hc (by simp[z])) e) (λb o _ _ hc e _=>⟨o.slots,k b o (λz=>hc (by simp[z])) e⟩) (λ_ _ _ _ n=>n)
  (λb o hc e=>⟨o,k b o (λz=>hc (by simp[z])) e⟩) (λ_ _ e=>e) (λ_ _ _ e=>e) (λb ps e=>⟨#[],by rw[e];simp⟩) (λm hm=>?_) (λb u e=>?_) I.bare
 ·have e:b=it:=by simpa using hb
  subst e;exact⟨h1,hL,h2,h3⟩
 ·obtain⟨o,es,ep,ho,r⟩:=hm
  exact⟨o,es,ep,k _ o (Ne.symm hL) ho,r⟩
 ·refine(I.hok b u e).stay (λc v hc q=>k c v ?_ q) (λ_ q=>q) λ_ _ q=>q
  rcases hc with z|z
  ·rw[z];exact nit b u e
  ·exact nit c _ z
theorem Inv.tok(I:Inv X pins σ H s)(t:Nat):Inv X pins σ H { s with toks:=t }:=I.un (h':=s.heap) (t':=t) Un.refl I.hok
theorem Inv.kept{t':Nat}(I:Inv X pins σ H s)(k:∀b u,s.heap.get? b=some u->h'.get? b=some u):Inv X pins σ H { s with heap:=h',toks:=t' }:=I.un (Un.kept k) (I.hok.kept k)
theorem Inv.laid{a:vC}{o:HO}{t':Nat}(I:Inv X pins σ H s)(k:∀b u,s.heap.get? b=some u->h'.get? b=some u)(hp:s.heap.objs.size<=a)(new:YQ X.prog X.w (upd H a o) h' a o):
  Inv X pins σ (upd H a o) { s with heap:=h',toks:=t' }:=I.un (Un.laid k hp (I.hok.fresh hp)) (I.hok.laid k hp new)
theorem Inv.write{x e:vC}{o:HO}{t':Nat}(I:Inv X pins σ H s)(mu:Mut (H x))(he:e=x\/H e=some (.own x))(k:∀b u,b≠e->s.heap.get? b=some u->h'.get? b=some u)(heo:∃u,h'.get? e=some u)(new:YQ X.prog X.w (upd H x o) h' x o):Inv X pins σ (upd H x o) { s with heap:=h',toks:=t' }:=I.un (Un.write mu he k heo) (I.hok.write mu he k heo new)
theorem Inv.pins_of{pins':List (vC×Obj)}(I:Inv X pins σ H s)(h:∀p∈pins',s.heap.get? p.1=some p.2/\H p.1=none/\p.1≠X.env.locals/\p.1∉X.fs/\∀v,p.2.data≠.cell v):Inv X pins' σ H s :=
 ⟨I.ok,I.os,I.bare,I.base,I.loc,I.cell,I.free,I.freeC,λp hp=>(zP.mp hp).elim (λz=>I.pin p (zb _ z)) (h p),I.hok,I.len⟩
theorem qaB{N:List Str}(hN:N.Nodup){i j:Nat}{x:Str}(a:N[i]?=some x)(b:N[j]?=some x):i=j:=by
 obtain⟨h1,e1⟩:=zh.mp a;obtain⟨h2,e2⟩:=zh.mp b;exact(wZ hN).mp (e1.trans e2.symm)
theorem q9X{M:Model}{A:vY}{E:vB->vF->Prop}{i:Nat}{x:Str}{v:V}{u:vB}{Q:Unit->vF->Prop}(I:Inv X pins σ H s)(hN:X.N.Nodup)(hi:X.N[i]?=some x)(hx:Loc X.env.scope x)(r:RelV v u)(h:∀s',Inv X pins (σ.set i (some v)) H s'->(∃a,xU a s.heap s'.heap/\(a=X.env.locals\/X.env.cells.lookup x=some a))->Q () s')(hf:X.fn x=true\/X.env.scope.names.lookup x=some .local:=by first|exact .inl rfl|exact .inr rfl|assumption):vL M A (storeName X.env x u) Q E s:=by
 obtain⟨m,hn,hl⟩:=id I.loc;have hcls:(X.env.scope.kind == .class || (X.env.scope.kind == .module&&X.env.locals != X.env.globals))=false:=by rw[I.ok.kind];rfl
 have hiσ:i<σ.length:=by rw[I.len];exact(zh.mp hi).1
 have cne:=I.cne;have tracked:∀{a:vC}{h':vX},(∃o,s.heap.get? a=some o/\H a=none)->xU a s.heap h'->HOk X.prog X.w H h':=λ{a h'} ha hs b ob e=>by
  obtain⟨_,_,hfree⟩:=ha;refine(I.hok b ob e).stay (λc w' hc q=>(hs.2 c ?_).trans q) (λ_ q=>q) λ_ _ q=>q;rintro rfl;rcases hc with rfl|hc
  ·rw[hfree]at e;cases e
  ·rw[hfree]at hc;cases hc
 rcases hx with hk|hk
 ·refine wpAny_storeName_local hk hn (λh' hn' hs=>?_) hcls
  obtain⟨oL,_,_,hoL,_⟩:=id hn;refine h _ ⟨I.ok,I.os,I.bare,⟨λb o e n hb hx=>?_,λb o e n hb hx=>?_,I.base.free,λb o e hx=>?_,I.base.tups,I.base.frzs,I.base.tbls⟩,⟨_,hn',λj y v' e1 e2 e3=>?_⟩,λy c e=>?_,I.free,I.freeC,λp hp=>?_,tracked ⟨oL,hoL,I.free⟩ hs,by simpa using I.len⟩ ⟨_,hs,.inl rfl⟩
  ·exact(hs.2 b (ze (zd (zM e) I.ok.above))).trans (I.base.keep b o e n hb hx)
  ·obtain⟨sl,e1⟩:=I.base.slot b o e n hb hx
   exact⟨sl,(hs.2 b (ze (zd (zM e) I.ok.above))).trans e1⟩
  ·obtain⟨o',e1⟩:=I.base.there b o e hx
   exact⟨o',(hs.2 b (ze (zd (zM e) I.ok.above))).trans e1⟩
  ·by_cases hj:j=i
   ·subst hj
    rw[hi]at e1;cases e1;rw[xB hiσ]at e2;cases e2;exact⟨u,r,.inl ⟨hk,by simp⟩⟩
   ·rw[zS (Ne.symm hj)]at e2
    obtain⟨u',r',q⟩:=hl j y v' e1 e2 e3;refine⟨u',r',?_⟩;rcases q with⟨k,e⟩|⟨k,c,e,z⟩
    ·refine .inl ⟨k,?_⟩
     have:y≠x:=λe=>hj (qaB hN e1 (e▸hi));simp[this,e]
    ·exact .inr ⟨k,c,e,z.sameBut hs (cne y c e)⟩
  ·obtain⟨w',z⟩:=I.cell y c e
   exact⟨w',z.sameBut hs (cne y c e)⟩
  ·obtain⟨e,n,ne,nf,d⟩:=I.pin p hp
   exact⟨(hs.2 p.1 ne).trans e,n,ne,nf,d⟩
 ·have hfn:X.fn x=true:=by
   rcases hf with z|z
   ·exact z
   ·rw[z]at hk;cases hk
  obtain⟨c,hc⟩:=I.ok.has x (.inl hk);obtain⟨w',z⟩:=I.cell x c hc;refine wpAny_storeName_cell I.ok.kind hk hc z (λh' hc' hs=>?_);obtain⟨oc,hoc,hocd⟩:=id z;refine h { s with heap:=h' } ⟨I.ok,I.os,I.bare,⟨λb o e n hb hx=>?_,λb o e n hb hx=>?_,I.base.free,λb o e hx=>?_,I.base.tups,I.base.frzs,I.base.tbls⟩,⟨m,hn.sameBut hs (Ne.symm (cne x c hc)),λj y v' e1 e2 e3=>?_⟩,λy c' e=>?_,I.free,I.freeC,λp hp=>?_,tracked ⟨oc,hoc,I.freeC x c hc⟩ hs,by simpa using I.len⟩ ⟨c,hs,.inr hc⟩
  ·exact(hs.2 b (ze (zd (zM e) (I.ok.cab x c hfn hc)))).trans (I.base.keep b o e n hb hx)
  ·obtain⟨sl,e1⟩:=I.base.slot b o e n hb hx
   exact⟨sl,(hs.2 b (ze (zd (zM e) (I.ok.cab x c hfn hc)))).trans e1⟩
  ·obtain⟨o',e1⟩:=I.base.there b o e hx
   exact⟨o',(hs.2 b (ze (zd (zM e) (I.ok.cab x c hfn hc)))).trans e1⟩
  ·by_cases hj:j=i
   ·subst hj
    rw[hi]at e1;cases e1;rw[xB hiσ]at e2;cases e2;exact⟨u,r,.inr ⟨.inl hk,c,hc,hc'⟩⟩
   ·rw[zS (Ne.symm hj)]at e2
    obtain⟨u',r',q⟩:=hl j y v' e1 e2 e3;refine⟨u',r',?_⟩;rcases q with q|⟨k,c',e,z'⟩
    ·exact .inl q
    ·refine .inr ⟨k,c',e,z'.sameBut hs ?_⟩
     rintro rfl;exact hj (qaB hN e1 (I.ok.inj _ _ _ e hc▸hi))
  ·by_cases hcc:c'=c
   ·subst hcc;exact⟨_,hc'⟩
   ·obtain⟨w2,z2⟩:=I.cell y c' e
    exact⟨w2,z2.sameBut hs hcc⟩
  ·obtain⟨e,n,ne,nf,d⟩:=I.pin p hp
   refine⟨(hs.2 p.1 ?_).trans e,n,ne,nf,d⟩;intro q;rw[q,hoc]at e;have q':oc=p.2:=zo e;exact d w' (by rw[<- q'];exact hocd)
theorem q8b{M:Model}{A:vY}{E:vB->vF->Prop}{i:Nat}{x:Str}{v:V}{u:vB}{Q:Unit->vF->Prop}(I:Inv X pins σ H s)(hN:X.N.Nodup)(hi:X.N[i]?=some x)(hx:Loc X.env.scope x)(r:RelV v u)(h:∀s',Inv X pins (σ.set i (some v)) H s'->Q () s')(hf:X.fn x=true\/X.env.scope.names.lookup x=some .local:=by first|exact .inl rfl|exact .inr rfl|assumption):vL M A (storeName X.env x u) Q E s :=
 q9X I hN hi hx r (λs' I' _=>h s' I') hf
theorem Inv.call'{s':vF}{ch:List vC}(I:Inv X pins σ H s)(ho:s'.os=s.os)(u:Un (frs X.stack) ch H H' s.heap s'.heap)(hok:HOk X.prog X.w H' s'.heap)(hg:uf s'.gens)(hch:∀b∈ch,(b∈X.ex\/X.s₀.heap.objs.size<=b)/\b≠X.env.locals/\(∀x c,X.env.cells.lookup x=some c->c≠b)/\∀p∈X.pn++pins,p.1≠b):Inv X pins σ H' s':=by
 obtain⟨h',g',d',t',o'⟩:=s';have e:o'=s.os:=ho;subst e;exact I.call (g':=g') (t':=t') (d':=d') u hok hg hch
end
abbrev XK:=vB->Option vC->Hp->Prop
noncomputable abbrev St:=List (Option V)
abbrev VK:=V->Hp->Prop
abbrev TE:=St->Hp->VK->Prop
abbrev TT:=St->Hp->(Bool->Hp->Prop)->Prop
abbrev TA:=St->Hp->(List V->Hp->Prop)->Prop
structure Ends where
 nx:St->Hp->Prop
 rt:VK
 bk:St->Hp->Prop:=λ_ _=>False
 ct:St->Hp->Prop:=λ_ _=>False
abbrev TS:=Ends->St->Hp->Prop
def EP(X:Cx)(pins:List (vC×Obj))(σ:St)(Q:VK)(u:vB)(s':vF):Prop:=∃v H',Inv X pins σ H' s'/\RelV v u/\Q v H'
def TP(X:Cx)(pins:List (vC×Obj))(σ:St)(Q:Bool->Hp->Prop)(b:Bool)(s':vF):Prop:=∃H',Inv X pins σ H' s'/\Q b H'
def AP(X:Cx)(pins:List (vC×Obj))(σ:St)(Q:List V->Hp->Prop)(us:List vB)(s':vF):Prop:=∃vs H',Inv X pins σ H' s'/\YU vs us/\Q vs H'
def SP(X:Cx)(pins:List (vC×Obj))(D:Ends)(f:Flow)(s':vF):Prop :=
 match f with
 | .next=>∃σ' H',Inv X pins σ' H' s'/\D.nx σ' H'
 | .brk=>∃σ' H',Inv X pins σ' H' s'/\D.bk σ' H'
 | .cont=>∃σ' H',Inv X pins σ' H' s'/\D.ct σ' H'
 | .ret u=>∃v σ' H',Inv X pins σ' H' s'/\RelV v u/\D.rt v H'
def PE(X:Cx)(e:vQ)(t:TE):Prop :=
 ∀(pins:List (vC×Obj))(s:vF)(σ:St)(H:Hp)(Q:VK),Inv X pins σ H s->t σ H Q->vL (model X.prog X.w) X.A (eval e X.env) (EP X pins σ Q) X.xe s
def PT(X:Cx)(e:vQ)(t:TT):Prop :=
 ∀(pins:List (vC×Obj))(s:vF)(σ:St)(H:Hp)(Q:Bool->Hp->Prop),Inv X pins σ H s->t σ H Q->vL (model X.prog X.w) X.A (tZ e X.env (eval e X.env)) (TP X pins σ Q) X.xe s
def PW(X:Cx)(e:vQ)(t:TT):Prop :=
 ∀(whole:Sem vB)(pins:List (vC×Obj))(s:vF)(σ:St)(H:Hp)(Q:Bool->Hp->Prop),Inv X pins σ H s->t σ H Q->vL (model X.prog X.w) X.A (tZ e X.env whole) (TP X pins σ Q) X.xe s
theorem PW.pt{X:Cx}{e:vQ}{t:TT}(h:PW X e t):PT X e t:=h _
def PA(X:Cx)(es:List vQ)(t:TA):Prop :=
 ∀(pos:Pos)(pins:List (vC×Obj))(s:vF)(σ:St)(H:Hp)(Q:List V->Hp->Prop),Inv X pins σ H s->t σ H Q->vL (model X.prog X.w) X.A (spliced (vk pos (vJ es X.env))) (AP X pins σ Q) X.xe s
def PS(X:Cx)(st:vf)(t:TS):Prop :=
 ∀(pins:List (vC×Obj))(s:vF)(σ:St)(H:Hp)(D:Ends),Inv X pins σ H s->t D σ H->vL (model X.prog X.w) X.A (exec st X.env) (SP X pins D) X.xe s
def PSs(X:Cx)(st:List vf)(t:TS):Prop :=
 ∀(pins:List (vC×Obj))(s:vF)(σ:St)(H:Hp)(D:Ends),Inv X pins σ H s->t D σ H->vL (model X.prog X.w) X.A (execs st X.env) (SP X pins D) X.xe s
theorem thn{α:Type}{t:Sem α}{Q Q':α->vF->Prop}{M:Model}{A:vY}{E:vB->vF->Prop}{s:vF}(h:vL M A t Q E s)(hQ:∀a s,Q a s->Q' a s):vL M A t Q' E s:=vc h hQ λ_ _ x=>x
section
variable{X:Cx}
noncomputable def XR(i:Nat):TE:=λσ H Q=>∃v,σ[i]?=some (some v)/\Q v H
noncomputable def tC(v:V):TE:=λ_ H Q=>Q v H
theorem qhj{i:Nat}{x:Str}{pos:Pos}(hN:X.N[i]?=some x)(hv:Vis X.env.scope x)(hd:(x==("__debug__" : Str))=false:=by decide)(hcd:(x==("__classdict__" : Str))=false:=by decide):PE X (.Name x pos) (XR i):=by
 intro pins s σ H Q I h;obtain⟨v,e,h⟩:=h;obtain⟨m,hn,hl⟩:=I.loc;obtain⟨u,r,l⟩:=hl i x v hN e hv;have fin:EP X pins σ Q u s:=⟨v,H,I,r,h⟩;rcases l with⟨hk,hm⟩|⟨hk,c,hc,hcell⟩
 ·exact wpAny_Name (u4 I.ok.kind hk hn hm fin) hd
 ·rcases hk with hk|hk
  ·exact wpAny_Name (tG I.ok.kind hk hc hcell fin) hd
  ·exact wpAny_Name (wpAny_loadName_free I.ok.kind hk hc hcell fin hcd) hd
theorem qha{i j pos}:PE X (.Constant (.int i) j pos) (tC (.int i)):=λ_ _ _ H _ I h=>wpAny_Constant_int ⟨.int i,H,I.tok _,⟨_,rfl⟩,h⟩
theorem qic{b j pos}:PE X (.Constant (.bool b) j pos) (tC (.bl b)):=λ_ _ _ H _ I h=>Constant_bool ⟨.bl b,H,I,rfl,h⟩
theorem qhi{j pos}:PE X (.Constant .none j pos) (tC .non):=λ_ _ _ H _ I h=>Constant_none ⟨.non,H,I,rfl,h⟩
theorem qhL{x j pos}:PE X (.Constant (.str x) j pos) (tC (.str x)):=λ_ _ _ H _ I h=>Calls.Constant_str ⟨.str x,H,I.tok _,⟨_,rfl⟩,h⟩
def Gl(X:Cx)(x:Str):Prop:=X.env.kindOf x=some .globalImplicit
theorem q7B{E:vB->vF->Prop}{pins:List (vC×Obj)}{s:vF}{σ:St}{H:Hp}{x:Str}{u:vB}{pos:Pos}{Q:vB->vF->Prop}(I:Inv X pins σ H s)(hg:Gl X x)(hm:X.mg x=some u)(h:Q u s)(hd:(x==("__debug__" : Str))=false:=by decide):vL (model X.prog X.w) X.A (eval (.Name x pos) X.env) Q E s :=
 Calls.Name_function_global I.ok.kind hg (Calls.loadGlobal_global (by rw[I.ok.glob];exact I.mod.glob.keeps I.bk) hm h) hd
theorem q1S{E:vB->vF->Prop}{pins:List (vC×Obj)}{s:vF}{σ:St}{H:Hp}{x:Str}{u:vB}{pos:Pos}{Q:vB->vF->Prop}(I:Inv X pins σ H s)(hg:Gl X x)(hm:X.mg x=none)(hv:vZ x=some u)(h:Q u s)(hn:x ≠ "__name__" := by decide)(hd:(x==("__debug__" : Str))=false:=by decide):vL (model X.prog X.w) X.A (eval (.Name x pos) X.env) Q E s:=by
 obtain⟨mb,h1,h2⟩:=I.mod.blt;exact Calls.Name_function_global I.ok.kind hg (Calls.loadGlobal_builtin (by rw[I.ok.glob];exact I.mod.glob.keeps I.bk) hm (by rw[I.ok.blt];exact h1.keeps I.bk) ((h2 x hn).trans hv) h) hd
theorem qgw{x:Str}{v:V}{u:vB}{pos:Pos}(hg:Gl X x)(hm:X.mg x=none)(hv:vZ x=some u)(r:RelV v u)(hn:x ≠ "__name__" := by decide)(hd:(x==("__debug__" : Str))=false:=by decide):PE X (.Name x pos) (tC v) :=
 λ_ _ _ H _ I h=>q1S I hg hm hv ⟨v,H,I,r,h⟩ hn hd
variable{a b:vQ}{ta tb:TE}{pos:Pos}
def PC(X:Cx)(op:tV)(a b:vQ)(t:TE):Prop :=
 ∀(pins:List (vC×Obj))(s:vF)(σ:St)(H:Hp)(Q:VK),Inv X pins σ H s->t σ H Q ->
  vL (model X.prog X.w) X.A (eval a X.env) (λv s₁=>vL (model X.prog X.w) X.A (eval b X.env) (λu s₂=>vL (model X.prog X.w) X.A (vz op v u) (EP X pins σ Q) X.xe s₂) X.xe s₁) X.xe s
theorem W4(b:vQ){op:tV}(h:op≠.In)(h2:op≠.NotIn):vo op b=false:=by
 have e1:(op==CmpOp.In)=false:=by cases op <;> first|rfl|exact vK rfl h
 have e2:(op==CmpOp.NotIn)=false:=by cases op <;> first|rfl|exact vK rfl h2
 cases b <;> simp[vo,e1,e2]
noncomputable def tB(t:TE):TT:=λσ H Q=>t σ H λx H1=>∃c,x=.bl c/\Q c H1
theorem qhw{op:tV}{t:TE}(h:PC X op a b t)(h1:vo op b=false:=by first|exact W4 _ (by decide) (by decide)|rfl):PT X (.Compare a [op] [b] pos) (tB t):=by
 intro pins s σ H Q I hw;refine uz (thn (h pins s σ H _ I hw) λv s1 h1=>thn h1 λu s2 h2=>thn h2 λc s3 ⟨x,H1,I1,r1,q1⟩=>?_) h1;obtain⟨d,rfl,q⟩:=q1;cases r1;exact v5 ⟨H1,I1,q⟩
variable{tA tB':TT}{rest:List vQ}
noncomputable def tAnd(t u:TT):TT:=λσ H Q=>t σ H λc H1=>if c=true then u σ H1 Q else Q false H1
noncomputable def tOr(t u:TT):TT:=λσ H Q=>t σ H λc H1=>if c=true then Q true H1 else u σ H1 Q
noncomputable def tNot(t:TT):TT:=λσ H Q=>t σ H λc H1=>Q (!c) H1
theorem qgd(ha:PT X a tA):PW X (.BoolOp .And [a] pos) tA:=by
 intro wh pins s σ H Q I h;refine isTrue_and (thn (ha pins s σ H Q I h) λc s1 e=>?_);cases c with
 | true=>exact isTrue_and_nil e
 | false=>exact e
theorem qgS(ha:PT X a tA):PW X (.BoolOp .Or [a] pos) tA:=by
 intro wh pins s σ H Q I h;refine isTrue_or (thn (ha pins s σ H Q I h) λc s1 e=>?_);cases c with
 | false=>exact isTrue_or_nil e
 | true=>exact e
theorem qh8(ha:PT X a tA)(hb:PW X (.BoolOp .And (b::rest) pos) tB'):PW X (.BoolOp .And (a::b::rest) pos) (tAnd tA tB'):=by
 intro wh pins s σ H Q I h;refine isTrue_and (thn (ha pins s σ H _ I h) λc s1 ⟨H1,I1,q1⟩=>?_);cases c with
 | true=>exact hb wh pins s1 σ H1 Q I1 q1
 | false=>exact⟨H1,I1,q1⟩
theorem qi2(ha:PT X a tA)(hb:PW X (.BoolOp .Or (b::rest) pos) tB'):PW X (.BoolOp .Or (a::b::rest) pos) (tOr tA tB'):=by
 intro wh pins s σ H Q I h;refine isTrue_or (thn (ha pins s σ H _ I h) λc s1 ⟨H1,I1,q1⟩=>?_);cases c with
 | true=>exact⟨H1,I1,q1⟩
 | false=>exact hb wh pins s1 σ H1 Q I1 q1
theorem qhM(ha:PT X a tA):PT X (.UnaryOp .Not a pos) (tNot tA):=by
 intro pins s σ H Q I h;exact isTrue_not (ha pins s σ H (λc H1=>Q (!c) H1) I h)
noncomputable def tAndV(ta tb:TE):TE:=λσ H Q=>ta σ H λx H1=>∃c,x=.bl c/\if c=true then tb σ H1 Q else Q (.bl false) H1
noncomputable def tNotV(ta:TE):TE:=λσ H Q=>ta σ H λx H1=>∃c,x=.bl c/\Q (.bl (!c)) H1
theorem qhe{op}{t:TE}(h:PE X a t):PE X (.BoolOp op [a] pos) t:=λpins s σ H Q I hw=>BoolOp_one (h pins s σ H Q I hw)
theorem qhz(ha:PE X a ta)(hb:PE X (.BoolOp .And (b::rest) pos) tb):PE X (.BoolOp .And (a::b::rest) pos) (tAndV ta tb):=by
 intro pins s σ H Q I h;refine BoolOp_and (thn (ha pins s σ H _ I h) λv s1 ⟨x,H1,I1,r1,q1⟩=>?_);obtain⟨c,rfl,q1⟩:=q1;cases r1;refine v5 ?_;cases c with
 | true=>exact hb pins s1 σ H1 Q I1 q1
 | false=>exact⟨.bl false,H1,I1,rfl,q1⟩
theorem qhb(ha:PE X a ta):PE X (.UnaryOp .Not a pos) (tNotV ta):=by
 intro pins s σ H Q I h;refine UnaryOp_ (thn (ha pins s σ H _ I h) λv s1 ⟨x,H1,I1,r1,q1⟩=>?_);obtain⟨c,rfl,q1⟩:=q1;cases r1;exact not_of (v5 ⟨.bl (!c),H1,I1,rfl,q1⟩)
end
def SqL(K:zB)(H:Hp)(a:vC)(xs:List V):Prop :=
 Rd H a (.lst xs) \/
  ∃(o:Obj) (its:Array vB) (n:Nat),K.lookup a=some o/\o.cls=.type "list" /\ o.dict=none/\o.data=.seq its n/\its.size<=sizeLine/\YU xs its.toList
def SqT(K:zB)(H:Hp)(a:vC)(xs:List V):Prop :=
 Rd H a (.tup xs) \/
  ∃(o:Obj) (its:Array vB) (n:Nat),K.lookup a=some o/\o.cls=.type "tuple" /\ o.data=.seq its n/\its.size<=sizeLine/\YU xs its.toList
noncomputable def absV:vB->Option V
 | .none=>some .non
 | .bool b=>some (.bl b)
 | .int i _=>some (.int i)
 | .str x _=>some (.str x)
 | .bytes b _=>some (.byt b)
 | .float b _=>some (.flt b)
 | .ref a=>some (.ref a)
 | .type n=>some (.ty n)
 | _=>none
theorem RelV.abs{x:V}{u:vB}(r:RelV x u):absV u=some x:=by
 cases x with
 | non=>cases r;rfl
 | bl _=>cases r;rfl
 | int _=>obtain⟨t,rfl⟩:=r;rfl
 | str _=>obtain⟨t,rfl⟩:=r;rfl
 | byt _=>obtain⟨t,rfl⟩:=r;rfl
 | flt _=>obtain⟨t,rfl⟩:=r;rfl
 | ref _=>cases r;rfl
 | ty _=>cases r;rfl
theorem RelV.inj{x y:V}{u:vB}(r:RelV x u)(q:RelV y u):x=y:=zo (r.abs.symm.trans q.abs)
theorem YU.inj:∀{xs ys:List V}{us:List vB},YU xs us->YU ys us->xs=ys
 | _,_,_,.nil,.nil=>rfl
 | _,_,_,.cons r t,.cons r' t'=>by rw[r.inj r',YU.inj t t']
section
variable{X:Cx}{pins:List (vC×Obj)}{σ:St}{H:Hp}{s:vF}{a:vC}{xs ys:List V}
theorem SqL.of{K:zB}(h:H a=some (.lst xs)):SqL K H a xs:=.inl (.inl h)
theorem SqT.of{K:zB}(h:H a=some (.tup xs)):SqT K H a xs:=.inl (.inl h)
theorem Inv.list(I:Inv X pins σ H s)(h:SqL X.K H a xs):∃its:List vB,YU xs its/\PlainL s.heap a its.toArray/\xs.length<=sizeLine:=by
 rcases h with h|⟨o,its,n,hk,hc,hd,hs,hz,r⟩
 ·obtain⟨z,its,n,r,e⟩:=h.ok I.hok
  exact⟨its,r,⟨_,n,e,rfl,rfl,rfl⟩,z⟩
 ·refine⟨its.toList,r,⟨o,n,I.kIn a o hk,hc,hd,by simpa using hs⟩,?_⟩
  have e:=r.length;simp only[zc]at e;omega
theorem Inv.tuple(I:Inv X pins σ H s)(h:SqT X.K H a xs):∃its:List vB,YU xs its/\IsTup s.heap a its.toArray/\xs.length<=sizeLine:=by
 rcases h with h|⟨o,its,n,hk,hc,hs,hz,r⟩
 ·obtain⟨z,its,r,p⟩:=h.ok I.hok
  exact⟨its,r,p,z⟩
 ·refine⟨its.toList,r,⟨o,I.kIn a o hk,hc,n,by simpa using hs⟩,?_⟩
  have e:=r.length;simp only[zc]at e;omega
theorem Inv.list_inj(I:Inv X pins σ H s)(h:SqL X.K H a xs)(h':SqL X.K H a ys):xs=ys:=by
 obtain⟨its,r,⟨o,n,e,_,_,d⟩,_⟩:=I.list h;obtain⟨its',r',⟨o',n',e',_,_,d'⟩,_⟩:=I.list h';rw[e]at e';cases e';rw[d]at d';injection d' with d1 _;have:its=its':=by simpa using uE Zs d1
 subst this;exact r.inj r'
theorem Inv.tuple_inj(I:Inv X pins σ H s)(h:SqT X.K H a xs)(h':SqT X.K H a ys):xs=ys:=by
 obtain⟨its,r,⟨o,e,_,n,d⟩,_⟩:=I.tuple h;obtain⟨its',r',⟨o',e',_,n',d'⟩,_⟩:=I.tuple h';rw[e]at e';cases e';rw[d]at d';injection d' with d1 _;have:its=its':=by simpa using uE Zs d1
 subst this;exact r.inj r'
end
noncomputable abbrev Cx.wish(X:Cx)(E:vB->vF->Prop):Cx:={ X with xe:=E }
noncomputable abbrev Cx.nox(X:Cx):Cx:=X.wish λ_ _=>False
theorem Cx.Ok.wish{X:Cx}(ok:X.Ok)(E:vB->vF->Prop):(X.wish E).Ok :=
 ⟨ok.mod,ok.kind,ok.glob,ok.blt,ok.above,ok.inj,ok.has,ok.cab,ok.hd,ok.frames,ok.stk,ok.exf,ok.bs,ok.bsz,ok.noex,ok.exfs,ok.funs,ok.frf⟩
theorem Cx.Ok.unwish{X:Cx}{E:vB->vF->Prop}(ok:(X.wish E).Ok):X.Ok :=
 ⟨ok.mod,ok.kind,ok.glob,ok.blt,ok.above,ok.inj,ok.has,ok.cab,ok.hd,ok.frames,ok.stk,ok.exf,ok.bs,ok.bsz,ok.noex,ok.exfs,ok.funs,ok.frf⟩
section
variable{X:Cx}{pins:List (vC×Obj)}{σ:St}{H:Hp}{s:vF}{E:vB->vF->Prop}
theorem Inv.wish(I:Inv X pins σ H s)(E:vB->vF->Prop):Inv (X.wish E) pins σ H s:=⟨I.ok.wish E,I.os,I.bare,I.base,I.loc,I.cell,I.free,I.freeC,I.pin,I.hok,I.len⟩
theorem Inv.unwish(I:Inv (X.wish E) pins σ H s):Inv X pins σ H s:=⟨I.ok.unwish,I.os,I.bare,I.base,I.loc,I.cell,I.free,I.freeC,I.pin,I.hok,I.len⟩
theorem SP.unwish{D:Ends}{f:Flow}{s':vF}(h:SP (X.wish E) pins D f s'):SP X pins D f s':=by
 cases f with
 | next=>obtain⟨σ',H',I,q⟩:=h;exact⟨σ',H',I.unwish,q⟩
 | brk=>obtain⟨σ',H',I,q⟩:=h;exact⟨σ',H',I.unwish,q⟩
 | cont=>obtain⟨σ',H',I,q⟩:=h;exact⟨σ',H',I.unwish,q⟩
 | ret u=>obtain⟨v,σ',H',I,r,q⟩:=h;exact⟨v,σ',H',I.unwish,r,q⟩
theorem PSs.nox{st:List vf}{t:TS}(h:PSs X.nox st t):PSs X st t:=λpins s σ H D I hw=>
 vc (h pins s σ H D (I.wish _) hw) (λ_ _ q=>q.unwish) λ_ _ z=>False.elim z
end
section
variable{X:Cx}{st:vf}{rest:List vf}{t u:TS}{e:vQ}{te:TE}{pos:Pos}
noncomputable def tNext:TS:=λD σ H=>D.nx σ H
noncomputable def tSeq(t u:TS):TS:=λD σ H=>t { D with nx:=u D } σ H
theorem qg9:PSs X [] tNext:=λ_ _ σ H _ I h=>uQ ⟨σ,H,I,h⟩
theorem q2O(h1:PS X st t)(h2:PSs X rest u):PSs X (st::rest) (tSeq t u):=by
 intro pins s σ H D I h;refine uu (thn (h1 pins s σ H { D with nx:=u D } I h) λf s1 q=>?_);cases f with
 | next=>
  obtain⟨σ',H',I',q⟩:=q;exact h2 pins s1 σ' H' D I' q
 | ret v=>exact q
 | brk=>exact q
 | cont=>exact q
theorem q7v(h1:PS X st t):PSs X [st] t:=by
 intro pins s σ H D I h;refine uu (thn (h1 pins s σ H D I h) λf s1 q=>?_);cases f with
 | next=>exact uQ q
 | ret v=>exact q
 | brk=>exact q
 | cont=>exact q
theorem Inv.quiet{pins:List (vC×Obj)}{σ:St}{H:Hp}{s:vF}(I:Inv X pins σ H s):interactive X.env=false:=by simp[interactive,I.ok.kind]
noncomputable def tDrop(te:TE):TS:=λD σ H=>te σ H λ_ H1=>D.nx σ H1
theorem q5a(he:PE X e te)(hs:vm e none pos.line X.env=pure false:=by rfl):PS X (.Expr e pos) (tDrop te):=by
 intro pins s σ H D I h;exact wpAny_Expr_any (thn (he pins s σ H _ I h) λv s1 ⟨x,H1,I1,r1,q1⟩=>⟨σ,H1,I1,q1⟩) I.quiet hs
noncomputable def tRet(te:TE):TS:=λD σ H=>te σ H D.rt
theorem q8z(he:PE X e te):PS X (.Return (some e) pos) (tRet te):=by
 intro pins s σ H D I h;exact wpAny_Return_some (thn (he pins s σ H _ I h) λv s1 ⟨x,H1,I1,r1,q1⟩=>⟨x,σ,H1,I1,r1,q1⟩)
noncomputable def tIfS(c:TT)(t u:TS):TS:=λD σ H=>c σ H λb H1=>if b=true then t D σ H1 else u D σ H1
theorem qfI{c:vQ}{a b:List vf}{tc:TT}(hc:PT X c tc)(ha:PSs X a t)(hb:PSs X b u):PS X (.If c a b pos) (tIfS tc t u):=by
 intro pins s σ H D I h;refine wpAny_If (thn (hc pins s σ H _ I h) λd s1 ⟨H1,I1,q1⟩=>?_);cases d with
 | true=>exact ha pins s1 σ H1 D I1 q1
 | false=>exact hb pins s1 σ H1 D I1 q1
noncomputable def zAl:TS:=λ_ _ _=>False
theorem qbp:PS X st zAl:=λ_ _ _ _ _ _ h=>h.elim
theorem q9D{sts:List vf}:PSs X sts zAl:=λ_ _ _ _ _ _ h=>h.elim
end
abbrev TG:=V->St->Hp->(St->Hp->Prop)->Prop
abbrev TGs:=List V->St->Hp->(St->Hp->Prop)->Prop
def PG(X:Cx)(target:vQ)(t:TG):Prop :=
 ∀(pins:List (vC×Obj))(s:vF)(σ:St)(H:Hp)(v:V)(u:vB)(Q:St->Hp->Prop),Inv X pins σ H s->RelV v u->t v σ H Q ->
  vL (model X.prog X.w) X.A (assign target X.env u) (λ_ s'=>∃σ' H',Inv X pins σ' H' s'/\Q σ' H') X.xe s
def PGs(X:Cx)(ts:List vQ)(t:TGs):Prop :=
 ∀(pins:List (vC×Obj))(s:vF)(σ:St)(H:Hp)(vs:List V)(us:List vB)(Q:St->Hp->Prop),Inv X pins σ H s->YU vs us->t vs σ H Q ->
  vL (model X.prog X.w) X.A (assignInOrder ((v7 ts X.env).map (·.2)) us) (λ_ s'=>∃σ' H',Inv X pins σ' H' s'/\Q σ' H') X.xe s
abbrev TIp:=V->V->Hp->VK->Prop
def PIp(X:Cx)(op:tO)(t:TIp):Prop :=
 ∀(pins:List (vC×Obj))(s:vF)(σ:St)(H:Hp)(x y:V)(v u:vB)(Q:VK),Inv X pins σ H s->RelV x v->RelV y u->t x y H Q ->
  vL (model X.prog X.w) X.A (inplaceOp op v u) (EP X pins σ Q) X.xe s
section
variable{X:Cx}{pos:Pos}
noncomputable def We(i:Nat):TG:=λv σ H Q=>Q (σ.set i (some v)) H
theorem q99{i:Nat}{x:Str}(hN:X.N.Nodup)(hi:X.N[i]?=some x)(hx:Loc X.env.scope x)(hf:X.fn x=true\/X.env.scope.names.lookup x=some .local:=by first|exact .inl rfl|exact .inr rfl|assumption):PG X (.Name x pos) (We i):=by
 intro pins s σ H v u Q I r h;exact wpAny_assign_Name (q8b I hN hi hx r (λs' I'=>⟨_,H,I',h⟩) hf)
noncomputable def gNil:TGs:=λvs σ H Q=>vs=[]/\Q σ H
noncomputable def gCons(t:TG)(u:TGs):TGs:=λvs σ H Q=>∃v r,vs=v::r/\t v σ H λσ' H'=>u r σ' H' Q
theorem qfO:PGs X [] gNil:=by
 intro pins s σ H vs us Q I r h;obtain⟨e,h⟩:=h;subst e;cases r;exact assignInOrder_nil ⟨σ,H,I,h⟩
theorem qf2{e:vQ}{es:List vQ}{t:TG}{u:TGs}(h1:PG X e t)(h2:PGs X es u)(hs:(v7 (e::es) X.env).map (·.2)=assign e X.env::(v7 es X.env).map (·.2):=by rfl):PGs X (e::es) (gCons t u):=by
 intro pins s σ H vs us Q I r h;obtain⟨v,vr,e1,h⟩:=h;subst e1;cases r with
 | cons r rr=>
  rw[hs];refine assignInOrder_cons (thn (h1 pins s σ H _ _ _ I r h) λ_ s1 ⟨σ1,H1,I1,q1⟩=>?_);exact h2 pins s1 σ1 H1 _ _ Q I1 rr q1
noncomputable def gTup(K:zB)(n:Nat)(t:TGs):TG:=λv σ H Q=>∃a xs,v=.ref a/\SqT K H a xs/\xs.length=n/\t xs σ H Q
theorem qgZ{es:List vQ}{k:Nat}{t:TGs}{n:Nat}(hc:X.calm=true)(h:PGs X es t)(hn:(v7 es X.env).length=n:=by rfl)(hst:(v7 es X.env).findIdx? (·.1)=none:=by rfl):PG X (.Tuple es k pos) (gTup X.K n t):=by
 intro pins s σ H v u Q I r hw;obtain⟨a,xs,e1,hq,hl,hw⟩:=hw;subst e1;cases r;obtain⟨its,rv,ht,hz⟩:=I.tuple hq;refine assign_Tuple_tuple (I.ok.hd hc) ht (by simp[hn,<- hl,rv.length]) hst λh' hx=>?_;have I1:Inv X pins σ H { s with heap:=h' }:=I.kept (t':=s.toks) λb o e=>hx b o (ze (zM e)) e;exact h pins _ σ H xs _ Q I1 ⇑rv hw
noncomputable def tAsg(te:TE)(g:TG):TS:=λD σ H=>te σ H λx H1=>g x σ H1 D.nx
theorem qhQ{tg e:vQ}{te:TE}{g:TG}(he:PE X e te)(hg:PG X tg g)(hs:swapsWithSole [tg] e pos.line X.env=pure false:=by rfl)(hw:swappedStores [tg] e X.env=pure none:=by rfl)(h1:(v7 [tg] X.env).map (·.2)=[assign tg X.env]:=by rfl):PS X (.Assign [tg] e pos) (tAsg te g):=by
 intro pins s σ H D I h;refine wpAny_Assign_stores (thn (he pins s σ H _ I h) λv s1 ⟨x,H1,I1,r1,q1⟩=>?_) hs hw;rw[h1];exact thn (hg pins s1 σ H1 x v _ I1 r1 q1) λ_ s2 q=>q
theorem q61{i:Nat}{x:Str}{e:vQ}{te:TE}{pos':Pos}(hN:X.N.Nodup)(hi:X.N[i]?=some x)(hx:Loc X.env.scope x)(he:PE X e te)(hs:vm e (some (.Name x pos')) pos.line X.env=pure false:=by rfl)(hf:X.fn x=true\/X.env.scope.names.lookup x=some .local:=by first|exact .inl rfl|exact .inr rfl|assumption):
  PS X (.Assign [.Name x pos'] e pos) (tAsg te (We i)):=by
 intro pins s σ H D I h;refine wpAny_Assign_Name (thn (he pins s σ H _ I h) λv s1 ⟨y,H1,I1,r1,q1⟩=>?_) hs;exact q8b I1 hN hi hx r1 (λs2 I2=>⟨_,H1,I2,q1⟩) hf
noncomputable def tAug(i:Nat)(te:TE)(ti:TIp):TS:=λD σ H=>∃x,σ[i]?=some (some x)/\te σ H λy H1=>ti x y H1 λz H2=>D.nx (σ.set i (some z)) H2
theorem qh2{i:Nat}{x:Str}{e:vQ}{te:TE}{op:tO}{ti:TIp}{pos':Pos}(hN:X.N.Nodup)(hi:X.N[i]?=some x)(hx:Loc X.env.scope x)(he:PE X e te)(ho:PIp X op ti)(hf:X.fn x=true\/X.env.scope.names.lookup x=some .local:=by first|exact .inl rfl|exact .inr rfl|assumption):
  PS X (.AugAssign (.Name x pos') op e pos) (tAug i te ti):=by
 intro pins s σ H D I h;obtain⟨v,e1,h⟩:=h;obtain⟨m,hn,hl⟩:=I.loc;have vis:Vis X.env.scope x:=by rcases hx with k|k;exact .inl k;exact .inr (.inl k)
 obtain⟨u,r,l⟩:=hl i x v hi e1 vis;refine wpAny_AugAssign_Name ?_;have go:vL (model X.prog X.w) X.A (eval e X.env) (λw s₂=>vL (model X.prog X.w) X.A (inplaceOp op u w) (λr s₃=>vL (model X.prog X.w) X.A (storeName X.env x r) (λ_=>SP X pins D .next) X.xe s₃) X.xe s₂) X.xe s:=by
  refine thn (he pins s σ H _ I h) λw s1 ⟨y,H1,I1,r1,q1⟩=>?_;refine thn (ho pins s1 σ H1 v y u w _ I1 r r1 q1) λz s2 ⟨zv,H2,I2,r2,q2⟩=>?_;exact q8b I2 hN hi hx r2 (λs3 I3=>⟨_,H2,I3,q2⟩) hf
 rcases l with⟨hk,hm⟩|⟨hk,c,hc,hcell⟩
 ·exact u4 I.ok.kind hk hn hm go
 ·rcases hk with hk|hk
  ·exact tG I.ok.kind hk hc hcell go
  ·rcases hx with k|k
   ·have:X.env.scope.names.lookup x=some .free:=hk
    rw[k]at this;cases this
   ·have:X.env.scope.names.lookup x=some .free:=hk
    rw[k]at this;cases this
noncomputable def ipI(f:Int->Int->Int):TIp:=λx y H Q=>∃i j,x=.int i/\y=.int j/\Q (.int (f i j)) H
theorem qhr:PIp X .Add (ipI λi j=>i+j):=by
 intro pins s σ H x y v u Q I r1 r2 h;obtain⟨i,j,e1,e2,q⟩:=h;subst e1;subst e2;obtain⟨t,rfl⟩:=r1;obtain⟨t',rfl⟩:=r2;exact iadd_int ⟨.int _,H,I.tok _,⟨_,rfl⟩,q⟩
end
section
variable{X:Cx}{pos:Pos}
noncomputable def zAg(c:TT)(tb:TS):TS:=λD σ H=>∃W:Nat->St->Hp->Prop,(∃m,W m σ H)/\∀m σ H,W m σ H ->
 c σ H λb H1=>if b=true then ∃N:St->Hp->Prop,(∀σ' H',N σ' H'->∃m',m'<m/\W m' σ' H')/\tb { D with nx:=N,ct:=N,bk:=D.nx } σ H1 else D.nx σ H1
theorem qeD{c:vQ}{body:List vf}{tc:TT}{tb:TS}(hp:tD (model X.prog X.w) X.A X.env X.xe)(hc:PT X c tc)(hb:PSs X body tb):PS X (.While c body [] pos) (zAg tc tb):=by
 intro pins s σ H D I h;obtain⟨W,⟨m0,w0⟩,turn⟩:=h;refine wpAny_While (codeAny_whileLoop (λn s'=>∃σ' H',Inv X pins σ' H' s'/\W n σ' H') ?_ m0 ⟨σ,H,I,w0⟩);rintro n s1 ⟨σ1,H1,I1,w1⟩;refine v4 hp (thn (hc pins s1 σ1 H1 _ I1 (turn n σ1 H1 w1)) λb s2 ⟨H2,I2,q2⟩=>?_);cases b with
 | true=>
  obtain⟨N,hN,q2⟩:=q2;rw[vM rfl];refine v4 hp (thn (hb pins s2 σ1 H2 _ I2 q2) λf s3 q3=>?_);cases f with
  | next=>
   obtain⟨σ3,H3,I3,n3⟩:=q3;obtain⟨m',hm,w3⟩:=hN σ3 H3 n3;exact⟨m',hm,σ3,H3,I3,w3⟩
  | cont=>
   obtain⟨σ3,H3,I3,n3⟩:=q3;obtain⟨m',hm,w3⟩:=hN σ3 H3 n3;exact⟨m',hm,σ3,H3,I3,w3⟩
  | brk=>exact q3
  | ret v=>exact q3
 | false=>
  rw[vN yE];exact uQ ⟨σ1,H2,I2,q2⟩
end
structure It where
 go:Nat->Hp->Prop
 yld:Nat->Hp->V->Hp->Prop
 stop:Nat->Hp->Prop
def Wm(X:Cx)(pins:List (vC×Obj))(H:Hp)(b:vC):Prop :=
 H b=none/\b≠X.env.locals/\b∉X.fs/\(b∈X.ex\/X.s₀.heap.objs.size<=b)/\(∀x c,X.env.cells.lookup x=some c->c≠b)/\∀p∈X.pn++pins,p.1≠b
theorem Inv.fpOk{X:Cx}{pins:List (vC×Obj)}{σ:St}{H H':Hp}{s:vF}{b:vC}(I:Inv X pins σ H s)(hb:s.heap.objs.size<=b)(hn:H' b=none):Wm X pins H' b:=by
 refine⟨hn,wO (zd I.lt hb),I.nofs hb,.inr (zm I.sz hb),λx c e z=>?_,λp hp z=>?_⟩
 ·obtain⟨v,q⟩:=I.cell x c e
  exact vK (zd q.lt (by rw[z];exact hb)) (yv _)
 ·exact vK (zd (zM (I.pin p hp).1) (by rw[z];exact hb)) (yv _)
structure Turn (P:vO) (w:vU) (K:zB) (tg:vQ) (J:It) (fp:List vC) (it:vC) (tn:Nat->vX->Prop):Prop where
 mem:it∈fp
 obj:∀i h,tn i h->∀b∈fp,∃o,h.get? b=some o/\∀v,o.data≠.cell v
 keep:∀i h h',tn i h->(∀b∈fp,∀o,h.get? b=some o->h'.get? b=some o)->tn i h'
 item:∀(X:Cx),X.prog=P->X.w=w->X.K=K->X.calm=true->∀(i:Nat)(pins:List (vC×Obj))(s:vF)(σ:St)(H:Hp)(E:vB->vF->Prop),Inv X pins σ H s->(∀b∈fp,Wm X pins H b)->tn i s.heap->J.go i H ->
  vL (model P w) X.A (v9 (.ref it)) (λr s1=>∃u,r=some u /\
   vL (model P w) X.A (ud tg (.ref it) u) (λ_ s2=>∃x H',Inv X pins σ H' s2/\RelV x u/\J.yld i H x H'/\tn (i+1) s2.heap/\∀b∈fp,H' b=none) E s1) E s
 done:∀(X:Cx),X.prog=P->X.w=w->X.K=K->X.calm=true->∀(i:Nat)(pins:List (vC×Obj))(s:vF)(σ:St)(H:Hp)(E:vB->vF->Prop),Inv X pins σ H s->(∀b∈fp,Wm X pins H b)->tn i s.heap->J.stop i H ->
  vL (model P w) X.A (v9 (.ref it)) (λr s1=>r=none/\Inv X pins σ H s1) E s
 self:∀(A:vY)(i:Nat)(s:vF)(Q:vB->vF->Prop)(E:vB->vF->Prop),tn i s.heap->Q (.ref it) s->vL (model P w) A (tf (.ref it)) Q E s
abbrev TI:=St->Hp->(It->Hp->Prop)->Prop
def PIE(X:Cx)(pins:List (vC×Obj))(σ:St)(tg:vQ)(R:It->Hp->Prop)(itv:vB)(s2:vF):Prop :=
 ∃(it:vC) (fp:List vC) (tn:Nat->vX->Prop) (J:It) (H':Hp),itv=.ref it/\Inv X pins σ H' s2/\Turn X.prog X.w X.K tg J fp it tn/\tn 0 s2.heap/\(∀b∈fp,Wm X pins H' b)/\R J H'
def PI(X:Cx)(tg iter:vQ)(wi:TI):Prop :=
 ∀(pins:List (vC×Obj))(s:vF)(σ:St)(H:Hp)(R:It->Hp->Prop),Inv X pins σ H s->wi σ H R ->
  vL (model X.prog X.w) X.A (eval iter X.env) (λv s1=>vL (model X.prog X.w) X.A (tf v) (PIE X pins σ tg R) X.xe s1) X.xe s
theorem qat{M:Model}{A:vY}{E:vB->vF->Prop}{s:vF}{tg:vQ}{it:vC}{u:vB}{o:Obj}{n:String}{vs:Array vB}{Q:Unit->vF->Prop}(ho:s.heap.get? it=some o)(hc:o.cls=.type n)(hd:o.data=.fields vs)(hn:["enumerate", "zip", "dict_itemiterator", "dict_reverseitemiterator", "odict_iterator", "itertools.zip_longest", "itertools.pairwise"].contains n=false)(hQ:Q () s):vL M A (ud tg (.ref it) u) Q E s:=by
 unfold ud;cases tg <;> first
  | exact vG hQ
  | (cases u <;> first
    | exact vG hQ
    | (refine vA (wpAny_load ho ?_)
       rw[hc,hd];show vL M A (if (["enumerate", "zip", "dict_itemiterator", "dict_reverseitemiterator", "odict_iterator", "itertools.zip_longest", "itertools.pairwise"].contains n&&vs[0]?==some (uD _))=true then _ else _) Q E s;rw[vN (by intro h;rw[hn,yF]at h;cases h)];exact vG hQ))
noncomputable def Itl(K:zB)(a:vC):It :=
 ⟨λi H=>∃xs x,SqL K H a xs/\xs[i]?=some x,λi H x H'=>H'=H/\∀xs,SqL K H a xs->xs[i]?=some x,λi H=>∃xs,SqL K H a xs/\xs.length<=i⟩
noncomputable def Itt(K:zB)(a:vC):It :=
 ⟨λi H=>∃xs x,SqT K H a xs/\xs[i]?=some x,λi H x H'=>H'=H/\∀xs,SqT K H a xs->xs[i]?=some x,λi H=>∃xs,SqT K H a xs/\xs.length<=i⟩
noncomputable def Itr(lo:Int)(n:Nat):It:=⟨λi _=>i<n,λi H x H'=>H'=H/\x=.int (lo+i),λi _=>n<=i⟩
theorem qdJ{P:vO}{w:vU}{K:zB}{tg:vQ}(a it:vC):Turn P w K tg (Itl K a) [it] it (λi h=>h.IsListIter it a i) where
 mem:=by simp
 obj:=λi h st b hb=>by
  have e:b=it:=by simpa using hb
  subst e;obtain⟨o,e,c,d⟩:=st;exact⟨o,e,λv z=>by rw[d]at z;cases z⟩
 keep:=λi h h' st k=>st.at λo e=>k it (by simp) o e
 item:=by
  intro X hP hw hK hc i pins s σ H E I hf st hg;subst hP hw hK;obtain⟨xs,x,hq,hx⟩:=hg;obtain⟨its,rv,p,hz⟩:=I.list hq;obtain⟨u,hu,ru⟩:=rv.get hx;obtain⟨f0,f1,f2,f3,f4,f5⟩:=hf it (by simp);refine wpAny_pyNext_list_item st p.isList (x:=u) ⇑hu λh' st' sb=>?_;have I1:Inv X pins σ H { s with heap:=h' }:=I.turned (t':=s.toks) (λb o hb e=>(sb.2 b hb).trans e) f0 f1 f3 f4 f5;obtain⟨o,e,c,d⟩:=id st';exact⟨u,rfl,qat (s:={ s with heap:=h' }) e c d (by decide) ⟨x,H,I1,ru,⟨rfl,λys hy=>by rw[I.list_inj hy hq];exact hx⟩,st',λb hb=>(hf b hb).1⟩⟩
 done:=by
  intro X hP hw hK hc i pins s σ H E I hf st hg;subst hP hw hK;obtain⟨xs,hq,hx⟩:=hg;obtain⟨its,rv,p,hz⟩:=I.list hq;obtain⟨f0,f1,f2,f3,f4,f5⟩:=hf it (by simp);have hl:=rv.length;exact wpAny_pyNext_list_end (I.ok.hd hc) st p.isList (by simp;omega) λh' eb=>⟨rfl,I.turned (t':=s.toks) (λb o hb e=>eb b o hb e) f0 f1 f3 f4 f5⟩
 self:=λ_ _ _ _ _ st h=>wpAny_pyIter_listiter st h
theorem qdh{P:vO}{w:vU}{K:zB}{tg:vQ}(a it:vC):Turn P w K tg (Itt K a) [it] it (λi h=>h.IsTupleIter it a i) where
 mem:=by simp
 obj:=λi h st b hb=>by
  have e:b=it:=by simpa using hb
  subst e;obtain⟨o,e,c,d⟩:=st;exact⟨o,e,λv z=>by rw[d]at z;cases z⟩
 keep:=λi h h' st k=>st.at λo e=>k it (by simp) o e
 item:=by
  intro X hP hw hK hc i pins s σ H E I hf st hg;subst hP hw hK;obtain⟨xs,x,hq,hx⟩:=hg;obtain⟨its,rv,p,hz⟩:=I.tuple hq;obtain⟨u,hu,ru⟩:=rv.get hx;obtain⟨f0,f1,f2,f3,f4,f5⟩:=hf it (by simp);refine wpAny_pyNext_tuple_item st (show s.heap.IsTuple a its.toArray from p) (x:=u) ⇑hu λh' st' sb=>?_;have I1:Inv X pins σ H { s with heap:=h' }:=I.turned (t':=s.toks) (λb o hb e=>(sb.2 b hb).trans e) f0 f1 f3 f4 f5;obtain⟨o,e,c,d⟩:=id st';exact⟨u,rfl,qat (s:={ s with heap:=h' }) e c d (by decide) ⟨x,H,I1,ru,⟨rfl,λys hy=>by rw[I.tuple_inj hy hq];exact hx⟩,st',λb hb=>(hf b hb).1⟩⟩
 done:=by
  intro X hP hw hK hc i pins s σ H E I hf st hg;subst hP hw hK;obtain⟨xs,hq,hx⟩:=hg;obtain⟨its,rv,p,hz⟩:=I.tuple hq;obtain⟨f0,f1,f2,f3,f4,f5⟩:=hf it (by simp);have hl:=rv.length;exact wpAny_pyNext_tuple_end (I.ok.hd hc) st (show s.heap.IsTuple a its.toArray from p) (by simp;omega) λh' eb=>⟨rfl,I.turned (t':=s.toks) (λb o hb e=>eb b o hb e) f0 f1 f3 f4 f5⟩
 self:=λ_ _ _ _ _ st h=>wpAny_pyIter_tupleiter st h
theorem qcX{P:vO}{w:vU}{K:zB}{tg:vQ}(it:vC)(lo:Int)(n:Nat):Turn P w K tg (Itr lo n) [it] it (λi h=>IsRangeIter h it (lo+(i:Nat)*1) ((n:Int)-(i:Nat)) 1) where
 mem:=by simp
 obj:=λi h st b hb=>by
  have e:b=it:=by simpa using hb
  subst e;exact⟨_,st,λv z=>by
   have z':Data.fields _=Data.cell v:=z;cases z'⟩
 keep:=λi h h' st k=>k it (by simp) _ st
 item:=by
  intro X hP hw hK hc i pins s σ H E I hf st hg;subst hP hw hK;obtain⟨f0,f1,f2,f3,f4,f5⟩:=hf it (by simp);have W:=Walks.range (prog:=X.prog) (w:=X.w) (I.ok.hd hc) it lo 1 n;refine W.item i s _ _ hg st λv h' tk hv st' kk=>?_;obtain⟨t,rfl⟩:=hv;have I1:Inv X pins σ H { s with heap:=h',toks:=tk }:=I.turned (λb o hb e=>kk b o (by simpa using hb) e) f0 f1 f3 f4 f5;refine⟨_,rfl,qat (s:={ s with heap:=h',toks:=tk }) (n := "range_iterator") st' rfl rfl (by decide) ⟨.int (lo+i),H,I1,⟨t,?_⟩,⟨rfl,rfl⟩,st',λb hb=>(hf b hb).1⟩⟩;rw[Int.mul_one]
 done:=by
  intro X hP hw hK hc i pins s σ H E I hf st hg;subst hP hw hK;obtain⟨f0,f1,f2,f3,f4,f5⟩:=hf it (by simp);exact wpAny_pyNext_range_end (I.ok.hd hc) st (by have:n<=i:=hg;omega) λh' eb=>⟨rfl,I.turned (t':=s.toks) (λb o hb e=>eb b o hb e) f0 f1 f3 f4 f5⟩
 self:=λ_ _ _ _ _ st h=>wpAny_pyIter_rangeiter st h
section
variable{X:Cx}{tg:vQ}
noncomputable def zAz(K:zB)(tl:TE):TI:=λσ H R=>tl σ H λx H1=>∃a,x=.ref a/\(∃xs,SqL K H1 a xs)/\R (Itl K a) H1
noncomputable def iTup(K:zB)(tl:TE):TI:=λσ H R=>tl σ H λx H1=>∃a,x=.ref a/\(∃xs,SqT K H1 a xs)/\R (Itt K a) H1
theorem q7G{l:vQ}{tl:TE}(hl:PE X l tl):PI X tg l (zAz X.K tl):=by
 intro pins s σ H R I h;refine thn (hl pins s σ H _ I h) λv s1 ⟨x,H1,I1,r1,q1⟩=>?_;obtain⟨a,e,⟨xs,hq⟩,q⟩:=q1;subst e;cases r1;obtain⟨its,rv,p,hz⟩:=I1.list hq;refine uS p.isList ?_;refine⟨s1.heap.objs.size,[s1.heap.objs.size],_,_,H1,rfl,I1.kept (t':=s1.toks) λb o e=>zF _ e,qdJ a _,⟨_,zR _ rfl,rfl,rfl⟩,λb hb=>?_,q⟩;have e:b=s1.heap.objs.size:=by simpa using hb
 subst e;exact I1.fpOk (zQ _) (I1.hok.fresh (zQ _))
theorem qgW{l:vQ}{tl:TE}(hl:PE X l tl):PI X tg l (iTup X.K tl):=by
 intro pins s σ H R I h;refine thn (hl pins s σ H _ I h) λv s1 ⟨x,H1,I1,r1,q1⟩=>?_;obtain⟨a,e,⟨xs,hq⟩,q⟩:=q1;subst e;cases r1;obtain⟨its,rv,p,hz⟩:=I1.tuple hq;refine wpAny_pyIter_tuple (show s1.heap.IsTuple a its.toArray from p) ?_;refine⟨s1.heap.objs.size,[s1.heap.objs.size],_,_,H1,rfl,I1.kept (t':=s1.toks) λb o e=>zF _ e,qdh a _,⟨_,zR _ rfl,rfl,rfl⟩,λb hb=>?_,q⟩;have e:b=s1.heap.objs.size:=by simpa using hb
 subst e;exact I1.fpOk (zQ _) (I1.hok.fresh (zQ _))
theorem qeG{pins:List (vC×Obj)}{σ:St}{H:Hp}{s:vF}{R:It->Hp->Prop}{E:vB->vF->Prop}{lo hi:Int}{t u v:Tok}{tk:Nat}(I:Inv X pins σ H s)(h1:-(2^62)<=lo)(h2:lo<2^62)(h3:-(2^62)<=hi)(h4:hi<2^62)(q:R (Itr lo (hi-lo).toNat) H):vL (model X.prog X.w) X.A (tf (.ref s.heap.objs.size)) (PIE X pins σ tg R) E { s with heap:=s.heap.push { cls:=.type "range", data:=.fields #[.int lo t,.int hi u,.int 1 v] },toks:=tk }:=by
 refine wpAny_pyIter_range (IsRange.new ..) (small_one h1 h2 h3 h4) ?_;have I1:Inv X pins σ H { s with heap:=s.heap.push { cls:=.type "range", data:=.fields #[.int lo t,.int hi u,.int 1 v] },toks:=tk }:=I.kept λb o e=>zF _ e;refine⟨(s.heap.push { cls:=.type "range", data:=.fields #[.int lo t,.int hi u,.int 1 v] }).objs.size,[(s.heap.push { cls:=.type "range", data:=.fields #[.int lo t,.int hi u,.int 1 v] }).objs.size],_,_,H,rfl,
  I1.kept (t':=tk) λb o e=>zF _ e,qcX _ lo (hi-lo).toNat,?_,λb hb=>?_,q⟩
 ·have e1:lo+((0:Nat):Int)*1=lo:=by simp
  have e2:(((hi-lo).toNat:Nat):Int)-((0:Nat):Int)=Builtin.Range.rangeSize lo hi 1:=by rw[rangeSize_one];split <;> omega
  show IsRangeIter _ _ (lo+((0:Nat):Int)*1) ((((hi-lo).toNat:Nat):Int)-((0:Nat):Int)) 1;rw[e1,e2];exact zR _ rfl
 ·have e:b=(s.heap.push { cls:=.type "range", data:=.fields #[.int lo t,.int hi u,.int 1 v] }).objs.size:=by simpa using hb
  subst e;exact I1.fpOk (zQ _) (I1.hok.fresh (zQ _))
noncomputable def iRng1(ta:TA):TI:=λσ H R=>ta σ H λvs H1=>∃j:Int,vs=[.int j]/\-(2^62)<=j/\j<2^62/\R (Itr 0 j.toNat) H1
theorem qdI{a:vQ}{ta:TA}{p pos:Pos}(hg:Gl X "range")(hm:X.mg "range" = none)(ha:PA X [a] ta)(hs:vJ [a] X.env=[(false,eval a X.env)]:=by rfl):PI X tg (.Call (.Name "range" p) [a] [] pos) (iRng1 ta):=by
 intro pins s σ H R I h;refine Call_ (q1S I hg hm boot_range (PyProof.Rows.callWith_type1 (thn (ha pos pins s σ H _ I h) λus s1 ⟨vs,H1,I1,r1,q1⟩=>?_) hs rfl));obtain⟨j,e,q1,q2,q⟩:=q1;subst e;cases r1 with
 | cons r rr=>
  cases rr;obtain⟨t,rfl⟩:=r;exact call_range_1 (qeG I1 ∅ ∅ q1 q2 ⇑q)
noncomputable def tFor(wi:TI)(g:TG)(tb:TS):TS:=λD σ H=>wi σ H λJ H1=>∃W:Nat->Nat->St->Hp->Prop,(∃m,W 0 m σ H1)/\∀i m σ H,W i m σ H ->
 (J.stop i H/\D.nx σ H)\/(J.go i H/\∃N:St->Hp->Prop,(∀σ' H',N σ' H'->∃m',m'<m/\W (i+1) m' σ' H')/\∀x H',J.yld i H x H'->g x σ H' λσ2 H2=>tb { D with nx:=N,ct:=N,bk:=D.nx } σ2 H2)
noncomputable def Xz(fp:List vC)(h:vX):List (vC×Obj):=fp.filterMap λb=>(h.get? b).map λo=>(b,o)
theorem q4J{fp:List vC}{h:vX}{b:vC}{o:Obj}(hb:b∈fp)(e:h.get? b=some o):(b,o)∈Xz fp h:=wQ.mpr ⟨b,hb,by rw[e];rfl⟩
theorem qdH{fp:List vC}{h:vX}{p:vC×Obj}(hp:p∈Xz fp h):p.1∈fp/\h.get? p.1=some p.2:=by
 obtain⟨b,hb,e⟩:=wQ.mp hp;cases q:h.get? b with
 | none=>rw[q]at e;cases e
 | some o=>
  rw[q]at e;have e':(b,o)=p:=zo e;subst e';exact⟨hb,q⟩
theorem Inv.pinned{pins:List (vC×Obj)}{σ:St}{H:Hp}{s:vF}{fp:List vC}(I:Inv X pins σ H s)(hf:∀b∈fp,Wm X pins H b)(ho:∀b∈fp,∃o,s.heap.get? b=some o/\∀v,o.data≠.cell v):Inv X (pins++Xz fp s.heap) σ H s :=
 I.pins_of λp hp=>(zP.mp hp).elim (λz=>I.pin p (zU _ z)) λz=>by
  obtain⟨hb,e⟩:=qdH z;obtain⟨f0,f1,f2,_⟩:=hf p.1 hb;obtain⟨o,e',d⟩:=ho p.1 hb;rw[e]at e';cases e';exact⟨e,f0,f1,f2,d⟩
theorem Inv.unpinned{pins pl:List (vC×Obj)}{σ:St}{H:Hp}{s:vF}(I:Inv X (pins++pl) σ H s):Inv X pins σ H s:=I.pins_of λp hp=>I.pin p (zU _ (zb _ hp))
theorem qb2{iter:vQ}{body:List vf}{wi:TI}{g:TG}{tb:TS}{pos:Pos}(hp:tD (model X.prog X.w) X.A X.env X.xe)(hc:X.calm=true)(hi:PI X tg iter wi)(hg:PG X tg g)(hb:PSs X body tb)(hs:∀x,vn iter X.env x=pure x:=by intro _;rfl):PS X (.For tg iter body [] pos) (tFor wi g tb):=by
 intro pins s σ H D I h;refine wpAny_For (thn (hi pins s σ H _ I h) λv s1 h1=>thn h1 λitv s2 h2=>?_) hs;obtain⟨it,fp,tn,J,H2,e,I2,T,st2,f2,W,⟨m0,w0⟩,turn⟩:=h2;subst e;have stat:∀{H':Hp},(∀b∈fp,H' b=none)->∀b∈fp,Wm X pins H' b:=λhn b hb=>⟨hn b hb,(f2 b hb).2⟩;refine codeAny_forLoop_any (λn s'=>∃i σ' H',Inv X pins σ' H' s'/\tn i s'.heap/\(∀b∈fp,H' b=none)/\W i n σ' H') ?_ m0 ⟨0,σ,H2,I2,st2,λb hb=>(f2 b hb).1,w0⟩;rintro n s3 ⟨i,σ3,H3,I3,st3,fr3,w3⟩;rcases turn i n σ3 H3 w3 with⟨stop,qn⟩|⟨go,N,hN,step⟩
 ·refine v4 hp (thn (T.done X rfl rfl rfl hc i pins s3 σ3 H3 X.xe I3 (stat fr3) st3 stop) λr s4 ⟨hr,I4⟩=>?_)
  subst hr;exact uQ ⟨σ3,H3,I4,qn⟩
 ·refine v4 hp (thn (T.item X rfl rfl rfl hc i pins s3 σ3 H3 X.xe I3 (stat fr3) st3 go) λr s4 ⟨u,hr,h4⟩=>?_)
  subst hr;refine v4 hp (thn h4 λ_ s5 ⟨x,H5,I5,r5,y5,st5,fr5⟩=>?_);have I5':=I5.pinned (stat fr5) (T.obj _ _ st5);refine v4 hp (thn (hg _ s5 σ3 H5 x u _ I5' r5 (step x H5 y5)) λ_ s6 ⟨σ6,H6,I6,q6⟩=>?_);refine v4 hp (thn (hb _ s6 σ6 H6 _ I6 q6) λf s7 q7=>?_);have again:∀{σ7:St}{H7:Hp},Inv X (pins++Xz fp s5.heap) σ7 H7 s7->N σ7 H7->∃m,m<n/\∃i σ' H',Inv X pins σ' H' s7/\tn i s7.heap/\(∀b∈fp,H' b=none)/\W i m σ' H':=λ{σ7 H7} I7 n7=>by
   obtain⟨m',hm,w7⟩:=hN σ7 H7 n7;refine⟨m',hm,i+1,σ7,H7,I7.unpinned,T.keep _ _ _ st5 λb hb o e=>(I7.pin (b,o) (zU _ (zU _ (q4J hb e)))).1,λb hb=>?_,w7⟩;obtain⟨o,e,d⟩:=T.obj _ _ st5 b hb;exact(I7.pin (b,o) (zU _ (zU _ (q4J hb e)))).2.1
  cases f with
  | next=>obtain⟨σ7,H7,I7,n7⟩:=q7;exact again I7 n7
  | cont=>obtain⟨σ7,H7,I7,n7⟩:=q7;exact again I7 n7
  | brk=>obtain⟨σ7,H7,I7,q7⟩:=q7;exact⟨σ7,H7,I7.unpinned,q7⟩
  | ret v=>obtain⟨x7,σ7,H7,I7,r7,q7⟩:=q7;exact⟨x7,σ7,H7,I7.unpinned,r7,q7⟩
end
abbrev R2:=V->V->Hp->VK->Prop
def OpR(X:Cx)(f:vB->vB->Sem vB)(r:R2):Prop :=
 ∀(pins:List (vC×Obj))(s:vF)(σ:St)(H:Hp)(x y:V)(v u:vB)(Q:VK),Inv X pins σ H s->RelV x v->RelV y u->r x y H Q ->
  vL (model X.prog X.w) X.A (f v u) (EP X pins σ Q) X.xe s
def UnR(X:Cx)(f:vB->Sem vB)(r:V->Hp->VK->Prop):Prop :=
 ∀(pins:List (vC×Obj))(s:vF)(σ:St)(H:Hp)(x:V)(v:vB)(Q:VK),Inv X pins σ H s->RelV x v->r x H Q ->
  vL (model X.prog X.w) X.A (f v) (EP X pins σ Q) X.xe s
def Yy(X:Cx)(f:vB)(r:List V->Hp->VK->Prop):Prop :=
 ∀(pins:List (vC×Obj))(s:vF)(σ:St)(H:Hp)(xs:List V)(us:List vB)(Q:VK),Inv X pins σ H s->YU xs us->r xs H Q ->
  vL (model X.prog X.w) X.A (call f us) (EP X pins σ Q) X.xe s
def TruR(X:Cx)(r:V->Hp->(Bool->Hp->Prop)->Prop):Prop :=
 ∀(pins:List (vC×Obj))(s:vF)(σ:St)(H:Hp)(x:V)(v:vB)(Q:Bool->Hp->Prop),Inv X pins σ H s->RelV x v->r x H Q ->
  vL (model X.prog X.w) X.A (truthy v) (TP X pins σ Q) X.xe s
noncomputable def tOp(r:R2)(ta tb:TE):TE:=λσ H Q=>ta σ H λx H1=>tb σ H1 λy H2=>r x y H2 Q
noncomputable def tUn(r:V->Hp->VK->Prop)(ta:TE):TE:=λσ H Q=>ta σ H λx H1=>r x H1 Q
noncomputable def rI(C:Int->Int->Prop)(g:Int->Int->V):R2:=λx y H Q=>∃i j,x=.int i/\y=.int j/\C i j/\Q (g i j) H
noncomputable def rI0(g:Int->Int->V):R2:=λx y H Q=>∃i j,x=.int i/\y=.int j/\Q (g i j) H
def rU(g:Int->V):V->Hp->VK->Prop:=λx H Q=>∃i,x=.int i/\Q (g i) H
section
variable{X:Cx}{a b c:vQ}{ta tb tc:TE}{pos:Pos}
theorem binT(ha:PE X a ta)(hb:PE X b tb){pins:List (vC×Obj)}{s:vF}{σ:St}{H:Hp}{R:V->V->Hp->Prop}(I:Inv X pins σ H s)(h:ta σ H λx H1=>tb σ H1 λy H2=>R x y H2){Q:vB->vF->Prop}{f:vB->vB->Sem vB}(hf:∀v u s2 x y H2,Inv X pins σ H2 s2->RelV x v->RelV y u->R x y H2->vL (model X.prog X.w) X.A (f v u) Q X.xe s2):
  vL (model X.prog X.w) X.A (eval a X.env) (λv s₁=>vL (model X.prog X.w) X.A (eval b X.env) (λu s₂=>vL (model X.prog X.w) X.A (f v u) Q X.xe s₂) X.xe s₁) X.xe s:=by
 refine thn (ha pins s σ H _ I h) λv s1 ⟨x,H1,I1,r1,q1⟩=>?_;refine thn (hb pins s1 σ H1 _ I1 q1) λu s2 ⟨y,H2,I2,r2,q2⟩=>?_;exact hf v u s2 x y H2 I2 r1 r2 q2
theorem qi5{op:tO}{r:R2}(ho:OpR X (uF op) r)(ha:PE X a ta)(hb:PE X b tb):PE X (.BinOp a op b pos) (tOp r ta tb):=by
 intro pins s σ H Q I h;exact wpAny_BinOp (binT ha hb I h λv u s2 x y H2 I2 rx ry q=>ho pins s2 σ H2 x y v u Q I2 rx ry q)
theorem qi6{op:UnaryOp}{r:V->Hp->VK->Prop}(ho:UnR X (unaryOp op) r)(ha:PE X a ta):PE X (.UnaryOp op a pos) (tUn r ta):=by
 intro pins s σ H Q I h;exact UnaryOp_ (thn (ha pins s σ H _ I h) λv s1 ⟨x,H1,I1,r1,q1⟩=>ho pins s1 σ H1 x v Q I1 r1 q1)
theorem opI{f:vB->vB->Sem vB}{C:Int->Int->Prop}{g:Int->Int->Int}(rule:∀(i j:Int)(t u:Tok)(s:vF)(Q:vB->vF->Prop)(E:vB->vF->Prop),C i j->Q (.int (g i j) s.toks) { s with toks:=s.toks+1 }->vL (model X.prog X.w) X.A (f (.int i t) (.int j u)) Q E s):
  OpR X f (rI C λi j=>.int (g i j)):=by
 intro pins s σ H x y v u Q I rx ry h;obtain⟨i,j,rfl,rfl,hc,q⟩:=h;obtain⟨t,rfl⟩:=rx;obtain⟨t',rfl⟩:=ry;exact rule i j t t' s _ _ hc ⟨.int (g i j),H,I.tok _,⟨_,rfl⟩,q⟩
theorem opI0{f:vB->vB->Sem vB}{g:Int->Int->Int}(rule:∀(i j:Int)(t u:Tok)(s:vF)(Q:vB->vF->Prop)(E:vB->vF->Prop),Q (.int (g i j) s.toks) { s with toks:=s.toks+1 }->vL (model X.prog X.w) X.A (f (.int i t) (.int j u)) Q E s):
  OpR X f (rI0 λi j=>.int (g i j)):=by
 intro pins s σ H x y v u Q I rx ry h;obtain⟨i,j,rfl,rfl,q⟩:=h;obtain⟨t,rfl⟩:=rx;obtain⟨t',rfl⟩:=ry;exact rule i j t t' s _ _ ⟨.int (g i j),H,I.tok _,⟨_,rfl⟩,q⟩
theorem opB0{f:vB->vB->Sem vB}{g:Int->Int->Bool}(rule:∀(i j:Int)(t u:Tok)(s:vF)(Q:vB->vF->Prop)(E:vB->vF->Prop),Q (.bool (g i j)) s->vL (model X.prog X.w) X.A (f (.int i t) (.int j u)) Q E s):
  OpR X f (rI0 λi j=>.bl (g i j)):=by
 intro pins s σ H x y v u Q I rx ry h;obtain⟨i,j,rfl,rfl,q⟩:=h;obtain⟨t,rfl⟩:=rx;obtain⟨t',rfl⟩:=ry;exact rule i j t t' s _ _ ⟨.bl (g i j),H,I,rfl,q⟩
def CDiv(i j:Int):Prop:=0<j/\j<1073741824
def CPow(i j:Int):Prop:=0<=j/\j<=1000000/\i.natAbs<2^64
def CMul(i j:Int):Prop:=(-(2^64)<i/\i<2^64)\/(-(2^64)<j/\j<2^64)
theorem CMul.ok{i j:Int}(h:CMul i j):IntMulOk i j:=by
 rcases h with⟨h1,h2⟩|⟨h1,h2⟩
 ·exact .of_left (intBits_le_64 h1 h2)
 ·exact .of_right (intBits_le_64 h1 h2)
theorem qh3:OpR X (uF .Add) (rI0 λi j=>.int (i+j)):=opI0 λ_ _ _ _ _ _ _ q=>add_int q
theorem qgQ:OpR X (uF .Sub) (rI0 λi j=>.int (i-j)):=opI0 λ_ _ _ _ _ _ _ q=>sub_int q
theorem qhk:OpR X (uF .Mult) (rI CMul λi j=>.int (i*j)):=opI λ_ _ _ _ _ _ _ hc q=>mul_int q hc.ok
theorem qgq:OpR X (uF .FloorDiv) (rI CDiv λi j=>.int (i/j)):=opI λi j _ _ _ _ _ hc q=>by
 have h1:(0:Int)<j:=hc.1;have h2:j<1073741824:=hc.2;exact floordiv_int ∅ (by rw[Int.fdiv_eq_ediv_of_nonneg i ∅];exact q) (.inl (PyProof.noPylong_small ∅))
theorem qhE:OpR X (uF .Mod) (rI (λ_ j=>0<j) λi j=>.int (i%j)):=opI λi j _ _ _ _ _ hc q=>by
 have h1:(0:Int)<j:=hc;exact mod_int' ∅ (by rw[Int.fmod_eq_emod_of_nonneg i ∅];exact q)
theorem qht:OpR X (uF .Pow) (rI CPow λi j=>.int (i^j.toNat)):=opI λ_ _ _ _ _ _ _ hc q=>pow_int_small hc.1 hc.2.1 hc.2.2 q
theorem unI{f:vB->Sem vB}{g:Int->Int}(rule:∀(i:Int)(t:Tok)(s:vF)(Q:vB->vF->Prop)(E:vB->vF->Prop),Q (.int (g i) s.toks) { s with toks:=s.toks+1 }->vL (model X.prog X.w) X.A (f (.int i t)) Q E s):
  UnR X f (rU λi=>.int (g i)):=by
 intro pins s σ H x v Q I rx h;obtain⟨i,rfl,q⟩:=h;obtain⟨t,rfl⟩:=rx;exact rule i t s _ _ ⟨.int (g i),H,I.tok _,⟨_,rfl⟩,q⟩
theorem qgO:UnR X (unaryOp .USub) (rU λi=>.int (-i)):=unI λ_ _ _ _ _ q=>neg_int q
end
section
variable{X:Cx}{a b c:vQ}{ta tb tc:TE}{pos:Pos}
theorem qfC:OpR X (vz .Lt) (rI0 λi j=>.bl (decide (i<j))):=opB0 λ_ _ _ _ _ _ _ q=>lt_int q
theorem qfB:OpR X (vz .LtE) (rI0 λi j=>.bl (decide (i<=j))):=opB0 λ_ _ _ _ _ _ _ q=>le_int q
theorem qfL:OpR X (vz .Gt) (rI0 λi j=>.bl (decide (j<i))):=opB0 λ_ _ _ _ _ _ _ q=>gt_int q
theorem OpR.or{f:vB->vB->Sem vB}{r r':R2}(h:OpR X f r)(h':OpR X f r'):OpR X f (λx y H Q=>r x y H Q\/r' x y H Q):=by
 intro pins s σ H x y v u Q I rx ry q;rcases q with q|q
 ·exact h pins s σ H x y v u Q I rx ry q
 ·exact h' pins s σ H x y v u Q I rx ry q
theorem Yw(b:vQ){op:tV}(h:op≠.In:=by decide)(h2:op≠.NotIn:=by decide):vo op b=false:=by
 have e1:(op==CmpOp.In)=false:=by cases op <;> first|rfl|exact vK rfl h
 have e2:(op==CmpOp.NotIn)=false:=by cases op <;> first|rfl|exact vK rfl h2
 cases b <;> simp[vo,e1,e2]
theorem qfT{op:tV}{r:R2}(ho:OpR X (vz op) r)(ha:PE X a ta)(hb:PE X b tb)(hm:vo op b=false):PE X (.Compare a [op] [b] pos) (tOp r ta tb):=by
 intro pins s σ H Q I h;exact wpAny_Compare1 (binT ha hb I h λv u s2 x y H2 I2 rx ry q=>ho pins s2 σ H2 x y v u Q I2 rx ry q) hm
noncomputable def tTest(t:TE):TT:=λσ H Q=>t σ H λx H'=>∃k,x=.bl k/\Q k H'
theorem qgj{op:tV}{r:R2}(ho:OpR X (vz op) r)(ha:PE X a ta)(hb:PE X b tb)(hm:vo op b=false):PT X (.Compare a [op] [b] pos) (tTest (tOp r ta tb)):=by
 intro pins s σ H Q I h;refine uz (thn (ha pins s σ H _ I h) λv s1 ⟨x,H1,I1,r1,q1⟩=>thn (hb pins s1 σ H1 _ I1 q1) λu s2 ⟨y,H2,I2,r2,q2⟩=>
  thn (ho pins s2 σ H2 x y v u _ I2 r1 r2 q2) λc s3 ⟨z,H3,I3,r3,k,e,q3⟩=>?_) hm
 subst e;cases r3;exact v5 ⟨H3,I3,q3⟩
def TruV(K:zB)(x:V)(H:Hp)(k:Bool):Prop :=
 match x with
 | .non=>k=false
 | .bl b=>k=b
 | .int i=>k=(i != 0)
 | .str y=>y.length<=sizeLine/\k=((y.length:Int) != 0)
 | .byt y=>y.size<=sizeLine/\k=((y.size:Int) != 0)
 | .ref p=>(∃xs,SqL K H p xs/\k=!xs.isEmpty)\/(∃xs,SqT K H p xs/\k=!xs.isEmpty)\/∃kvs,H p=some (.dK kvs)/\k=!kvs.isEmpty
 | _=>False
theorem qcJ{κ:Type}{kvs:List (κ×V)}{vs:List (κ×vB)}(r:KV kvs vs):(!vs.isEmpty)=!kvs.isEmpty:=by
 cases r <;> rfl
theorem q93{xs:List V}{its:List vB}(r:YU xs its):(!its.toArray.isEmpty)=!xs.isEmpty:=by
 cases r <;> simp
theorem Xx:(sizeLine:Nat)<2^63:=by rw[uB];decide
theorem qh0:TruR X (λx H Q=>∃k,TruV X.K x H k/\Q k H):=by
 intro pins s σ H x v Q I rx h;obtain⟨k,e,q⟩:=h;have hl:=Xx;have hs:sizeLine=16777216:=uB;cases x with
 | non=>
  cases rx;have e':k=false:=e;subst e';exact truthy_none ⟨H,I,q⟩
 | bl b=>
  cases rx;have e':k=b:=e;subst e';exact v5 ⟨H,I,q⟩
 | int i=>
  obtain⟨t,rfl⟩:=rx;have e':k=(i != 0):=e;subst e';exact PySem.P.truthy_int ⟨H,I,q⟩
 | str y=>
  obtain⟨t,rfl⟩:=rx;obtain⟨hy,e'⟩:y.length<=sizeLine/\k=((y.length:Int) != 0):=e;subst e';exact PySem.P.truthy_str ∅ ⟨H,I.tok _,q⟩
 | byt y=>
  obtain⟨t,rfl⟩:=rx;obtain⟨hy,e'⟩:y.size<=sizeLine/\k=((y.size:Int) != 0):=e;subst e';exact PySem.W.truthy_bytes ∅ ⟨H,I.tok _,q⟩
 | ref p=>
  cases rx;have e':(∃xs,SqL X.K H p xs/\k=!xs.isEmpty)\/(∃xs,SqT X.K H p xs/\k=!xs.isEmpty)\/∃kvs,H p=some (.dK kvs)/\k=!kvs.isEmpty:=e;rcases e' with⟨xs,hx,e'⟩|⟨xs,hx,e'⟩|⟨kvs,hx,e'⟩
  ·subst e'
   obtain⟨its,r,pl,hz⟩:=I.list hx;have hlen:=r.length;exact wpAny_truthy_list pl.isList (by simp only[zO];omega) ⟨H,I.tok _,by rw[q93 r];exact q⟩
  ·subst e'
   obtain⟨its,r,pl,hz⟩:=I.tuple hx;have hlen:=r.length;exact truthy_tuple pl (by simp only[zO];omega) ⟨H,I.tok _,by rw[q93 r];exact q⟩
  ·subst e'
   obtain⟨hz,hS,vs,r,m⟩:kvs.length<=sizeLine/\(p==v6)=false/\∃vs,KV kvs vs/\s.heap.DictOf (YT X.prog X.w) p vs:=I.hok p _ hx;have hlen:kvs.length=vs.length:=Paired.length r;exact wpAny_truthy_dict hS m ∅ ⟨H,I.tok _,by rw[qcJ r];exact q⟩
 | _=>exact(show False from e).elim
theorem qey(ha:PE X a ta)(he:∀whole,tZ a X.env whole=(do let v <- whole;standAt a.pos;holding [v] (truthy v))):
  PT X a (λσ H Q=>ta σ H λx H'=>∃k,TruV X.K x H' k/\Q k H'):=by
 intro pins s σ H Q I h;exact isTrue_plain (thn (ha pins s σ H _ I h) λv s1 ⟨x,H1,I1,r1,q1⟩=>qh0 pins s1 σ H1 x v Q I1 r1 q1) (he _)
theorem vals1{x:V}{us:List vB}(r:YU [x] us):∃u,us=[u]/\RelV x u:=by
 cases r with
 | cons r1 r2=>cases r2;exact⟨_,rfl,r1⟩
theorem vals2{x y:V}{us:List vB}(r:YU [x,y] us):∃u w',us=[u,w']/\RelV x u/\RelV y w':=by
 cases r with
 | cons r1 r2=>
  cases r2 with
  | cons r3 r4=>cases r4;exact⟨_,_,rfl,r1,r3⟩
theorem qfs:Yy X (.builtin "abs") (λxs H Q=>∃i,xs=[.int i]/\Q (.int (if i<0 then -i else i)) H):=by
 intro pins s σ H xs us Q I r h;obtain⟨i,rfl,q⟩:=h;obtain⟨u,rfl,t,rfl⟩:=vals1 r;exact call_abs_int λu tk=>⟨.int (if i<0 then -i else i),H,I.tok _,⟨_,rfl⟩,q⟩
end
structure ObjM (h:vX) (x dx C:vC) (mA:Str->Option vB):Prop where
 obj:h.get? x=some (wx C dx)
 ns:h.Ns1 dx mA
 ne:dx≠x
theorem qek{h:vX}{dx:vC}{mA:Str->Option vB}(n:h.Ns1 dx mA):∃od,h.get? dx=some od/\∀name,ZD name od=some (mA name):=by
 obtain⟨o,es,ep,ho,hd,hk,_,hm⟩:=n;refine⟨o,ho,λname=>?_⟩;have e:=hm name;unfold nsFind findBy at e;rw[<- Array.find?_toList]at e;unfold ZD;rw[hd]
 dsimp only
 split
 ·rename_i y q
  rw[q]at e;exact uE some e
 ·rename_i q
  rw[q]at e;have a:es.toList.any (·.refKey)=false:=by
   rw[List.any_eq_false];intro y hy;obtain⟨z,t,hkey⟩:=hk y (Array.mem_toList_iff.mp hy);simp[DictEntry.refKey,hkey]
  have a':¬es.toList.any (·.refKey)=true:=by rw[a];exact yE
  rw[vN a'];exact uE some e
theorem ObjM.look{h:vX}{x dx C:vC}{mA:Str->Option vB}(I:ObjM h x dx C mA):∃od,PySem.W.InstAt h x (wx C dx) C (some od)/\∀name,ZD name od=some (mA name) :=
 let ⟨od,ho,hl⟩:=qek I.ns
 ⟨od,⟨I.obj,rfl,rfl,ho⟩,hl⟩
section
variable{prog:vO}{w:vU}{A:vY}{E:vB->vF->Prop}{s:vF}{K:zB}{x dx C f:vC}{mA:Str->Option vB}{name:Str}{v:vB}
end
theorem Wh.some_of{v:V}{o:Option vB}(r:Wh (some v) o):∃u,o=some u/\RelV v u:=by
 cases o with
 | none=>exact(show False from r).elim
 | some u=>exact⟨u,rfl,r⟩
section
variable{P:vO}{w:vU}{H H':Hp}{h h':vX}{a C dx:vC}{fs fs':List (Str×V)}
theorem qg7(hok:HOk P w H h)(e:H a=some (.ins C dx fs)):∃mA,ObjM h a dx C mA/\(∀f,Wh (fs.lookup f) (mA f))/\PySem.Within mA (fs.map (·.1))/\fs.length<=1000/\H dx=some (.own a):=by
 obtain⟨d,z,ne,ob,mA,n,r,q⟩:=(show YQ P w H h a (.ins C dx fs)from hok a _ e);exact⟨mA,⟨ob,n,ne⟩,r,q,z,d⟩
end
structure Cls (K:zB) (C:vC):Prop where
 pg:Zf K C Str.empty=true
 hd:PySem.W.hasDictIn K C=true
 po:PySem.W.plainOver K C=true
 sa:Zl K (.ref C) "__setattr__" = some (some (.builtin "object.__setattr__"))
theorem Cls.get{K:zB}{C:vC}(c:Cls K C)(f:Str):Zf K C f=true:=c.pg
section
variable{X:Cx}{pins:List (vC×Obj)}{σ:St}{H:Hp}{s:vF}{a C dx:vC}{fs:List (Str×V)}{f:Str}{v:V}{A:vY}{E:vB->vF->Prop}
end
section
variable{X:Cx}{o e value:vQ}{f:Str}{pos pos' tpos:Pos}{ta tv:TE}
end
section
variable{X:Cx}{pins:List (vC×Obj)}{σ:St}{H:Hp}{s:vF}{A:vY}{E:vB->vF->Prop}{Q:vB->vF->Prop}{c:vB}{b:Bool}
inductive TyOf (K:zB) (H:Hp):V->vB->Prop where
 | non:TyOf K H .non (.type "NoneType")
 | bl (x:Bool):TyOf K H (.bl x) (.type "bool")
 | int (i:Int):TyOf K H (.int i) (.type "int")
 | str (x:Str):TyOf K H (.str x) (.type "str")
 | flt (x:UInt64):TyOf K H (.flt x) (.type "float")
 | lst {a:vC} {xs:List V} (e:H a=some (.lst xs)):TyOf K H (.ref a) (.type "list")
 | frz {a:vC} {o:Obj} {xs:List V} (e:H a=some (.frz o (.lst xs))):TyOf K H (.ref a) (.type "list")
 | tup {a:vC} {xs:List V} (e:H a=some (.tup xs)):TyOf K H (.ref a) (.type "tuple")
 | dK {a:vC} {kvs:List (Key×V)} (e:H a=some (.dK kvs)):TyOf K H (.ref a) (.type "dict")
 | dT {a:vC} {kvs:List (List Key×V)} (e:H a=some (.dT kvs)):TyOf K H (.ref a) (.type "dict")
 | ins {a C dx:vC} {fs:List (Str×V)} (e:H a=some (.ins C dx fs)) (cl:Cls K C) (ha:Zl K (.ref C) "__class__" = some (some (.builtin "object.__class__")))
   (hn:PySem.W.specialIn K (.builtin "object.__class__") "__get__" = some (some (.builtin "getset_descriptor.__get__"))) (htk:PySem.W.takesIn K (.builtin "object.__class__")=some true)
   (hm:xr K C (.type "object")=some true):TyOf K H (.ref a) (.ref C)
theorem qe4{x:V}{u t:vB}(I:Inv X pins σ H s)(rx:RelV x u)(ty:TyOf X.K H x t)(e:ZF X.K t c=some b)(h:∀tk,Q (.bool b) { s with toks:=tk }):
  vL (model X.prog X.w) A (call (.builtin "isinstance") [u,c]) Q E s:=by
 cases ty with
 | non=>cases (show u=Value.none from rx);exact yX PySem.W.kitx_none I.kIn True.intro e (λz=>nomatch z) h
 | bl y=>cases (show u=Value.bool y from rx);exact yX PySem.W.kitx_bool I.kIn True.intro e (λz=>nomatch z) h
 | int i=>obtain⟨t,q⟩:=(show ∃t,u=Value.int i t from rx);cases q;exact yX PySem.W.kitx_int I.kIn True.intro e (λz=>nomatch z) h
 | str y=>obtain⟨t,q⟩:=(show ∃t,u=Value.str y t from rx);cases q;exact yX PySem.W.kitx_str I.kIn True.intro e (λz=>nomatch z) h
 | flt y=>obtain⟨t,q⟩:=(show ∃t,u=Value.float y t from rx);cases q;exact yX PySem.W.kitx_float I.kIn True.intro e (λz=>nomatch z) h
 | @lst a xs ea=>
  cases (show u=Value.ref a from rx);obtain⟨_,_,n,_,h1⟩:=(show YQ X.prog X.w H s.heap a (.lst xs)from I.hok a _ ea);exact yX ZR I.kIn ⟨_,h1,rfl⟩ e (λz=>nomatch z) h
 | @frz a ob xs ea=>
  cases (show u=Value.ref a from rx);obtain⟨_,_,_,n,_,h1⟩:=(show YQ X.prog X.w H s.heap a (.frz ob (.lst xs))from I.hok a _ ea);exact yX ZR I.kIn ⟨_,h1,rfl⟩ e (λz=>nomatch z) h
 | @tup a xs ea=>
  cases (show u=Value.ref a from rx);obtain⟨_,_,_,p⟩:=(show YQ X.prog X.w H s.heap a (.tup xs)from I.hok a _ ea);obtain⟨o,h1,h2,_⟩:=p;exact yX PySem.W.kitx_tuple I.kIn ⟨o,h1,h2⟩ e (λz=>nomatch z) h
 | @dK a kvs ea=>
  cases (show u=Value.ref a from rx);obtain⟨_,_,vs,_,p⟩:=(show YQ X.prog X.w H s.heap a (.dK kvs)from I.hok a _ ea);obtain⟨o,es,ep,h1,h2,_⟩:=p;exact yX ZT I.kIn ⟨o,h1,h2.1⟩ e (λz=>nomatch z) h
 | @dT a kvs ea=>
  cases (show u=Value.ref a from rx);obtain⟨_,_,xs,_,o,es,ep,h1,h2,_⟩:=(show YQ X.prog X.w H s.heap a (.dT kvs)from I.hok a _ ea);exact yX ZT I.kIn ⟨o,h1,h2.1⟩ e (λz=>nomatch z) h
 | @ins a C dx fs ea cl ha hn htk hm=>
  cases (show u=Value.ref a from rx);obtain⟨mA,O,_⟩:=qg7 I.hok ea;obtain⟨od,J,_⟩:=O.look;exact yX (PySem.W.kitx_own (cl.get _) cl.hd ha hn htk hm) I.kIn J e (λz=>nomatch z) h
end
structure Room (k:Nat) (A:vY):Prop where
 hd:A.handled=none
 dp:A.depth+3*k+5<recursionLimit
 un:A.units+16*k+200<uT
theorem Room.mono{j k:Nat}{A:vY}(r:Room k A)(h:j<=k):Room j A:=⟨r.hd,by have:=r.dp;omega,by have:=r.un;omega⟩
theorem Room.deeper{k:Nat}{A:vY}(r:Room (k+1) A)(env:Env):Room k (A.deeper env) :=
 ⟨r.hd,by have:=r.dp;show A.depth+1+3*k+5<_;omega,by have:=r.un;show A.units+3+16*k+200<_;omega⟩
theorem Room.depth{k:Nat}{A:vY}(r:Room k A):A.depth<recursionLimit:=by have:=r.dp;omega
theorem Room.units{k:Nat}{A:vY}(r:Room k A):A.units+64<uT:=by have:=r.un;omega
noncomputable def tNil:TA:=λ_ H Q=>Q [] H
noncomputable def tCons(ta:TE)(tr:TA):TA:=λσ H Q=>ta σ H λx H1=>tr σ H1 λxs H2=>Q (x::xs) H2
section
variable{X:Cx}{e:vQ}{es:List vQ}{te:TE}{t:TA}{pos:Pos}
theorem q1l:PA X [] tNil:=λ_ _ _ _ H Q I h=>Calls.spliced_nil ⟨[],H,I,.nil,h⟩
theorem q0G(ha:PE X e te)(hr:PA X es t)(hs:vJ (e::es) X.env=(false,eval e X.env)::vJ es X.env:=by rfl):PA X (e::es) (tCons te t):=by
 intro pos pins s σ H Q I h;rw[hs];show vL _ _ (spliced ((false,eval e X.env)::vk pos (vJ es X.env))) _ _ s;refine Calls.spliced_cons (thn (ha pins s σ H _ I h) λu s1 ⟨x,H1,I1,r1,q1⟩=>?_);exact thn (hr pos pins s1 σ H1 _ I1 q1) λus s2 ⟨xs,H2,I2,r2,q2⟩=>⟨x::xs,H2,I2,.cons r1 r2,q2⟩
noncomputable def tTup(t:TA):TE:=λσ H Q=>t σ H λxs H1=>xs.length<=sizeLine/\∀p,H1 p=none->Q (.ref p) (upd H1 p (.tup xs))
noncomputable def tLst(t:TA):TE:=λσ H Q=>t σ H λxs H1=>xs.length<=sizeLine/\∀p,H1 p=none->Q (.ref p) (upd H1 p (.lst xs))
theorem qhH{x1}(h:PA X es t):PE X (.Tuple es x1 pos) (tTup t):=by
 intro pins s σ H Q I hq;refine wpAny_Tuple_spliced (thn (h pos pins s σ H _ I hq) λus s1 ⟨xs,H1,I1,r,z,q⟩=>⟨by rw[<- r.length];exact z,?_⟩);have hf:H1 s1.heap.objs.size=none:=I1.hok.fresh (zQ _);refine⟨.ref s1.heap.objs.size,upd H1 s1.heap.objs.size (.tup xs),I1.laid (t':=s1.toks) (λb u e=>zF _ e) (zQ _) ?_,rfl,q _ hf⟩;exact⟨z,us,r,⟨_,zR _ rfl,rfl,_,rfl⟩⟩
theorem qdu(h:PA X es t):PE X (.List es pos) (tLst t):=by
 intro pins s σ H Q I hq;refine wpAny_List_spliced (thn (h pos pins s σ H _ I hq) λus s1 ⟨xs,H1,I1,r,z,q⟩=>⟨by rw[<- r.length];exact z,?_⟩);have hf:H1 s1.heap.objs.size=none:=I1.hok.fresh (zQ _);refine⟨.ref s1.heap.objs.size,upd H1 s1.heap.objs.size (.lst xs),I1.laid (t':=s1.toks) (λb u e=>zF _ e) (zQ _) ?_,rfl,q _ hf⟩;exact⟨z,us,0,r,zR _ rfl⟩
end
abbrev Sp:=List V->Hp->VK->XK->Prop
abbrev CXT:=List Env->Hp->vF->XK->vB->vF->Prop
structure Env0 (P:vO) (w:vU) (K:zB) (mg:Str->Option vB) (base:vX) (A:vY) (outer:List Env) (s:vF) (H:Hp):Prop where
 frames:A.frames=some outer
 mod:Mod K mg base
 bs:∀b o,base.get? b=some o->s.heap.get? b=some o/\H b=none
 bsz:base.objs.size<=s.heap.objs.size
 funs:s.heap.FunFrames base outer
 frf:∀b∈frs outer,H b=none
 hok:HOk P w H s.heap
 bare:uf s.gens
def CE(outer:List Env)(P:vO)(w:vU)(H:Hp)(s:vF)(Q:VK)(u:vB)(s':vF):Prop :=
 ∃v H',s'.os=s.os/\uf s'.gens/\Un (frs outer) [] H H' s.heap s'.heap/\HOk P w H' s'.heap/\RelV v u/\Q v H'
def CR(CX:CXT)(outer:List Env)(P:vO)(w:vU)(H:Hp)(s:vF)(Q:VK)(E:XK)(r:tJ)(s':vF):Prop :=
 match r with
 | .ok (.ret u)=>CE outer P w H s Q u s'
 | .ok _=>False
 | .error e=>CX outer H s E e s'
structure FnOk (P:vO) (w:vU) (K:zB) (mg:Str->Option vB) (base:vX) (CX:CXT) (k:Nat) (f:vC) (fd:vH) (ps:List Str) (sp:Sp):Prop where
 len:∀vs H Q E,sp vs H Q E->vs.length=ps.length
 run:∀(A:vY)(outer:List Env)(s:vF)(H:Hp)(args:Args)(us:List vB)(vs:List V)(Q:VK)(E:XK),Room k A->Env0 P w K mg base A outer s H->tP s fd args (ps.zip us)->YU vs us->sp vs H Q E ->
  uI (model P w) A (.call (.ref f) args) (CR CX outer P w H s Q E) s
section
variable{X:Cx}{pins:List (vC×Obj)}{σ:St}{H:Hp}{s s':vF}
theorem Inv.env0(I:Inv X pins σ H s):Env0 X.prog X.w X.K X.mg X.base X.A X.stack s H :=
 ⟨I.ok.frames,I.ok.mod,I.bs,zm I.ok.bsz I.sz,I.stack,I.stkFree,I.hok,I.bare⟩
theorem Inv.after{Q:VK}{u:vB}(I:Inv X pins σ H s)(h:CE X.stack X.prog X.w H s Q u s'):EP X pins σ Q u s':=by
 obtain⟨v,H',os,bare,un,hok,r,q⟩:=h;obtain⟨hh,g,d,t,os'⟩:=s';obtain rfl:os'=s.os:=os;exact⟨v,H',I.call (h':=hh) (g':=g) (d':=d) (t':=t) (ch:=[]) un hok bare (λb z=>vK z (by simp)),r,q⟩
end
noncomputable def tCall(sp:Sp)(dvs:List V)(E:XK)(t:TA):TE:=λσ H Q=>t σ H λvs H1=>sp (vs++dvs) H1 Q E
def Binds(K:zB)(fd:vH)(ps:List Str)(ds:List vB):Prop :=
 ∀(s:vF)(us:List vB),K.In s.heap->(us++ds).length=ps.length->tP s fd ⟨us,[]⟩ (ps.zip (us++ds))
theorem Binds.all{K:zB}{fd:vH}{ps:List Str}(h:∀us:List vB,us.length=ps.length->bindArgs fd ⟨us,[]⟩=pure (ps.zip us)):Binds K fd ps []:=λs us _ hl=>by
 rw[zi]at hl ⊢;exact .of_eq (h us hl)
def Xg(CX:CXT)(X:Cx)(E:XK):Prop:=∀(pins:List (vC×Obj))(σ:St)(H:Hp)(s:vF)(e:vB)(s':vF),Inv X pins σ H s->CX X.stack H s E e s'->X.xe e s'
section
variable{X:Cx}{CX:CXT}{k:Nat}{f C:vC}{fd:vH}{ps:List Str}{sp:Sp}{dvs:List V}{ds:List vB}{E:XK}{x m:Str}{p pos apos:Pos}{e o:vQ}{es:List vQ}{ta:TE}{t:TA}
theorem qhT{pins:List (vC×Obj)}{σ:St}{H:Hp}{s:vF}{Q:VK}{us:List vB}{vs:List V}(F:FnOk X.prog X.w X.K X.mg X.base CX k f fd ps sp)(hr:Room k X.A)(hb:Binds X.K fd ps ds)(hd:YU dvs ds)(hx:Xg CX X E)(I:Inv X pins σ H s)(r:YU vs us)(h:sp (vs++dvs) H Q E):vL (model X.prog X.w) X.A (call (.ref f) us) (EP X pins σ Q) X.xe s:=by
 have r2:YU (vs++dvs) (us++ds):=r.append hd;have hl:(us++ds).length=ps.length:=by rw[<- r2.length];exact F.len _ _ _ _ h
 refine wpAny_call (uK (F.run X.A X.stack s H ⟨us,[]⟩ (us++ds) (vs++dvs) Q E hr I.env0 (hb s us I.kIn hl) r2 h) λr s' hq=>?_);cases r with
 | error e=>exact hx pins σ H s e s' I hq
 | ok fl=>
  cases fl with
  | ret u=>exact I.after hq
  | next=>exact False.elim hq
  | brk=>exact False.elim hq
  | cont=>exact False.elim hq
theorem qcD(F:FnOk X.prog X.w X.K X.mg X.base CX k f fd ps sp)(hr:Room k X.A)(hg:Gl X x)(hm:X.mg x=some (.ref f))(hk:xS X.K (.ref f)=true)(hb:Binds X.K fd ps ds)(hd:YU dvs ds)(hx:Xg CX X E)(ha:PA X (e::es) t)(hdb:(x==("__debug__" : Str))=false:=by decide)(he:vJ (e::es) X.env=(false,eval e X.env)::vJ es X.env:=by rfl)(hpl:(vk pos (vJ es X.env)).any (·.1)=false:=by rfl):
  PE X (.Call (.Name x p) (e::es) [] pos) (tCall sp dvs E t):=by
 intro pins s σ H Q I h;refine vp (q7B I hg hm ?_ hdb);refine ZM (h₀:=X.base) I.ok.mod.kin hk (thn (ha pos pins s σ H _ I h) λus s1 ⟨vs,H1,I1,r,q⟩=>⟨I1.kIn,?_⟩) he hpl;exact qhT F hr hb hd hx I1 r q
end
section
variable{X:Cx}{CX:CXT}{k:Nat}{f C:vC}{fd:vH}{ps ks:List Str}{sp:Sp}{E:XK}{x m:Str}{p pos apos kpos:Pos}{e o:vQ}{es:List vQ}{kws:List ua}{te ta:TE}{t tk:TA}{nm:Option Str}
variable{g:List vB->List vB->List vB}{gV:List V->List V->List V}
end
structure FnScope (N P:List Str) (sc:uN):Prop where
 kind:sc.kind=.function
 co:sc.isCoroutine=false
 gen:sc.isGenerator=false
 nd:N.Nodup
 pre:N.take P.length=P
 par:∀x∈P,sc.names.lookup x=some .local\/sc.names.lookup x=some .cell
 nofree:∀y∈sc.names,y.2≠.free
theorem q9U{kindOf:Str->Option uG}{x:Str}:∀{binds:List (Str×vB)}{m:Str->Option vB},(∀v,(x,v)∉binds)->bindL kindOf binds m x=m x
 | [],_,_=>rfl
 | (n,v)::r,m,h=>by
  unfold bindL;rw[q9U λw hw=>h w (zJ _ hw)]
  split
  ·have:x≠n:=by rintro rfl;exact h v zK
   simp[this]
  ·rfl
theorem qa3{kindOf:Str->Option uG}{x:Str}:∀{binds:List (Str×vB)}{m:Str->Option vB},(∀v,(x,v)∉binds)->bindC kindOf binds m x=m x
 | [],_,_=>rfl
 | (n,v)::r,m,h=>by
  unfold bindC;rw[qa3 λw hw=>h w (zJ _ hw)]
  split
  ·rfl
  ·have:x≠n:=by rintro rfl;exact h v zK
   simp[this]
theorem qa1{kindOf:Str->Option uG}{x:Str}{v:vB}:∀{P:List Str}{vs:List vB}{i:Nat}{m:Str->Option vB},P.Nodup->P[i]?=some x->vs[i]?=some v->kindOf x=some .local ->
  bindL kindOf (P.zip vs) m x=some v
 | [],_,_,_,_,h,_,_=>by simp at h
 | _::_,[],_,_,_,_,h,_=>by simp at h
 | p::P,w::vs,0,m,nd,h1,h2,hk=>by
  simp at h1 h2;subst h1;subst h2;show bindL kindOf ((p,w)::P.zip vs) m p=_;unfold bindL;rw[q9U λv hv=>(yj.mp nd).1 (wy hv).1,vM hk];simp
 | p::P,w::vs,i+1,m,nd,h1,h2,hk=>by
  show bindL kindOf ((p,w)::P.zip vs) m x=_;unfold bindL;exact qa1 (i:=i) (yj.mp nd).2 ⇑h1 ⇑h2 hk
theorem q9P{kindOf:Str->Option uG}{x:Str}{v:vB}:∀{P:List Str}{vs:List vB}{i:Nat}{m:Str->Option vB},P.Nodup->P[i]?=some x->vs[i]?=some v->kindOf x≠some .local ->
  bindC kindOf (P.zip vs) m x=some v
 | [],_,_,_,_,h,_,_=>by simp at h
 | _::_,[],_,_,_,_,h,_=>by simp at h
 | p::P,w::vs,0,m,nd,h1,h2,hk=>by
  simp at h1 h2;subst h1;subst h2;show bindC kindOf ((p,w)::P.zip vs) m p=_;unfold bindC;rw[qa3 λv hv=>(yj.mp nd).1 (wy hv).1,vN hk];simp
 | p::P,w::vs,i+1,m,nd,h1,h2,hk=>by
  show bindC kindOf ((p,w)::P.zip vs) m x=_;unfold bindC;exact q9P (i:=i) (yj.mp nd).2 ⇑h1 ⇑h2 hk
noncomputable def start(N:List Str)(vs:List V):St:=vs.map some++wR (N.length-vs.length) none
noncomputable def WQ(CX:CXT)(P:vO)(w:vU)(K:zB)(mg:Str->Option vB)(base:vX)(N:List Str)(qual:Str)(scope:uN)(f:vC)(cd:vB)(A:vY)(outer:List Env)(s:vF)(H:Hp)(E:XK):Cx where
 prog:=P
 w:=w
 K:=K
 mg:=mg
 base:=base
 A:=A.deeper (u5 qual scope s.heap.objs.size f cd)
 N:=N
 s₀:=s
 H₀:=H
 env:=u5 qual scope s.heap.objs.size f cd
 outer:=outer
 stack:=u5 qual scope s.heap.objs.size f cd::outer
 ex:=[]
 calm:=true
 fn:=λ_=>true
 pn:=[]
 xe:=λe s'=>vL (model P w) (A.deeper (u5 qual scope s.heap.objs.size f cd)) (leaving (u5 qual scope s.heap.objs.size f cd) e) (λ_ s''=>CX outer H s E e s'') (λe' s''=>CX outer H s E e' s'') s'
theorem qaP{sc:uN}{n:Nat}{x:Str}(h:sc.names.lookup x=some .cell):∃c,(cellsFrom n sc.names []).lookup x=some c:=by
 have q:=wk sc.names n [] (.inl h);exact yf.mp q
theorem qdF{CX:CXT}{P:vO}{w:vU}{K:zB}{mg:Str->Option vB}{base:vX}{N ps:List Str}{qual:Str}{scope:uN}{f:vC}{cd:vB}{A:vY}{outer:List Env}{s s1:vF}{H:Hp}{E:XK}{us:List vB}{vs:List V}(S:FnScope N ps scope)(hd:A.handled=none)(e0:Env0 P w K mg base A outer s H)(hl:vs.length=ps.length)(r:YU vs us)(x:InCallC s s.heap.objs.size (bindL (u5 qual scope s.heap.objs.size f cd).kindOf (ps.zip us) λ_=>none) (cellsFrom (s.heap.objs.size+1) scope.names []) (bindC (u5 qual scope s.heap.objs.size f cd).kindOf (ps.zip us) λ_=>none) s1):
  Inv (WQ CX P w K mg base N qual scope f cd A outer s H E) [] (start N vs) H s1:=by
 have hpl:ps.length<=N.length:=by have:=uE xy S.pre;rw[zy]at this;omega
 obtain⟨h1,tk,rfl,hk⟩:=x.done;have noA:∀b:vC,b∉(WQ CX P w K mg base N qual scope f cd A outer s H E).ex:=λb z=>vK (show b∈([]:List vC)from z) (by simp);refine⟨⟨e0.mod,S.kind,rfl,rfl,zQ _,λy z c h1 h2=>?_,λy hy=>?_,λy c _ h=>?_,λ_=>hd,Around.frames_deeper e0.frames,.inr ⟨rfl,rfl⟩,λb z=>vK z (noA b),e0.bs,e0.bsz,λb _ _=>noA b,λb z=>vK z (noA b),e0.funs,e0.frf⟩,
  rfl,e0.bare,Un.kept hk,⟨_,x.toInCall.ns,λi y v h1 h2 h3=>?_⟩,λy c h=>⟨_,x.cell y c h⟩,e0.hok.fresh (zQ _),λy c h=>?_,λp hp=>vK (show p∈([]:List (vC×Obj))from hp) (by simp),e0.hok.kept hk,?_⟩
 ·exact name_of_addr x.apart (PySem.mem_of_lookup h1) (PySem.mem_of_lookup h2)
 ·have hy:scope.names.lookup y=some .cell\/scope.names.lookup y=some .free:=hy
  rcases hy with hy|hy
  ·exact qaP hy
  ·exact vK rfl (S.nofree _ (PySem.mem_of_lookup hy))
 ·exact yL (x.above y c (PySem.mem_of_lookup h))
 ·have hi:i<vs.length:=by
   unfold start at h2
   by_cases hi:i<vs.length
   ·exact hi
   ·rw[zf ⇑hi]at h2
    rw[yl]at h2
    split at h2 <;> cases h2
  have ha:vs[i]?=some v:=by
   unfold start at h2;rw[zj ⇑hi,za]at h2;cases e:vs[i]? with
   | none=>rw[e]at h2;cases h2
   | some a=>rw[e]at h2;cases h2;rfl
  obtain⟨u,hu,rv⟩:=r.get ha;have hp:ps[i]?=some y:=by
   rw[<- S.pre,List.getElem?_take_of_lt ∅];exact h1
  have ndP:ps.Nodup:=by rw[<- S.pre];exact S.nd.sublist (ZU _ _)
  refine⟨u,rv,?_⟩;rcases S.par y (zx hp)with k|k
  ·exact .inl ⟨k,qa1 ndP hp hu k⟩
  ·obtain⟨c,e⟩:=qaP (n:=s.heap.objs.size+1) k
   refine .inr ⟨.inl k,c,e,?_⟩;have q:=x.cell y c e;rw[q9P ndP hp hu (by show scope.names.lookup y≠_;rw[k];decide)]at q;exact q
 ·exact e0.hok.fresh (yL (x.above y c (PySem.mem_of_lookup h)))
 ·unfold start
  show _=N.length;rw[zC,zA,ye];omega
theorem qfA{CX:CXT}{P:vO}{w:vU}{K:zB}{mg:Str->Option vB}{base:vX}{k:Nat}{f:vC}{name qual:Str}{params:Arguments}{body:List vf}{scope:uN}{dV kV doc pm cdv ct oc:vB}{an od:Option vC}{osl:Array (Option vB)}{N ps:List Str}{sp:Sp}(lk:K.lookup f=some ⟨oc,od,.func (xV name qual params body scope dV kV doc pm an cdv ct),osl⟩)(hcd:wS K cdv qual=true)(S:FnScope N ps scope)(len:∀vs H Q E,sp vs H Q E->vs.length=ps.length)(hbody:∀(A:vY)(outer:List Env)(s:vF)(H:Hp)(vs:List V)(Q:VK)(E:XK),Room k (A.deeper (u5 qual scope s.heap.objs.size f cdv))->sp vs H Q E ->
   ∃t,PSs (WQ CX P w K mg base N qual scope f cdv A outer s H E) body t/\t { nx:=λ_ H'=>Q .non H',rt:=Q } (start N vs) H) :
  FnOk P w K mg base CX (k+1) f (xV name qual params body scope dV kV doc pm an cdv ct) ps sp:=by
 refine⟨len,λA outer s H args us vs Q E hr e0 hb r hsp=>?_⟩;have hl:=len _ _ _ _ hsp;have KX:K.In s.heap:=e0.mod.kin.keeps λb o e=>(e0.bs b o e).1;have lim:s.heap.NoLimit:=e0.mod.nolimit.keeps λb o e=>(e0.bs b o e).1;have hkind:∀y∈ps.zip us,scope.names.lookup y.1=some .local\/(scope.names.lookup y.1=some .cell/\((cellsFrom (s.heap.objs.size+1) scope.names []).lookup y.1).isSome=true):=λ⟨n,v⟩ hy=>by
  rcases S.par n (wy hy).1 with q|q
  ·exact .inl q
  ·exact .inr ⟨q,wk _ _ _ (.inl q)⟩
 refine codeAny_call_function hr.depth (KX _ _ lk) rfl S.co S.gen rfl (PySem.W.codeRec_of KX hcd) (hb _ _ _ _ ?_);refine wpAny_newFunctionEnv_cells S.kind hkind λenv he s1 x=>?_;subst he;refine⟨lim.keeps x.toInCall.keep,codeAny_func ?_⟩;obtain⟨t,ht,hq⟩:=hbody A outer s H vs Q E (hr.deeper _) hsp;have I:Inv (WQ CX P w K mg base N qual scope f cdv A outer s H E) [] (start N vs) H s1:=qdF S hr.hd e0 hl r x;refine vc (ht [] s1 (start N vs) H _ I hq) (λfl s' hs=>?_) λe s' hs=>hs;have fin:∀{σ':St}{H':Hp}{v:V}{u:vB},Inv (WQ CX P w K mg base N qual scope f cdv A outer s H E) [] σ' H' s'->RelV v u->Q v H'->CE outer P w H s Q u s' :=
  λ{σ' H' v u} J rv q=>⟨v,H',J.os,J.bare,J.base,J.hok,rv,q⟩
 cases fl with
 | ret u=>
  obtain⟨v,σ',H',J,rv,q⟩:=hs;exact fin J rv q
 | next=>
  obtain⟨σ',H',J,q⟩:=hs;exact fin (v:=V.non) (u:=Value.none) J rfl q
 | brk=>
  obtain⟨_,_,_,q⟩:=hs;exact False.elim q
 | cont=>
  obtain⟨_,_,_,q⟩:=hs;exact False.elim q
section
variable{X:Cx}{x:Str}{p pos:Pos}{e:vQ}{es:List vQ}{t:TA}{id T:String}{r:List V->Hp->VK->Prop}
noncomputable def tCB(r:List V->Hp->VK->Prop)(t:TA):TE:=λσ H Q=>t σ H λvs H1=>r vs H1 Q
theorem q5D(hc:Yy X (.builtin id) r)(hg:Gl X x)(hm:X.mg x=none)(hv:vZ x=some (.builtin id))(ha:PA X (e::es) t)(hn:x ≠ "__name__" := by decide)(hdb:(x==("__debug__" : Str))=false:=by decide)(he:vJ (e::es) X.env=(false,eval e X.env)::vJ es X.env:=by rfl)(hpl:(vk pos (vJ es X.env)).any (·.1)=false:=by rfl):PE X (.Call (.Name x p) (e::es) [] pos) (tCB r t):=by
 intro pins s σ H Q I h;refine vp (q1S I hg hm hv ?_ hn hdb);exact PyProof.Rows.callWith_builtin1 (thn (ha pos pins s σ H _ I h) λus s1 ⟨vs,H1,I1,r1,q1⟩=>hc pins s1 σ H1 vs us Q I1 r1 q1) he hpl
theorem qa6(hc:Yy X (.type T) r)(hg:Gl X x)(hm:X.mg x=none)(hv:vZ x=some (.type T))(ha:PA X (e::es) t)(hn:x ≠ "__name__" := by decide)(hdb:(x==("__debug__" : Str))=false:=by decide)(he:vJ (e::es) X.env=(false,eval e X.env)::vJ es X.env:=by rfl)(hpl:(vk pos (vJ es X.env)).any (·.1)=false:=by rfl):PE X (.Call (.Name x p) (e::es) [] pos) (tCB r t):=by
 intro pins s σ H Q I h;refine vp (q1S I hg hm hv ?_ hn hdb);exact PyProof.Rows.callWith_type1 (thn (ha pos pins s σ H _ I h) λus s1 ⟨vs,H1,I1,r1,q1⟩=>hc pins s1 σ H1 vs us Q I1 r1 q1) he hpl
end
end L2
namespace HT
open PySem PyProof.Rows
section
open PySem.SeqAt
open PySem.AutoSeq1 (wpAny_loadPart')
open PySem.MeetsSeq PySem.MeetsSeq2 PySem.MeetsSeq3
end
section
variable{prog:vO}{w:vU}{A:vY}{E:vB->vF->Prop}{s:vF}
theorem qfN{t b:vC}{vs ws:List vB}{Q:vB->vF->Prop}(ht:IsTup s.heap t vs.toArray)(hb:IsTup s.heap b ws.toArray)(hv:vs≠[])(h1:ws=[]->Q (.ref t) s)(h2:ws≠[]->Q (.ref s.heap.objs.size) { s with heap:=s.heap.push { cls:=.type "tuple", data:=.seq (vs++ws).toArray } })(hsz:vs.length+ws.length<=sizeLine):vL (model prog w) A (uF .Add (.ref t) (.ref b)) Q E s:=by
 obtain⟨⟨cls,dd,data,sl⟩,ho,hc,n,hd⟩:=id ht;obtain⟨⟨cls2,dd2,data2,sl2⟩,ho2,hc2,n2,hd2⟩:=id hb;simp only at hc hd hc2 hd2;subst hc hd hc2 hd2;have e:vs.toArray++ws.toArray=(vs++ws).toArray:=by simp
 by_cases hw:ws=[]
 ·exact concat_meets ⟨_,ho,rfl⟩ ⟨_,ho2,rfl⟩ noFill_tuple_add seq_tuple_add PySem.F.slot_tuple_add PySem.F.entry_tuple_add (PySem.F.args_tuple_add_2 _ _)
   (tuple_addW1 t b vs.toArray ws.toArray n n2 dd dd2 sl sl2 ⇑hv (by simp[hw])) ⟨ho,ho2,h1 hw⟩
 ·refine concat_meets ⟨_,ho,rfl⟩ ⟨_,ho2,rfl⟩ noFill_tuple_add seq_tuple_add PySem.F.slot_tuple_add PySem.F.entry_tuple_add (PySem.F.args_tuple_add_2 _ _)
   (tuple_addW2 t b vs.toArray ws.toArray n n2 dd dd2 sl sl2 ⇑hv ⇑hw (by rw[zO,zO];exact hsz)) ⟨ho,ho2,?_⟩
  rw[e];exact h2 hw
noncomputable def sIx(n d:Nat):Option Int->Nat
 | none=>d
 | some v=>if v<0 then (v+(n:Int)).toNat else min v.toNat n
theorem q85(n d:Nat):sIx n d none=d:=rfl
theorem q6a(n d k:Nat):sIx n d (some (k:Int))=min k n:=by
 show (if (k:Int)<0 then ((k:Int)+(n:Int)).toNat else min (k:Int).toNat n)=min k n;rw[vN ∅,yT]
theorem qhO(n d:Nat)(hd:d<=n)(o:Option Int):sIx n d o<=n:=by
 cases o with
 | none=>exact hd
 | some v=>
  show (if v<0 then (v+(n:Int)).toNat else min v.toNat n)<=n
  by_cases hv:v<0
  ·rw[vM hv];omega
  ·rw[vN hv];exact Zg _ _
theorem qcA(v:Int)(n d:Nat):(if v<0 then max (v+(n:Int)) 0 else min v (n:Int))=((sIx n d (some v):Nat):Int):=by
 show (if v<0 then max (v+(n:Int)) 0 else min v (n:Int))=(((if v<0 then (v+(n:Int)).toNat else min v.toNat n):Nat):Int)
 by_cases hv:v<0
 ·simp only[vM hv];omega
 ·simp only[vN hv];omega
theorem qdj(lo hi:Option Int)(n:Nat):Builtin.Slice.sliceAdjust lo hi 1 (n:Int)=(((sIx n 0 lo:Nat):Int),((sIx n n hi:Nat):Int)):=by
 have h1:¬((1:Int)<0):=∅
 unfold Builtin.Slice.sliceAdjust;simp only[h1,if_false];refine Prod.ext ?_ ?_
 ·cases lo with
  | none=>rfl
  | some v=>exact qcA v n 0
 ·cases hi with
  | none=>rfl
  | some v=>exact qcA v n n
theorem qcI(i j:Nat):Builtin.Slice.slicePlaces (i:Int) (j:Int) 1=j-i:=by
 unfold Builtin.Slice.slicePlaces;have h1:(1:Int)>0:=∅
 simp only[h1,if_true,Int.ediv_one]
 split <;> omega
theorem q91{v:vB}{o:Option Int}{Q:Option Int->vF->Prop}(p:ux v o)(h:Q o s):vL (model prog w) A (Builtin.Slice.slicePartIndex v) Q E s:=by
 cases p with
 | none=>exact slicePart_none h
 | int i t=>exact slicePart_int h
theorem q5c{sl:vC}{vl vu:vB}{lo hi:Option Int}{n:Nat}{Q:Int×Int×Nat->vF->Prop}(hs:s.heap.IsSliceOf sl vl vu .none)(pl:ux vl lo)(pu:ux vu hi)(h:Q (((sIx n 0 lo:Nat):Int),1,sIx n n hi-sIx n 0 lo) s):vL (model prog w) A (Builtin.Slice.sliceApplied (.ref sl) (pure (n:Int))) Q E s:=by
 obtain⟨os,hos,hcs,hds⟩:=id hs;unfold Builtin.Slice.sliceApplied Builtin.Slice.sliceFields;refine vA (vA (uC hos hds (x:=vl) rfl (vA (uC hos hds (x:=vu) rfl (vA (uC hos hds (x:=.none) rfl (vG ?_)))))));refine vA (slicePart_none ?_);show vL _ _ (if ((1:Int)==0)=true then _ else _) _ _ s;rw[vN (by decide)];refine vA (q91 pl (vA (q91 pu (vA (vG ?_)))));show vL _ _ (match Builtin.Slice.sliceAdjust lo hi 1 (n:Int)with|(lo,hi)=>pure (lo,(1:Int),Builtin.Slice.slicePlaces lo hi 1)) _ _ s;rw[qdj lo hi n];show vL _ _ (pure (((sIx n 0 lo:Nat):Int),(1:Int),Builtin.Slice.slicePlaces ((sIx n 0 lo:Nat):Int) ((sIx n n hi:Nat):Int) 1)) _ _ s;rw[qcI];exact vG h
theorem qeP(xs:Array vB)(i k:Nat):((yk k).filterMap λ(m:Nat)=>xs[((i:Int)+(m:Int)*1).toNat]?).toArray=((xs.toList.drop i).take k).toArray:=by
 have e:(λ(m:Nat)=>xs[((i:Int)+(m:Int)*1).toNat]?)=λm=>xs[i+m]?:=by
  funext m
  have:((i:Int)+(m:Int)*1).toNat=i+m:=∅
  rw[this]
 rw[e];have:=pick_run xs i k;rw[ZN]at this;have e2:((λx=>xs[x]?) ∘ λx=>i+x)=λm=>xs[i+m]?:=rfl;rw[e2]at this;rw[this]
theorem q7L{t sl:vC}{items:Array vB}{vl vu:vB}{lo hi:Option Int}{Q:vB->vF->Prop}(ht:IsTup s.heap t items)(hs:s.heap.IsSliceOf sl vl vu .none)(pl:ux vl lo)(pu:ux vu hi)(hw:¬(sIx items.size 0 lo=0/\sIx items.size items.size hi=items.size))(h:Q (.ref s.heap.objs.size) { s with heap:=s.heap.push { cls:=.type "tuple", data:=.seq ((items.toList.drop (sIx items.size 0 lo)).take (sIx items.size items.size hi-sIx items.size 0 lo)).toArray } })(hsz:items.size<=sizeLine):vL (model prog w) A (ug (.ref t) (.ref sl)) Q E s:=by
 have htake:sizeOk (.seq ((items.toList.drop (sIx items.size 0 lo)).take (sIx items.size items.size hi-sIx items.size 0 lo)).toArray):=by
  show ((items.toList.drop (sIx items.size 0 lo)).take (sIx items.size items.size hi-sIx items.size 0 lo)).toArray.size<=sizeLine;rw[zO,zy,yZ,zc];omega
 have hj:sIx items.size items.size hi<=items.size:=qhO _ _ (zQ _) hi;obtain⟨os,hos,hcs,hds⟩:=id hs;have hTs:s.TypeIs (.ref sl) "slice" := ⟨os,hos,hcs⟩;unfold ug
 try with_reducible refine vh ?_
 first|refine vA (vG ?_)|skip
 refine vA (wpAny_sequenceKey ht.typeIs (by decide) ?_);refine vA (wpAny_callSpecial?_slot (name:=Str.ofString "__getitem__") ht.typeIs PyProof.Rows.slot_tuple_getitem
  (vg PyProof.Rows.slot_tuple_getitem ht.typeIs entry_tuple_getitem ?_ (tK _ _)))
 show vL _ _ (Builtin.Tuple.tupleItemsOf (.ref t) >>= _) _ _ s;refine vA (tupleItemsOf_ ht ?_);refine vA (uL hTs ?_);rw[vM (by decide)];refine vA (q5c hs pl pu ?_);have hno:¬((((sIx items.size 0 lo:Nat):Int)==0&&(1:Int)==1&&(sIx items.size items.size hi-sIx items.size 0 lo)==items.size)=true):=by
  intro q;rw[zV,zV]at q;have q1:((sIx items.size 0 lo:Nat):Int)=0:=eq_of_beq q.1.1;have q2:sIx items.size items.size hi-sIx items.size 0 lo=items.size:=eq_of_beq q.2;exact hw ⟨∅,∅⟩
 show vL _ _ (if (((sIx items.size 0 lo:Nat):Int)==0&&(1:Int)==1&&(sIx items.size items.size hi-sIx items.size 0 lo)==items.size)=true then _ else _) _ _ s;rw[vN hno,qeP]
 first
  | exact vA (m:=Builtin.Tuple.tupleExact _) (ve (vG ⟨_,rfl,vG h⟩) htake)
  | exact vA (m:=Builtin.Tuple.tupleExact _) (ve (vA (vG (vG ⟨_,rfl,vG h⟩))) htake)
  | exact vA (vA (m:=Builtin.Tuple.tupleExact _) (ve (vG (vG ⟨_,rfl,vG h⟩)) htake))
  | exact vA (vA (m:=Builtin.Tuple.tupleExact _) (ve (vG ⟨_,rfl,vG h⟩) htake))
end
end HT
namespace L2
open PySem PySem.Spec PyProof.Rows
abbrev TO:=St->Hp->(Option Int->Hp->Prop)->Prop
def PO(X:Cx)(e:Option vQ)(t:TO):Prop :=
 ∀(pins:List (vC×Obj))(s:vF)(σ:St)(H:Hp)(Q:Option Int->Hp->Prop),Inv X pins σ H s->t σ H Q ->
  vL (model X.prog X.w) X.A (evalPart e X.env) (λu s'=>∃o H',Inv X pins σ H' s'/\ux u o/\Q o H') X.xe s
noncomputable def zAo:TO:=λ_ H Q=>Q none H
noncomputable def tPart(t:TE):TO:=λσ H Q=>t σ H λx H1=>∃i,x=.int i/\Q (some i) H1
theorem q6r{ns:List Int}:∀{us:List vB},YU (ns.map V.int) us->v8 us ns:=by
 induction ns with
 | nil=>intro us r;rw[yA]at r;cases r;exact .nil
 | cons n ns ih=>
  intro us r;rw[zT]at r;cases r with
  | cons r1 r2=>
   obtain⟨t,e⟩:=r1;subst e;exact .cons n t (ih r2)
section
variable{X:Cx}{e:vQ}{te:TE}{lo hi:Option vQ}{tl th:TO}{pos p2:Pos}
theorem qg8:PO X none zAo:=by
 intro pins s σ H Q I h;rw[evalPart_none];exact vG ⟨none,H,I,.none,h⟩
theorem qgH(h:PE X e te):PO X (some e) (tPart te):=by
 intro pins s σ H Q I hw;rw[evalPart_some];refine thn (h pins s σ H _ I hw) λu s1 ⟨x,H1,I1,r1,q1⟩=>?_;obtain⟨i,rfl,q⟩:=q1;obtain⟨t,rfl⟩:=r1;exact⟨some i,H1,I1,.int i t,q⟩
def SlR(X:Cx)(r:V->Option Int->Option Int->Hp->VK->Prop):Prop :=
 ∀(pins:List (vC×Obj))(s:vF)(σ:St)(H:Hp)(x:V)(v vl vu:vB)(lo hi:Option Int)(sl:vC)(Q:VK),Inv X pins σ H s->RelV x v->s.heap.IsSliceOf sl vl vu .none->ux vl lo->ux vu hi->r x lo hi H Q ->
  ∃T id,uX (.type T) "__getitem__" = pure (some (.builtin id))/\s.TypeIs v T/\vL (model X.prog X.w) X.A (ug v (.ref sl)) (EP X pins σ Q) X.xe s
theorem SlR.or{r r':V->Option Int->Option Int->Hp->VK->Prop}(h:SlR X r)(h':SlR X r'):SlR X (λx lo hi H Q=>r x lo hi H Q\/r' x lo hi H Q):=by
 intro pins s σ H x v vl vu lo hi sl Q I rx hs pl pu q;rcases q with q|q
 ·exact h pins s σ H x v vl vu lo hi sl Q I rx hs pl pu q
 ·exact h' pins s σ H x v vl vu lo hi sl Q I rx hs pl pu q
noncomputable def tSl(r:V->Option Int->Option Int->Hp->VK->Prop)(te:TE)(tl th:TO):TE:=λσ H Q=>te σ H λx H1=>tl σ H1 λl H2=>th σ H2 λu H3=>r x l u H3 Q
theorem qeN{r:V->Option Int->Option Int->Hp->VK->Prop}(hr:SlR X r)(he:PE X e te)(hl:PO X lo tl)(hu:PO X hi th):PE X (.Subscript e (.Slice lo hi none p2) pos) (tSl r te tl th):=by
 intro pins s σ H Q I h;refine Subscript_ (thn (he pins s σ H _ I h) λv s1 ⟨x,H1,I1,r1,q1⟩=>?_);refine wpAny_Slice (thn (hl pins s1 σ H1 _ I1 q1) λvl s2 ⟨l,H2,I2,pl,q2⟩=>thn (hu pins s2 σ H2 _ I2 q2) λvu s3 ⟨u,H3,I3,pu,q3⟩=>?_);rw[evalPart_none];refine vG ?_;have I4:Inv X pins σ H3 { s3 with heap:=s3.heap.push { cls:=.type "slice", data:=.fields #[vl,vu,.none] } }:=I3.kept (t':=s3.toks) λb ob q=>zF _ q;obtain⟨T,id,hT,ht,hg⟩:=hr pins { s3 with heap:=s3.heap.push { cls:=.type "slice", data:=.fields #[vl,vu,.none] } } σ H3 x v vl vu l u s3.heap.objs.size Q I4 r1 (Zu ..) pl pu q3;show vL (model X.prog X.w) X.A (tI e (.Slice lo hi none p2) v (.ref s3.heap.objs.size)) (EP X pins σ Q) X.xe { s3 with heap:=s3.heap.push { cls:=.type "slice", data:=.fields #[vl,vu,.none] } };exact tail_any (ops:=[.ref s3.heap.objs.size,v]) ht hT hg (by with_unfolding_all rfl)
noncomputable def Wf(xs:List V)(lo hi:Option Int):List V:=(xs.drop (HT.sIx xs.length 0 lo)).take (HT.sIx xs.length xs.length hi-HT.sIx xs.length 0 lo)
theorem q7O(xs:List V)(lo hi:Option Int):(Wf xs lo hi).length<=xs.length:=by
 unfold Wf;rw[zy,yZ];omega
def rSlT(K:zB):V->Option Int->Option Int->Hp->VK->Prop:=λx lo hi H Q=>∃a xs,x=.ref a/\SqT K H a xs /\
 ¬(HT.sIx xs.length 0 lo=0/\HT.sIx xs.length xs.length hi=xs.length)/\∀p,H p=none->Q (.ref p) (upd H p (.tup (Wf xs lo hi)))
theorem qhA:SlR X (rSlT X.K):=by
 intro pins s σ H x v vl vu lo hi sl Q I rx hs pl pu h;obtain⟨a,xs,rfl,hx,hw,q⟩:=h;cases rx;obtain⟨its,r,ht,hz⟩:=I.tuple hx;have hlen:its.toArray.size=xs.length:=by rw[zO];exact r.length.symm
 refine⟨"tuple", _,PyProof.Rows.slot_tuple_getitem.lookup,ht.typeIs,?_⟩;refine HT.q7L ht hs pl pu (by rw[hlen];exact hw) ?_ (by rw[hlen];exact hz);rw[hlen];refine⟨.ref s.heap.objs.size,_,I.laid (t':=s.toks) (o:=.tup (Wf xs lo hi)) (λb ob q=>zF _ q) (zQ _) ?_,rfl,q _ (I.hok.fresh (zQ _))⟩;exact⟨zm (q7O xs lo hi) hz,_,(r.drop (HT.sIx xs.length 0 lo)).take (HT.sIx xs.length xs.length hi-HT.sIx xs.length 0 lo),IsTup.new _ _⟩
noncomputable def rCatT(K:zB):R2:=λx y H Q=>∃a b xs ys,x=.ref a/\y=.ref b/\SqT K H a xs/\SqT K H b ys/\xs≠[]/\xs.length+ys.length<=sizeLine /\
 (ys=[]->Q (.ref a) H)/\(ys≠[]->∀p,H p=none->Q (.ref p) (upd H p (.tup (xs++ys))))
theorem YU.nil_iff{xs:List V}{us:List vB}(r:YU xs us):us=[]↔xs=[]:=by
 cases r with
 | nil=>simp
 | cons _ _=>simp
theorem qgg:OpR X (uF .Add) (rCatT X.K):=by
 intro pins s σ H x y v u Q I rx ry h;obtain⟨a,b,xs,ys,rfl,rfl,ha,hb,hx,hz,q1,q2⟩:=h;cases rx;cases ry;obtain⟨its,r1,p1,_⟩:=I.tuple ha;obtain⟨its2,r2,p2,_⟩:=I.tuple hb;refine HT.qfN p1 p2 (λz=>hx (r1.nil_iff.mp z)) (λz=>⟨.ref a,H,I,rfl,q1 (r2.nil_iff.mp z)⟩) (λz=>?_) (by rw[<- r1.length,<- r2.length];exact hz);refine⟨.ref s.heap.objs.size,_,I.laid (t':=s.toks) (o:=.tup (xs++ys)) (λb ob q=>zF _ q) (zQ _) ?_,rfl,q2 (λw=>z (r2.nil_iff.mpr w)) _ (I.hok.fresh (zQ _))⟩;exact⟨by rw[zC];exact hz,_,r1.append r2,IsTup.new _ _⟩
end
noncomputable def ixN(n:Nat)(i:Int):Option Nat:=if 0<=i then (if i<n then some i.toNat else none)else if -(n:Int)<=i then some (i+n).toNat else none
noncomputable def atI{α:Type}(xs:List α)(i:Int):Option α:=(ixN xs.length i).bind λj=>xs[j]?
theorem qgb{n:Nat}{i:Int}{j:Nat}(h:ixN n i=some j):seqIndex? i n=some j/\j<n/\-(n:Int)<=i/\i<n:=by
 unfold ixN at h
 by_cases h0:0<=i
 ·rw[vM h0]at h
  by_cases h1:i<n
  ·rw[vM h1]at h
   have e:i.toNat=j:=zo h;exact⟨by rw[seqIndex_of h0 h1,e],∅,∅,h1⟩
  ·rw[vN h1]at h;cases h
 ·rw[vN h0]at h
  by_cases h1:-(n:Int)<=i
  ·rw[vM h1]at h
   have e:(i+n).toNat=j:=zo h;exact⟨by rw[seqIndex_neg ∅ h1,e],∅,h1,∅⟩
  ·rw[vN h1]at h;cases h
theorem q9w{α:Type}{xs:List α}{i:Int}{v:α}(h:atI xs i=some v):∃j,seqIndex? i xs.length=some j/\xs[j]?=some v/\j<xs.length/\-(xs.length:Int)<=i/\i<xs.length:=by
 unfold atI at h;cases e:ixN xs.length i with
 | none=>rw[e]at h;cases h
 | some j=>
  rw[e]at h;obtain⟨h1,h2,h3,h4⟩:=qgb e;exact⟨j,h1,h,h2,h3,h4⟩
def X4(b:vQ):Prop:=∀o i,subscripted b false o i=operate [o,i] (ug o i)
def IxR(X:Cx)(r:R2):Prop :=
 ∀(value slice:vQ)(pins:List (vC×Obj))(s:vF)(σ:St)(H:Hp)(x y:V)(v u:vB)(Q:VK),Inv X pins σ H s->RelV x v->RelV y u->r x y H Q ->
  subscripted slice false v u=operate [v,u] (ug v u)->vL (model X.prog X.w) X.A (tI value slice v u) (EP X pins σ Q) X.xe s
def MtR(X:Cx)(id:String)(r:V->List V->Hp->VK->Prop):Prop :=
 ∀(pins:List (vC×Obj))(s:vF)(σ:St)(H:Hp)(x:V)(xs:List V)(v:vB)(us:List vB)(Q:VK),Inv X pins σ H s->RelV x v->YU xs us->r x xs H Q ->
  vL (model X.prog X.w) X.A (call (.builtin id) (v::us)) (EP X pins σ Q) X.xe s
section
variable{X:Cx}{a b:vQ}{ta tb:TE}{pos:Pos}
theorem IxR.or{r r':R2}(h:IxR X r)(h':IxR X r'):IxR X (λx y H Q=>r x y H Q\/r' x y H Q):=by
 intro value slice pins s σ H x y v u Q I rx ry q hs;rcases q with q|q
 ·exact h value slice pins s σ H x y v u Q I rx ry q hs
 ·exact h' value slice pins s σ H x y v u Q I rx ry q hs
theorem qhW{r:R2}(hr:IxR X r)(ha:PE X a ta)(hb:PE X b tb)(hs:X4 b):PE X (.Subscript a b pos) (tOp r ta tb):=by
 intro pins s σ H Q I h;exact Subscript_ (binT ha hb I h λv u s2 x y H2 I2 rx ry q=>hr a b pins s2 σ H2 x y v u Q I2 rx ry q (hs _ _))
noncomputable def rIxL(K:zB):R2:=λx y H Q=>∃p xs i v,x=.ref p/\y=.int i/\SqL K H p xs/\atI xs i=some v/\Q v H
noncomputable def rIxT(K:zB):R2:=λx y H Q=>∃p xs i v,x=.ref p/\y=.int i/\SqT K H p xs/\atI xs i=some v/\Q v H
noncomputable def rIxS:R2:=λx y H Q=>∃z i c,x=.str z/\y=.int i/\z.length<=sizeLine/\atI z.cps.toList i=some c/\Q (.str ⟨#[c]⟩) H
theorem qgE:IxR X (rIxL X.K):=by
 intro value slice pins s σ H x y v u Q I rx ry h hs;obtain⟨p,xs,i,z,rfl,rfl,hq,he,q⟩:=h;cases rx;obtain⟨t,rfl⟩:=ry;obtain⟨its,r,pl,hz⟩:=I.list hq;obtain⟨j,h1,h2,h3,h4,h5⟩:=q9w he;obtain⟨w,ew,rw'⟩:=r.get h2;have hl:=r.length;have hn:=Xx;have fin:EP X pins σ Q w s:=⟨z,H,I,rw',q⟩
 by_cases h0:0<=i
 ·have hj:i.toNat=j:=by
   rw[seqIndex_of h0 h5]at h1;exact zo h1
  exact item_listR pl.isList h0 ∅ (by rw[hj];simpa using ew) fin hs
 ·have hj:(i+(its.toArray.size:Int)).toNat=j:=by
   rw[seqIndex_neg ∅ h4]at h1;rw[zO,<- hl];exact zo h1
  exact uy (x:=w) pl.isList.typeIs slot_list_getitem.lookup
   (wpAny_getItem_list_neg (Q:=λr s'=>r=w/\EP X pins σ Q r s') pl.isList ∅ (by rw[zO] <;> omega) ∅ (by rw[hj];simpa using ew) ⟨rfl,fin⟩) hs
theorem qh1:IxR X (rIxT X.K):=by
 intro value slice pins s σ H x y v u Q I rx ry h hs;obtain⟨p,xs,i,z,rfl,rfl,hq,he,q⟩:=h;cases rx;obtain⟨t,rfl⟩:=ry;obtain⟨its,r,pl,hz⟩:=I.tuple hq;obtain⟨j,h1,h2,h3,h4,h5⟩:=q9w he;obtain⟨w,ew,rw'⟩:=r.get h2;have hl:=r.length;have hn:=Xx;have fin:EP X pins σ Q w s:=⟨z,H,I,rw',q⟩;exact uy (x:=w) pl.typeIs slot_tuple_getitem.lookup
  (getItem_tuple (j:=j) (Q:=λr s'=>r=w/\EP X pins σ Q r s') pl ∅ ∅ (by rw[zO,<- hl];exact h1) ⇑ew ⟨rfl,fin⟩) hs
theorem qhR:IxR X rIxS:=by
 intro value slice pins s σ H x y v u Q I rx ry h hs;obtain⟨z,i,c,rfl,rfl,hz,he,q⟩:=h;obtain⟨t,rfl⟩:=rx;obtain⟨t',rfl⟩:=ry;obtain⟨j,h1,h2,h3,h4,h5⟩:=q9w he;have hl:z.cps.toList.length=z.length:=by simp[Str.length]
 rw[hl]at h1 h4 h5;have hn:=Xx;exact tail_any (typeIs_str s z t) slot_str_getitem.lookup (getItem_str (c:=c) (by
  have e1:decide (i < -(2^63:Int))=false:=vT ∅;have e2:decide (i>=2^63)=false:=vT ∅;rw[e1,e2,yg]) (by rw[h1];simpa using h2) ⟨.str ⟨#[c]⟩,H,I.tok _,⟨_,rfl⟩,q⟩) hs
noncomputable def rIx(K:zB):R2:=λx y H Q=>rIxL K x y H Q\/rIxT K x y H Q\/rIxS x y H Q
theorem qgL:IxR X (rIx X.K):=qgE.or (qh1.or qhR)
theorem Inv.lst{pins:List (vC×Obj)}{σ:St}{H:Hp}{s:vF}{p:vC}{xs:List V}(I:Inv X pins σ H s)(h:H p=some (.lst xs)):
  ∃(its:List vB) (n:Nat),YU xs its/\s.heap.get? p=some { cls:=.type "list", data:=.seq its.toArray n }/\xs.length<=sizeLine:=by
 obtain⟨z,its,n,r,e⟩:=I.hok p _ h;exact⟨its,n,r,e,z⟩
theorem qb7(lo hi:Option Int)(n:Nat):(uR lo hi none n).1=((HT.sIx n 0 lo:Nat):Int)/\(uR lo hi none n).2.1=((HT.sIx n n hi:Nat):Int)/\(uR lo hi none n).2.2=1:=by
 refine⟨?_,?_,rfl⟩
 ·cases lo with
  | none=>simp[uR,HT.sIx]
  | some i=>
   simp only[uR,HT.sIx,Zh,show (1:Int)>0 by decide,if_true]
   by_cases h:i<0
   ·simp only[h,if_true] <;> omega
   ·simp only[h,if_false] <;> omega
 ·cases hi with
  | none=>simp[uR,HT.sIx]
  | some i=>
   simp only[uR,HT.sIx,Zh,show (1:Int)>0 by decide,if_true]
   by_cases h:i<0
   ·simp only[h,if_true] <;> omega
   ·simp only[h,if_false] <;> omega
theorem qao(its:List vB)(lo hi:Option Int):slicePick its.toArray lo hi none=((its.drop (HT.sIx its.length 0 lo)).take (HT.sIx its.length its.length hi-HT.sIx its.length 0 lo)).toArray:=by
 obtain⟨h1,h2,h3⟩:=qb7 lo hi its.toArray.size;unfold slicePick;rw[h1,h2,h3];simp only[sliceRange_one,pick_run,zO] <;> rfl
def rSlL(K:zB):V->Option Int->Option Int->Hp->VK->Prop:=λx lo hi H Q=>∃a xs,x=.ref a/\SqL K H a xs/\∀p,H p=none->Q (.ref p) (upd H p (.lst (Wf xs lo hi)))
theorem qg6:SlR X (rSlL X.K):=by
 intro pins s σ H x v vl vu lo hi sl Q I rx hs pl pu h;obtain⟨a,xs,rfl,hx,q⟩:=h;cases rx;obtain⟨its,r,ht,hz⟩:=I.list hx;have hlen:=r.length;refine⟨"list", _,slot_list_getitem.lookup,ht.isList.typeIs,?_⟩;refine wpAny_getItem_list_slice ht.isList hs pl pu .none (by simp) ?_ (by rw[zO] <;> omega);rw[qao,<- hlen];refine⟨.ref s.heap.objs.size,_,I.laid (t':=s.toks) (o:=.lst (Wf xs lo hi)) (λb ob q=>zF _ q) (zQ _) ?_,rfl,q _ (I.hok.fresh (zQ _))⟩;exact⟨zm (q7O xs lo hi) hz,_,0,(r.drop (HT.sIx xs.length 0 lo)).take (HT.sIx xs.length xs.length hi-HT.sIx xs.length 0 lo),zR _ rfl⟩
noncomputable def XX:V->Bool
 | .non=>true
 | .bl _=>true
 | .int _=>true
 | .str _=>true
 | _=>false
noncomputable def eqV:V->V->Bool
 | .non,.non=>true
 | .bl a,.bl b=>a==b
 | .bl a,.int b=>(if a then 1 else 0)==b
 | .int a,.bl b=>a==(if b then 1 else 0)
 | .int a,.int b=>a==b
 | .str a,.str b=>a==b
 | _,_=>false
theorem qhh{A:vY}{s:vF}{y x:V}{u v:vB}(ry:RelV y u)(rx:RelV x v)(fy:XX y=true)(fx:XX x=true):SeqAt.EqAt A s u v (eqV y x):=by
 cases y with
 | non=>
  cases ry;cases x with
  | non=>cases rx;exact SeqAt.EqAt.same _
  | bl b=>cases rx;exact SeqAt.EqAt.none_bool b
  | int b=>obtain⟨t,rfl⟩:=rx;exact SeqAt.EqAt.none_int b t
  | str b=>obtain⟨t,rfl⟩:=rx;exact SeqAt.EqAt.none_str b t
  | _=>exact vK (show false=true from fx) yE
 | bl a=>
  cases ry;cases x with
  | non=>cases rx;exact SeqAt.EqAt.bool_none a
  | bl b=>cases rx;exact SeqAt.EqAt.bool_bool a b
  | int b=>obtain⟨t,rfl⟩:=rx;exact SeqAt.EqAt.bool_int a b t
  | str b=>obtain⟨t,rfl⟩:=rx;exact SeqAt.EqAt.bool_str a b t
  | _=>exact vK (show false=true from fx) yE
 | int a=>
  obtain⟨t',rfl⟩:=ry;cases x with
  | non=>cases rx;exact SeqAt.EqAt.int_none a t'
  | bl b=>cases rx;exact SeqAt.EqAt.int_bool a t' b
  | int b=>obtain⟨t,rfl⟩:=rx;exact SeqAt.EqAt.int_int a t' b t
  | str b=>obtain⟨t,rfl⟩:=rx;exact SeqAt.EqAt.int_str a t' b t
  | _=>exact vK (show false=true from fx) yE
 | str a=>
  obtain⟨t',rfl⟩:=ry;cases x with
  | non=>cases rx;exact SeqAt.EqAt.str_none a t'
  | bl b=>cases rx;exact SeqAt.EqAt.str_bool a t' b
  | int b=>obtain⟨t,rfl⟩:=rx;exact SeqAt.EqAt.str_int a t' b t
  | str b=>obtain⟨t,rfl⟩:=rx;exact SeqAt.EqAt.str_str a t' b t
  | _=>exact vK (show false=true from fx) yE
 | _=>exact vK (show false=true from fy) yE
noncomputable def eqU(x:V)(u:vB):Bool:=match u with
 | .none=>eqV .non x
 | .bool b=>eqV (.bl b) x
 | .int i _=>eqV (.int i) x
 | .str z _=>eqV (.str z) x
 | _=>false
theorem qeq{x y:V}{u:vB}(r:RelV y u)(f:XX y=true):eqU x u=eqV y x:=by
 cases y with
 | non=>cases r;rfl
 | bl b=>cases r;rfl
 | int i=>obtain⟨t,rfl⟩:=r;rfl
 | str z=>obtain⟨t,rfl⟩:=r;rfl
 | _=>exact vK (show false=true from f) yE
theorem q5Z{x:V}:∀{xs:List V}{us:List vB},YU xs us->xs.all XX=true->us.any (eqU x)=xs.any λy=>eqV y x
 | _,_,.nil,_=>rfl
 | y::xs,u::us,.cons r t,f=>by
  rw[yh,zV]at f;rw[xt,xt,qeq r f.1,q5Z t f.2]
theorem q5s{A:vY}{s:vF}{x:V}{v:vB}(rx:RelV x v)(fx:XX x=true):∀{xs:List V}{us:List vB},YU xs us->xs.all XX=true->∀u∈us,SeqAt.EqAt A s u v (eqU x u)
 | _,_,.nil,_=>λu hu=>by cases hu
 | y::xs,u::us,.cons r t,f=>λu' hu=>by
  rw[yh,zV]at f;rcases zE.mp hu with rfl|hu
  ·rw[qeq r f.1];exact qhh r rx f.1 fx
  ·exact q5s rx fx t f.2 u' hu
noncomputable def inV(x:V)(xs:List V):Bool:=xs.any λy=>eqV y x
noncomputable def rIn(K:zB)(neg:Bool):R2:=λx y H Q=>∃p xs,y=.ref p/\(SqL K H p xs\/SqT K H p xs)/\XX x=true/\xs.all XX=true/\Q (.bl (if neg then !inV x xs else inV x xs)) H
theorem qdT:OpR X (vz .In) (rIn X.K false):=by
 intro pins s σ H x y v u Q I rx ry h;obtain⟨p,xs,rfl,hq,fx,fs,q⟩:=h;cases ry;rcases hq with hq|hq
 ·obtain⟨its,r,pl,hz⟩:=I.list hq
  refine SeqAt.in_listAt (eqU x) pl.isList (λw hw=>q5s rx fx r fs w ⇑hw) ⟨.bl _,H,I,rfl,?_⟩;rw[show its.toArray.any (eqU x)=its.any (eqU x) by simp,q5Z r fs];exact q
 ·obtain⟨its,r,pl,hz⟩:=I.tuple hq
  refine SeqAt.in_tupleAt (eqU x) pl (λw hw=>q5s rx fx r fs w ⇑hw) ⟨.bl _,H,I,rfl,?_⟩;rw[show its.toArray.any (eqU x)=its.any (eqU x) by simp,q5Z r fs];exact q
theorem qbo:OpR X (vz .NotIn) (rIn X.K true):=by
 intro pins s σ H x y v u Q I rx ry h;obtain⟨p,xs,rfl,hq,fx,fs,q⟩:=h;cases ry;rcases hq with hq|hq
 ·obtain⟨its,r,pl,hz⟩:=I.list hq
  refine SeqAt.notIn_listAt (eqU x) pl.isList (λw hw=>q5s rx fx r fs w ⇑hw) ⟨.bl _,H,I,rfl,?_⟩;rw[show its.toArray.any (eqU x)=its.any (eqU x) by simp,q5Z r fs];exact q
 ·obtain⟨its,r,pl,hz⟩:=I.tuple hq
  refine SeqAt.notIn_tupleAt (eqU x) pl (λw hw=>q5s rx fx r fs w ⇑hw) ⟨.bl _,H,I,rfl,?_⟩;rw[show its.toArray.any (eqU x)=its.any (eqU x) by simp,q5Z r fs];exact q
theorem qw:Yy X (.builtin "len") (λxs H Q=>∃p ys,xs=[.ref p]/\(SqL X.K H p ys\/SqT X.K H p ys)/\Q (.int ys.length) H):=by
 intro pins s σ H xs us Q I r h;obtain⟨p,ys,rfl,hq,q⟩:=h;obtain⟨u,rfl,rx⟩:=vals1 r;cases rx;have hn:=Xx;rcases hq with hq|hq
 ·obtain⟨its,r',pl,hz⟩:=I.list hq
  have hlen:=r'.length;exact Calls.call_len_list pl.isList (by simp only[zO] <;> omega) ⟨.int ys.length,H,I.tok _,⟨s.toks+1,by rw[zO,hlen]⟩,q⟩
 ·obtain⟨its,r',pl,hz⟩:=I.tuple hq
  have hlen:=r'.length;exact len_tuple pl (by simp only[zO] <;> omega) ⟨.int ys.length,H,I.tok _,⟨s.toks+1,by rw[zO,hlen]⟩,q⟩
theorem q1T:Yy X (.type "list") (λxs H Q=>∃p ys,xs=[.ref p]/\(SqL X.K H p ys\/SqT X.K H p ys)/\∀l,H l=none->Q (.ref l) (upd H l (.lst ys))):=by
 intro pins s σ H xs us Q I r h;obtain⟨p,ys,rfl,hq,q⟩:=h;obtain⟨u,rfl,rx⟩:=vals1 r;cases rx;have fin:∀(its:List vB),YU ys its->ys.length<=sizeLine->∀(h':vX)(c':Nat),(∀b o',s.heap.get? b=some o'->h'.get? b=some o') ->
   h'.get? s.heap.objs.size=some { cls:=.type "list", dict:=none,data:=.seq its.toArray c',slots:=#[] }->EP X pins σ Q (.ref s.heap.objs.size) { s with heap:=h' }:=λits r' hz h' c' kp e=>
  ⟨.ref s.heap.objs.size,_,I.laid (t':=s.toks) kp (zQ _) (show YQ X.prog X.w _ h' _ (.lst ys)from ⟨hz,its,c',r',e⟩),rfl,q _ (I.hok.fresh (zQ _))⟩
 rcases hq with hq|hq
 ·obtain⟨its,r',pl,hz⟩:=I.list hq
  have hlen:=r'.length;obtain⟨o,ho,hc,n,hd⟩:=pl.isList;exact call_list_seq p (.inl rfl) ho hc hd (λh' c' kp e=>fin its r' hz h' c' kp e) (by simp only[zO] <;> omega)
 ·obtain⟨its,r',pl,hz⟩:=I.tuple hq
  have hlen:=r'.length;obtain⟨o,ho,hc,n,hd⟩:=pl;exact call_list_seq p (.inr rfl) ho hc hd (λh' c' kp e=>fin its r' hz h' c' kp e) (by simp only[zO] <;> omega)
theorem q01:Yy X (.type "tuple") (λxs H Q=>∃p ys,xs=[.ref p]/\((SqL X.K H p ys/\∀l,H l=none->Q (.ref l) (upd H l (.tup ys)))\/(SqT X.K H p ys/\Q (.ref p) H))):=by
 intro pins s σ H xs us Q I r h;obtain⟨p,ys,rfl,h⟩:=h;obtain⟨u,rfl,rx⟩:=vals1 r;cases rx;rcases h with⟨hq,q⟩|⟨hq,q⟩
 ·obtain⟨its,r',pl,hz⟩:=I.list hq
  have hlen:=r'.length;refine call_tuple_list pl.isList (λh' kp=>?_) (by simp only[zO] <;> omega);have I1:Inv X pins σ H { s with heap:=h' }:=I.kept (t':=s.toks) kp;have I2:Inv X pins σ (upd H h'.objs.size (.tup ys)) { s with heap:=h'.push { cls:=.type "tuple", data:=.seq its.toArray } } :=
   I1.laid (t':=s.toks) (λb o e=>zF _ e) (zQ _) (show YQ X.prog X.w _ _ _ (.tup ys)from ⟨hz,its,r',IsTup.new _ _⟩)
  exact⟨.ref h'.objs.size,_,I2,rfl,q _ (I1.hok.fresh (zQ _))⟩
 ·obtain⟨its,r',pl,hz⟩:=I.tuple hq
  exact call_tuple_same pl ⟨.ref p,H,I,rfl,q⟩
def tyV(K:zB)(T:String)(x:V)(H:Hp):Prop:=match x with
 | .str _=>T = "str"
 | .int _=>T = "int"
 | .ref p=>(T = "list" /\ ∃xs,SqL K H p xs)\/(T = "tuple" /\ ∃o,K.lookup p=some o/\o.cls=.type "tuple" /\ o.dict=none) \/
   (T = "dict" /\ ((∃kvs,H p=some (.dK kvs))\/∃kvs,H p=some (.dT kvs)))\/(T = "set" /\ ∃S n,H p=some (.set S n))
 | _=>False
theorem qdK{pins:List (vC×Obj)}{σ:St}{H:Hp}{s:vF}{T:String}{x:V}{v:vB}(I:Inv X pins σ H s)(r:RelV x v)(ty:tyV X.K T x H):
  s.TypeIs v T/\∀a,v=.ref a->∃ob,s.heap.get? a=some ob/\ob.dict=none:=by
 cases x with
 | str z=>
  obtain⟨t,rfl⟩:=r;cases (show T = "str" from ty);exact⟨typeIs_str s z t,λ_ e=>nomatch e⟩
 | int i=>
  obtain⟨t,rfl⟩:=r;cases (show T = "int" from ty);exact⟨typeIs_int s i t,λ_ e=>nomatch e⟩
 | ref p=>
  cases r;rcases ty with⟨rfl,xs,hq⟩|⟨rfl,o,hk,hc,hd⟩|⟨rfl,hk⟩|⟨rfl,S,n,hk⟩
  ·obtain⟨its,_,pl,_⟩:=I.list hq
   refine⟨pl.isList.typeIs,λa e=>?_⟩;cases e;obtain⟨o,n,e,c,hd,_⟩:=pl;exact⟨o,e,hd⟩
  ·refine⟨⟨o,I.kIn p o hk,hc⟩,λa e=>?_⟩
   cases e;exact⟨o,I.kIn _ o hk,hd⟩
  ·have z:∃o,s.heap.get? p=some o/\o.ExactDict:=by
    rcases hk with⟨kvs,hk⟩|⟨kvs,hk⟩
    ·obtain⟨_,_,_,_,o,_,_,e,ex,_⟩:=I.hok p _ hk
     exact⟨o,e,ex⟩
    ·obtain⟨_,_,_,_,o,_,_,e,ex,_⟩:=I.hok p _ hk
     exact⟨o,e,ex⟩
   obtain⟨o,e,ex⟩:=z;refine⟨⟨o,e,ex.1⟩,λa e2=>?_⟩;cases e2;exact⟨o,e,ex.2.1⟩
  ·obtain⟨o,_,_,_,e,ex,_⟩:=I.hok p _ hk
   refine⟨⟨o,e,ex.1⟩,λa e2=>?_⟩;cases e2;exact⟨o,e,ex.2.1⟩
 | _=>exact False.elim ty
noncomputable def tBM0(K:zB)(T:String)(r:V->List V->Hp->VK->Prop)(to:TE):TE:=λσ H Q=>to σ H λx H1=>tyV K T x H1/\r x [] H1 Q
noncomputable def tBM(K:zB)(T:String)(r:V->List V->Hp->VK->Prop)(to:TE)(t:TA):TE:=λσ H Q=>to σ H λx H1=>tyV K T x H1/\t σ H1 λxs H2=>r x xs H2 Q
variable{o e:vQ}{es:List vQ}{to:TE}{t:TA}{name:Str}{apos cpos:Pos}{T id:String}{r:V->List V->Hp->VK->Prop}
theorem qhm(pa:PlainAttrs T)(slot:Slot T name id)(hty:typeOf (.builtin id)=pure (.type "method_descriptor"))(hm:MtR X id r)(ho:PE X o to)(hbase:uO o name X.env (eval o X.env)=eval o X.env:=by rfl)(hline:(apos.endLine==cpos.line)=true:=by rfl):PE X (.Call (.Attribute o name apos) [] [] cpos) (tBM0 X.K T r to):=by
 intro pins s σ H Q I h;refine wpAny_Call_method0_late hbase hline (thn (ho pins s σ H _ I h) λv s1 ⟨x,H1,I1,r1,ty,q1⟩=>?_);obtain⟨h1,h2⟩:=qdK I1 r1 ty;exact⟨T,id,pa,slot,hty,h1,h2,Calls.callWith_builtin rfl (PySem.evalArgs_none (hm pins s1 σ H1 x [] v [] Q I1 r1 .nil q1))⟩
theorem qaw(pa:PlainAttrs T)(slot:Slot T name id)(hty:typeOf (.builtin id)=pure (.type "method_descriptor"))(hm:MtR X id r)(ho:PE X o to)(ha:PA X (e::es) t)(hbase:uO o name X.env (eval o X.env)=eval o X.env:=by rfl)(hfew:((vk cpos (vJ (e::es) X.env)).all (λx=>!x.1)&&(tQ cpos (uq [] X.env)).all (λx=>x.1.isSome)
   && decide ((e::es).length+([]:List ua).length+(if ([]:List ua).isEmpty then 0 else 1)<30))=true:=by rfl)
  (hline:(apos.endLine==cpos.line)=true:=by rfl) (hs:vJ (e::es) X.env=(false,eval e X.env)::vJ es X.env:=by rfl) (hplain:(vk cpos (vJ es X.env)).any (·.1)=false:=by rfl) :
  PE X (.Call (.Attribute o name apos) (e::es) [] cpos) (tBM X.K T r to t):=by
 intro pins s σ H Q I h;refine wpAny_Call_method_late hbase hfew hline rfl (thn (ho pins s σ H _ I h) λv s1 ⟨x,H1,I1,r1,ty,q1⟩=>?_);obtain⟨h1,h2⟩:=qdK I1 r1 ty;refine⟨T,id,pa,slot,hty,h1,h2,?_⟩;have hA:=ha cpos pins s1 σ H1 _ I1 q1;rw[hs]at hA ⊢;refine Calls.callWith_builtin (by show (false || (vk cpos (vJ es X.env)).any (·.1))=false;rw[hplain] <;> rfl) (Calls.evalArgs_plain ?_);exact thn hA λus s2 ⟨vs,H2,I2,r2,q2⟩=>hm pins s2 σ H2 x vs v us Q I2 r1 r2 q2
end
def MtM(X:Cx)(id:String)(r:V->List V->Hp->VK->Prop):Prop :=
 ∀(pins:List (vC×Obj))(s:vF)(σ:St)(H:Hp)(x:V)(xs:List V)(v:vB)(us:List vB)(Q:VK),Inv X pins σ H s->RelV x v->YU xs us->r x xs H Q ->
  vL (model X.prog X.w) X.A (call (.builtin id) (v::us)) (EP X pins σ Q) X.xe s
theorem YU.one:∀{x:V}{us:List vB},YU [x] us->∃u,us=[u]/\RelV x u
 | _,_,.cons r .nil=>⟨_,rfl,r⟩
theorem YU.zero:∀{us:List vB},YU [] us->us=[]
 | _,.nil=>rfl
theorem YU.dropLast{xs:List V}{us:List vB}(h:YU xs us):YU xs.dropLast us.dropLast:=by
 induction h with
 | nil=>exact .nil
 | cons r t ih=>
  cases t with
  | nil=>exact .nil
  | cons q t'=>exact .cons r ih
theorem YU.reverse{xs:List V}{us:List vB}(h:YU xs us):YU xs.reverse us.reverse:=by
 induction h with
 | nil=>exact .nil
 | cons r t ih=>rw[xk,xk];exact YU.append ih (.cons r .nil)
theorem qcW{α:Type}(l:List α):l.eraseIdx (l.length-1)=l.dropLast:=by
 induction l with
 | nil=>rfl
 | cons a r ih=>
  cases r with
  | nil=>rfl
  | cons b r=>
   have e:(a::b::r).length-1=((b::r).length-1)+1:=by
    have h1:(a::b::r).length=r.length+2:=rfl;have h2:(b::r).length=r.length+1:=rfl;omega
   rw[e,List.eraseIdx_cons_succ,ih]
   all_goals rfl
section
variable{X:Cx}{pins:List (vC×Obj)}{σ:St}{H:Hp}{s:vF}{l b:vC}{xs ys zs:List V}
theorem Inv.lset{its its':List vB}{n:Nat}{f:Array vB->Array vB}{t':Nat}(I:Inv X pins σ H s)(hH:H l=some (.lst xs))(e:s.heap.get? l=some { cls:=.type "list", data:=.seq its.toArray n })(hf:f its.toArray=its'.toArray)(hv:YU ys its')(hz:ys.length<=sizeLine):
  Inv X pins σ (upd H l (.lst ys)) { s with heap:=s.heap.update l (Obj.mapSeq f),toks:=t' }:=by
 have q:=PySem.IsL.update e f;rw[hf]at q;refine I.write (x:=l) (e:=l) (by rw[hH];exact trivial) (.inl rfl) (λb' u hb hu=>(yB s.heap (Obj.mapSeq f) (Ne.symm hb)).trans hu) ⟨_,q⟩ ?_;exact⟨hz,its',_,hv,q⟩
theorem Inv.lnew{its:List vB}{t':Nat}(I:Inv X pins σ H s)(hv:YU ys its)(hz:ys.length<=sizeLine):
  Inv X pins σ (upd H s.heap.objs.size (.lst ys)) { s with heap:=s.heap.push { cls:=.type "list", data:=.seq its.toArray },toks:=t' } :=
 I.laid (λ_ _ q=>zF _ q) (zQ _) ⟨hz,its,0,hv,zR _ rfl⟩
theorem Inv.fresh(I:Inv X pins σ H s):H s.heap.objs.size=none:=I.hok.fresh (zQ _)
theorem Inv.lstM(I:Inv X pins σ H s)(hH:H l=some (.lst xs)):xs.length<=sizeLine/\∃(its:List vB) (n:Nat),YU xs its/\xs.length=its.length/\s.heap.get? l=some { cls:=.type "list", data:=.seq its.toArray n }:=by
 obtain⟨z,its,n,r,e⟩:=I.hok l _ hH;exact⟨z,its,n,r,r.length,e⟩
theorem WB{n:Nat}(h:n<=sizeLine):Builtin.List.listTooLong n=false:=by
 unfold Builtin.List.listTooLong;exact vT ∅
end
section
variable{X:Cx}
def WV:V->List V->Hp->VK->Prop:=λx vs H Q=>∃l xs y,x=.ref l/\vs=[y]/\H l=some (.lst xs)/\xs.length<sizeLine/\Q .non (upd H l (.lst (xs++[y])))
theorem q5H:MtM X "list.append" WV:=by
 intro pins s σ H x vs v us Q I rx rv h;obtain⟨l,xs,y,rfl,rfl,hH,hz,q⟩:=h;cases rx;obtain⟨u,rfl,ru⟩:=rv.one;obtain⟨z,its,n,r,hl,e⟩:=I.lstM hH;refine tL F.slot_list_append ⟨_,e,rfl⟩ F.entry_list_append (F.args_list_append_2 _ _) (PySem.list_append l its.toArray n u (by rw[zO];omega)) ⟨e,?_⟩;refine⟨.non,_,I.lset (its':=its++[u]) hH e (by simp) (r.append (.cons ru .nil)) ?_,rfl,q⟩;rw[zC,zH];omega
def WW:V->List V->Hp->VK->Prop:=λx vs H Q=>∃l b xs zs,x=.ref l/\vs=[.ref b]/\H l=some (.lst xs)/\H b=some (.lst zs)/\xs.length+zs.length<=sizeLine/\Q .non (upd H l (.lst (xs++zs)))
theorem qdZ:MtM X "list.extend" WW:=by
 intro pins s σ H x vs v us Q I rx rv h;obtain⟨l,b,xs,zs,rfl,rfl,hH,hB,hz,q⟩:=h;cases rx;obtain⟨u,rfl,ru⟩:=rv.one;cases ru;obtain⟨z,its,n,r,hl,e⟩:=I.lstM hH;obtain⟨z2,its2,n2,r2,hl2,e2⟩:=I.lstM hB;have hsz:its.toArray.size+its2.toArray.size<=sizeLine:=by rw[zO,zO];omega
 have hlong:¬(!its.toArray.isEmpty&&Builtin.List.listTooLong (its.toArray.size+its2.toArray.size))=true:=by
  rw[WB hsz,yI];exact yE
 refine tL F.slot_list_extend ⟨_,e,rfl⟩ F.entry_list_extend (F.args_list_extend_2 _ _)
  (AutoSeq1.list_extend_list_list_0 l its.toArray n b its2.toArray n2 hlong (by rw[zO];omega) ∅) ⟨e,e2,?_⟩
 refine⟨.non,_,I.lset (its':=its++its2) hH e (by simp) (r.append r2) ?_,rfl,q⟩;rw[zC];omega
def rPop:V->List V->Hp->VK->Prop:=λx vs H Q=>∃l xs y,x=.ref l/\vs=[]/\H l=some (.lst xs)/\xs[xs.length-1]?=some y/\Q y (upd H l (.lst xs.dropLast))
theorem qgU:MtM X "list.pop" rPop:=by
 intro pins s σ H x vs v us Q I rx rv h;obtain⟨l,xs,y,rfl,rfl,hH,hy,q⟩:=h;cases rx;have hus:=rv.zero;subst hus;obtain⟨z,its,n,r,hl,e⟩:=I.lstM hH;obtain⟨u,hu,ru⟩:=r.get hy;have hy':its.toArray[its.toArray.size-1]?=some u:=by
  show its.toArray[its.length-1]?=some u;rw[<- z5,<- hl];exact hu
 refine tL F.slot_list_pop ⟨_,e,rfl⟩ F.entry_list_pop (F.args_list_pop_1 _) (MeetsSeq.list_pop_last l its.toArray n u hy' (by rw[zO];omega)) ⟨e,?_⟩;refine⟨y,_,I.lset (its':=its.dropLast) hH e ?_ r.dropLast ?_,ru,q⟩
 ·show its.toArray.eraseIdxIfInBounds (its.toArray.size-1)=its.dropLast.toArray
  rw[zO,List.eraseIdxIfInBounds_toArray,qcW]
 ·rw[List.length_dropLast]
  omega
noncomputable def rCat:R2:=λx y H Q=>∃l b xs zs,x=.ref l/\y=.ref b/\H l=some (.lst xs)/\H b=some (.lst zs)/\xs.length+zs.length<=sizeLine/\∀p,H p=none->Q (.ref p) (upd H p (.lst (xs++zs)))
theorem qhc:OpR X (uF .Add) rCat:=by
 intro pins s σ H x y v u Q I rx ry h;obtain⟨l,b,xs,zs,rfl,rfl,hH,hB,hz,q⟩:=h;cases rx;cases ry;obtain⟨z,its,n,r,hl,e⟩:=I.lstM hH;obtain⟨z2,its2,n2,r2,hl2,e2⟩:=I.lstM hB;refine PySem.P.add_list e e2 ?_ (by rw[zO,zO];omega);have ea:its.toArray++its2.toArray=(its++its2).toArray:=by simp
 rw[ea];exact⟨.ref _,_,I.lnew (t':=s.toks) (r.append r2) (by rw[zC];omega),rfl,q _ I.fresh⟩
end
section
variable{prog:vO}{w:vU}{A:vY}{E:vB->vF->Prop}{s:vF}
end
section
variable{X:Cx}
end
end L2
namespace Att
open PySem PySem.W PySem.Calls PyProof.Rows
theorem XN{P:Params}{h:vX}:∀(ns:List Int)(vs:List vB),WellAll P h vs (ns.map WData.int)->v8 vs ns:=by
 intro ns
 induction ns with
 | nil=>
  intro vs w;rw[yA]at w;cases w;exact .nil
 | cons n ns ih=>
  intro vs w;rw[zT]at w;cases w with
  | cons a b=>
   cases a;exact .cons _ _ (ih _ b)
theorem Wd{l:OpenLaw}{n:Nat}(hn:l.most=some n){P:Params}{h:vX}{args:List WData}{vals:List vB}(hpre:l.row.toRowW.claim.pre args=true)(hwl:WellAll P h vals args):
  ∃a vs ns,vals=[Value.ref a]/\args=[WData.list (ns.map WData.int)]/\h.get? a=some { cls:=.type "list", data:=.seq vs.toArray }/\v8 vs ns/\ns.length<=n:=by
 have hsh:WShape.hasAll [] args [.list .int]=true:=(pre_splitW hpre).1;have hc:l.pre.holds [] { args:=args }=true:=(pre_splitW hpre).2;obtain⟨d,r,rfl,h1,h2⟩:=hasAllW_cons hsh;obtain rfl:=hasAllW_nil h2;obtain⟨xs,rfl,h3⟩:=hasW_list h1;obtain⟨ns,rfl⟩:=items_int h3;have hlen:ns.length<=n:=by
  unfold OpenLaw.pre at hc;have h4:(WTm.not (.lt (.lit (.int (n:Int))) (.len (.arg 0)))).holds [] { args:=[.list (ns.map .int)] }=true:=by
   have h4:=(holds_andW hc).1;rw[hn]at h4;exact h4
  have h5:=condW_of h4 (w_not (w_lt w_lit (w_len_list (w_arg rfl))));rw[zA]at h5;refine Nat.le_of_not_lt λq=>?_;have q':(n:Int)<((ns.length:Nat):Int):=∅
  first
   | (rw[vP q']at h5;exact vK h5 (by decide))
   | (simp at h5;omega)
 cases hwl with
 | cons w1 w2=>
  cases w2;cases w1 with
  | list ho hall=>exact⟨_,_,ns,rfl,rfl,ho,XN ns _ hall,hlen⟩
theorem WS(l:OpenLaw)(args:List WData):l.row.toRowW.claim.post args (.bool true) args=true :=
 postW_of (r:=l.row.toRowW) (X:=(true==true))
  (show WShape.has [] (.bool true) .bool=true by first|rfl|decide|simp[WShape.has,WShape.arms,WShape.armsAll])
  (show (WTm.eq .res (.lit (.bool true))).value [] { args:=args,res:=some (.bool true),after:=args }=some (.bool (true==true))from w_eq_bool (w_res rfl) w_lit) rfl
theorem attach_call{l:OpenLaw}{n:Nat}{q:vO}{loose:List Str}{XP:(Str->Option vB)->vX->Prop}{YP:vU->vX->Prop}{d:DefRec}(hn:l.most=some n)(hdf:d.params.defaults=[])(call:∀(w:vU)(s₀ s₁:vF)(mg mb:Str->Option vB)(fa:vC)(o:Obj)(pm cd doc:vB)(a:vC)(vs:List vB)(ns:List Int),
   Ground q loose [] XP w s₀ mg mb s₁.heap->YP w s₁.heap ->
   s₁.heap.get? fa=some o->o.data=.func (docDef d.name d.params d.body d.scope pm cd doc)->s₁.heap.CodeRec cd d.name->mg d.name=some (.ref fa) ->
   s₁.heap.get? a=some { cls:=.type "list", data:=.seq vs.toArray }->v8 vs ns->ns.length<=n->s₁.gens=#[] ->
   uI (model l.prog w) tE (.call (.ref fa) ⟨[.ref a],[]⟩) (λr s'=>r=.ok (.ret (.bool true))/\OldK s₁.heap s'.heap/\s'.os=s₁.os/\uf s'.gens) s₁) :
  WalkO q loose XP YP l.row.toRowW d [] (λf vs=>PySem.call f vs):=by
 intro w s₀ s₁ mg mb G Y fa o pm cd doc dV kV ho hd hcd hD hmg hg args vals as hpre hlay hrd hwl hlo;obtain rfl:dV=.none:=Dflts.none hD hdf;obtain rfl:kV=.none:=Dflts.noKw hD;obtain⟨a,vs,ns,rfl,rfl,hobj,WL,hlen⟩:=Wd hn hpre hwl;refine enter_call (uK (call w s₀ s₁ mg mb fa o pm cd doc a vs ns G Y ho (fd_plain hd) hcd hmg hobj WL hlen hg) λr s' hq=>?_);obtain⟨rfl,h2,h3,h4⟩:=hq;exact⟨.inl ⟨.bool true,.bool true,[],rfl,λ_=>rfl,.bool true,WS l _,λ_=>⟨xW,λ_ hm=>(nomatch hm)⟩⟩,h2,h3,h4⟩
section
variable{prog:vO}{w:vU}{A:vY}{E:vB->vF->Prop}{s:vF}{K:Frag}
end
end Att
namespace L2
open PySem PySem.Spec PyProof.Rows
theorem q4d:∀{vs:List vB}{ns:List Int},v8 vs ns->YU (ns.map V.int) vs
 | _,_,.nil=>.nil
 | _,_,.cons n t h=>.cons ⟨t,rfl⟩ (q4d h)
def Only(H:Hp):Prop:=∀b,H b=none\/∃o xs,H b=some (.frz o (.lst xs))
theorem qeF{P:vO}{w:vU}{K:zB}{mg mb:Str->Option vB}{CX:CXT}{k:Nat}{fa a:vC}{fd:vH}{x:Str}{sp:Sp}{s₁:vF}{vs:List vB}{ns:List Int}(KX:K.In s₁.heap)(hns:s₁.heap.Ns vS mg)(hb:s₁.heap.Ns builtinsNs mb)(hbb:∀x:Str,x ≠ "__name__" -> mb x=vZ x)(hlim:s₁.heap.NoLimit)(hg:s₁.gens=#[])(ha:s₁.heap.get? a=some { cls:=.type "list", data:=.seq vs.toArray })(hi:v8 vs ns)(hl:ns.length<=sizeLine)(hr:Room k tE)(F:∀base:vX,K.In base->base.Ns vS mg->FnOk P w K mg base CX k fa fd [x] sp)(hbind:∀(s:vF)(u:vB),tP s fd ⟨[u],[]⟩ [(x,u)])(hsp:∀H:Hp,Only H->SqL K H a (ns.map V.int)->sp [.ref a] H (λv _=>v=.bl true) λ_ _ _=>False)(hCX:∀H e s',CX [] H s₁ (λ_ _ _=>False) e s'->False):
  uI (model P w) tE (.call (.ref fa) ⟨[.ref a],[]⟩) (λr s'=>r=.ok (.ret (.bool true))/\OldK s₁.heap s'.heap/\s'.os=s₁.os/\uf s'.gens) s₁:=by
 have rv:=q4d hi;have lenV:=hi.length;have core:∀H:Hp,Only H->SqL K H a (ns.map V.int)->HOk P w H s₁.heap->(∀b,H b≠none->b=a)->(H a≠none->K.lookup a=none) ->
   uI (model P w) tE (.call (.ref fa) ⟨[.ref a],[]⟩) (λr s'=>r=.ok (.ret (.bool true))/\OldK s₁.heap s'.heap/\s'.os=s₁.os/\uf s'.gens) s₁:=by
  intro H hO hS hok hA hK;have base_of:∀{b:vC}{o:Obj},s₁.heap.get? b=some o->H b=none->(zAD s₁.heap H).get? b=some o:=λe n=>qeB e n;have noA:∀{b:vC}{o:Obj}{es:Array DictEntry}{ep:Nat},s₁.heap.get? b=some o->o.data=.dict es ep->H b=none:=λ{b o es ep} e d=>by
   cases q:H b with
   | none=>rfl
   | some u=>
    have e':b=a:=hA b (by rw[q];simp);subst e';rw[ha]at e;cases e;have d':Data.seq vs.toArray _=Data.dict es ep:=d;cases d'
  have nsK:∀{b:vC}{m:Str->Option vB},s₁.heap.Ns b m->(zAD s₁.heap H).Ns b m:=λ{b m} ⟨o,es,ep,e,d,r⟩=>⟨o,es,ep,base_of e (noA e d),d,r⟩;have hKb:K.In (zAD s₁.heap H):=λb o e=>base_of (KX b o e) (by
   cases q:H b with
   | none=>rfl
   | some u=>
    have e':b=a:=hA b (by rw[q];simp);subst e';rw[hK (by rw[q];simp)]at e;cases e)
  have hM:Mod K mg (zAD s₁.heap H):=⟨hKb,nsK hns,⟨mb,nsK hb,hbb⟩,let ⟨mc,h1,h2⟩:=hlim;⟨mc,nsK h1,h2⟩⟩;have e0:Env0 P w K mg (zAD s₁.heap H) tE [] s₁ H:=⟨rfl,hM,λb o e=>qgG e,Nat.le_of_eq (qdt _ _),trivial,λb hb=>vK (show b∈([]:List vC)from hb) (by simp),hok,.of_eq hg⟩;refine uK ((F _ hKb (nsK hns)).run tE [] s₁ H ⟨[.ref a],[]⟩ [.ref a] [.ref a] _ _ hr e0 (hbind s₁ (.ref a)) (.cons rfl .nil) (hsp H hO hS)) λr s' h=>?_;cases r with
  | error e=>exact(hCX H e s' h).elim
  | ok fl=>
   cases fl with
   | next=>exact False.elim h
   | brk=>exact False.elim h
   | cont=>exact False.elim h
   | ret u=>
    obtain⟨v,H',os,bare,un,hok',r',q⟩:=h;have q':v=.bl true:=q;subst q';obtain rfl:u=Value.bool true:=r';refine⟨rfl,OldK.of_keep λb o e=>?_,os,bare⟩;cases q:H b with
    | none=>exact un.keep b o e q (by intro z;exact vK (show b∈([]:List vC)from z) (by simp)) (by simp)
    | some u=>
     rcases hO b with z|⟨ob,xs,z⟩
     ·rw[q]at z;cases z
     ·have z2:=un.frzs b ob _ z
      obtain⟨e1,_⟩:=hok b _ z;obtain⟨e2,_⟩:=hok' b _ z2;rw[e]at e1;cases e1;exact e2
 cases hk:K.lookup a with
 | some o=>
  have e:=KX a o hk;rw[ha]at e;cases e;refine core (λ_=>none) (λ_=>.inl rfl) (.inr ⟨_,vs.toArray,_,hk,rfl,rfl,rfl,by rw[zO,lenV];exact hl,by simpa using rv⟩) (λb u z=>by have z':(none:Option HO)=some u:=z;cases z') (λb z=>vK rfl z) λz=>vK rfl z
 | none=>
  refine core (λb=>if b=a then some (.frz { cls:=.type "list", data:=.seq vs.toArray } (.lst (ns.map V.int)))else none) (λb=>?_) (.inl (.inr ⟨{ cls:=.type "list", data:=.seq vs.toArray },vM rfl⟩)) (λb u z=>?_) (λb z=>?_) λ_=>hk
  ·by_cases hb:b=a
   ·exact .inr ⟨_,_,vM hb⟩
   ·exact .inl (vN hb)
  ·by_cases hb:b=a
   ·have z':=(vM hb).symm.trans z
    cases z';subst hb;exact⟨ha,by rw[zA];exact hl,vs,_,rv,ha⟩
   ·have z':=(vN hb).symm.trans z
    cases z'
  ·by_cases hb:b=a
   ·exact hb
   ·exact vK (vN hb) z
noncomputable abbrev KOf{K:zB}{h:vX}(_:K.In h):zB:=K
theorem qc9{l:wz}{n k:Nat}{q:vO}{loose:List Str}{XP:(Str->Option vB)->vX->Prop}{YP:vU->vX->Prop}{d:DefRec}{K:Params->zB}{CX:vU->CXT}{sp:vU->Sp}{x:Str}(hn:l.most=some n)(hn2:n<=sizeLine)(hdf:d.params.defaults=[])(hr:Room k tE)(hY:∀(w:vU)(h:vX),YP w h->(K w.params).In h)(F:∀(w:vU)(mg:Str->Option vB)(fa:vC)(h:vX),(K w.params).In h->h.Ns vS mg->mg d.name=some (.ref fa) ->
   ∃fd:vH,(∀(s:vF)(u:vB),tP s fd ⟨[u],[]⟩ [(x,u)]) /\
    ∀base:vX,(K w.params).In base->base.Ns vS mg->FnOk l.prog w (K w.params) mg base (CX w) k fa fd [x] (sp w))
  (hsp:∀(w:vU)(H:Hp)(a:vC)(ns:List Int),ns.length<=n->Only H->SqL (K w.params) H a (ns.map V.int)->sp w [.ref a] H (λv _=>v=.bl true) λ_ _ _=>False)
  (hCX:∀(w:vU)(H:Hp)(s:vF)(e:vB)(s':vF),CX w [] H s (λ_ _ _=>False) e s'->False) :
  Zr q loose XP YP l.row.toRowW d [] (λf vs=>PySem.call f vs):=by
 refine Att.attach_call hn hdf λw s₀ s₁ mg mb fa o pm cd doc a vs ns G Y ho hd hcd hmg hobj WL hlen hg=>?_;have KX:=hY w _ Y;obtain⟨fd,hb,hF⟩:=F w mg fa _ KX G.T.g hmg;exact qeF KX G.T.g G.T.b G.T.builtins G.T.nolimit hg hobj WL (zm hlen hn2) hr hF hb (λH hO hS=>hsp w H a ns hlen hO hS) λH e s'=>hCX w H s₁ e s'
end L2
namespace L2
open PySem PySem.Spec PyProof.Rows
noncomputable def Yz(s:vf):Arguments:=match s with
 | .FunctionDef _ a _ _ _ _ _ _ _ _=>a
 | _=>{ posonlyargs:=[],args:=[],vararg:=none,kwonlyargs:=[],kw_defaults:=[],kwarg:=none,defaults:=[] }
noncomputable def Yk(s:vf):List vf:=match s with
 | .FunctionDef _ _ b _ _ _ _ _ _ _=>b
 | _=>[]
noncomputable def Z1(s:vf):uN:=match s with
 | .FunctionDef _ _ _ _ _ _ sc _ _ _=>sc
 | _=>{ kind:=.function,names:=[],isGenerator:=false,isCoroutine:=false }
noncomputable abbrev CX0:CXT:=λ_ _ _ _ _ _=>False
noncomputable abbrev E0:XK:=λ_ _ _=>False
theorem pass0{X:Cx}:Xg CX0 X E0:=λ_ _ _ _ _ _ _ h=>h.elim
structure Fun (K:zB) (x qual:Str) (st:vf) (f:vC) (fd:vH):Prop where
 ex:∃(oc:vB) (od:Option vC) (kV doc pm:vB) (an:Option vC) (cdv ct:vB) (osl:Array (Option vB)),
  fd=xV x qual (Yz st) (Yk st) (Z1 st) .none kV doc pm an cdv ct/\K.lookup f=some ⟨oc,od,.func fd,osl⟩/\wS K cdv qual=true
 kp:xS K (.ref f)=true
section
variable{P:vO}{w:vU}{K:zB}{mg:Str->Option vB}{base:vX}
theorem Fun.ok{x qual:Str}{st:vf}{f:vC}{fd:vH}{N ps:List Str}{k:Nat}{sp:Sp}(F:Fun K x qual st f fd)(S:FnScope N ps (Z1 st))(len:∀vs H Q E,sp vs H Q E->vs.length=ps.length)(hbody:∀(cdv:vB)(A:vY)(outer:List Env)(s:vF)(H:Hp)(vs:List V)(Q:VK)(E:XK),Room k (A.deeper (u5 qual (Z1 st) s.heap.objs.size f cdv))->sp vs H Q E ->
   ∃t,PSs (WQ CX0 P w K mg base N qual (Z1 st) f cdv A outer s H E).nox (Yk st) t/\t { nx:=λ_ H'=>Q .non H',rt:=Q } (start N vs) H):FnOk P w K mg base CX0 (k+1) f fd ps sp:=by
 obtain⟨oc,od,kV,doc,pm,an,cdv,ct,osl,rfl,lk,hcd⟩:=F.ex;refine qfA lk hcd S len λA outer s H vs Q E hr hsp=>?_;obtain⟨t,h,q⟩:=hbody cdv A outer s H vs Q E hr hsp;exact⟨t,h.nox,q⟩
theorem Fun.binds{x qual:Str}{st:vf}{f:vC}{fd:vH}{ps:List Str}(F:Fun K x qual st f fd)(h:∀(kV doc pm:vB)(an:Option vC)(cdv ct:vB)(us:List vB),us.length=ps.length->bindArgs (xV x qual (Yz st) (Yk st) (Z1 st) .none kV doc pm an cdv ct) ⟨us,[]⟩=pure (ps.zip us)):Binds K fd ps []:=by
 obtain⟨oc,od,kV,doc,pm,an,cdv,ct,osl,rfl,lk,hcd⟩:=F.ex;exact .all (h kV doc pm an cdv ct)
theorem qgJ{x qual:Str}{st:vf}{f:vC}{oc:vB}{od an:Option vC}{osl:Array (Option vB)}{kV doc pm cdv ct:vB}(l:K.lookup f=some ⟨oc,od,.func (xV x qual (Yz st) (Yk st) (Z1 st) .none kV doc pm an cdv ct),osl⟩)(c:wS K cdv qual=true)(k:xS K (.ref f)=true):Fun K x qual st f (xV x qual (Yz st) (Yk st) (Z1 st) .none kV doc pm an cdv ct):=⟨⟨oc,od,kV,doc,pm,an,cdv,ct,osl,rfl,l,c⟩,k⟩
end
theorem Wn{n:Nat}(h:n<=1000):n<sizeLine:=ZO h (by decide)
section
variable{X:Cx}
theorem pv(i:Nat){x:Str}{pos:Pos}(hN:X.N[i]?=some x:=by rfl)(hv:Vis X.env.scope x:=by first|exact Or.inl rfl|exact Or.inr (Or.inl rfl)|exact Or.inr (Or.inr rfl))(hd:(x==("__debug__" : Str))=false:=by decide)(hcd:(x==("__classdict__" : Str))=false:=by decide):PE X (.Name x pos) (XR i):=qhj hN hv hd hcd
end
def YO(H H':Hp):Prop:=∀b o,H b=some o->H' b=some o
theorem YO.refl(H:Hp):YO H H:=λ_ _ h=>h
theorem YO.trans{H H1 H2:Hp}(a:YO H H1)(b:YO H1 H2):YO H H2:=λc o h=>b c o (a c o h)
theorem YO.free{H H':Hp}(e:YO H H'){l:vC}(h:H' l=Zt):H l=Zt:=by
 cases q:H l with
 | none=>rfl
 | some o=>
  rw[e l o q]at h;cases h
theorem YO.seq{K:zB}{H H':Hp}{a:vC}{xs:List V}(e:YO H H')(h:SqL K H a xs):SqL K H' a xs:=by
 rcases h with (h|⟨o,h⟩)|h
 ·exact .inl (.inl (e _ _ h))
 ·exact .inl (.inr ⟨o,e _ _ h⟩)
 ·exact .inr h
end L2
namespace Hk
open PySem
def WO(xs:Array Nat):Prop:=xs.toList.Pairwise (· < ·)
theorem q7I{l:List Nat}(h:l.Pairwise (· < ·)){i j:Nat}(hi:i<l.length)(hj:j<l.length)(hij:i<j):l[i]<l[j]:=yq.mp h i j hi hj hij
theorem qeV{xs:Array Nat}{j:Nat}(h:WO xs):∀(fuel lo hi:Nat),lo<=hi->hi<=xs.size->hi-lo<=fuel->(∀k(z:k<xs.toList.length),k<lo->xs.toList[k]<j)->(∀k(z:k<xs.toList.length),hi<=k->j<=xs.toList[k]) ->
  SetTable.below.go xs j fuel lo hi<=xs.size/\(∀k(z:k<xs.toList.length),k<SetTable.below.go xs j fuel lo hi->xs.toList[k]<j)/\(∀k(z:k<xs.toList.length),SetTable.below.go xs j fuel lo hi<=k->j<=xs.toList[k]):=by
 intro fuel
 induction fuel with
 | zero=>
  intro lo hi h1 h2 h3 h4 h5;have e:lo=hi:=∅
  subst e;exact⟨h2,h4,h5⟩
 | succ n ih=>
  intro lo hi h1 h2 h3 h4 h5;unfold SetTable.below.go
  by_cases hl:lo<hi
  ·rw[vM hl]
   have hm:(lo+hi)/2<xs.toList.length:=by rw[zc];omega
   have hg:xs.getD ((lo+hi)/2) j=xs.toList[(lo+hi)/2]:=by
    rw[Array.getD_eq_getD_getElem?,<- z5,zD hm];rfl
   by_cases hc:xs.getD ((lo+hi)/2) j<j
   ·simp only[hc,if_true]
    refine ih _ _ ∅ h2 ∅ (λk z hk=>?_) h5
    by_cases e:k=(lo+hi)/2
    ·subst e;rw[hg]at hc;exact hc
    ·have:=q7I h z hm ∅
     rw[hg]at hc;omega
   ·simp only[hc,if_false]
    refine ih _ _ ∅ ∅ ∅ h4 (λk z hk=>?_)
    by_cases e:k=(lo+hi)/2
    ·subst e;rw[hg]at hc;omega
    ·have:=q7I h hm z ∅
     rw[hg]at hc;omega
  ·rw[vN hl]
   have e:lo=hi:=∅
   subst e;exact⟨h2,h4,h5⟩
theorem qaN{xs:Array Nat}(h:WO xs)(j:Nat):SetTable.below xs j<=xs.size/\(∀k(z:k<xs.toList.length),k<SetTable.below xs j->xs.toList[k]<j)/\(∀k(z:k<xs.toList.length),SetTable.below xs j<=k->j<=xs.toList[k]) :=
 qeV h xs.size 0 xs.size (zu _) (zQ _) ∅ (λk z hk=>vK hk (wN _)) (λk z hk=>by rw[zc]at z;omega)
theorem q6I{α:Type}(xs:Array α)(p:Nat)(x:α):(SetTable.insertAt xs p x).toList=xs.toList.take p++x::xs.toList.drop p:=by
 unfold SetTable.insertAt;simp[Array.toList_extract,wp]
theorem qbA{xs:Array Nat}(h:WO xs){j:Nat}(hn:xs[SetTable.below xs j]?≠some j):WO (SetTable.insertAt xs (SetTable.below xs j) j):=by
 obtain⟨h1,h2,h3⟩:=qaN h j;unfold WO;rw[q6I,xl];have lt:∀y∈xs.toList.drop (SetTable.below xs j),j<y:=by
  intro y hy;obtain⟨k,hk,e⟩:=zn.mp hy;rw[yZ]at hk;rw[List.getElem_drop]at e;have hb:SetTable.below xs j<xs.toList.length:=∅
  have hh:=h3 _ hb (zQ _);have ne:xs.toList[SetTable.below xs j]≠j:=λz=>hn (by rw[<- z5,zD hb,z]);have hle:xs.toList[SetTable.below xs j]<=y:=by
   by_cases e0:k=0
   ·subst e0;rw[<- e];simp
   ·rw[<- e];exact yL (q7I h hb ∅ ∅)
  omega
 refine⟨wG (ZU _ _) h,zg.mpr ⟨lt,wG (List.drop_sublist _ _) h⟩,λa ha b hb=>?_⟩;have haj:a<j:=by
  obtain⟨k,hk,e⟩:=zn.mp ha;rw[zy]at hk;rw[ZV]at e;rw[<- e];exact h2 k ∅ ∅
 rcases zE.mp hb with rfl|hb
 ·exact haj
 ·exact ZW haj (lt b hb)
structure Tb (t:SetTable) (n:Nat):Prop where
 fits:t.fits n=true
 rise:WO t.place
 dum:t.dummies=#[]
theorem qaV{t:SetTable}(hd:t.dummies=#[])(j:Nat):t.slot j≠.dummy:=by
 unfold SetTable.slot;rw[hd]
 dsimp only
 split
 ·exact λz=>nomatch z
 ·have:SetTable.has #[] j=false:=by simp[SetTable.has]
  rw[this];exact λz=>nomatch z
theorem qbK{t:SetTable}(hd:t.dummies=#[]){h:Int}:∀(fuel:Nat)(p:SetTable.Probe)(m:SetTable.Met),p.dummy=none->SetTable.probe.go t (λ_=>h+1) h fuel p=some m->∃j,m=.empty j none/\t.slot j=.empty:=by
 intro fuel
 induction fuel with
 | zero=>intro p m _ e;cases e
 | succ n ih=>
  intro p m hp e;unfold SetTable.probe.go at e;cases hs:t.slot p.j with
  | empty=>
   rw[hs]at e;cases e;exact⟨p.j,by rw[hp],hs⟩
  | dummy=>exact vK hs (qaV hd _)
  | live i=>
   rw[hs]at e;have hne:(h+1==h)=false:=by simp only[beq_eq_false_iff_ne,ne_eq];omega
   dsimp only at e
   rw[hne]at e;refine ih _ m ?_ e;unfold SetTable.advance
   split
   ·exact hp
   ·exact hp
theorem qbC{t:SetTable}(hd:t.dummies=#[]){h:Int}{slot:Nat}{b:Bool}(e:t.freeSlot h=some (slot,b)):b=false/\t.place[SetTable.below t.place slot]?≠some slot:=by
 unfold SetTable.freeSlot at e;cases q:t.probe (λ_=>h+1) h (t.probeStart h)with
 | none=>rw[q]at e;cases e
 | some m=>
  rw[q]at e;obtain⟨j,rfl,hs⟩:=qbK hd _ _ m (by rfl) q;cases e;refine⟨rfl,λz=>?_⟩;unfold SetTable.slot at hs
  dsimp only at hs
  have:(t.place[SetTable.below t.place j]?==some j)=true:=by
   rw[show t.place[SetTable.below t.place j]?=some j from z];simp
  rw[vM this]at hs;cases hs
theorem qd5(n:Nat):WO (Array.range n):=by
 unfold WO;rw[Array.toList_range];exact wq
theorem q4E(t:SetTable)(n:Nat):Tb (t.standIn n) n:=by
 refine⟨?_,qd5 n,rfl⟩;unfold SetTable.fits SetTable.standIn SetTable.fill;simp;omega
theorem qi0{t:SetTable}{n:Nat}(h:WO t.place)(hd:t.dummies=#[]):Tb (t.orStandIn n) n:=by
 unfold SetTable.orStandIn
 by_cases z:t.fits n=true
 ·rw[vM z];exact⟨z,h,hd⟩
 ·rw[vN z];exact q4E t n
theorem qhI(t:SetTable)(n:Nat):(t.orStandIn n).led=t.led:=by
 unfold SetTable.orStandIn
 split <;> rfl
theorem qes{t:SetTable}{es:Array (Int×vB)}{h:Int}{x:vB}(T:Tb t es.size):
  (layNew t es h x).2.2.1=false/\Tb (layNew t es h x).2.1 (layNew t es h x).1.size/\(layNew t es h x).2.1.led=t.led/\(layNew t es h x).1.toList.Perm ((h,x)::es.toList):=by
 unfold layNew;cases q:t.freeSlot h with
 | none=>
  refine⟨rfl,?_,rfl,?_⟩
  ·rw[Zi];exact q4E t _
  ·rw[ZX]
   exact List.perm_append_singleton _ _
 | some p=>
  obtain⟨slot,b⟩:=p;obtain⟨rfl,hn⟩:=qbC T.dum q;have hd:(t.put slot).1.dummies=#[]:=by
   unfold SetTable.put
   dsimp only
   rw[T.dum];simp[SetTable.has]
  refine⟨rfl,qi0 (qbA T.rise hn) hd,(qhI _ _).trans rfl,?_⟩;rw[q6I];refine Zj List.perm_middle ?_;rw[xj]
theorem q84{α:Type}{f:α->Option α}(h:∀x y,f x=some y->y=x):∀l:List α,(l.filterMap f).Sublist l
 | []=>by simp
 | a::r=>by
  rw[y0];cases q:f a with
  | none=>exact(q84 h r).cons a
  | some b=>rw[h a b q];exact(q84 h r).cons_cons a
theorem q94{α:Type}:∀l:List α,(yk l.length).filterMap (λi=>l[i]?)=l
 | []=>rfl
 | a::r=>by
  rw[zG,wt,y0];simp only[zz];rw[ZN];have e:((λi=>(a::r)[i]?) ∘ Nat.succ)=λi=>r[i]?:=by funext i;simp
  rw[e,q94 r]
theorem qg1{mask finger moves:Nat}{led plain:Bool}{hs:Array Int}{t:SetTable}{o:Array Nat}(e:SetTable.laid mask finger moves led plain hs=some (t,o)):WO t.place/\t.dummies=#[]/\t.led=led:=by
 unfold SetTable.laid at e;cases q:SetTable.layClean mask hs with
 | none=>rw[q]at e;cases e
 | some owner=>
  rw[q]at e;cases e;refine⟨?_,rfl,rfl⟩;unfold WO
  dsimp only
  rw[List.map_filterMap];refine wG (q84 (λx y z=>?_) _) wq;cases q2:owner.getD x none with
  | none=>rw[q2]at z;cases z
  | some c=>rw[q2]at z;exact(zo z).symm
theorem qf6{t:SetTable}{es:Array (Int×vB)}(w:Nat):Tb (relayAll t es w).2.1 (relayAll t es w).1.size/\(relayAll t es w).2.1.led=t.led/\(relayAll t es w).1.toList.Perm es.toList:=by
 unfold relayAll;cases q:t.relaid (es.map (·.1)) w with
 | none=>exact⟨q4E t _,rfl,xm _⟩
 | some p=>
  obtain⟨t',order⟩:=p
  dsimp only
  obtain⟨h1,h2,h3⟩:=qg1 q
  by_cases z:(coversAll order es.size&&t'.fits (order.filterMap (es[·]?)).size)=true
  ·rw[vM z]
   rw[zV]at z;refine⟨⟨z.2,h1,h2⟩,h3,?_⟩;have hp:order.toList.Perm (yk es.size):=List.isPerm_iff.mp z.1;rw[Array.toList_filterMap];have e:(λ(i:Nat)=>es[i]?)=λ(i:Nat)=>es.toList[i]?:=by funext i;simp
   rw[e];have q2:=hp.filterMap λi=>es.toList[i]?;rw[<- zc,q94]at q2;exact q2
  ·rw[vN z]
   exact⟨q4E t _,rfl,xm _⟩
end Hk
namespace Hk
open PySem PySem.Spec PyProof.Rows
noncomputable def vI:vB->Int
 | .int i _=>i
 | _=>0
def Xk(e:Int×vB):Prop:=∃x t,e=(tY x,Value.int x t)
theorem qdc{prog:vO}{w:vU}{l:List (Int×vB)}(h:∀e∈l,Xk e):ElemsOf (ue prog w) l:=λe he=>by
 obtain⟨x,t,rfl⟩:=h e he;exact⟨⟨x,intKind_is _ _ _ _,rfl⟩,rfl⟩
def X2(h:vX)(a:vC)(led:Bool)(xs:List Int):Prop:=∃o es ep t,h.get? a=some o/\o.ExactSet/\o.data=.set es ep t/\Tb t es.size/\t.led=led/\es.size<uM /\
 (∀e∈es.toList,Xk e)/\es.toList.map (λe=>vI e.2)=xs/\xs.Nodup
theorem X2.len{h:vX}{a:vC}{led:Bool}{xs:List Int}(S:X2 h a led xs):xs.length<uM:=by
 obtain⟨o,es,ep,t,_,_,_,_,_,z,_,e,_⟩:=S;rw[<- e,zA,zc];exact z
theorem X2.at{h h':vX}{a:vC}{led:Bool}{xs:List Int}(S:X2 h a led xs)(k:∀o,h.get? a=some o->h'.get? a=some o):X2 h' a led xs:=by
 obtain⟨o,es,ep,t,e,r⟩:=S;exact⟨o,es,ep,t,k o e,r⟩
theorem qcg{prog:vO}{w:vU}{e:Int×vB}(h:Xk e)(x:Int):(ue prog w).is x e.2=decide (vI e.2=x):=by
 obtain⟨y,t,rfl⟩:=h;show Value.isInt x (.int y t)=decide (y=x)
 by_cases z:y=x
 ·subst z;simp[Value.isInt]
 ·simp[Value.isInt,z]
theorem qe9{prog:vO}{w:vU}{l:List (Int×vB)}(h:∀e∈l,Xk e){x:Int}(q:l.findIdx? (λe=>(ue prog w).is x e.2)=none):x∉l.map (λe=>vI e.2):=λz=>by
 obtain⟨e,he,ex⟩:=zN.mp z;have:=List.findIdx?_eq_none_iff.mp q e he;rw[qcg (h e he),ex]at this;simp at this
theorem qdR{prog:vO}{w:vU}{l:List (Int×vB)}(h:∀e∈l,Xk e){x:Int}{j:Nat}(q:l.findIdx? (λe=>(ue prog w).is x e.2)=some j):x∈l.map (λe=>vI e.2):=by
 obtain⟨hj,hp,_⟩:=List.findIdx?_eq_some_iff_getElem.mp q;rw[qcg (h _ (ym hj))]at hp;exact zN.mpr ⟨_,ym hj,of_decide_eq_true hp⟩
section
variable{prog:vO}{w:vU}{A:vY}{E:vB->vF->Prop}{s:vF}
theorem qca{h:vX}{a:vC}{o:Obj}{es es':Array (Int×vB)}{ep:Nat}{t t':SetTable}{led:Bool}{xs:List Int}(go:h.get? a=some o)(gx:o.ExactSet)(gd:o.data=.set es ep t)(T:Tb t' es'.size)(gl:t'.led=led)(gb:es'.size<uM)(gg:∀e∈es'.toList,Xk e)(gv:es'.toList.map (λe=>vI e.2)=xs)(gn:xs.Nodup):
  (h.update a (Obj.putSet es' t')).get? a=some { o with data:=.set es' (ep+1) t' }/\X2 (h.update a (Obj.putSet es' t')) a led xs:=by
 have q:=xT (Obj.putSet es' t') go (by rw[putSet_of es' t' gd];rfl);rw[putSet_of es' t' gd]at q;exact⟨q,_,es',ep+1,t',q,gx,rfl,T,gl,gb,gg,gv,gn⟩
theorem qdo{g:Bool->Sem Unit}(gw:∀(b:Bool)(s1:vF)(Q':Unit->vF->Prop),Q' () s1->vL (model prog w) A (g b) Q' E s1){a:vC}{o:Obj}{es es1:Array (Int×vB)}{ep:Nat}{t t2:SetTable}{led:Bool}{xs:List Int}(go:s.heap.get? a=some o)(gx:o.ExactSet)(gd:o.data=.set es ep t)(T:Tb t2 es1.size)(gl:t2.led=led)(gb:es1.size<uM)(gg:∀e∈es1.toList,Xk e)(gv:es1.toList.map (λe=>vI e.2)=xs)(gn:xs.Nodup){dm:Bool}{R:Option Bool->vF->Prop}(k:∀h' ys,xU a s.heap h'->X2 h' a led ys->ys.Perm xs->R (some true) { s with heap:=h' }):
  vL (model prog w) A (do
    storeSet a es1 t2
    if (!dm&&t2.tooFull)=true then do
      g (relayAll t2 es1 (SetTable.grown es1.size)).2.2
      storeSet a (relayAll t2 es1 (SetTable.grown es1.size)).1 (relayAll t2 es1 (SetTable.grown es1.size)).2.1
      pure (some true)
     else pure (some true)) R E s:=by
 refine vA (wpAny_storeSet_of go gd ?_ (fits_of_scanBound gb));obtain⟨g1,S1⟩:=qca go gx gd T gl gb gg gv gn;have sb:=ZI s.heap a (Obj.putSet es1 t2)
 split
 ·obtain⟨T2,l2,p2⟩:=qf6 (t:=t2) (es:=es1) (SetTable.grown es1.size)
  generalize relayAll t2 es1 (SetTable.grown es1.size)=rl at T2 l2 p2 ⊢;obtain⟨es2,t3,gv2⟩:=rl
  dsimp only at T2 l2 p2 ⊢
  have hz:es2.size=es1.size:=by rw[<- zc,p2.length_eq,zc]
  have gb2:es2.size<uM:=by rw[hz];exact gb
  have pv:(es2.toList.map λe=>vI e.2).Perm xs:=by rw[<- gv];exact p2.map _
  refine vA (gw _ _ _ ?_);refine vA (wpAny_storeSet_of g1 rfl ?_ (fits_of_scanBound gb2));obtain⟨_,S2⟩:=qca g1 gx rfl T2 (l2.trans gl) gb2 (λe he=>gg e (p2.mem_iff.mp he)) rfl (pv.nodup_iff.mpr gn);exact vG (k _ _ (sb.trans (ZI _ a _)) S2 pv)
 ·exact vG (k _ _ sb S1 (xm _))
theorem qi7{a:vC}{led:Bool}{xs:List Int}{x:Int}{tk:Tok}{Q:Bool->vF->Prop}(S:X2 s.heap a led xs)(room:xs.length+1<uM)(k:∀b h' ys,xU a s.heap h'->X2 h' a led ys->(x∈xs->ys=xs)->(x∉xs->ys.Perm (x::xs))->Q b { s with heap:=h' }):
  vL (model prog w) A (setAddHashed a (.int x tk) (tY x)) Q E s:=by
 obtain⟨o,es,ep,t,go,gx,gd,T,gl,gb,gg,gv,gn⟩:=id S;have hl:es.size=xs.length:=by rw[<- gv,zA,zc]
 have el:ElemsOf (ue prog w) es.toList:=qdc gg;unfold setAddHashed setAddHashedIn;refine vh (vA (vj go gd T.fits ?_))
 dsimp only
 rw[byScan_of (knd:=ue prog w) (x:=.int x tk) rfl gb el];simp only[↓reduceIte];unfold setAddByScan;refine vA (vA (uY (vA (wpAny_setScan_of (knd:=ue prog w) (k:=x) (intKind_is _ _ _ _) go gd T.fits el ?_))));cases q:List.findIdx? (λe=>(ue prog w).is x e.2) es.toList with
 | some j=>
  dsimp only
  have hx:x∈xs:=by rw[<- gv];exact qdR gg q
  refine vG (vG ?_);exact k false s.heap xs (ZY a s.heap) S (λ_=>rfl) λz=>vK hx z
 | none=>
  dsimp only
  have hx:x∉xs:=by rw[<- gv];exact qe9 gg q
  obtain⟨d0,T1,l1,p1⟩:=qes (t:=t) (es:=es) (h:=tY x) (x:=.int x tk) T;generalize layNew t es (tY x) (.int x tk)=ly at d0 T1 l1 p1 ⊢;obtain⟨es1,t1,dm,gave⟩:=ly
  dsimp only at d0 T1 l1 p1 ⊢
  have gg1:∀e∈es1.toList,Xk e:=λe he=>by
   rcases zE.mp (p1.mem_iff.mp he)with rfl|he
   ·exact⟨x,tk,rfl⟩
   ·exact gg e he
  have pv:(es1.toList.map λe=>vI e.2).Perm (x::xs):=by rw[<- gv];exact p1.map _
  have gn1:(es1.toList.map λe=>vI e.2).Nodup:=pv.nodup_iff.mpr (yj.mpr ⟨hx,gn⟩);have gb1:es1.size<uM:=by
   have:=pv.length_eq;rw[zA,zc,zG]at this;omega
  have gw:∀(b:Bool)(s1:vF)(Q':Unit->vF->Prop),Q' () s1->vL (model prog w) A (match b with|true=>rule "set.scan.the-table-gave-way" | false=>pure ()) Q' E s1 :=
   λb s1 Q' z=>by cases b <;> first|exact vG z|exact uY z
  refine vA (gw _ _ _ ?_);have fin:∀h' ys,xU a s.heap h'->X2 h' a led ys->ys.Perm (es1.toList.map λe=>vI e.2)->Q true { s with heap:=h' }:=λh' ys sb S' p=>k true h' ys sb S' (λz=>vK z hx) λ_=>p.trans pv
  split
  ·refine vA ?_
   rw[hashByValue_scannable 8 (x:=Value.int x tk) rfl];refine vG ?_;refine qdo (λb s1 Q' z=>by cases b <;> first|exact vG z|exact uY z) go gx gd T1 (l1.trans gl) gb1 gg1 rfl gn1 λh' ys sb S' p=>?_;exact vG (fin h' ys sb S' p)
  ·refine vA (vG ?_)
   simp only[↓reduceIte];refine qdo (λb s1 Q' z=>by cases b <;> first|exact vG z|exact uY z) go gx gd T1 (l1.trans gl) gb1 gg1 rfl gn1 λh' ys sb S' p=>?_;exact vG (fin h' ys sb S' p)
end
def zAW(h:vX)(S:vC)(led:Bool)(val:Nat->Int)(m:Nat):Prop:=∃xs,X2 h S led xs/\xs.length<=m/\∀x,x∈xs↔∃i,i<m/\val i=x
theorem zAW.at{h h':vX}{a:vC}{led:Bool}{val:Nat->Int}{m:Nat}(S:zAW h a led val m)(k:∀o,h.get? a=some o->h'.get? a=some o):zAW h' a led val m:=by
 obtain⟨xs,q,r⟩:=S;exact⟨xs,q.at k,r⟩
section
variable{prog:vO}{w:vU}{A:vY}{R:tJ->vF->Prop}{I:vC}{fp wr:List vC}{G:Array ut->Array ut->Prop}{n:Nat}{P:Nat->vB->Prop}{St:Nat->vF->Prop}
theorem zAx(W:WalksS prog w A.in1 I fp wr G n P St)(S:vC)(hS:S∉fp){led:Bool}(val:Nat->Int)(hv:∀i v,P i v->∃t,v=.int (val i) t)(hb:n+1<uM):
  ∀(k i:Nat)(s:vF),n-i=k->i<=n->St i s->zAW s.heap S led val i->(∀s',Moved (S::wr) G s s'->zAW s'.heap S led val n->R (.ok (.ret .none)) s') ->
   uI (model prog w) A (.builtin "set.update.loop" ⟨[.ref S,.ref I],[]⟩) R s:=by
 have hw:S∉wr:=λz=>hS (W.sub _ z);have hsub:∀b∈wr,b∈S::wr:=λb z=>zJ _ z;intro k
 induction k with
 | zero=>
  intro i s hk hi st SV hR;have hin:i=n:=∅
  subst hin;refine vt PyProof.Rows.F.entry_set_update_loop ?_;rw[Around.under_plainId PyProof.Rows.F.plain_set_update_loop _];show vL _ A.in1 (v9 (.ref I) >>= _) _ _ s;refine vA (W.done s _ _ st λs' hm=>?_);show vL _ A.in1 (ret Value.none) _ _ s';exact vG (hR s' (hm.mono hsub) (SV.at λo e=>hm.heap S o hw e))
 | succ k ih=>
  intro i s hk hi st SV hR;have hlt:i<n:=∅
  refine vt PyProof.Rows.F.entry_set_update_loop ?_;rw[Around.under_plainId PyProof.Rows.F.plain_set_update_loop _];show vL _ A.in1 (v9 (.ref I) >>= _) _ _ s;refine vA (W.item i s _ _ hlt st λv s1 hP st1 hm=>?_);obtain⟨t,rfl⟩:=hv i v hP;obtain⟨xs,S1,hl,hx⟩:=SV.at (h':=s1.heap) λo e=>hm.heap S o hw e;show vL _ A.in1 (holding [Value.int (val i) t] (setAdd S (.int (val i) t)) >>= _) _ _ s1;refine vA (vh ?_);unfold setAdd;refine vh ?_;refine vA ((ue prog w).pyHash (k:=val i) (intKind_is _ _ _ _) ?_);refine qi7 (s:={ s1 with toks:=s1.toks+1 }) (x:=val i) S1 ∅ λb h' ys sb S2 y1 y2=>?_;have SV2:zAW h' S led val (i+1):=by
   refine⟨ys,S2,?_,λx=>?_⟩
   ·by_cases z:val i∈xs
    ·rw[y1 z];omega
    ·rw[(y2 z).length_eq,zG];omega
   ·by_cases z:val i∈xs
    ·rw[y1 z,hx]
     refine⟨λ⟨j,h1,h2⟩=>⟨j,∅,h2⟩,λ⟨j,h1,h2⟩=>?_⟩
     by_cases e:j=i
     ·subst e;exact(hx x).mp (by rw[<- h2];exact z)
     ·exact⟨j,∅,h2⟩
    ·rw[(y2 z).mem_iff,zE,hx]
     refine⟨λh=>?_,λ⟨j,h1,h2⟩=>?_⟩
     ·rcases h with h|⟨j,h1,h2⟩
      ·exact⟨i,∅,h.symm⟩
      ·exact⟨j,∅,h2⟩
     ·by_cases e:j=i
      ·subst e;exact .inl h2.symm
      ·exact .inr ⟨j,∅,h2⟩
  refine vG ⟨vy PyProof.Rows.F.plain_set_update_loop _,ih (i+1) _ ∅ hlt (W.frame _ s1 _ _ st1 (xn _) λb z o e=>?_) SV2 λs2 hm2 S3=>?_⟩
  ·rw[sb.2 b (λy:b=S=>hS (by rw[<- y];exact z))];exact e
  ·refine hR s2 (Moved.trans W.gtrans ((hm.mono hsub).then_heap (xn _) λb o z e=>?_) hm2) S3
   rw[sb.2 b (λy:b=S=>z (by rw[y];exact zK))];exact e
end
noncomputable abbrev Yo(w:vU):Bool:=!w.params.followText "set-order"
section
variable{prog:vO}{w:vU}{A:vY}{E:vB->vF->Prop}{s:vF}
theorem qgC(a:vB){Q1:vB->vF->Prop}(h:Q1 (.ref s.heap.objs.size) { s with heap:=s.heap.push { cls:=.type "set", data:=.set #[] 0 (.fresh 0 0 (Yo w)) } }):
  uI (model prog w) A (.call (.builtin "set.__new__") ⟨[.type "set", a],[]⟩) (wants Q1 E) s:=by
 refine codeAny_of_tree ?_;show vL _ A.in1 (checkBuiltinCall "set.__new__" ⟨[.type "set", a],[]⟩ >>= λ_=>again (.builtin "set.__new__" ⟨[.type "set", a],[]⟩)) _ _ s;refine vA (tW (PySem.F.newCall_set_1 a) (vG ⟨vy PySem.F.plain_set_new _,vt PySem.F.entry_set_new ?_⟩));rw[Around.under_plainId PySem.F.plain_set_new _];unfold Builtin.«set.__new__» Builtin.Frozenset.newClass;have p1:=sub_set_self;obtain⟨hp,g,d,tk,os⟩:=s
 dsimp only
 wp_walk
 refine uv (vG ?_)
 dsimp only
 simp only[newObj];refine vA (wpAny_alloc (vG ?_));exact vG h
set_option maxHeartbeats 3200000 in
theorem qbB{l:vC}{items:Array vB}{ns:List Int}{Q:vB->vF->Prop}(hh:A.handled=none)(il:s.heap.IsList l items)(ia:v8 items.toList ns)(hb:items.size+1<uM)(k:∀(h':vX)(tk:Nat),zAW h' s.heap.objs.size (Yo w) (λi=>ns.getD i 0) items.size->(∀b o,b<s.heap.objs.size->s.heap.get? b=some o->h'.get? b=some o)->Q (.ref s.heap.objs.size) { s with heap:=h',toks:=tk }):
  vL (model prog w) A (call (.type "set") [.ref l]) Q E s:=by
 obtain⟨c,tl,c1⟩:=PySem.F.called_set.mro;have c2:=PySem.F.called_set.made;have c3:=PySem.F.called_set.sub;refine wpAny_call (codeAny_of_tree ?_);show vL _ _ (callAny (.type "set") _) _ _ _;refine vG ⟨Code.quiet_builtin _ ⋯,vt PySem.F.entry_type_call ?_⟩;rw[Around.under_plain (weight_type_call_type "set" [.ref l] []) rfl];have c4:=PySem.F.called_set.notType;have c5:=PySem.F.called_set.canCreate;have c6:=PySem.F.typeCall_set_1 (.ref l)
 repeat (any_goals (first|assumption|wp_step))
 refine uK (qgC (.ref l) (E:=E) (Q1:=λobj s1=>obj=.ref s.heap.objs.size/\s1={ s with heap:=s.heap.push { cls:=.type "set", data:=.set #[] 0 (.fresh 0 0 (Yo w)) } }) ⟨rfl,rfl⟩) λr s1 hr=>?_;cases r with
 | error e=>exact hr
 | ok fl=>
  cases fl with
  | ret obj=>
   obtain⟨rfl,rfl⟩:=hr;have hS:(s.heap.push { cls:=.type "set", data:=.set #[] 0 (.fresh 0 0 (Yo w)) }).get? s.heap.objs.size=some { cls:=.type "set", data:=.set #[] 0 (.fresh 0 0 (Yo w)) }:=zR _ rfl;have hT:Shared.TypeIs { s with heap:=s.heap.push { cls:=.type "set", data:=.set #[] 0 (.fresh 0 0 (Yo w)) } } (.ref s.heap.objs.size) "set" := ⟨_,hS,rfl⟩;have c7:=PySem.F.called_set.init.lookup;have c8:=PySem.F.called_set.init.bind (.ref s.heap.objs.size)
   repeat (any_goals (first|assumption|wp_step))
   refine uK (codeAny_call_builtin (R:=wants (λr s2=>r=.none/\∃h' tk,s2={ s with heap:=h',toks:=tk }/\zAW h' s.heap.objs.size (Yo w) (λi=>ns.getD i 0) items.size /\
     (∀b o,b<s.heap.objs.size->s.heap.get? b=some o->h'.get? b=some o)) E) PySem.F.called_set.init.plain PySem.F.entry_set_init (check_set_init_1 hT ?_)) λr2 s2 hr2=>?_
   ·obtain⟨ol,e1,e2,nl,e3⟩:=il
    obtain⟨ocls,odict,odata,oslots⟩:=ol;simp only at e2 e3;subst e2;subst e3;have e1':(s.heap.push { cls:=.type "set", data:=.set #[] 0 (.fresh 0 0 (Yo w)) }).get? l=some { cls:=.type "list", dict:=odict,data:=.seq items nl,slots:=oslots }:=zF _ e1;have d1:=PySem.F.sub_list_set;have d2:=PySem.F.sub_list_frozenset;have d3:(Value.type "list" == Value.type "dict")=false:=by decide
    have il1:(s.heap.push { cls:=.type "set", data:=.set #[] 0 (.fresh 0 0 (Yo w)) }).IsList l items:=⟨_,e1',rfl,nl,rfl⟩;unfold Builtin.«set.__init__» noKeywords Builtin.Frozenset.updateFrom;generalize hPI:tf=PI
    wp_walk
    subst hPI;refine uS il1 ?_;refine vA (wpAny_runValue ?_);have lS:l<s.heap.objs.size:=zM e1;have h3:A.in1.in1.in1.handled=none:=by simp[hh]
    have nI:l≠(s.heap.push { cls:=.type "set", data:=.set #[] 0 (.fresh 0 0 (Yo w)) }).objs.size:=by rw[yO];exact ze (yJ lS)
    have nS:s.heap.objs.size∉[(s.heap.push { cls:=.type "set", data:=.set #[] 0 (.fresh 0 0 (Yo w)) }).objs.size,l]:=by
     rw[yO];simp only[zE,zL,zI,or_false,not_or];exact⟨ze (ya _),wO lS⟩
    have hv:∀(i:Nat)(v:vB),items[i]?=some v->∃t,v=.int ((λi=>ns.getD i 0) i) t:=λi v z=>IntsAre.int_at ia i v (by rw[z5];exact z);refine zAx ((Walks.list h3 _ l nI items).toS) s.heap.objs.size nS (led:=Yo w) (λi=>ns.getD i 0) hv hb (items.size-0) 0 _ ∅ (zu _) ⟨⟨_,zR _ rfl,rfl,rfl⟩,(il1.push _)⟩ ?S0 ?RR
    case S0=>
     refine⟨[],⟨_,#[],0,.fresh 0 0 (Yo w),zF _ hS,⟨rfl,rfl,rfl⟩,rfl,⟨rfl,xW,rfl⟩,rfl,by show 0<uM;decide,λe z=>by simp at z,rfl,wB⟩,zQ _,λx=>⟨λz=>(by cases z),λ⟨i,z,_⟩=>vK z (wN _)⟩⟩
    case RR=>
     intro s' hm S';obtain⟨h',g',d',tk',os'⟩:=s';have eg:g'=s.gens:=hm.gens;have ed:d'=s.drawn:=hm.drawn;have eos:os'=s.os:=hm.os;subst eg;subst ed;subst eos;show vL _ _ _ _ _ _;refine vG ?_;show vL _ _ (ret Value.none) _ _ _;refine vG ⟨rfl,h',tk',rfl,S',λb o z y=>?_⟩;refine hm.heap b o ?_ (zF _ (zF _ y));simp only[zE,zL,zI,or_false,not_or];exact⟨ze z,by rw[yO];exact ze (yJ z)⟩
   ·cases r2 with
    | error e=>exact hr2
    | ok fl2=>
     cases fl2 with
     | ret r=>
      obtain⟨rfl,h',tk,rfl,S',kp⟩:=hr2
      repeat (any_goals (first|assumption|wp_step))
      exact k _ _ S' kp
     | next=>exact hr2.elim
     | brk=>exact hr2.elim
     | cont=>exact hr2.elim
  | next=>exact hr.elim
  | brk=>exact hr.elim
  | cont=>exact hr.elim
end
end Hk
namespace PySem.F
theorem slotSetNext:Slot "set_iterator" "__next__" "set_iterator.__next__" := .of (owner := "set_iterator") (n := "__next__") (by rw[vv,vi];kernel_rfl) ⋯ ⋯ ⋯ (by first|exact .inl ⋯|exact .inr ⋯) (by rw[uU];kernel_rfl)
theorem slotSetIt:Slot "set_iterator" "__iter__" "set_iterator.__iter__" := .of (owner := "set_iterator") (n := "__iter__") (by rw[vv,vi];kernel_rfl) ⋯ ⋯ ⋯ (by first|exact .inl ⋯|exact .inr ⋯) (by rw[uU];kernel_rfl)
theorem WH:Manifest.owners.lookup (String.ofList ['r','o','t','a','r','e','t','i','_','t','e','s'].reverse)=some Manifest.sig_set_iterator:=by kernel_rfl
theorem argsSetNext(a:vB):tj "set_iterator.__next__" ⟨[a],[]⟩:=by
 unfold tj;rw[signature?_of (id := "set_iterator.__next__") (n:=['_','_','t','x','e','n','_','_']) (o:=['r','o','t','a','r','e','t','i','_','t','e','s']) (by kernel_rfl) WH]
 kernel_rfl
theorem argsSetIt(a:vB):tj "set_iterator.__iter__" ⟨[a],[]⟩:=by
 unfold tj;rw[signature?_of (id := "set_iterator.__iter__") (n:=['_','_','r','e','t','i','_','_']) (o:=['r','o','t','a','r','e','t','i','_','t','e','s']) (by kernel_rfl) WH]
 kernel_rfl
theorem entSetNext:entryFor table "set_iterator.__next__" = some Builtin.«set_iterator.__next__»:=entryFor_of_tree (by kernel_rfl)
theorem entSetIter:entryFor table "set.__iter__" = some Builtin.«frozenset.__iter__»:=entryFor_alias (id' := "frozenset.__iter__") (by kernel_rfl) rfl ⋯ (by kernel_rfl)
theorem entSetIt:entryFor table "set_iterator.__iter__" = some Builtin.«dict_keyiterator.__iter__»:=entryFor_alias (id' := "dict_keyiterator.__iter__") (by kernel_rfl) rfl ⋯ (by kernel_rfl)
end PySem.F
namespace Hk
open PySem PySem.Spec PyProof.Rows
section
variable{prog:vO}{w:vU}{A:vY}{E:vB->vF->Prop}{s:vF}
theorem q6s{α:Type}:∀(l:List α)(k:Nat)(h:k<l.length),(l[k]::l.eraseIdx k).Perm l
 | a::r,0,_=>xm _
 | a::r,k+1,h=>by
  have h':k<r.length:=by simpa using h
  show (r[k]::a::r.eraseIdx k).Perm (a::r);exact(List.Perm.swap a r[k] _).trans ((q6s r k h').cons a)
theorem qc3{α:Type}(next:Nat->Nat):∀(fuel k:Nat)(left:List α)(out:Array α),left.length=fuel->(pickOrder.go next fuel k left out).toList.Perm (out.toList++left)
 | 0,k,left,out,h=>by
  have e:left=[]:=yx h;subst e;unfold pickOrder.go;rw[zi]
 | fuel+1,k,left,out,h=>by
  unfold pickOrder.go;have hlt:next k%left.length<left.length:=Nat.mod_lt _ ∅
  rw[zD hlt]
  dsimp only
  refine(qc3 next fuel (k+1) _ _ (by rw[wT hlt,h];rfl)).trans ?_;rw[ZX,zY];exact List.Perm.append_left _ (q6s left _ hlt)
theorem qeb{α:Type}(next:Nat->Nat)(xs:Array α):(uZ next xs).toList.Perm xs.toList:=by
 have:=qc3 next xs.size 0 xs.toList #[] (by simp)
 simpa [uZ]using this
theorem qeo{M:Model}{src:Source}{n:Nat}{Q:Nat->vF->Prop}(hn:n≠0)(h:Q (M.w.draws src (s.drawn.get src)%n) { s with drawn:=s.drawn.bump src }):vL M A (choose src n) Q E s:=λ_ _ _=>⟨hn,h⟩
theorem q7k{M:Model}{α:Type}:∀(n:Nat)(xs:List α)(s:vF)(Q:List α->vF->Prop),xs.length=n->(∀ys d,ys.Perm xs->Q ys { s with drawn:=d })->vL M A (drawOrder n xs) Q E s
 | 0,xs,s,Q,hl,h=>by
  have e:xs=[]:=yx hl;subst e;exact vG (h [] s.drawn (xm _))
 | n+1,[],s,Q,hl,h=>by cases hl
 | n+1,x::r,s,Q,hl,h=>by
  unfold drawOrder;refine vA (qeo (by simp) ?_);generalize hk:M.w.draws Source.order (s.drawn.get Source.order)%(x::r).length=k;have hlt:k<(x::r).length:=by rw[<- hk];exact Nat.mod_lt _ (by simp)
  rw[zD hlt]
  dsimp only
  have hl2:((x::r).eraseIdx k).length=n:=by rw[wT hlt,hl];rfl
  refine vA (q7k n _ _ _ hl2 λys d p=>vG (h _ d ?_));refine Zj (p.cons _) ?_;exact q6s _ k hlt
end
noncomputable abbrev Y4(f:vB)(i:Nat)(a:vC)(n ep:Nat):Obj:={ cls:=.type "set_iterator", data:=.fields #[f,.int i 0,.ref a,.int n 0,.int ep 0] }
section
variable{prog:vO}{w:vU}{A:vY}{E:vB->vF->Prop}{s:vF}
theorem q3n{a:vC}{o:Obj}{es:Array (Int×vB)}{ep:Nat}{t:SetTable}{Q:Array (Int×vB)->vF->Prop}(go:s.heap.get? a=some o)(gd:o.data=.set es ep t)(gf:t.fits es.size=true)(h:Q es s):vL (model prog w) A (setEntries a) Q E s:=by
 unfold setEntries;exact vA (vj go gd gf (vG h))
theorem qdP{it a:vC}{slot i n ep:Nat}{o:Obj}{es:Array (Int×vB)}{t:SetTable}{x:vB}{nxt:Nat}{Q:Option vB->vF->Prop}(e:s.heap.get? it=some (Y4 (.int slot 0) i a n ep))(go:s.heap.get? a=some o)(gd:o.data=.set es ep t)(gf:t.fits es.size=true)(hn:es.size=n)(hnext:∀A' Q' E',Q' (some (x,nxt)) s->vL (model prog w) A' (uh a slot i ep) Q' E' s)(k:∀h',h'.get? it=some (Y4 (.int nxt 0) (i+1) a n ep)->xU it s.heap h'->Q (some x) { s with heap:=h' }):
  vL (model prog w) A (v9 (.ref it)) Q E s:=by
 have hT:s.TypeIs (.ref it) "set_iterator" := ⟨_,e,rfl⟩;unfold v9;refine vA (uP (wpAny_callSpecial?_slot (name:=Str.ofString "__next__") hT F.slotSetNext (vg F.slotSetNext hT F.entSetNext ?_ (F.argsSetNext _))));unfold Builtin.«set_iterator.__next__»;refine vA (m:=tS "__next__" 0 ⟨[.ref it],[]⟩) (vG ?_);refine vA (uj e rfl ?_)
 dsimp only
 refine vA (q3n go gd gf ?_);rw[vN (by rw[hn];simp)];simp only[yT];refine vA (hnext _ _ _ ?_)
 dsimp only
 refine vA (vq e (by simp) λh1 e1 sb1=>?_);refine vA (vq (s:={ s with heap:=h1 }) e1 (by simp) λh2 e2 sb2=>?_);refine vG ⟨_,rfl,vG (k h2 ?_ (sb1.trans sb2))⟩;rw[e2];simp[uD]
theorem qeh{it a:vC}{slot i n ep:Nat}{o:Obj}{es:Array (Int×vB)}{t:SetTable}{Q:Option vB->vF->Prop}(hh:A.handled=none)(e:s.heap.get? it=some (Y4 (.int slot 0) i a n ep))(go:s.heap.get? a=some o)(gd:o.data=.set es ep t)(gf:t.fits es.size=true)(hn:es.size=n)(hnext:∀A' Q' E',Q' none s->vL (model prog w) A' (uh a slot i ep) Q' E' s)(k:∀h',Heap.ExtBut it s.heap h'->Q none { s with heap:=h' }):
  vL (model prog w) A (v9 (.ref it)) Q E s:=by
 have hT:s.TypeIs (.ref it) "set_iterator" := ⟨_,e,rfl⟩;unfold v9;refine vA (uP (wpAny_callSpecial?_slot (name:=Str.ofString "__next__") hT F.slotSetNext (vg F.slotSetNext hT F.entSetNext ?_ (F.argsSetNext _))));unfold Builtin.«set_iterator.__next__»;refine vA (m:=tS "__next__" 0 ⟨[.ref it],[]⟩) (vG ?_);refine vA (uj e rfl ?_)
 dsimp only
 refine vA (q3n go gd gf ?_);rw[vN (by rw[hn];simp)];simp only[yT];refine vA (hnext _ _ _ ?_)
 dsimp only
 refine vA (vq e (by simp) λh1 e1 sb1=>?_);show vL _ _ (newExc (.type "StopIteration") [] >>= λx=>tm x) _ _ _;refine vA ?_;simp only[newExc,newTuple];refine vA (ve ?_ (by size_fits));refine vA (m:=uk _ _) (tW (a:=Value.none) (by first|rfl|(simp only[uk];rfl)) ?_);refine ve ?_ (by size_fits);simp only[tm];refine vA (wpAny_handled ?_);rw[show A.in1.handled=none from hh];refine vA (vG (wpAny_throw ?_));refine vA (uA (T := "StopIteration") (b:=true) ⟨_,zR _ rfl,rfl⟩ um ?_);exact vG (k _ ((sb1.extBut.push _).push _))
end
section
variable{prog:vO}{w:vU}{A:vY}{E:vB->vF->Prop}{s:vF}
theorem q5M{Q:Bool->vF->Prop}(h:Q (w.params.followText "set-order") s):vL (model prog w) A setsByText Q E s:=by
 unfold setsByText;exact vA (uv (vG h))
theorem q8D{a:vC}{o:Obj}{es:Array (Int×vB)}{ep:Nat}{t:SetTable}{slot i:Nat}{r:Option (vB×Nat)}{Q:Option (vB×Nat)->vF->Prop}(go:s.heap.get? a=some o)(gd:o.data=.set es ep t)(gf:t.fits es.size=true)(hB:w.params.followText "set-order" = false)(hl:t.led=true)(hd:(!t.plain&&decide (es.size>1))=false)(hr:(match es[SetTable.below t.place slot]?,t.place[SetTable.below t.place slot]? with|some (_,x),some j=>some (x,j+1)|_,_=>none)=r)(h:Q r s):vL (model prog w) A (uh a slot i ep) Q E s:=by
 unfold uh;refine vA (vj go gd gf ?_)
 dsimp only
 refine vA (q5M ?_);rw[hB];refine vW (λz=>vK z (by decide)) (λ_=>?_);refine vW (λz=>vK ((show (!t.plain&&decide (es.size>1))=true from z).symm.trans hd) (by decide)) (λ_=>?_);refine vA ?_;refine vW (λz=>?_) (λ_=>?_)
 ·have z':(!t.led && !es.isEmpty)=true:=z
  rw[hl]at z';exact vK z' (by simp)
 ·refine vG ?_
  refine vG ?_;rw[<- hr]at h;exact h
theorem qdz{a:vC}{o:Obj}{es:Array (Int×vB)}{ep:Nat}{t:SetTable}{Q:Array (Int×vB)->vF->Prop}(go:s.heap.get? a=some o)(gd:o.data=.set es ep t)(gf:t.fits es.size=true)(hB:w.params.followText "set-order" = true)(h:Q (uZ (w.params.setOrder a ep) es) s):vL (model prog w) A (setWalk a) Q E s:=by
 unfold setWalk;refine vA (vj go gd gf ?_)
 dsimp only
 refine vA (q5M ?_);rw[hB];refine vW (λ_=>?_) (λz=>vK rfl z);exact vA (uv (vG h))
theorem q9R{a:vC}{o:Obj}{es:Array (Int×vB)}{ep:Nat}{t:SetTable}{slot i:Nat}{Q:Option (vB×Nat)->vF->Prop}(go:s.heap.get? a=some o)(gd:o.data=.set es ep t)(gf:t.fits es.size=true)(hB:w.params.followText "set-order" = true)(h:Q (((uZ (w.params.setOrder a ep) es)[i]?).map λe=>(e.2,slot)) s):vL (model prog w) A (uh a slot i ep) Q E s:=by
 unfold uh;refine vA (vj go gd gf ?_)
 dsimp only
 refine vA (q5M ?_);rw[hB];refine vW (λ_=>?_) (λz=>vK rfl z);refine vW (λz=>vK z (by simp)) (λ_=>?_);exact vA (qdz go gd gf hB (vG h))
theorem qc7{it:vC}{f:vB}{i:Nat}{a:vC}{n ep:Nat}{Q:vB->vF->Prop}(e:s.heap.get? it=some (Y4 f i a n ep))(h:Q (.ref it) s):vL (model prog w) A (tf (.ref it)) Q E s:=by
 have hT:s.TypeIs (.ref it) "set_iterator" := ⟨_,e,rfl⟩;refine wpAny_pyIter_slot hT F.slotSetIt (vg F.slotSetIt hT F.entSetIt ?_ (F.argsSetIt _));show vL _ _ (ret (.ref it)) _ _ s;exact vG ⟨_,rfl, "set_iterator", _,hT,F.slotSetNext.lookup,h⟩
theorem qd0(hh:A.handled=none){I a:vC}(hne:a≠I){o:Obj}{es:Array (Int×vB)}{ep:Nat}{t:SetTable}(gd:o.data=.set es ep t)(gf:t.fits es.size=true)(slot:Nat->Nat)(val:Nat->vB)(hn:∀(i:Nat)(s:vF),i<es.size->s.heap.get? a=some o->∀A' Q' E',Q' (some (val i,slot (i+1))) s->vL (model prog w) A' (uh a (slot i) i ep) Q' E' s)(hz:∀(s:vF),s.heap.get? a=some o->∀A' Q' E',Q' none s->vL (model prog w) A' (uh a (slot es.size) es.size ep) Q' E' s):
  Walks prog w A I [I,a] [I] es.size (λi v=>v=val i) (λi h=>h.get? I=some (Y4 (.int (slot i) 0) i a es.size ep)/\h.get? a=some o) where
 sub:=λb hb=>by simp at hb;simp[hb]
 frame:=λ_ _ _ st hk=>⟨hk I (by simp) _ st.1,hk a (by simp) _ st.2⟩
 item:=λi s Q E hi st hQ=>by
  refine qdP st.1 st.2 gd gf rfl (hn i s hi st.2) λh' e' sb=>?_;exact hQ _ h' s.toks rfl ⟨e',sb.extBut a o hne st.2⟩ λb u hb e=>sb.extBut b u (λz=>hb (by simp[z])) e
 done:=λs Q E st hQ=>qeh hh st.1 st.2 gd gf rfl (hz s st.2) λh' eb=>hQ h' s.toks λb u hb e=>eb b u (λz=>hb (by simp[z])) e
 self:=λ_ _ _ _ st hQ=>qc7 st.1 hQ
theorem qd9{it a tp:vC}{i n ep p:Nat}{o:Obj}{es:Array (Int×vB)}{t:SetTable}{x:Int×vB}{ps:Array vB}{ot:Obj}{nt:Nat}{Q:Option vB->vF->Prop}(e:s.heap.get? it=some (Y4 (.ref tp) i a n ep))(go:s.heap.get? a=some o)(gd:o.data=.set es ep t)(gf:t.fits es.size=true)(hn:es.size=n)(gt:s.heap.get? tp=some ot)(gtd:ot.data=.seq ps nt)(hp:ps[i]?=some (.int p 0))(hx:es[p]?=some x)(k:∀h',h'.get? it=some (Y4 (.ref tp) (i+1) a n ep)->xU it s.heap h'->Q (some x.2) { s with heap:=h' }):
  vL (model prog w) A (v9 (.ref it)) Q E s:=by
 have hT:s.TypeIs (.ref it) "set_iterator" := ⟨_,e,rfl⟩;unfold v9;refine vA (uP (wpAny_callSpecial?_slot (name:=Str.ofString "__next__") hT F.slotSetNext (vg F.slotSetNext hT F.entSetNext ?_ (F.argsSetNext _))));unfold Builtin.«set_iterator.__next__»;refine vA (m:=tS "__next__" 0 ⟨[.ref it],[]⟩) (vG ?_);refine vA (uj e rfl ?_)
 dsimp only
 refine vA (q3n go gd gf ?_);rw[vN (by rw[hn];simp)];refine vA (uJ gt gtd ?_)
 dsimp only
 simp only[yT];rw[hp]
 dsimp only
 unfold setNextDrawn;refine vA (vA (vj go gd gf ?_))
 dsimp only
 refine vW (λz=>vK z (by simp)) (λ_=>?_);simp only[yT];rw[hx];refine vG ?_;refine vA (vq e (by simp) λh1 e1 sb1=>?_);refine vG ⟨_,rfl,vG (k h1 ?_ sb1)⟩;rw[e1];simp[uD]
theorem qdb{it a tp:vC}{i n ep:Nat}{o:Obj}{es:Array (Int×vB)}{t:SetTable}{ps:Array vB}{ot:Obj}{nt:Nat}{Q:Option vB->vF->Prop}(hh:A.handled=none)(e:s.heap.get? it=some (Y4 (.ref tp) i a n ep))(go:s.heap.get? a=some o)(gd:o.data=.set es ep t)(gf:t.fits es.size=true)(hn:es.size=n)(gt:s.heap.get? tp=some ot)(gtd:ot.data=.seq ps nt)(hp:ps[i]?=none)(k:∀h',Heap.ExtBut it s.heap h'->Q none { s with heap:=h' }):
  vL (model prog w) A (v9 (.ref it)) Q E s:=by
 have hT:s.TypeIs (.ref it) "set_iterator" := ⟨_,e,rfl⟩;unfold v9;refine vA (uP (wpAny_callSpecial?_slot (name:=Str.ofString "__next__") hT F.slotSetNext (vg F.slotSetNext hT F.entSetNext ?_ (F.argsSetNext _))));unfold Builtin.«set_iterator.__next__»;refine vA (m:=tS "__next__" 0 ⟨[.ref it],[]⟩) (vG ?_);refine vA (uj e rfl ?_)
 dsimp only
 refine vA (q3n go gd gf ?_);rw[vN (by rw[hn];simp)];refine vA (uJ gt gtd ?_)
 dsimp only
 simp only[yT];rw[hp]
 dsimp only
 refine vA (vq e (by simp) λh1 e1 sb1=>?_);refine vA (vq (s:={ s with heap:=h1 }) e1 (by simp) λh2 e2 sb2=>?_);show vL _ _ (newExc (.type "StopIteration") [] >>= λx=>tm x) _ _ _;refine vA ?_;simp only[newExc,newTuple];refine vA (ve ?_ (by size_fits));refine vA (m:=uk _ _) (tW (a:=Value.none) (by first|rfl|(simp only[uk];rfl)) ?_);refine ve ?_ (by size_fits);simp only[tm];refine vA (wpAny_handled ?_);rw[show A.in1.handled=none from hh];refine vA (vG (wpAny_throw ?_));refine vA (uA (T := "StopIteration") (b:=true) ⟨_,zR _ rfl,rfl⟩ um ?_);exact vG (k _ (((sb1.trans sb2).extBut.push _).push _))
theorem qbM(hh:A.handled=none){I a tp:vC}(hne:a≠I)(htp:tp≠I){o:Obj}{es:Array (Int×vB)}{ep:Nat}{t:SetTable}(gd:o.data=.set es ep t)(gf:t.fits es.size=true){ot:Obj}{nt:Nat}(ord:List Nat)(hp:ord.Perm (yk es.size))(gtd:ot.data=.seq (ord.map λ(i:Nat)=>uD i).toArray nt):
  Walks prog w A I [I,a,tp] [I] es.size (λi v=>∃p x,ord[i]?=some p/\es[p]?=some x/\v=x.2) (λi h=>h.get? I=some (Y4 (.ref tp) i a es.size ep)/\h.get? a=some o/\h.get? tp=some ot) where
 sub:=λb hb=>by simp at hb;simp[hb]
 frame:=λ_ _ _ st hk=>⟨hk I (by simp) _ st.1,hk a (by simp) _ st.2.1,hk tp (by simp) _ st.2.2⟩
 item:=λi s Q E hi st hQ=>by
  have hl:ord.length=es.size:=by rw[hp.length_eq,yU]
  have ho:ord[i]?=some (ord[i]'∅):=zD _;have hlt:ord[i]'∅<es.size:=wA.mp (hp.mem_iff.mp (ym _));refine qd9 (p:=ord[i]'∅) (x:=es[ord[i]'∅]) st.1 st.2.1 gd gf rfl st.2.2 gtd (by simp[uD,ho]) (by simp[hlt]) λh' e' sb=>?_;exact hQ _ h' s.toks ⟨_,_,ho,by simp[hlt],rfl⟩ ⟨e',sb.extBut a o hne st.2.1,sb.extBut tp ot htp st.2.2⟩ λb u hb e=>sb.extBut b u (λz=>hb (by simp[z])) e
 done:=λs Q E st hQ=>qdb hh st.1 st.2.1 gd gf rfl st.2.2 gtd (by simp[hp.length_eq]) λh' eb=>hQ h' s.toks λb u hb e=>eb b u (λz=>hb (by simp[z])) e
 self:=λ_ _ _ _ st hQ=>qc7 st.1 hQ
end
end Hk
namespace PySem.F
theorem slotSetLen:uX (.type "set") "__len__" = pure (some (.builtin "set.__len__")):=by rw[vv,vi];kernel_rfl
theorem slotSetIter:Slot "set" "__iter__" "set.__iter__" := .of (owner := "set") (n := "__iter__") (by rw[vv,vi];kernel_rfl) ⋯ ⋯ ⋯ (by first|exact .inl ⋯|exact .inr ⋯) (by rw[uU];kernel_rfl)
theorem argsSetIter(a:vB):tj "set.__iter__" ⟨[a],[]⟩:=by
 unfold tj;kernel_rfl
end PySem.F
namespace Hk
open PySem PySem.Spec PyProof.Rows
noncomputable def slotAt(xs:Array Nat):Nat->Nat
 | 0=>0
 | i+1=>xs.toList.getD i 0+1
theorem q8N{xs:Array Nat}(h:WO xs):∀i,i<=xs.size->SetTable.below xs (slotAt xs i)=i:=by
 intro i hi;obtain⟨h1,h2,h3⟩:=qaN h (slotAt xs i);have hz:xs.toList.length=xs.size:=zc;cases i with
 | zero=>
  rcases Nat.eq_zero_or_pos (SetTable.below xs (slotAt xs 0))with z|z
  ·exact z
  ·exact vK (h2 0 ∅ z) (wN _)
 | succ i=>
  have hlt:i<xs.toList.length:=∅
  have e:slotAt xs (i+1)=xs.toList[i]+1:=by
   show xs.toList.getD i 0+1=_;rw[zX,zD hlt];rfl
  rw[e]at h2 h3 h1 ⊢;generalize SetTable.below xs (xs.toList[i]+1)=b at h1 h2 h3 ⊢;have a1:i<b:=by
   rcases yC i b with z|z
   ·exact z
   ·have:=h3 i hlt z;omega
  have a2:b<=i+1:=by
   rcases yC (i+1) b with z|z
   ·have y:=h2 (i+1) ∅ z
    have y':=q7I h hlt (show i+1<xs.toList.length by omega) (ya i);omega
   ·exact z
  omega
theorem qdE{val:Nat->vB}{n:Nat}{acc:Array vB}(h:ItemsOf (λi v=>v=val i) acc n):acc.toList=(yk n).map val:=by
 apply wC;intro i;rw[z5,za];rcases yC i n with z|z
 ·rw[xq z]
  have hz:i<acc.size:=by rw[h.1];exact z
  have:acc[i]?=some acc[i]:=zk hz;rw[this,h.2 i _ this];rfl
 ·rw[zt (by rw[yU];exact z),yN (by rw[h.1];exact z)];rfl
theorem q9F:∀{l:List (Int×vB)},(∀e∈l,Xk e)->v8 (l.map (·.2)) (l.map λe=>vI e.2)
 | [],_=>.nil
 | e::r,h=>by
  obtain⟨x,t,rfl⟩:=h e zK;exact .cons _ _ (q9F λe he=>h e (zJ _ he))
section
variable{prog:vO}{w:vU}{A:vY}{E:vB->vF->Prop}{s:vF}
theorem qfn{r:vC}{Q:Bool->vF->Prop}(hT:s.TypeIs (.ref r) "set")(h:Q false s):vL (model prog w) A (Builtin.List.listLengthHint (.ref r)) Q E s:=by
 unfold Builtin.List.listLengthHint;refine vA (uH hT F.slotSetLen ?_);generalize hid:("set.__len__" : String)=id0
 wp_delta
 rw[show splitId id0=some ("set", "__len__")from by subst hid;decide +kernel];subst hid;refine vA (uA (T := "set") (b:=true) hT (by rw[uU];kernel_rfl) ?_);refine vW (λhab=>vK hab (by decide)) (λ_=>?_);refine vW (λ_=>?_) (λhab=>vK ⋯ hab);refine vA (uL hT ?_);exact vG h
theorem qfo{a:vC}{xs:List Int}{Q:vB->vF->Prop}(S:X2 s.heap a (Yo w) xs)(k:∀(h':vX)(d:tN)(I:vC)(fp:List vC)(P:Nat->vB->Prop)(St:Nat->vX->Prop),(∀b o,s.heap.get? b=some o->h'.get? b=some o)->s.heap.objs.size<=I->(∀b∈fp,b=a\/s.heap.objs.size<=b) ->
   (∀A:vY,A.handled=none->Walks prog w A I fp [I] xs.length P St)->St 0 h'->(∀acc:Array vB,ItemsOf P acc xs.length->∃ys,v8 acc.toList ys/\ys.Perm xs)->(∀b∈fp,b<h'.objs.size)->Q (.ref I) { s with heap:=h',drawn:=d }) :
  vL (model prog w) A (tf (.ref a)) Q E s:=by
 obtain⟨o,es,ep,t,go,gx,gd,T,gl,gb,gg,gv,gn⟩:=id S;have hl:es.size=xs.length:=by rw[<- gv,zA,zc]
 have hlt:a<s.heap.objs.size:=zM go;have hps:t.place.size=es.size:=by
  have:=T.fits;unfold SetTable.fits at this;simp only[zV,beq_iff_eq]at this;exact this.1
 have hT:s.TypeIs (.ref a) "set" := ⟨o,go,gx.1⟩;refine wpAny_pyIter_slot hT F.slotSetIter (vg F.slotSetIter hT F.entSetIter ?_ (F.argsSetIter _));unfold Builtin.«frozenset.__iter__» Builtin.Frozenset.slot0 Builtin.Frozenset.sizeOf;refine vA ?_;refine vA (m:=tS "__iter__" 0 ⟨[.ref a],[]⟩) (vG ?_);show vL _ _ (pure a) _ _ s;refine vG ?_;refine vA (vA (q3n go gd T.fits (vG ?_)));refine vA ?_;unfold setDrawn;refine vA (vj go gd T.fits ?_)
 dsimp only
 refine vA (q5M (vG ?_));have perm_ok:∀(l:List (Int×vB)),l.Perm es.toList->∃ys,v8 (l.map (·.2)) ys/\ys.Perm xs:=λl p=>
  ⟨_,q9F λe he=>gg e (p.mem_iff.mp he),by rw[<- gv];exact p.map _⟩
 have slots:∀(slot:Nat->Nat)(l:List (Int×vB)),slot 0=0->l.Perm es.toList ->
   (∀(i:Nat)(s:vF),i<es.size->s.heap.get? a=some o->∀A' Q' E',Q' (some ((l.map (·.2)).getD i .none,slot (i+1))) s->vL (model prog w) A' (uh a (slot i) i ep) Q' E' s) ->
   (∀(s:vF),s.heap.get? a=some o->∀A' Q' E',Q' none s->vL (model prog w) A' (uh a (slot es.size) es.size ep) Q' E' s) ->
   Q (.ref s.heap.objs.size) { s with heap:=s.heap.push (Y4 (.int (slot 0:Nat) 0) 0 a es.size ep) }:=λslot l h0 p hn hz=>by
  have:=k (s.heap.push (Y4 (.int (slot 0:Nat) 0) 0 a es.size ep)) s.drawn s.heap.objs.size [s.heap.objs.size,a] (λi v=>v=(l.map (·.2)).getD i .none) (λi h=>h.get? s.heap.objs.size=some (Y4 (.int (slot i) 0) i a es.size ep)/\h.get? a=some o)
   (λb u e=>zF _ e) (zQ _) (λb hb=>by
    simp only[zE,zI,or_false]at hb;rcases hb with rfl|rfl
    ·exact .inr (zQ _)
    ·exact .inl rfl) (λA hh=>by rw[<- hl];exact qd0 hh (ze hlt) gd T.fits slot _ hn hz) ⟨zR _ rfl,zF _ go⟩ (λacc hacc=>by
    rw[qdE hacc];obtain⟨ys,y1,y2⟩:=perm_ok l p;have e:(yk xs.length).map (λi=>(l.map (·.2)).getD i .none)=l.map (·.2):=by
     apply wC;intro i;have hll:l.length=xs.length:=by rw[p.length_eq,zc,hl]
     rw[za];rcases yC i xs.length with z|z
     ·rw[xq z]
      show some ((l.map (·.2)).getD i .none)=_;rw[zX,zD (by rw[zA,hll];exact z)];rfl
     ·rw[zt (by rw[yU];exact z),zt (by rw[zA,hll];exact z)];rfl
    rw[e];exact⟨ys,y1,y2⟩) (λb hb=>by
    rw[yO];simp only[zE,zI,or_false]at hb;rcases hb with rfl|rfl
    ·exact ya _
    ·exact yJ hlt)
  exact this
 have getD_at:∀(l:List (Int×vB))(i:Nat)(e:Int×vB),l[i]?=some e->(l.map (·.2)).getD i .none=e.2:=λl i e h=>by
  rw[zX,za,h];rfl
 cases hB:w.params.followText "set-order" with
 | true=>
  refine vA (vG ?_);refine vA ?_;unfold setEpoch;refine vA (vj go gd T.fits (vG ?_));refine vA (ve (vG ⟨_,rfl, "set_iterator", _,⟨_,zR _ rfl,rfl⟩,F.slotSetNext.lookup,?_⟩));have pp:=qeb (w.params.setOrder a ep) es;have hpl:(uZ (w.params.setOrder a ep) es).size=es.size:=by rw[<- zc,pp.length_eq,zc]
  refine slots (λ_=>0) _ rfl pp (λi s hi go' A' Q' E' q=>?_) λs go' A' Q' E' q=>?_
  ·refine q9R go' gd T.fits hB ?_
   have hz:i<(uZ (w.params.setOrder a ep) es).size:=by rw[hpl];exact hi
   rw[zk hz];have:=getD_at (uZ (w.params.setOrder a ep) es).toList i (uZ (w.params.setOrder a ep) es)[i] (by rw[z5,zk hz]);rw[this]at q;exact q
  ·refine q9R go' gd T.fits hB ?_
   rw[yN (by rw[hpl];exact zQ _)];exact q
 | false=>
  have led:t.led=true:=by rw[gl];unfold Yo;rw[hB];rfl
  cases hD:(!t.plain&&decide (es.size>1))with
  | false=>
   refine vW (λz=>vK ((show (!false&&(!t.plain&&decide (es.size>1)))=true from z)) (by rw[hD];decide)) (λ_=>?_);refine vA (vG ?_);refine vA ?_;unfold setEpoch;refine vA (vj go gd T.fits (vG ?_));refine vA (ve (vG ⟨_,rfl, "set_iterator", _,⟨_,zR _ rfl,rfl⟩,F.slotSetNext.lookup,?_⟩));refine slots (slotAt t.place) es.toList rfl (xm _) (λi s hi go' A' Q' E' q=>?_) λs go' A' Q' E' q=>?_
   ·refine q8D go' gd T.fits hB led hD rfl ?_
    rw[q8N T.rise i ∅,zk hi,zk (show i<t.place.size by omega)];have:=getD_at es.toList i es[i] (by rw[z5,zk hi]);rw[this]at q;have e2:slotAt t.place (i+1)=t.place[i]'∅+1:=by
     show t.place.toList.getD i 0+1=_;rw[zX,z5,zk (show i<t.place.size by omega)];rfl
    rw[e2]at q;exact q
   ·refine q8D go' gd T.fits hB led hD rfl ?_
    rw[q8N T.rise es.size ∅,yN (zQ _)];exact q
  | true=>
   refine vW (λ_=>?_) (λz=>vK (show (!false&&(!t.plain&&decide (es.size>1)))=true by rw[hD];rfl) z);refine vA (q7k es.size (yk es.size) _ _ yU λord d po=>?_);have hol:ord.length=es.size:=by rw[po.length_eq,yU]
   refine vA (wpAny_newTuple ?_ (by rw[zA,hol];exact zm (yL gb) (by decide)));refine vA ?_;unfold setEpoch;have go2:(s.heap.push { cls:=.type "tuple", data:=.seq (ord.map λ(i:Nat)=>uD i).toArray }).get? a=some o:=zF _ go;refine vA (vj go2 gd T.fits (vG ?_));refine vA (ve (vG ⟨_,rfl, "set_iterator", _,⟨_,zR _ rfl,rfl⟩,F.slotSetNext.lookup,?_⟩));have hs1:(s.heap.push { cls:=.type "tuple", data:=.seq (ord.map λ(i:Nat)=>uD i).toArray }).objs.size=s.heap.objs.size+1:=yO _ _;have ht1:(s.heap.push { cls:=.type "tuple", data:=.seq (ord.map λ(i:Nat)=>uD i).toArray }).get? s.heap.objs.size=some { cls:=.type "tuple", data:=.seq (ord.map λ(i:Nat)=>uD i).toArray }:=zR _ rfl;refine k _ d _ [(s.heap.push { cls:=.type "tuple", data:=.seq (ord.map λ(i:Nat)=>uD i).toArray }).objs.size,a,s.heap.objs.size] (λi v=>∃p x,ord[i]?=some p/\es[p]?=some x/\v=x.2)
    (λi h=>h.get? (s.heap.push { cls:=.type "tuple", data:=.seq (ord.map λ(i:Nat)=>uD i).toArray }).objs.size=some (Y4 (.ref s.heap.objs.size) i a es.size ep)/\h.get? a=some o/\h.get? s.heap.objs.size=some { cls:=.type "tuple", data:=.seq (ord.map λ(i:Nat)=>uD i).toArray }) (λb u e=>zF _ (zF _ e)) (by rw[hs1];exact xn _) (λb hb=>?_) (λA hh=>by
    rw[<- hl];exact qbM (tp:=s.heap.objs.size) hh (by rw[hs1];exact ze (yJ hlt)) (by rw[hs1];exact ze (ya _)) gd T.fits ord po rfl)
    ⟨zR _ rfl,zF _ go2,zF _ ht1⟩ (λacc hacc=>?_) (λb hb=>?_)
   ·simp only[zE,zI,or_false]at hb
    rcases hb with rfl|rfl|rfl
    ·exact .inr (by rw[hs1];exact xn _)
    ·exact .inl rfl
    ·exact .inr (zQ _)
   ·have e:acc.toList=(ord.map λp=>es.toList.getD p (0,.none)).map (·.2):=by
     apply wC;intro i;rw[z5,za,za];rcases yC i acc.size with z|z
     ·obtain⟨p,x,h1,h2,h3⟩:=hacc.2 i acc[i] (zk z)
      rw[zk z,h1,h3];show _=some (es.toList.getD p (0,.none)).2;rw[zX,z5,h2];rfl
     ·rw[yN z,zt (by rw[hol,hl,<- hacc.1];exact z)];rfl
    have p2:(ord.map λp=>es.toList.getD p (0,.none)).Perm es.toList:=by
     refine(po.map _).trans ?_;have:(yk es.size).map (λp=>es.toList.getD p (0,Value.none))=es.toList:=by
      apply wC;intro i;rw[za];rcases yC i es.size with z|z
      ·rw[xq z]
       show some (es.toList.getD i (0,Value.none))=_;rw[zX,zD (by rw[zc];exact z)];rfl
      ·rw[zt (by rw[yU];exact z),zt (by rw[zc];exact z)];rfl
     rw[this]
    rw[e];exact perm_ok _ p2
   ·rw[yO,hs1]
    simp only[zE,zI,or_false]at hb;rcases hb with rfl|rfl|rfl
    ·rw[hs1];exact ya _
    ·exact yJ (yJ hlt)
    ·exact yJ (ya _)
end
section
variable{prog:vO}{w:vU}{A:vY}{E:vB->vF->Prop}{s:vF}
theorem qdd{R:tJ->vF->Prop}{a:vC}{xs:List Int}(hh:A.handled=none)(SI:X2 s.heap a (Yo w) xs)(S:vC)(hSa:S≠a)(res:vB)(c₀:Nat)(hS:s.heap.get? S=some { cls:=.type "list", data:=.seq #[] c₀ })(hR:∀h' tk d acc' c',(∀b o,b≠S->s.heap.get? b=some o->h'.get? b=some o)->h'.get? S=some { cls:=.type "list", dict:=none,data:=.seq acc' c',slots:=#[] }->(∃ys,v8 acc'.toList ys/\ys.Perm xs)->R (.ok (.ret res)) { s with heap:=h',toks:=tk,drawn:=d }):
  vL (model prog w) A.in1 (Builtin.List.listExtendWith (.ref S) (.ref a) res)
   (λfin s'=>match fin with|.done f=>R (.ok f) s'|.again c'=>c'.quiet=true/\uI (model prog w) A c' R s') (λe s'=>R (.error e) s') s:=by
 have hn:xs.length<=sizeLine:=zm (yL SI.len) (by decide);obtain⟨o,es,ep,t,go,gx,gd,T,gl,gb,gg,gv,gn⟩:=id SI;have hTy:∀h:vX,h.get? a=some o->Shared.TypeIs { s with heap:=h } (.ref a) "set" := λh e=>⟨o,e,gx.1⟩;unfold Builtin.List.listExtendWith;refine vA (uL (T := "set") ⟨o,go,gx.1⟩ ?_);have h1:Builtin.List.listSameRef (.ref S) (.ref a)=false:=by simp[Builtin.List.listSameRef,hSa]
 have h2:(Value.type "set" == Value.type "list")=false:=by decide
 have h3:(Value.type "set" == Value.type "tuple")=false:=by decide
 simp only[h1,h2,h3,yg,z9,if_false];refine vA (qfo SI λh1 d I fp P St keep hI hfp W st items hlt=>?_);have hS1:h1.get? S=some { cls:=.type "list", data:=.seq #[] c₀ }:=keep _ _ hS;have hSlt:S<s.heap.objs.size:=zM hS;have hSf:S∉fp:=λhm=>by
  rcases hfp S hm with z|z
  ·exact hSa z
  ·exact vK hSlt (Zn.mpr z)
 have key:∀(h:vX)(c₁ tk:Nat),St 0 h->(∀b o,b≠S->s.heap.get? b=some o->h.get? b=some o) ->
   h.get? S=some { cls:=.type "list", data:=.seq #[] c₁ }->uI (model prog w) A (.builtin "list.extend.loop" ⟨[.ref S,.ref I,res],[]⟩) R { s with heap:=h,toks:=tk,drawn:=d }:=by
  intro h c₁ tk hst hk hS₁;refine u6 (W A.in1 hh).toS hn S hSf res xs.length 0 _ #[] c₁ rfl (zu _) hst hS₁ (ItemsOf.nil _) λs' acc' c' hm hS' hacc=>?_;rw[Moved.eq_with hm];refine hR s'.heap s'.toks d acc' c' (λb o hb e=>hm.heap b o (λhmem=>?_) (hk b o hb e)) hS' (items acc' hacc);rcases zE.mp hmem with e'|hmem
  ·exact hb e'
  ·exact vK (zM e) (by rw[zL.mp hmem];exact Zn.mpr hI)
 refine vA (vh (qfn ⟨o,keep _ _ go,gx.1⟩ ?_));refine vW (λ_=>?_) (λ_=>vG ⟨vy PySem.F.plain_extend_loop _,key _ c₀ _ st (λb o _ e=>keep b o e) hS1⟩);refine vA (uY ?_);refine vA ?_;show vL _ _ (ui S (·.push .none) >>= λ_=>ui S (·.pop)) _ _ _;refine vA (vx hS1 rfl ?_);have hS₂:=xT (Obj.mapSeq (·.push Value.none)) hS1 rfl;refine vx (hz:=by seq_fits) hS₂ rfl ?_;have hS₃:=xT (Obj.mapSeq (·.pop)) hS₂ rfl;refine vG ⟨vy PySem.F.plain_extend_loop _,key _ _ _ ?_ (λb o hb e=>?_) hS₃⟩
 ·refine(W A.in1 hh).frame 0 _ _ st λb hb o e=>?_
  have hbS:b≠S:=λh=>hSf (h▸hb);exact(yB _ _ (Ne.symm hbS)).trans ((yB _ _ (Ne.symm hbS)).trans e)
 ·exact(yB _ _ (Ne.symm hb)).trans ((yB _ _ (Ne.symm hb)).trans (keep b o e))
theorem qbO{R:List vB->vF->Prop}{a:vC}{xs:List Int}(hh:A.handled=none)(SI:X2 s.heap a (Yo w) xs)(h:∀(h':vX)(tk:Nat)(d:tN)(vs:List vB)(ys:List Int),(∀b o,s.heap.get? b=some o->h'.get? b=some o)->s.heap.objs.size<h'.objs.size->v8 vs ys->ys.Perm xs->R vs { s with heap:=h',toks:=tk,drawn:=d }):
  vL (model prog w) A (collect (.ref a)) R E s:=by
 obtain⟨o,es,ep,t,go,gx,gd,T,gl,gb,gg,gv,gn⟩:=id SI;have hlt:a<s.heap.objs.size:=zM go;unfold collect;refine vA (wpAny_runValue (vt entry_proto_collect' ?_));rw[Around.under_plainId PySem.F.plain_proto_collect _];show vL _ A.in1 (newList [] >>= λl=>again (.builtin "list.__iadd__" ⟨[l,.ref a],[]⟩)) _ _ s;refine vA (ve ?_);refine vG ⟨vy PySem.F.plain_list_iadd _,vt entry_list_iadd' ?_⟩;rw[Around.under_plainId PySem.F.plain_list_iadd _];have hS₁:(s.heap.push { cls:=.type "list", data:=.seq ([]:List vB).toArray }).get? s.heap.objs.size=some { cls:=.type "list", data:=.seq #[] }:=zR _ rfl;show vL _ A.in1 (Builtin.List.listExtendWith (.ref s.heap.objs.size) (.ref a) (.ref s.heap.objs.size)) _ _ _;have key:=qdd (prog:=prog) (A:=A) (s:={ s with heap:=s.heap.push { cls:=.type "list", data:=.seq ([]:List vB).toArray } })
  (R:=λ(q:tJ) (s':vF)=>∃(h':vX) (tk:Nat) (d:tN) (acc':Array vB) (c':Nat),q=.ok (.ret (.ref s.heap.objs.size))/\s'={ s with heap:=h',toks:=tk,drawn:=d } /\
   (∀b o,s.heap.get? b=some o->h'.get? b=some o)/\h'.get? s.heap.objs.size=some { cls:=.type "list", dict:=none,data:=.seq acc' c',slots:=#[] }/\∃ys,v8 acc'.toList ys/\ys.Perm xs)
  hh (SI.at λo e=>zF _ e) s.heap.objs.size (wO hlt) (.ref s.heap.objs.size) 0 hS₁
  (λh' tk d acc' c' hk hS' hacc=>⟨h',tk,d,acc',c',rfl,rfl,λb o e=>hk b o (ze (zM e)) (zF _ e),hS',hacc⟩)
 refine vc key (λfin s' x=>?_) λe s' x=>?_
 ·cases fin with
  | done f=>
   obtain⟨h',tk,d,acc',c',e,rfl,hk,hS',ys,y1,y2⟩:=x;cases e;show vL _ A (load s.heap.objs.size >>= _) _ _ _;refine vA (wpAny_load hS' ?_);exact vG (h h' tk d _ ys hk (zM hS') y1 y2)
  | again c₁=>
   refine⟨x.1,uK x.2 λq s₂ y=>?_⟩;obtain⟨h',tk,d,acc',c',rfl,rfl,hk,hS',ys,y1,y2⟩:=y;show vL _ A (load s.heap.objs.size >>= _) _ _ _;refine vA (wpAny_load hS' ?_);exact vG (h h' tk d _ ys hk (zM hS') y1 y2)
 ·obtain⟨_,_,_,_,_,e',_⟩:=x
  cases e'
theorem qcM{a:vC}{xs:List Int}{Q:vB->vF->Prop}(hh:A.handled=none)(SI:X2 s.heap a (Yo w) xs)(h64:xs.length<64)(h:∀(D:vC)(h':vX)(tk:Nat)(d:tN)(vs:List vB)(ys:List Int)(n:Nat),(∀b o,s.heap.get? b=some o->h'.get? b=some o)->s.heap.objs.size<=D->h'.get? D=some (tq "list" vs.toArray n)->v8 vs ys->ys.Perm xs->ys.Pairwise (· <= ·)->Q (.ref D) { s with heap:=h',toks:=tk,drawn:=d }):
  vL (model prog w) A (call (.builtin "sorted") [.ref a]) Q E s:=by
 refine Calls.call_function_entry kind_sorted plain_sorted entry_sorted (args_sorted1 _) ?_;unfold Builtin.«sorted»;refine vA (m:=checkCount "sorted" 1 1 _) (vG ?_);refine vA (qbO (A:=A.in1) hh SI λh1 tk d vs ys hk hz y1 y2=>?_);have hlen:vs.length=xs.length:=by rw[IntsAre.length y1,y2.length_eq]
 refine vA (wpAny_newList ?_ (zm (by rw[hlen];exact yL h64) (by decide)));have hoL:(h1.push (tq "list" vs.toArray 0)).get? h1.objs.size=some (tq "list" vs.toArray 0):=zR _ rfl;refine vA (vh (vg slot_list_sort ⟨_,hoL,rfl⟩ entry_list_sort (list_sort_tree hoL y1 (by rw[hlen];exact h64) λout ns' a1 a2 a3=>⟨_,rfl,?_⟩) (args_list_sort _)));obtain⟨n,hn⟩:=sortedHeap_at (vs:=vs) (out:=out) hoL;refine vG ⟨_,rfl,h h1.objs.size _ tk d out.toList ns' n (λb o e=>?_) ?_ ?_ a1 (a2.trans y2) a3⟩
 ·have e1:=hk b o e
  rw[sortedHeap_old (ze (zM e1)) (by rw[yO];exact yJ (zM e1))];exact zF _ e1
 ·exact yL hz
 ·rw[wL];exact hn
end
end Hk
namespace L2
open PySem PySem.Spec PyProof.Rows
noncomputable def XH(names:List (Str×uG))(cells:List (Str×vC))(cs:List (Str×vC)):List (Str×vC) :=
 match names with
 | []=>cs
 | p::r=>XH r cells (if p.2 == .free then (p.1,(cells.lookup p.1).getD 0)::cs else cs)
theorem q6G{scope:uN}{env:Env}(h:∀p∈scope.names,p.2=NameKind.free->(env.cells.lookup p.1).isSome=true):
  closureFor scope env=pure (XH scope.names env.cells []):=by
 simp only[closureFor];generalize scope.names=l at h ⊢;have key:∀(l:List (Str×uG))(cs:List (Str×vC)),(∀p∈l,p.2=NameKind.free->(env.cells.lookup p.1).isSome=true) ->
   (forIn l cs (λ(p:Str×uG) (r:List (Str×vC))=>if (p.2==NameKind.free)=true then (do let a <- cellOf env p.1;pure (ForInStep.yield ((p.1,a)::r)))else pure (ForInStep.yield r)):Sem _)=pure (XH l env.cells cs):=by
  intro l
  induction l with
  | nil=>intro cs _;rfl
  | cons p r ih=>
   intro cs hp;rw[w8];have hr:=λq hq=>hp q (zJ _ hq)
   by_cases hf:p.2=NameKind.free
   ·have hs:=hp p zK hf
    obtain⟨a,ha⟩:=yf.mp hs;have e:cellOf env p.1=pure a:=by unfold cellOf;rw[ha]
    have hb:(p.2==NameKind.free)=true:=by rw[hf];rfl
    rw[vM hb,e,pure_bind,pure_bind];show forIn r _ _=_;rw[ih _ hr];show _=pure (XH r env.cells (if p.2 == .free then _ else _));rw[vM hb,ha];rfl
   ·have hb:¬(p.2==NameKind.free)=true:=by intro z;exact hf (by cases hk:p.2 <;> simp_all)
    rw[vN hb,pure_bind];show forIn r _ _=_;rw[ih _ hr];show _=pure (XH r env.cells (if p.2 == .free then _ else _));rw[vN hb]
 rw[key l [] h];rfl
theorem qbY{k:uG}(h:(k==NameKind.free)=true):k=NameKind.free:=by cases k <;> first|rfl|cases h
theorem q73{cells:List (Str×vC)}:∀(l:List (Str×uG))(cs:List (Str×vC)),(∀p∈l,p.2=NameKind.free->(cells.lookup p.1).isSome=true) ->
  (∀x c,cs.lookup x=some c->cells.lookup x=some c)->∀x c,(XH l cells cs).lookup x=some c->cells.lookup x=some c
 | [],cs,_,h,x,c,e=>h x c e
 | p::r,cs,hp,h,x,c,e=>by
  refine q73 r _ (λq hq=>hp q (zJ _ hq)) (λy d hy=>?_) x c e
  by_cases hb:(p.2==NameKind.free)=true
  ·rw[vM hb,yr]at hy
   cases hyp:y==p.1 with
   | true=>
    rw[hyp]at hy;have hy':(cells.lookup p.1).getD 0=d:=zo hy;obtain⟨a,ha⟩:=yf.mp (hp p zK (qbY hb));rw[ha]at hy';rw[eq_of_beq hyp,ha,<- hy'];rfl
   | false=>rw[hyp]at hy;exact h y d hy
  ·rw[vN hb]at hy;exact h y d hy
theorem q7d{cells:List (Str×vC)}:∀(l:List (Str×uG))(cs:List (Str×vC))(x:Str),((x,NameKind.free)∈l\/(cs.lookup x).isSome=true)->((XH l cells cs).lookup x).isSome=true
 | [],cs,x,h=>by
  rcases h with h|h
  ·cases h
  ·exact h
 | p::r,cs,x,h=>by
  refine q7d r _ x ?_;rcases h with h|h
  ·rcases zE.mp h with rfl|h
   ·right
    show (List.lookup x (if (NameKind.free==NameKind.free)=true then _ else _)).isSome=true;rw[vM (by rfl),yr,beq_self_eq_true];rfl
   ·exact .inl h
  ·right
   by_cases hb:(p.2==NameKind.free)=true
   ·rw[vM hb,yr]
    cases hx:x==p.1 with
    | true=>rfl
    | false=>exact h
   ·rw[vN hb];exact h
noncomputable def Yx(X:Cx)(N:List Str)(scope:uN)(C:vC)(s:vF)(H:Hp)(fp:List vC):Cx :=
 { X with N:=N,s₀:=s,H₀:=H,env:=compEnvC scope (XH scope.names X.env.cells []) C X.env,outer:=X.stack,stack:=X.stack,ex:=fp,fn:=λ_=>false,pn:=[],xe:=λ_ _=>False }
noncomputable def Wq(M:Nat)(frees:List Nat)(σ:St):St:=wR M none++frees.map λj=>(σ[j]?).getD none
structure BlkOk (X:Cx) (N:List Str) (M:Nat) (frees:List Nat) (scope:uN):Prop where
 kind:scope.kind=.function
 nocell:∀y∈scope.names,y.2≠.cell
 own:∀y∈scope.names,y.2=.local->scope.names.lookup y.1=some .local
 cells:∀p∈scope.names,p.2=NameKind.free->(X.env.cells.lookup p.1).isSome=true
 fr:∀(k:Nat)(x:Str),N[M+k]?=some x->∃j,frees[k]?=some j/\X.N[j]?=some x/\(X.env.kindOf x=some .cell\/X.env.kindOf x=some .free)/\scope.names.lookup x=some .free
 len:N.length=M+frees.length
theorem q5y{env:Env}{x:Str}:∀{names:List (Str×uG)}{k:uG},(∀y∈names,y.2≠.cell)->(k=.cell\/k=.free) ->
  (names.map λ(n,k)=>if (k==NameKind.free&&env.scope.kind == .function&&env.kindOf n==some .cell)then (n,NameKind.cell)else (n,k)).lookup x=some k->(x,NameKind.free)∈names
 | [],_,_,_,h=>by cases h
 | (n,k0)::r,k,hc,hk,h=>by
  have ih:=@q5y env x r k (λy hy=>hc y (zJ _ hy)) hk;rw[zT]at h
  by_cases hb:(k0==NameKind.free&&env.scope.kind == .function&&env.kindOf n==some .cell)=true
  ·have hf:k0=NameKind.free:=qbY (by rw[zV,zV]at hb;exact hb.1.1)
   dsimp only at h
   rw[vM hb,yr]at h;cases hx:x==n with
   | true=>rw[eq_of_beq hx,hf];exact zK
   | false=>rw[hx]at h;exact zJ _ (ih h)
  ·dsimp only at h
   rw[vN hb,yr]at h;cases hx:x==n with
   | true=>
    rw[hx]at h;have e:k0=k:=zo h;have z:=hc (n,k0) zK;rw[eq_of_beq hx];rcases hk with rfl|rfl
    ·exact vK e z
    ·rw[e];exact zK
   | false=>rw[hx]at h;exact zJ _ (ih h)
theorem q7g{env:Env}{x:Str}:∀{names:List (Str×uG)},names.lookup x=some .free ->
  (names.map λ(n,k)=>if (k==NameKind.free&&env.scope.kind == .function&&env.kindOf n==some .cell)then (n,NameKind.cell)else (n,k)).lookup x=some .cell \/
  (names.map λ(n,k)=>if (k==NameKind.free&&env.scope.kind == .function&&env.kindOf n==some .cell)then (n,NameKind.cell)else (n,k)).lookup x=some .free
 | [],h=>by cases h
 | (n,k0)::r,h=>by
  have ih:=@q7g env x r;rw[zT]
  dsimp only
  rw[yr]at h
  by_cases hb:(k0==NameKind.free&&env.scope.kind == .function&&env.kindOf n==some .cell)=true
  ·rw[vM hb,yr]
   cases hx:x==n with
   | true=>exact .inl rfl
   | false=>rw[hx]at h;exact ih h
  ·rw[vN hb,yr]
   cases hx:x==n with
   | true=>rw[hx]at h;exact .inr h
   | false=>rw[hx]at h;exact ih h
section
variable{X:Cx}{pins:List (vC×Obj)}{σ:St}{H:Hp}{s:vF}{N:List Str}{M:Nat}{frees:List Nat}{scope:uN}{fp:List vC}
theorem Inv.enter{h1:vX}{C D tk:Nat}{m1:Str->Option vB}(I:Inv X pins σ H s)(B:BlkOk X N M frees scope)(f:∀b∈fp,Wm X pins H b)(lt:∀b∈fp,b<s.heap.objs.size)(hC:s.heap.objs.size<C)(hD:s.heap.objs.size<=D)(hDC:C≠D)(k:∀b u,s.heap.get? b=some u->h1.get? b=some u)(hns:h1.Ns C m1)(hl:h1.get? D=some { cls:=.type "list", data:=.seq ([]:List vB).toArray }):
  Inv (Yx X N scope C s H fp) [] (Wq M frees σ) (upd H D (.lst [])) { s with heap:=h1,toks:=tk }:=by
 have sub:=q73 (cells:=X.env.cells) scope.names [] B.cells (λx c e=>by cases e);have hfr:H D=none:=I.hok.fresh hD;have hfc:H C=none:=I.hok.fresh (yL hC);have clt:∀x c,(XH scope.names X.env.cells []).lookup x=some c->c<s.heap.objs.size:=λx c e=>by
  obtain⟨v,q⟩:=I.cell x c (sub x c e);exact q.lt
 refine⟨⟨I.ok.mod,B.kind,I.ok.glob,I.ok.blt,yL hC,λx y c e1 e2=>I.ok.inj x y c (sub x c e1) (sub y c e2),λx hx=>?_,λx c e=>vK e (by intro z;cases z),I.ok.hd,I.ok.frames,.inl rfl,λb hb=>?_,I.bs,zm I.ok.bsz I.sz,λb o e hb=>?_,
  λb hb hf=>?_,I.stack,I.stkFree⟩,rfl,I.bare,Un.laid k hD hfr,⟨m1,hns,λi x v e1 e2 e3=>?_⟩,λx c e=>?_,?_,λx c e=>?_,λp hp=>vK (show p∈([]:List (vC×Obj))from hp) (by simp),I.hok.laid k hD ⟨zu _,[],0,.nil,hl⟩,?_⟩
 ·have hm:(x,NameKind.free)∈scope.names:=by
   rcases hx with hx|hx
   ·exact q5y B.nocell (.inl rfl) hx
   ·exact q5y B.nocell (.inr rfl) hx
  exact yf.mp (q7d scope.names [] x (.inl hm))
 ·exact⟨ze (ZW (lt b hb) hC),λx c e=>(f b hb).2.2.2.2.1 x c (sub x c e)⟩
 ·rcases (f b hb).2.2.2.1 with z|z
  ·exact I.ok.noex b o e z
  ·exact vK (zd (zM e) (zm I.ok.bsz z)) (yv _)
 ·rcases zE.mp (I.stkSub b hf)with z|z
  ·exact(f b hb).2.1 z
  ·exact(f b hb).2.2.1 z
 ·have hi:M<=i:=by
   rcases yC i M with z|z
   ·unfold Wq at e2
    rw[zj ⇑z,yl,vM z]at e2;cases e2
   ·exact z
  obtain⟨q,rfl⟩:∃q,i=M+q:=⟨i-M,∅⟩;obtain⟨j,h1',h2',h3',h4'⟩:=B.fr q x e1;have ev:σ[j]?=some (some v):=by
   unfold Wq at e2;rw[zf (by simp),ye,wd,za,h1']at e2;cases e:σ[j]? with
   | none=>rw[yD,e]at e2;cases e2
   | some o=>rw[yD,e]at e2;exact e2
  obtain⟨m,hn,hl'⟩:=I.loc;have vis:Vis X.env.scope x:=by
   rcases h3' with z|z
   ·exact .inr (.inl z)
   ·exact .inr (.inr z)
  obtain⟨u,ru,lk⟩:=hl' j x v h2' ev vis;refine⟨u,ru,.inr ?_⟩;rcases lk with⟨z,_⟩|⟨_,c,ec,ic⟩
  ·rcases h3' with y|y <;> (rw[z]at y;cases y)
  ·obtain⟨c',ec'⟩:=yf.mp (q7d (cells:=X.env.cells) scope.names [] x (.inl (PySem.mem_of_lookup h4')))
   have:c'=c:=zo ((sub x c' ec').symm.trans ec);subst this;exact⟨q7g h4',c',ec',ic.keeps k⟩
 ·obtain⟨v,q⟩:=I.cell x c (sub x c e)
  exact⟨v,q.keeps k⟩
 ·show upd H D (.lst []) C=none
  rw[qf hDC];exact hfc
 ·show upd H D (.lst []) c=none
  rw[qf (ze (zd (clt x c e) hD))];exact I.freeC x c (sub x c e)
 ·show (Wq M frees σ).length=N.length
  unfold Wq;rw[zC,ye,zA,B.len]
end
section
variable{prog:vO}{w:vU}{A:vY}{R:tJ->vF->Prop}{s:vF}
theorem qbG{elt target iter:vQ}{ifs:List vQ}{scope:uN}{pos:Pos}{it acc:vB}{env:Env}(J:Nat->vF->Prop)(turn:∀n s,J n s->vL (model prog w) A (v9 it) (λr s1=>match r with
   | none=>R (.ok .next) s1
   | some v=>vL (model prog w) A (ud target it v) (λ_ s2=>vL (model prog w) A (assign target env v) (λ_ s3=>
     vL (model prog w) A (forIn ifs true λc r=>if r=true then do let ok <- tZ c env (eval c env);pure (ForInStep.yield ok)else pure (ForInStep.yield r)) (λok s4=>
      if ok=true then vL (model prog w) A (eval elt env) (λx s5=>vL (model prog w) A (call (.builtin "list.append") [acc,x]) (λ_ s6=>∃m,m<n/\J m s6) (λ_ _=>False) s5) (λ_ _=>False) s4
      else ∃m,m<n/\J m s4) (λ_ _=>False) s3) (λ_ _=>False) s2) (λ_ _=>False) s1) (λ_ _=>False) s)
  (n:Nat) (h:J n s):uI (model prog w) A (.compLoop (.ListComp elt [⟨target,iter,ifs,0⟩] scope pos) 0 it acc env) R s:=by
 refine codeAny_loop rfl J (λn s hJ=>?_) n h;show vL _ A ((compTurn (.ListComp elt [⟨target,iter,ifs,0⟩] scope pos) 0 it acc env).onRaise (λx=>do noteFrame x env;theTreesLotGoes x)) _ _ s;refine wpAny_noted (vc (Q:=λfin s'=>match fin with|.done f=>R (.ok f) s'|.again c'=>c'=.compLoop (.ListComp elt [⟨target,iter,ifs,0⟩] scope pos) 0 it acc env/\∃m,m<n/\J m s') ?_ (λ_ _ q=>q) λ_ _ (z:False)=>z.elim);rw[compTurn_list];refine vA (wpAny_standAt (vA (vc (turn n s hJ) (λr s1 h1=>?_) λ_ _ q=>q)));cases r with
 | none=>exact vG h1
 | some v=>
  refine vA (vc h1 (λ_ s2 h2=>vA (vc h2 (λ_ s3 h3=>vA (vc h3 (λok s4 h4=>?_) λ_ _ q=>q)) λ_ _ q=>q)) λ_ _ q=>q);cases ok with
  | false=>exact vG ⟨rfl,h4⟩
  | true=>exact vA (vA (vc h4 (λx s5 h5=>vA (vc h5 (λ_ s6 h6=>vG (vG ⟨rfl,h6⟩)) λ_ _ q=>q)) λ_ _ q=>q))
end
def PTs(X:Cx)(ifs:List vQ)(t:TT):Prop :=
 ∀(pins:List (vC×Obj))(s:vF)(σ:St)(H:Hp)(Q:Bool->Hp->Prop),Inv X pins σ H s->t σ H Q ->
  vL (model X.prog X.w) X.A (forIn ifs true λc r=>if r=true then do let ok <- tZ c X.env (eval c X.env);pure (ForInStep.yield ok)else pure (ForInStep.yield r)) (TP X pins σ Q) X.xe s
theorem qgB{X:Cx}:PTs X [] (λ_ H Q=>Q true H):=λ_ _ _ H _ I q=>wpAny_tests_nil ⟨H,I,q⟩
theorem qgF{X:Cx}{c:vQ}{t:TT}(h:PT X c t):PTs X [c] t:=λpins s σ H Q I q=>wpAny_tests_one (h pins s σ H Q I q)
noncomputable def zAT(M:Nat)(frees:List Nat)(wi:TI)(g:TG)(tc:TT)(te:TE):TE:=λσ H Q=>wi σ H λJ H1=>∀D,H1 D=none ->
 ∃W:Nat->Nat->St->Hp->Prop,(∃m,W 0 m (Wq M frees σ) (upd H1 D (.lst [])))/\∀i m σ' H',W i m σ' H' ->
  (J.stop i H'/\Q (.ref D) H')\/(J.go i H'/\∀x H2,J.yld i H' x H2->g x σ' H2 λσ2 H3=>tc σ2 H3 λb H4=>
   if b=true then te σ2 H4 λv H5=>∃acc,H5 D=some (.lst acc)/\acc.length<sizeLine/\∃m',m'<m/\W (i+1) m' σ2 (upd H5 D (.lst (acc++[v])))
   else ∃m',m'<m/\W (i+1) m' σ2 H4)
section
variable{X:Cx}{N:List Str}{M:Nat}{frees:List Nat}{scope:uN}{tg iter elt:vQ}{ifs:List vQ}{pos:Pos}{wi:TI}{g:TG}{tc:TT}{te:TE}
theorem qb4(hc:X.calm=true)(B:BlkOk X N M frees scope)(hb:∀C s H fp,PG (Yx X N scope C s H fp) tg g/\PTs (Yx X N scope C s H fp) ifs tc/\PE (Yx X N scope C s H fp) elt te){pins:List (vC×Obj)}{σ:St}{Q:VK}{s2:vF}{itv:vB}{E:vB->vF->Prop}{RR:vB->vC->tJ->vF->Prop}(h2:PIE X pins σ tg (λJ H1=>∀D,H1 D=none ->
   ∃W:Nat->Nat->St->Hp->Prop,(∃m,W 0 m (Wq M frees σ) (upd H1 D (.lst [])))/\∀i m σ' H',W i m σ' H' ->
    (J.stop i H'/\Q (.ref D) H')\/(J.go i H'/\∀x H2,J.yld i H' x H2->g x σ' H2 λσ2 H3=>tc σ2 H3 λb H4=>
     if b=true then te σ2 H4 λv H5=>∃acc,H5 D=some (.lst acc)/\acc.length<sizeLine/\∃m',m'<m/\W (i+1) m' σ2 (upd H5 D (.lst (acc++[v])))
     else ∃m',m'<m/\W (i+1) m' σ2 H4)) itv s2)
  (hR:∀D C s' H' m,Inv X pins σ H' s'->Q (.ref D) H'->s'.heap.Ns C m->H' C=none->C≠X.env.locals->X.s₀.heap.objs.size<=C->(∀x c,X.env.cells.lookup x=some c->c≠C)->(∀p∈X.pn++pins,p.1≠C)->RR (.ref D) C (.ok .next) s') :
  vL (model X.prog X.w) X.A (newList []) (λacc s3=>vL (model X.prog X.w) X.A (newFunctionEnv scope X.env.globals (XH scope.names X.env.cells []) [] X.env.qual none .none (some X.env)) (λcenv s4=>
   uI (model X.prog X.w) X.A (.compStart (.ListComp elt [⟨tg,iter,ifs,0⟩] scope pos) 0 itv acc { cenv with scope:=relabel scope X.env }) (RR acc cenv.locals) s4) E s3) E s2:=by
 obtain⟨it,fp,tn,J,H2,e,I2,T,st2,f2,q⟩:=h2;subst e;refine ve (wpAny_newFunctionEnv B.nocell (by intro y hy;simp at hy) (λh1 hns hsb=>?_) B.kind)
 dsimp only at hns hsb ⊢
 generalize hP:s2.heap.push { cls:=.type "list", dict:=none,data:=.seq ([]:List vB).toArray }=P1 at hns hsb ⊢;have hsz:P1.objs.size=s2.heap.objs.size+1:=by rw[<- hP,yO]
 have below:∀b,b<s2.heap.objs.size->b≠P1.objs.size:=λb z=>by rw[hsz];exact ze (yJ z)
 have keep:∀b u,s2.heap.get? b=some u->h1.get? b=some u:=λb u z=>hsb.extBut b u (below b (zM z)) (zF _ (hP▸zF _ z));have hne:s2.heap.objs.size≠P1.objs.size:=by rw[hsz];exact ze (ya _)
 have hl:h1.get? s2.heap.objs.size=some { cls:=.type "list", data:=.seq ([]:List vB).toArray }:=hsb.extBut _ _ hne (zF _ (hP▸zR _ rfl));have lt2:∀b∈fp,b<s2.heap.objs.size:=λb z=>by
  obtain⟨o,eo,_⟩:=T.obj _ _ st2 b z;exact zM eo
 have hD0:H2 s2.heap.objs.size=none:=I2.hok.fresh (zQ _);obtain⟨W,⟨m0,w0⟩,turn⟩:=q s2.heap.objs.size hD0;have I4:=I2.enter (N:=N) (M:=M) (frees:=frees) (scope:=scope) (fp:=fp) (h1:=h1) (C:=P1.objs.size) (D:=s2.heap.objs.size) (tk:=s2.toks+([]:List (Str×vB)).length) B f2 lt2 (by rw[hsz];exact ya _) (zQ _) (Ne.symm hne) keep hns hl;have hcx:∀(C:vC),(Yx X N scope C s2 H2 fp).calm=true:=λ_=>hc;have stat:∀{H':Hp},(∀b∈fp,H' b=none)->∀b∈fp,Wm (Yx X N scope P1.objs.size s2 H2 fp) [] H' b:=λ{H'} hn b z=>by
  refine⟨hn b z,below b (lt2 b z),λy=>?_,.inl z,λx c y=>?_,λp y=>vK (show p∈([]:List (vC×Obj))from y) (by simp)⟩
  ·rcases zE.mp (I2.stkSub b y)with u|u
   ·exact(f2 b z).2.1 u
   ·exact(f2 b z).2.2.1 u
  ·exact(f2 b z).2.2.2.2.1 x c (q73 (cells:=X.env.cells) scope.names [] B.cells (λx c e=>by cases e) x c y)
 have fr4:∀b∈fp,(upd H2 s2.heap.objs.size (HO.lst [])) b=none:=λb z=>by
  rw[qf (ze (lt2 b z))];exact(f2 b z).1
 have st4:tn 0 h1:=T.keep _ _ _ st2 λb _ o z=>keep b o z;have fin:∀(s':vF)(σ':St)(H':Hp),Inv (Yx X N scope P1.objs.size s2 H2 fp) [] σ' H' s'->Q (.ref s2.heap.objs.size) H'->RR (.ref s2.heap.objs.size) P1.objs.size (.ok .next) s':=λs' σ' H' I' q'=>by
  obtain⟨m,hm,_⟩:=I'.loc;have u':Un (frs X.stack) fp H2 H' s2.heap s'.heap:=I'.base;have I0:Inv X pins σ H' s':=I2.call' (ch:=fp) I'.os u' I'.hok I'.bare λb z=>⟨(f2 b z).2.2.2.1,(f2 b z).2.1,(f2 b z).2.2.2.2.1,(f2 b z).2.2.2.2.2⟩;refine hR _ _ s' H' m I0 q' hm I'.free (wO (zd I2.lt (by rw[hsz];exact xn _))) (zm I2.sz (by rw[hsz];exact xn _)) (λx c z=>?_) λp z=>?_
  ·obtain⟨v,y⟩:=I2.cell x c z
   exact below c y.lt
  ·exact below p.1 (zM (I2.pin p z).1)
 have loop:∀s4:vF,s4={ s2 with heap:=h1,toks:=s2.toks+([]:List (Str×vB)).length } ->
   uI (model X.prog X.w) X.A (.compLoop (.ListComp elt [⟨tg,iter,ifs,0⟩] scope pos) 0 (.ref it) (.ref s2.heap.objs.size) (compEnvC scope (XH scope.names X.env.cells []) P1.objs.size X.env)) (RR (.ref s2.heap.objs.size) P1.objs.size) s4:=by
  rintro s4 rfl;refine qbG (λn s'=>∃i σ' H',Inv (Yx X N scope P1.objs.size s2 H2 fp) [] σ' H' s'/\tn i s'.heap/\(∀b∈fp,H' b=none)/\W i n σ' H') ?_ m0 ⟨0,_,_,I4,st4,fr4,w0⟩;rintro n s5 ⟨i,σ5,H5,I5,st5,fr5,w5⟩;rcases turn i n σ5 H5 w5 with⟨stop,qn⟩|⟨go,step⟩
  ·refine thn (T.done (Yx X N scope P1.objs.size s2 H2 fp) rfl rfl rfl hc i [] s5 σ5 H5 _ I5 (stat fr5) st5 stop) λr s6 ⟨hr,I6⟩=>?_
   subst hr;exact fin s6 σ5 H5 I6 qn
  ·refine thn (T.item (Yx X N scope P1.objs.size s2 H2 fp) rfl rfl rfl hc i [] s5 σ5 H5 _ I5 (stat fr5) st5 go) λr s6 ⟨u,hr,h6⟩=>?_
   subst hr;refine thn h6 λ_ s7 ⟨x,H7,I7,r7,y7,st7,fr7⟩=>?_;have I7':=I7.pinned (stat fr7) (T.obj _ _ st7);have B7:=hb P1.objs.size s2 H2 fp;refine thn (B7.1 _ s7 σ5 H7 x u _ I7' r7 (step x H7 y7)) λ_ s8 ⟨σ8,H8,I8,q8⟩=>?_;refine thn (B7.2.1 _ s8 σ8 H8 _ I8 q8) λok s9 ⟨H9,I9,q9⟩=>?_;have again:∀{σa:St}{Ha:Hp}{sa:vF},Inv (Yx X N scope P1.objs.size s2 H2 fp) ([]++Xz fp s7.heap) σa Ha sa->(∃m',m'<n/\W (i+1) m' σa Ha) ->
     ∃m,m<n/\∃i σ' H',Inv (Yx X N scope P1.objs.size s2 H2 fp) [] σ' H' sa/\tn i sa.heap/\(∀b∈fp,H' b=none)/\W i m σ' H':=λ{σa Ha sa} Ia ⟨m',hm,wa⟩=>by
    refine⟨m',hm,i+1,σa,Ha,Ia.unpinned,T.keep _ _ _ st7 λb z o eo=>(Ia.pin (b,o) (zU _ (zU _ (q4J z eo)))).1,λb z=>?_,wa⟩;obtain⟨o,eo,d⟩:=T.obj _ _ st7 b z;exact(Ia.pin (b,o) (zU _ (zU _ (q4J z eo)))).2.1
   cases ok with
   | false=>exact again I9 q9
   | true=>
    rw[vM rfl];refine thn (B7.2.2 _ s9 σ8 H9 _ I9 q9) λy s10 ⟨v,H10,I10,r10,acc,ha,hz,m',hm,wn⟩=>?_;refine thn (q5H (X:=Yx X N scope P1.objs.size s2 H2 fp) _ s10 σ8 H10 (.ref s2.heap.objs.size) [v] (.ref s2.heap.objs.size) [y] (λ_ Hn=>∃m',m'<n/\W (i+1) m' σ8 Hn) I10 rfl (.cons r10 .nil) ⟨_,acc,v,rfl,rfl,ha,hz,m',hm,wn⟩) λ_ s11 ⟨_,H11,I11,_,q11⟩=>?_;exact again I11 q11
 exact codeAny_compStart_list (loop _ rfl) (T.self _ 0 _ _ _ st4 (loop _ rfl))
theorem qci(hc:X.calm=true)(B:BlkOk X N M frees scope)(hi:PI X tg iter wi)(hb:∀C s H fp,PG (Yx X N scope C s H fp) tg g/\PTs (Yx X N scope C s H fp) ifs tc/\PE (Yx X N scope C s H fp) elt te)(hs:∀x,vn iter X.env x=pure x:=by intro _;rfl):PE X (.ListComp elt [⟨tg,iter,ifs,0⟩] scope pos) (zAT M frees wi g tc te):=by
 intro pins s σ H Q I h;rw[eval_ListComp];refine ur (use:=none) rfl hs (q6G B.cells) B.kind B.own (vc (hi pins s σ H _ I h) (λv s1 h1=>vc h1 (λitv s2 h2=>?_) λ_ _ q=>q) λ_ _ q=>q);refine qb4 (RR:=λacc C=>compPost (model X.prog X.w) X.A X.xe none (EP X pins σ Q) acc C) hc B hb h2 λD C s' H' m I' q' hm hC h1 h3 h4 h5=>?_;exact⟨m,hm,λh' hs'=>⟨.ref D,H',I'.turned (t':=s'.toks) (λb o z y=>hs'.extBut b o z y) hC h1 (.inr h3) h4 h5,rfl,q'⟩⟩
theorem qfP{i:Nat}{x:Str}{pos' spos:Pos}(hc:X.calm=true)(hN:X.N.Nodup)(hi':X.N[i]?=some x)(hx:X.env.scope.names.lookup x=some .local)(B:BlkOk X N M frees scope)(hi:PI X tg iter wi)(hb:∀C s H fp,PG (Yx X N scope C s H fp) tg g/\PTs (Yx X N scope C s H fp) ifs tc/\PE (Yx X N scope C s H fp) elt te)(hsw:vm (.ListComp elt [⟨tg,iter,ifs,0⟩] scope pos) (some (.Name x pos')) spos.line X.env=pure true:=by rfl)(hs:∀x,vn iter X.env x=pure x:=by intro _;rfl):PS X (.Assign [.Name x pos'] (.ListComp elt [⟨tg,iter,ifs,0⟩] scope pos) spos) (tAsg (zAT M frees wi g tc te) (We i)):=by
 intro pins s σ H D I h;rw[exec_Assign_Name_used _ _ _ _ hsw];refine vA (wpAny_standAt (vA ?_));show vL _ X.A (do let _ <- comprehension (.ListComp elt [⟨tg,iter,ifs,0⟩] scope pos) scope X.env _ (newList []) false (eval iter X.env) (some (assign (.Name x pos') X.env))) _ _ s;refine vA (vc (ur (use:=some (assign (.Name x pos') X.env)) (Q:=λ_ s'=>SP X pins D .next s') rfl hs (q6G B.cells) B.kind B.own
  (vc (hi pins s σ H _ I h) (λv s1 h1=>vc h1 (λitv s2 h2=>?_) λ_ _ q=>q) λ_ _ q=>q)) (λ_ s' hq=>vG (vG hq)) λ_ _ q=>q)
 refine qb4 (Q:=λy H1=>We i y σ H1 D.nx) (RR:=λacc C=>compPost (model X.prog X.w) X.A X.xe (some (assign (.Name x pos') X.env)) (λ_ s'=>SP X pins D .next s') acc C) hc B hb h2 λDd C s' H' m I' q' hm hC h1 h3 h4 h5=>?_;show vL _ X.A (assign (.Name x pos') X.env (.ref Dd)) _ _ _;refine wpAny_assign_Name (q9X I' hN hi' (.inl hx) (v:=.ref Dd) (u:=.ref Dd) rfl (λs'' I'' ⟨a,hsb,ha⟩=>?_) (.inr hx));have hCa:C≠a:=by
  rcases ha with rfl|ha
  ·exact h1
  ·exact Ne.symm (h4 x a ha)
 refine⟨m,hm.sameBut hsb hCa,λh' hs'=>⟨_,H',I''.turned (t':=s''.toks) (λb o z y=>hs'.extBut b o z y) hC h1 (.inr h3) h4 h5,q'⟩⟩
end
end L2
namespace Hk
open PySem L2
inductive D where
 | non|bl (b:Bool)|int (i:Int)|str (x:Str)|lst (xs:List D)|tup (xs:List D)|scr (ns:List Int)|exc (c:Str)|dic (ks:List Int) (xs:List D)
noncomputable def kvsOf:List Int->List V->List (Key×V)
 | k::ks,v::vs=>(.inl k,v)::kvsOf ks vs
 | _,_=>[]
def excP(a C:vC)(h:vX):Prop:=∃o,h.get? a=some o/\o.cls=.ref C
mutual
def Rep(K:zB)(H:Hp):D->V->Prop
 | .non,v=>v=.non
 | .bl b,v=>v=.bl b
 | .int i,v=>v=.int i
 | .str x,v=>v=.str x
 | .lst ds,v=>∃a vs,v=.ref a/\H a=some (.lst vs)/\YA K H ds vs
 | .tup ds,v=>∃a vs,v=.ref a/\H a=some (.tup vs)/\YA K H ds vs
 | .scr ns,v=>∃a,v=.ref a/\SqL K H a (ns.map V.int)
 | .exc c,v=>∃a C,v=.ref a/\zw K vS c=some (some (.ref C))/\H a=some (.ext (excP a C))
 | .dic ks ds,v=>∃a vs,v=.ref a/\(∃o,H a=some (.frz o (.dK (kvsOf ks vs))))/\ks.length=ds.length/\YA K H ds vs
def YA(K:zB)(H:Hp):List D->List V->Prop
 | [],vs=>vs=[]
 | d::ds,vs=>∃v r,vs=v::r/\Rep K H d v/\YA K H ds r
end
mutual
theorem Rep.mono{K:zB}{H H':Hp}(e:YO H H'):∀{d:D}{v:V},Rep K H d v->Rep K H' d v
 | .non,_,h=>h
 | .bl _,_,h=>h
 | .int _,_,h=>h
 | .str _,_,h=>h
 | .lst _,_,⟨a,vs,h1,h2,h3⟩=>⟨a,vs,h1,e _ _ h2,YA.mono e h3⟩
 | .tup _,_,⟨a,vs,h1,h2,h3⟩=>⟨a,vs,h1,e _ _ h2,YA.mono e h3⟩
 | .scr _,_,⟨a,h1,h2⟩=>⟨a,h1,e.seq h2⟩
 | .exc _,_,⟨a,C,h1,h2,h3⟩=>⟨a,C,h1,h2,e _ _ h3⟩
 | .dic _ _,_,⟨a,vs,h1,⟨o,h2⟩,h4,h3⟩=>⟨a,vs,h1,⟨o,e _ _ h2⟩,h4,YA.mono e h3⟩
theorem YA.mono{K:zB}{H H':Hp}(e:YO H H'):∀{ds:List D}{vs:List V},YA K H ds vs->YA K H' ds vs
 | [],_,h=>h
 | _::_,_,⟨v,r,h1,h2,h3⟩=>⟨v,r,h1,Rep.mono e h2,YA.mono e h3⟩
end
section
variable{K:zB}{H:Hp}
theorem YA.nil:YA K H [] []:=rfl
theorem YA.cons{d:D}{ds:List D}{v:V}{vs:List V}(h:Rep K H d v)(t:YA K H ds vs):YA K H (d::ds) (v::vs):=⟨v,vs,rfl,h,t⟩
theorem YA.len:∀{ds:List D}{vs:List V},YA K H ds vs->ds.length=vs.length
 | [],_,h=>by cases (show _=_ from h);rfl
 | _::_,_,⟨v,r,h1,_,h3⟩=>by rw[h1,zG,zG,YA.len h3]
theorem YA.app:∀{ds es:List D}{vs us:List V},YA K H ds vs->YA K H es us->YA K H (ds++es) (vs++us)
 | [],_,_,_,h,t=>by cases (show _=_ from h);exact t
 | _::_,_,_,_,⟨v,r,h1,h2,h3⟩,t=>by rw[h1];exact⟨v,_,rfl,h2,YA.app h3 t⟩
theorem YA.get:∀{ds:List D}{vs:List V}{i:Nat}{d:D},YA K H ds vs->ds[i]?=some d->∃v,vs[i]?=some v/\Rep K H d v
 | [],_,_,_,_,e=>by simp at e
 | _::_,_,0,_,⟨v,r,h1,h2,h3⟩,e=>by simp at e;subst e;rw[h1];exact⟨v,rfl,h2⟩
 | _::_,_,i+1,d,⟨v,r,h1,h2,h3⟩,e=>by
  obtain⟨u,e1,e2⟩:=YA.get (i:=i) (d:=d) h3 ⇑e;exact⟨u,by rw[h1];simpa using e1,e2⟩
theorem YA.take:∀{ds:List D}{vs:List V}(n:Nat),YA K H ds vs->YA K H (ds.take n) (vs.take n)
 | _,_,0,_=>rfl
 | [],_,_+1,h=>by cases (show _=_ from h);rfl
 | _::_,_,n+1,⟨v,r,h1,h2,h3⟩=>by rw[h1];exact⟨v,_,rfl,h2,YA.take n h3⟩
theorem YA.drop:∀{ds:List D}{vs:List V}(n:Nat),YA K H ds vs->YA K H (ds.drop n) (vs.drop n)
 | _,_,0,h=>h
 | [],_,_+1,h=>by cases (show _=_ from h);rfl
 | _::_,_,n+1,⟨v,r,h1,h2,h3⟩=>by rw[h1];exact YA.drop n h3
theorem YA.ints:∀(ns:List Int),YA K H (ns.map D.int) (ns.map V.int)
 | []=>rfl
 | n::r=>⟨.int n,_,rfl,rfl,YA.ints r⟩
theorem YA.of_ints:∀{ns:List Int}{vs:List V},YA K H (ns.map D.int) vs->vs=ns.map V.int
 | [],_,h=>h
 | n::r,_,⟨v,vs,h1,h2,h3⟩=>by
  have:=YA.of_ints h3;have e:v=.int n:=h2;rw[h1,this,e];rfl
end
structure Ext (G H G' H':Hp):Prop where
 gg:YO G G'
 gh:YO G' H'
 hh:YO H H'
 new:∀b,G b=none->H b≠none->G' b=none
theorem Ext.refl{G H:Hp}(h:YO G H):Ext G H G H:=⟨YO.refl _,h,YO.refl _,λ_ e _=>e⟩
theorem Ext.trans{G H G1 H1 G2 H2:Hp}(a:Ext G H G1 H1)(b:Ext G1 H1 G2 H2):Ext G H G2 H2:=by
 refine⟨a.gg.trans b.gg,b.gh,a.hh.trans b.hh,λc h1 h2=>?_⟩;have e1:=a.new c h1 h2;refine b.new c e1 λz=>h2 ?_;exact a.hh.free z
theorem Yi{H:Hp}{p:vC}(h:H p=none)(o:HO):YO H (upd H p o):=λb u q=>by rw[qf (q1n q h)];exact q
theorem Xv{G H:Hp}{p:vC}(e:YO G H)(o:HO):YO (upd G p o) (upd H p o):=λb u q=>by
 by_cases z:b=p
 ·subst z;rw[qm]at q ⊢;exact q
 ·rw[qf z]at q ⊢;exact e b u q
theorem YJ{G H:Hp}{p:vC}(e:YO G H)(h:G p=none)(o:HO):YO G (upd H p o):=λb u q=>by rw[qf (q1n q h)];exact e b u q
theorem Ext.lay{G H:Hp}{p:vC}(e:YO G H)(h:H p=none)(o:HO):Ext G H (upd G p o) (upd H p o):=by
 have g:G p=none:=e.free h;refine⟨Yi g o,Xv e o,Yi h o,λb h1 h2=>?_⟩
 by_cases z:b=p
 ·subst z;exact vK h h2
 ·rw[qf z];exact h1
theorem Ext.hide{G H:Hp}{p:vC}(e:YO G H)(h:H p=none)(o:HO):Ext G H G (upd H p o) :=
 ⟨YO.refl _,YJ e (e.free h) o,Yi h o,λ_ z _=>z⟩
inductive W where
 | sh (d:D)|ow (ds:List D)|od (ks:List Int) (ds:List D)|pw (ds:List D)
noncomputable abbrev WSt:=List (Option W)
structure Fr where
 hp:Hp
 pin:Nat->vC
noncomputable instance:CoeFun Fr λ_=>Hp:=⟨Fr.hp⟩
noncomputable instance:Coe Fr Hp:=⟨Fr.hp⟩
noncomputable def fr(H:Hp):Fr:=⟨H,λ_=>0⟩
def Yq(K:zB)(F:Fr)(G:Hp)(ω:WSt)(σ:St)(H:Hp):Prop:=∀(i:Nat)ds,ω[i]?=some (some (.pw ds))->∃vs,σ[i]?=some (some (.ref (F.pin i)))/\H (F.pin i)=some (.lst vs)/\G (F.pin i)=none/\F.hp (F.pin i)=none/\YA K G ds vs /\
 (∀(j:Nat)es,ω[j]?=some (some (.pw es))->F.pin j=F.pin i->j=i)/\∀(j:Nat)es,ω[j]?=some (some (.ow es))->σ[j]?≠some (some (.ref (F.pin i)))
theorem Yq.keep{K:zB}{F:Fr}{G G':Hp}{ω:WSt}{σ:St}{H H':Hp}(o:Yq K F G ω σ H)(e:Ext G H G' H'):Yq K F G' ω σ H':=λi ds h=>by
 obtain⟨vs,h1,h2,h3,h4,h5,h6⟩:=o i ds h;exact⟨vs,h1,e.hh _ _ h2,e.new _ h3 (by rw[h2];exact λz=>by cases z),h4,h5.mono e.gg,h6⟩
theorem Yq.no{K:zB}{F:Fr}{G:Hp}{ω:WSt}{σ:St}{H:Hp}(h:∀(i:Nat)ds,ω[i]?≠some (some (.pw ds))):Yq K F G ω σ H:=λi ds e=>vK e (h i ds)
structure Own (K:zB) (G0:Hp) (H0:Fr) (G:Hp) (ω:WSt) (σ:St) (H:Hp):Prop where
 ext:Ext G0 H0.hp G H
 len:ω.length=σ.length
 sh:∀(i:Nat)d,ω[i]?=some ↥d->∃v,σ[i]?=some (some v)/\Rep K G d v
 ow:∀(i:Nat)ds,ω[i]?=some (some (.ow ds))->∃l vs,σ[i]?=some (some (.ref l))/\H l=some (.lst vs)/\G l=none/\H0 l=none/\YA K G ds vs
 nd:∀(i j:Nat)ds es l,ω[i]?=some (some (.ow ds))->ω[j]?=some (some (.ow es))->σ[i]?=some (some (.ref l))->σ[j]?=some (some (.ref l))->i=j
 od:∀(i:Nat)ks ds,ω[i]?=some (some (.od ks ds))->∃p vs,σ[i]?=some (some (.ref p))/\H p=some (.dK (kvsOf ks vs))/\G p=none/\H0 p=none/\ks.length=ds.length/\YA K G ds vs /\
  ∀(j:Nat)ks' es,ω[j]?=some (some (.od ks' es))->σ[j]?=some (some (.ref p))->i=j
 pw:Yq K H0 G ω σ H
inductive R where
 | sh (d:D)|fr (ds:List D)|vw (ds:List D)
noncomputable def R.d:R->D
 | .sh d=>d
 | .fr ds=>.lst ds
 | .vw ds=>.lst ds
def zAf(K:zB)(H G' H':Hp):R->V->Prop
 | .sh d,v=>Rep K G' d v
 | .fr ds,v=>∃l vs,v=.ref l/\H l=none/\G' l=none/\H' l=some (.lst vs)/\YA K G' ds vs
 | .vw ds,v=>∃l vs,v=.ref l/\H' l=some (.lst vs)/\YA K G' ds vs
def Vw(K:zB)(G H:Hp)(d:D)(v:V):Prop:=Rep K G d v\/∃ds l vs,d=.lst ds/\v=.ref l/\H l=some (.lst vs)/\YA K G ds vs
theorem Own.keep{K:zB}{G0:Hp}{H0:Fr}{G G':Hp}{ω:WSt}{σ:St}{H H':Hp}(o:Own K G0 H0 G ω σ H)(e:Ext G H G' H'):Own K G0 H0 G' ω σ H':=by
 refine⟨o.ext.trans e,o.len,λi d h=>?_,λi ds h=>?_,o.nd,λi ks ds h=>?_,o.pw.keep e⟩
 ·obtain⟨v,h1,h2⟩:=o.sh i d h
  exact⟨v,h1,h2.mono e.gg⟩
 ·obtain⟨l,vs,h1,h2,h3,h4,h5⟩:=o.ow i ds h
  exact⟨l,vs,h1,e.hh _ _ h2,e.new l h3 (by rw[h2];exact λz=>by cases z),h4,h5.mono e.gg⟩
 ·obtain⟨l,vs,h1,h2,h3,h4,h6,h5,h7⟩:=o.od i ks ds h
  exact⟨l,vs,h1,e.hh _ _ h2,e.new l h3 (by rw[h2];exact λz=>by cases z),h4,h6,h5.mono e.gg,h7⟩
theorem Own.gh{K:zB}{G0:Hp}{H0:Fr}{G:Hp}{ω:WSt}{σ:St}{H:Hp}(o:Own K G0 H0 G ω σ H):YO G H:=o.ext.gh
noncomputable abbrev FE:=WSt->Option R
noncomputable abbrev FD:=WSt->Option D
noncomputable abbrev FT:=WSt->Option Bool
noncomputable abbrev FA:=WSt->Option (List D)
def zA6(K:zB)(t:TE)(f:FE):Prop:=∀G0 H0 G ω σ H r(Q:VK),Own K G0 H0 G ω σ H->f ω=some r ->
 (∀v G' H',Ext G H G' H'->zAf K H G' H' r v->Q v H')->t σ H Q
def zA7(K:zB)(t:TE)(f:FD):Prop:=∀G0 H0 G ω σ H d(Q:VK),Own K G0 H0 G ω σ H->f ω=some d ->
 (∀v G' H',Ext G H G' H'->Rep K G' d v->Q v H')->t σ H Q
def SimV(K:zB)(t:TE)(f:FD):Prop:=∀G0 H0 G ω σ H d(Q:VK),Own K G0 H0 G ω σ H->f ω=some d ->
 (∀v G' H',Ext G H G' H'->Vw K G' H' d v->Q v H')->t σ H Q
def WC(K:zB)(t:TT)(f:FT):Prop:=∀G0 H0 G ω σ H b(Q:Bool->Hp->Prop),Own K G0 H0 G ω σ H->f ω=some b ->
 (∀G' H',Ext G H G' H'->Q b H')->t σ H Q
def SimA(K:zB)(t:TA)(f:FA):Prop:=∀G0 H0 G ω σ H ds(Q:List V->Hp->Prop),Own K G0 H0 G ω σ H->f ω=some ds ->
 (∀vs G' H',Ext G H G' H'->YA K G' ds vs->Q vs H')->t σ H Q
def XE(X:Cx)(e:vQ)(f:FE):Prop:=∃t,PE X e t/\zA6 X.K t f
def XD(X:Cx)(e:vQ)(f:FD):Prop:=∃t,PE X e t/\zA7 X.K t f
def XV(X:Cx)(e:vQ)(f:FD):Prop:=∃t,PE X e t/\SimV X.K t f
def XT(X:Cx)(e:vQ)(f:FT):Prop:=∃t,PT X e t/\WC X.K t f
def XW(X:Cx)(e:vQ)(f:FT):Prop:=∃t,PW X e t/\WC X.K t f
def XA(X:Cx)(es:List vQ)(f:FA):Prop:=(∃t,PA X es t/\SimA X.K t f)/\∀ω ds,f ω=some ds->ds.length=es.length
noncomputable def eOf(f:FD):FE:=λω=>(f ω).map R.sh
noncomputable def dOf(f:FE):FD:=λω=>match f ω with
 | ↥d=>some d
 | some (.fr ds)=>some (.lst ds)
 | _=>none
noncomputable def vOf(f:FE):FD:=λω=>(f ω).map R.d
section
variable{X:Cx}{e:vQ}
theorem XD.toE{f:FD}(h:XD X e f):XE X e (eOf f):=by
 obtain⟨t,h1,h2⟩:=h;refine⟨t,h1,λG0 H0 G ω σ H r Q o e k=>?_⟩;unfold eOf at e;cases q:f ω with
 | none=>rw[q]at e;cases e
 | some d=>rw[q]at e;cases e;exact h2 G0 H0 G ω σ H d Q o q k
theorem XE.toD{f:FE}(h:XE X e f):XD X e (dOf f):=by
 obtain⟨t,h1,h2⟩:=h;refine⟨t,h1,λG0 H0 G ω σ H d Q o e k=>?_⟩;unfold dOf at e;cases q:f ω with
 | none=>rw[q]at e;cases e
 | some r=>
  rw[q]at e;cases r with
  | sh d'=>cases e;exact h2 G0 H0 G ω σ H _ Q o q k
  | fr ds=>
   cases e;refine h2 G0 H0 G ω σ H _ Q o q λv G' H' x ⟨l,vs,e1,e2,e3,e4,e5⟩=>?_;have s1:YO G' (upd G' l (.lst vs)):=Yi e3 _;refine k v (upd G' l (.lst vs)) H' ⟨x.gg.trans s1,λb u z=>?_,x.hh,λb z1 z2=>?_⟩ ⟨l,vs,e1,qm,e5.mono s1⟩
   ·by_cases hb:b=l
    ·subst hb;rw[qm]at z;rw[e4];exact z
    ·rw[qf hb]at z;exact x.gh b u z
   ·rw[qf (λhb=>z2 (by rw[hb];exact e2))];exact x.new b z1 z2
  | vw ds=>cases e
theorem XE.toV{f:FE}(h:XE X e f):XV X e (vOf f):=by
 obtain⟨t,h1,h2⟩:=h;refine⟨t,h1,λG0 H0 G ω σ H d Q o e k=>?_⟩;unfold vOf at e;cases q:f ω with
 | none=>rw[q]at e;cases e
 | some r=>
  rw[q]at e;have e':r.d=d:=zo e;subst e';refine h2 G0 H0 G ω σ H r Q o q λv G' H' x y=>k v G' H' x ?_;cases r with
  | sh d'=>exact .inl y
  | fr ds=>obtain⟨l,vs,e1,e2,e3,e4,e5⟩:=y;exact .inr ⟨ds,l,vs,rfl,e1,e4,e5⟩
  | vw ds=>obtain⟨l,vs,e1,e2,e3⟩:=y;exact .inr ⟨ds,l,vs,rfl,e1,e2,e3⟩
theorem XD.toV{f:FD}(h:XD X e f):XV X e f:=by
 obtain⟨t,h1,h2⟩:=h;exact⟨t,h1,λG0 H0 G ω σ H d Q o e k=>h2 G0 H0 G ω σ H d Q o e λv G' H' x y=>k v G' H' x (.inl y)⟩
end
noncomputable def Zy(i:Nat):FE:=λω=>match ω[i]? with
 | some ↥d=>↥d
 | some (some (.ow ds))=>some (.vw ds)
 | some (some (.pw ds))=>some (.vw ds)
 | _=>none
noncomputable def fC(d:D):FD:=λ_=>some d
section
variable{X:Cx}
theorem WY{e:vQ}(i:Nat)(h:PE X e (XR i)):XE X e (Zy i):=by
 refine⟨_,h,λG0 H0 G ω σ H r Q o e k=>?_⟩;unfold Zy at e;cases q:ω[i]? with
 | none=>rw[q]at e;cases e
 | some w=>
  rw[q]at e;cases w with
  | none=>cases e
  | some w=>
   cases w with
   | sh d=>
    cases e;obtain⟨v,h1,h2⟩:=o.sh i d q;exact⟨v,h1,k v G H (Ext.refl o.gh) h2⟩
   | ow ds=>
    cases e;obtain⟨l,vs,h1,h2,h3,h4,h5⟩:=o.ow i ds q;exact⟨_,h1,k _ G H (Ext.refl o.gh) ⟨l,vs,rfl,h2,h5⟩⟩
   | od ks ds=>cases e
   | pw ds=>
    cases e;obtain⟨vs,h1,h2,h3,h4,h5,_⟩:=o.pw i ds q;exact⟨_,h1,k _ G H (Ext.refl o.gh) ⟨_,vs,rfl,h2,h5⟩⟩
theorem xd_c{e:vQ}{v:V}{d:D}(h:PE X e (tC v))(hr:∀K H,Rep K H d v):XD X e (fC d):=by
 refine⟨_,h,λG0 H0 G ω σ H r Q o e k=>?_⟩;cases e;exact k v G H (Ext.refl o.gh) (hr _ _)
theorem Zx{i j pos}:XD X (.Constant (.int i) j pos) (fC (.int i)):=xd_c qha λ_ _=>rfl
theorem Ya{b j pos}:XD X (.Constant (.bool b) j pos) (fC (.bl b)):=xd_c qic λ_ _=>rfl
theorem Wc{j pos}:XD X (.Constant .none j pos) (fC .non):=xd_c qhi λ_ _=>rfl
theorem Xs{x j pos}:XD X (.Constant (.str x) j pos) (fC (.str x)):=xd_c qhL λ_ _=>rfl
end
theorem bnd{α β:Type}{o:Option α}{f:α->Option β}{r:β}(h:o.bind f=some r):∃a,o=some a/\f a=some r:=Option.bind_eq_some_iff.mp h
theorem mpd{α β:Type}{o:Option α}{f:α->β}{r:β}(h:o.map f=some r):∃a,o=some a/\f a=r:=wD.mp h
noncomputable def Z3:FA:=λ_=>some []
noncomputable def Zw(f:FD)(g:FA):FA:=λω=>(f ω).bind λd=>(g ω).map λds=>d::ds
section
variable{X:Cx}{e:vQ}{es:List vQ}
theorem Zz:XA X [] Z3:=⟨⟨_,q1l,λG0 H0 G ω σ H ds Q o e k=>by cases e;exact k [] G H (Ext.refl o.gh) rfl⟩,λω ds e=>by cases e;rfl⟩
theorem Zv{f:FD}{g:FA}(h:XD X e f)(hr:XA X es g)(hs:vJ (e::es) X.env=(false,eval e X.env)::vJ es X.env:=by rfl):XA X (e::es) (Zw f g):=by
 obtain⟨t,h1,h2⟩:=h;obtain⟨⟨u,h3,h4⟩,h5⟩:=hr;refine⟨⟨_,q0G h1 h3 hs,λG0 H0 G ω σ H ds Q o e k=>?_⟩,λω ds e=>?_⟩
 ·obtain⟨d,q,e⟩:=bnd e
  obtain⟨r,q2,e⟩:=mpd e;subst e;refine h2 G0 H0 G ω σ H d _ o q λv G1 H1 x1 y1=>?_;refine h4 G0 H0 G1 ω σ H1 r _ (o.keep x1) q2 λvs G2 H2 x2 y2=>?_;exact k _ G2 H2 (x1.trans x2) (YA.cons (y1.mono x2.gg) y2)
 ·obtain⟨d,q,e⟩:=bnd e
  obtain⟨r,q2,e⟩:=mpd e;subst e;rw[zG,zG,h5 ω r q2]
noncomputable def Yp(g:FA):FD:=λω=>(g ω).map D.tup
noncomputable def Yj(g:FA):FE:=λω=>(g ω).map R.fr
theorem X3{n:Nat}(h:n<=1000):n<=sizeLine:=yL (Wn h)
theorem YF{x1 pos}{g:FA}(h:XA X es g)(hl:es.length<=1000:=by decide):XD X (.Tuple es x1 pos) (Yp g):=by
 obtain⟨⟨t,h1,h2⟩,h5⟩:=h;refine⟨_,qhH h1,λG0 H0 G ω σ H d Q o e k=>?_⟩;obtain⟨ds,q,e⟩:=mpd e;subst e;refine h2 G0 H0 G ω σ H ds _ o q λvs G1 H1 x1 y1=>⟨X3 (by rw[<- y1.len,h5 ω ds q];exact hl),λp hp=>?_⟩;have x2:=Ext.lay x1.gh hp (.tup vs);exact k _ _ _ (x1.trans x2) ⟨p,vs,rfl,qm,y1.mono x2.gg⟩
theorem Z9{pos}{g:FA}(h:XA X es g)(hl:es.length<=1000:=by decide):XE X (.List es pos) (Yj g):=by
 obtain⟨⟨t,h1,h2⟩,h5⟩:=h;refine⟨_,qdu h1,λG0 H0 G ω σ H d Q o e k=>?_⟩;obtain⟨ds,q,e⟩:=mpd e;subst e;refine h2 G0 H0 G ω σ H ds _ o q λvs G1 H1 x1 y1=>⟨X3 (by rw[<- y1.len,h5 ω ds q];exact hl),λp hp=>?_⟩;have x2:=Ext.hide x1.gh hp (.lst vs);exact k _ _ _ (x1.trans x2) ⟨p,vs,rfl,x1.hh.free hp,x1.gh.free hp,qm,y1⟩
inductive O where
 | sh (d:D)|fr (ds:List D)
noncomputable def O.r:O->R
 | .sh d=>.sh d
 | .fr ds=>.fr ds
noncomputable def spD(K:zB)(n:Nat)(m:List D->Option O):Sp:=λvs H Q _=>∃G ds r,m ds=some r/\ds.length=n/\YO G H/\YA K G ds vs/\∀v G' H',Ext G H G' H'->zAf K H G' H' r.r v->Q v H'
noncomputable def Z6(m:List D->Option O)(g:FA):FE:=λω=>(g ω).bind λds=>(m ds).map O.r
theorem zAp{CX:CXT}{k:Nat}{f:vC}{fd:vH}{ps:List Str}{m:List D->Option O}{E:XK}{x:Str}{p pos:Pos}{g:FA}(F:FnOk X.prog X.w X.K X.mg X.base CX k f fd ps (spD X.K (e::es).length m))(hr:Room k X.A)(hg:Gl X x)(hm:X.mg x=some (.ref f))(hk:xS X.K (.ref f)=true)(hb:Binds X.K fd ps [])(hx:Xg CX X E)(ha:XA X (e::es) g)(hdb:(x==("__debug__" : Str))=false:=by decide)(he:vJ (e::es) X.env=(false,eval e X.env)::vJ es X.env:=by rfl)(hpl:(vk pos (vJ es X.env)).any (·.1)=false:=by rfl):
  XE X (.Call (.Name x p) (e::es) [] pos) (Z6 m g):=by
 obtain⟨⟨t,h1,h2⟩,h5⟩:=ha;refine⟨_,qcD F hr hg hm hk hb .nil hx h1 hdb he hpl,λG0 H0 G ω σ H r Q o e k=>?_⟩;obtain⟨ds,q,e⟩:=bnd e;obtain⟨r',q2,e⟩:=mpd e;subst e;refine h2 G0 H0 G ω σ H ds _ o q λvs G1 H1 x1 y1=>?_;refine⟨G1,ds,r',q2,h5 ω ds q,x1.gh,by rw[zi];exact y1,λv G2 H2 x2 y2=>k v G2 H2 (x1.trans x2) ?_⟩;cases r' with
 | sh d=>exact y2
 | fr ds=>obtain⟨l,vs,e1,e2,e3⟩:=y2;exact⟨l,vs,e1,x1.hh.free e2,e3⟩
end
open PySem.Spec PyProof.Rows PySem.SeqAt PySem.MeetsSeq PySem.MeetsSeq2 PySem.MeetsSeq3 in
theorem qai{prog:vO}{w:vU}{A:vY}{E:vB->vF->Prop}{s:vF}{t sl:vC}{items:Array vB}{vl vu:vB}{lo hi:Option Int}{Q:vB->vF->Prop}(ht:IsTup s.heap t items)(hs:s.heap.IsSliceOf sl vl vu .none)(pl:ux vl lo)(pu:ux vu hi)(hw:HT.sIx items.size 0 lo=0/\HT.sIx items.size items.size hi=items.size)(h:Q (.ref t) s):vL (model prog w) A (ug (.ref t) (.ref sl)) Q E s:=by
 obtain⟨os,hos,hcs,hds⟩:=id hs;have hTs:s.TypeIs (.ref sl) "slice" := ⟨os,hos,hcs⟩;unfold ug
 try with_reducible refine vh ?_
 first|refine vA (vG ?_)|skip
 refine vA (wpAny_sequenceKey ht.typeIs (by decide) ?_);refine vA (wpAny_callSpecial?_slot (name:=Str.ofString "__getitem__") ht.typeIs PyProof.Rows.slot_tuple_getitem
  (vg PyProof.Rows.slot_tuple_getitem ht.typeIs entry_tuple_getitem ?_ (tK _ _)))
 show vL _ _ (Builtin.Tuple.tupleItemsOf (.ref t) >>= _) _ _ s;refine vA (tupleItemsOf_ ht ?_);refine vA (uL hTs ?_);rw[vM (by decide)];refine vA (HT.q5c hs pl pu ?_);have hy:(((HT.sIx items.size 0 lo:Nat):Int)==0&&(1:Int)==1&&(HT.sIx items.size items.size hi-HT.sIx items.size 0 lo)==items.size)=true:=by
  rw[hw.1,hw.2];simp
 show vL _ _ (if (((HT.sIx items.size 0 lo:Nat):Int)==0&&(1:Int)==1&&(HT.sIx items.size items.size hi-HT.sIx items.size 0 lo)==items.size)=true then _ else _) _ _ s;rw[vM hy];have hb:∀{R:Bool->vF->Prop},R true s->vL (model prog w) A.in1 (Builtin.Tuple.tupleIsExact (.ref t)) R E s:=λr=>by
  unfold Builtin.Tuple.tupleIsExact;refine vA (uL ht.typeIs ?_);exact vG r
 refine vA (hb ?_);rw[vM rfl];refine vA (uY ?_);exact vG ⟨_,rfl,vG h⟩
section
variable{X:Cx}
def rSlW(K:zB):V->Option Int->Option Int->Hp->VK->Prop:=λx lo hi H Q=>∃a xs,x=.ref a/\SqT K H a xs /\
 (HT.sIx xs.length 0 lo=0/\HT.sIx xs.length xs.length hi=xs.length)/\Q (.ref a) H
theorem qeW:SlR X (rSlW X.K):=by
 intro pins s σ H x v vl vu lo hi sl Q I rx hs pl pu h;obtain⟨a,xs,rfl,hx,hw,q⟩:=h;cases rx;obtain⟨its,r,ht,hz⟩:=I.tuple hx;have hlen:its.toArray.size=xs.length:=by rw[zO];exact r.length.symm
 refine⟨"tuple", _,PyProof.Rows.slot_tuple_getitem.lookup,ht.typeIs,?_⟩;exact qai ht hs pl pu (by rw[hlen];exact hw) ⟨.ref a,H,I,rfl,q⟩
end
theorem Vw.rep{K:zB}{G H:Hp}{d:D}{v:V}(h:Vw K G H d v)(e:YO G H):Rep K H d v:=by
 rcases h with h|⟨ds,l,vs,rfl,rfl,h1,h2⟩
 ·exact h.mono e
 ·exact⟨l,vs,rfl,h1,h2.mono e⟩
theorem Vw.keep{K:zB}{G H G' H':Hp}{d:D}{v:V}(h:Vw K G H d v)(e:Ext G H G' H'):Vw K G' H' d v:=by
 rcases h with h|⟨ds,l,vs,h0,h1,h2,h3⟩
 ·exact .inl (h.mono e.gg)
 ·exact .inr ⟨ds,l,vs,h0,h1,e.hh _ _ h2,h3.mono e.gg⟩
theorem Vw.lst{K:zB}{G H:Hp}{ds:List D}{v:V}(h:Vw K G H (.lst ds) v)(e:YO G H):∃a vs,v=.ref a/\H a=some (.lst vs)/\YA K G ds vs:=by
 rcases h with⟨a,vs,h1,h2,h3⟩|⟨ds',l,vs,h0,h1,h2,h3⟩
 ·exact⟨a,vs,h1,e _ _ h2,h3⟩
 ·cases h0;exact⟨l,vs,h1,h2,h3⟩
theorem Vw.of_ne{K:zB}{G H:Hp}{d:D}{v:V}(h:Vw K G H d v)(n:∀ds,d≠.lst ds):Rep K G d v:=by
 rcases h with h|⟨ds',l,vs,h0,h1,h2,h3⟩
 ·exact h
 ·exact vK h0 (n _)
def VwA(K:zB)(G H:Hp):List D->List V->Prop
 | [],vs=>vs=[]
 | d::ds,vs=>∃v r,vs=v::r/\Vw K G H d v/\VwA K G H ds r
def SimVA(K:zB)(t:TA)(f:FA):Prop:=∀G0 H0 G ω σ H ds(Q:List V->Hp->Prop),Own K G0 H0 G ω σ H->f ω=some ds ->
 (∀vs G' H',Ext G H G' H'->VwA K G' H' ds vs->Q vs H')->t σ H Q
def XVA(X:Cx)(es:List vQ)(f:FA):Prop:=∃t,PA X es t/\SimVA X.K t f
section
variable{X:Cx}{e:vQ}{es:List vQ}
theorem qo:XVA X [] Z3:=⟨_,q1l,λG0 H0 G ω σ H ds Q o e k=>by cases e;exact k [] G H (Ext.refl o.gh) rfl⟩
theorem qi{f:FD}{g:FA}(h:XV X e f)(hr:XVA X es g)(hs:vJ (e::es) X.env=(false,eval e X.env)::vJ es X.env:=by rfl):XVA X (e::es) (Zw f g):=by
 obtain⟨t,h1,h2⟩:=h;obtain⟨u,h3,h4⟩:=hr;refine⟨_,q0G h1 h3 hs,λG0 H0 G ω σ H ds Q o e k=>?_⟩;obtain⟨d,q,e⟩:=bnd e;obtain⟨r,q2,e⟩:=mpd e;subst e;refine h2 G0 H0 G ω σ H d _ o q λv G1 H1 x1 y1=>?_;refine h4 G0 H0 G1 ω σ H1 r _ (o.keep x1) q2 λvs G2 H2 x2 y2=>?_;exact k _ G2 H2 (x1.trans x2) ⟨v,vs,rfl,y1.keep x2,y2⟩
noncomputable def Z0(op:D->D->Option R)(f g:FD):FE:=λω=>(f ω).bind λx=>(g ω).bind λy=>op x y
def OpV(K:zB)(r:R2)(op:D->D->Option R):Prop:=∀G H x y d v u(Q:VK),YO G H->op x y=some d->Vw K G H x v->Vw K G H y u ->
 (∀w G' H',Ext G H G' H'->zAf K H G' H' d w->Q w H')->r v u H Q
theorem q7C{r:R2}{o:D->D->Option R}{f g:FD}{t u:TE}(hd:OpV X.K r o)(h2:SimV X.K t f)(h4:SimV X.K u g):zA6 X.K (tOp r t u) (Z0 o f g):=by
 intro G0 H0 G ω σ H d Q ow e k;obtain⟨x,q,e⟩:=bnd e;obtain⟨y,q2,e⟩:=bnd e;refine h2 G0 H0 G ω σ H x _ ow q λv G1 H1 x1 y1=>?_;refine h4 G0 H0 G1 ω σ H1 y _ (ow.keep x1) q2 λv2 G2 H2 x2 y2=>?_;refine hd G2 H2 x y d v v2 Q x2.gh e (y1.keep x2) y2 λw G3 H3 x3 z=>k w G3 H3 ((x1.trans x2).trans x3) ?_;cases d with
 | sh d=>exact z
 | fr ds=>obtain⟨l,vs,e1,e2,e3⟩:=z;exact⟨l,vs,e1,(x1.trans x2).hh.free e2,e3⟩
 | vw ds=>exact z
variable{a b:vQ}{pos:Pos}{f g:FD}
theorem q62{op:tO}{r:R2}{o:D->D->Option R}(ho:OpR X (uF op) r)(hd:OpV X.K r o)(ha:XV X a f)(hb:XV X b g):XE X (.BinOp a op b pos) (Z0 o f g):=by
 obtain⟨t,h1,h2⟩:=ha;obtain⟨u,h3,h4⟩:=hb;exact⟨_,qi5 ho h1 h3,q7C hd h2 h4⟩
theorem q6Y{op:tV}{r:R2}{o:D->D->Option R}(ho:OpR X (vz op) r)(hd:OpV X.K r o)(ha:XV X a f)(hb:XV X b g)(hm:vo op b=false):XE X (.Compare a [op] [b] pos) (Z0 o f g):=by
 obtain⟨t,h1,h2⟩:=ha;obtain⟨u,h3,h4⟩:=hb;exact⟨_,qfT ho h1 h3 hm,q7C hd h2 h4⟩
theorem qhV{r:R2}{o:D->D->Option R}(ho:IxR X r)(hd:OpV X.K r o)(ha:XV X a f)(hb:XV X b g)(hs:X4 b):XE X (.Subscript a b pos) (Z0 o f g):=by
 obtain⟨t,h1,h2⟩:=ha;obtain⟨u,h3,h4⟩:=hb;exact⟨_,qhW ho h1 h3 hs,q7C hd h2 h4⟩
noncomputable def tOf(f:FE):FT:=λω=>match f ω with
 | ↥(.bl k)=>some k
 | _=>none
theorem qe2{t:TE}{f:FE}(h:zA6 X.K t f):WC X.K (tTest t) (tOf f):=by
 intro G0 H0 G ω σ H b Q o e k;unfold tOf at e;cases q:f ω with
 | none=>rw[q]at e;cases e
 | some r=>
  rw[q]at e;cases r with
  | sh d=>
   cases d with
   | bl c=>
    cases e;refine h G0 H0 G ω σ H _ _ o q λv G' H' x y=>?_;cases (show v=V.bl b from y);exact⟨b,rfl,k G' H' x⟩
   | _=>cases e
  | _=>cases e
theorem q5v{op:tV}{r:R2}{o:D->D->Option R}(ho:OpR X (vz op) r)(hd:OpV X.K r o)(ha:XV X a f)(hb:XV X b g)(hm:vo op b=false):XT X (.Compare a [op] [b] pos) (tOf (Z0 o f g)):=by
 obtain⟨t,h1,h2⟩:=ha;obtain⟨u,h3,h4⟩:=hb;exact⟨_,qgj ho h1 h3 hm,qe2 (q7C hd h2 h4)⟩
noncomputable def Wk(c:Int->Int->Bool)(g:Int->Int->D):D->D->Option R
 | .int i,.int j=>if c i j=true then ↥(g i j)else none
 | _,_=>none
theorem Vw.int{K:zB}{G H:Hp}{i:Int}{v:V}(h:Vw K G H (.int i) v):v=.int i:=h.of_ne (λ_ z=>by cases z)
theorem Vw.bl{K:zB}{G H:Hp}{i:Bool}{v:V}(h:Vw K G H (.bl i) v):v=.bl i:=h.of_ne (λ_ z=>by cases z)
theorem Vw.str{K:zB}{G H:Hp}{i:Str}{v:V}(h:Vw K G H (.str i) v):v=.str i:=h.of_ne (λ_ z=>by cases z)
theorem Vw.non{K:zB}{G H:Hp}{v:V}(h:Vw K G H .non v):v=.non:=h.of_ne (λ_ z=>by cases z)
theorem Vw.tup{K:zB}{G H:Hp}{ds:List D}{v:V}(h:Vw K G H (.tup ds) v):∃a vs,v=.ref a/\G a=some (.tup vs)/\YA K G ds vs:=h.of_ne (λ_ z=>by cases z)
theorem Vw.scr{K:zB}{G H:Hp}{ns:List Int}{v:V}(h:Vw K G H (.scr ns) v):∃a,v=.ref a/\SqL K G a (ns.map V.int):=h.of_ne (λ_ z=>by cases z)
theorem q7s{K:zB}{C:Int->Int->Prop}{c:Int->Int->Bool}{gV:Int->Int->V}{g:Int->Int->D}(hc:∀i j,c i j=true->C i j)(hg:∀H i j,Rep K H (g i j) (gV i j)):OpV K (rI C gV) (Wk c g):=by
 intro G H x y d v u Q s e hx hy k;cases x with
 | int i=>
  cases y with
  | int j=>
   cases hx.int;cases hy.int;unfold Wk at e
   dsimp only at e
   by_cases z:c i j=true
   ·rw[vM z]at e
    cases e;exact⟨i,j,rfl,rfl,hc i j z,k _ G H (Ext.refl s) (hg _ i j)⟩
   ·rw[vN z]at e;cases e
  | _=>cases e
 | _=>cases e
theorem q2T{K:zB}{gV:Int->Int->V}{g:Int->Int->D}(hg:∀H i j,Rep K H (g i j) (gV i j)):OpV K (rI0 gV) (Wk (λ_ _=>true) g):=by
 intro G H x y d v u Q s e hx hy k;cases x with
 | int i=>
  cases y with
  | int j=>
   cases hx.int;cases hy.int;cases e;exact⟨i,j,rfl,rfl,k _ G H (Ext.refl s) (hg _ i j)⟩
  | _=>cases e
 | _=>cases e
noncomputable def zAq(i j:Int):Bool:=(decide (-(2^64)<i)&&decide (i<2^64)) || (decide (-(2^64)<j)&&decide (j<2^64))
noncomputable def cDiv(_ j:Int):Bool:=decide (0<j)&&decide (j<1073741824)
noncomputable def cMod(_ j:Int):Bool:=decide (0<j)
noncomputable def cPow(i j:Int):Bool:=decide (0<=j)&&decide (j<=1000000)&&decide (i.natAbs<2^64)
noncomputable abbrev X0:D->D->Option R:=Wk (λ_ _=>true) λi j=>.int (i-j)
noncomputable abbrev X1:D->D->Option R:=Wk zAq λi j=>.int (i*j)
noncomputable abbrev oDiv:D->D->Option R:=Wk cDiv λi j=>.int (i/j)
noncomputable abbrev oMod:D->D->Option R:=Wk cMod λi j=>.int (i%j)
noncomputable abbrev zAk:D->D->Option R:=Wk cPow λi j=>.int (i^j.toNat)
noncomputable abbrev oLt:D->D->Option R:=Wk (λ_ _=>true) λi j=>.bl (decide (i<j))
noncomputable abbrev oLe:D->D->Option R:=Wk (λ_ _=>true) λi j=>.bl (decide (i<=j))
noncomputable abbrev oGt:D->D->Option R:=Wk (λ_ _=>true) λi j=>.bl (decide (j<i))
noncomputable def YL:D->D->Option R
 | .int i,.int j=>↥(.int (i+j))
 | .lst xs,.lst ys=>if xs.length+ys.length<=1000000 then some (.fr (xs++ys))else none
 | .tup [],.tup ys=>↥(.tup ys)
 | .tup (x::xs),.tup ys=>if (x::xs).length+ys.length<=1000000 then ↥(.tup ((x::xs)++ys))else none
 | _,_=>none
theorem q8i{n:Nat}(h:n<=1000000):n<=sizeLine:=by rw[uB];omega
noncomputable def rCat0(K:zB):R2:=λx y H Q=>∃a b ys,x=.ref a/\y=.ref b/\SqT K H a []/\SqT K H b ys/\Q (.ref b) H
theorem qg4:OpR X (uF .Add) (rCat0 X.K):=by
 intro pins s σ H x y v u Q I rx ry h;obtain⟨a,b,ys,rfl,rfl,ha,hb,q⟩:=h;cases rx;cases ry;obtain⟨its,r1,p1,_⟩:=I.tuple ha;obtain⟨its2,r2,p2,_⟩:=I.tuple hb;have e0:its=[]:=r1.nil_iff.mpr rfl;subst e0;obtain⟨⟨cls,dd,data,sl⟩,ho,hc,n,hd⟩:=id p1;obtain⟨⟨cls2,dd2,data2,sl2⟩,ho2,hc2,n2,hd2⟩:=id p2;simp only at hc hd hc2 hd2;subst hc hd hc2 hd2;exact PySem.concat_meets ⟨_,ho,rfl⟩ ⟨_,ho2,rfl⟩ PySem.noFill_tuple_add PySem.seq_tuple_add PySem.F.slot_tuple_add PySem.F.entry_tuple_add (PySem.F.args_tuple_add_2 _ _)
  (PyProof.Rows.tuple_addW0 a b _ its2.toArray n n2 dd dd2 sl sl2 (by simp)) ⟨ho,ho2,⟨.ref b,H,I,rfl,q⟩⟩
noncomputable def Wb(K:zB):R2:=λx y H Q=>rI0 (λi j=>.int (i+j)) x y H Q\/rCat x y H Q\/rCatT K x y H Q\/rCat0 K x y H Q
theorem qe5:OpR X (uF .Add) (Wb X.K):=qh3.or (qhc.or (qgg.or qg4))
theorem qfR{K:zB}:OpV K (Wb K) YL:=by
 intro G H x y d v u Q s e hx hy k;cases x with
 | int i=>
  cases y with
  | int j=>
   cases hx.int;cases hy.int;cases e;exact .inl ⟨i,j,rfl,rfl,k _ G H (Ext.refl s) rfl⟩
  | _=>cases e
 | lst xs=>
  cases y with
  | lst ys=>
   unfold YL at e
   dsimp only at e
   by_cases z:xs.length+ys.length<=1000000
   ·rw[vM z]at e
    cases e;obtain⟨a,vs,rfl,h1,h2⟩:=hx.lst s;obtain⟨b,us,rfl,h3,h4⟩:=hy.lst s;refine .inr (.inl ⟨a,b,vs,us,rfl,rfl,h1,h3,q8i (by rw[<- h2.len,<- h4.len];exact z),λp hp=>?_⟩);exact k _ G _ (Ext.hide s hp _) ⟨p,_,rfl,hp,s.free hp,qm,h2.app h4⟩
   ·rw[vN z]at e;cases e
  | _=>cases e
 | tup xs=>
  cases y with
  | tup ys=>
   obtain⟨a,vs,rfl,h1,h2⟩:=hx.tup;obtain⟨b,us,rfl,h3,h4⟩:=hy.tup;cases xs with
   | nil=>
    cases e;have ev:vs=[]:=yx h2.len.symm;subst ev;exact .inr (.inr (.inr ⟨a,b,us,rfl,rfl,SqT.of (s _ _ h1),SqT.of (s _ _ h3),k _ G H (Ext.refl s) ⟨b,us,rfl,h3,h4⟩⟩))
   | cons x0 xs=>
    unfold YL at e
    dsimp only at e
    by_cases z:(x0::xs).length+ys.length<=1000000
    ·rw[vM z]at e
     cases e;refine .inr (.inr (.inl ⟨a,b,vs,us,rfl,rfl,SqT.of (s _ _ h1),SqT.of (s _ _ h3),λw=>?_,q8i (by rw[<- h2.len,<- h4.len];exact z),λw=>?_,λ_ p hp=>?_⟩))
     ·have:=h2.len
      rw[w]at this;cases this
     ·have:=h4.len
      rw[w]at this;have ey:ys=[]:=yx this;subst ey;rw[zi]at k;exact k _ G H (Ext.refl s) ⟨a,vs,rfl,h1,h2⟩
     ·have x2:=Ext.lay s hp (.tup (vs++us))
      exact k _ _ _ x2 ⟨p,_,rfl,qm,(h2.app h4).mono x2.gg⟩
    ·rw[vN z]at e;cases e
  | _=>cases xs <;> cases e
 | _=>cases e
theorem qp(ha:XV X a f)(hb:XV X b g):XE X (.BinOp a .Add b pos) (Z0 YL f g):=q62 qe5 qfR ha hb
theorem q16(ha:XV X a f)(hb:XV X b g):XE X (.BinOp a .Sub b pos) (Z0 X0 f g):=q62 qgQ (q2T λ_ _ _=>rfl) ha hb
theorem mulOk{i j:Int}(h:zAq i j=true):CMul i j:=by
 unfold zAq at h;rw[Bool.or_eq_true,zV,zV,decide_eq_true_iff,decide_eq_true_iff,decide_eq_true_iff,decide_eq_true_iff]at h;exact h
theorem divOk{i j:Int}(h:cDiv i j=true):CDiv i j:=by
 unfold cDiv at h;rw[zV,decide_eq_true_iff,decide_eq_true_iff]at h;exact h
theorem powOk{i j:Int}(h:cPow i j=true):CPow i j:=by
 unfold cPow at h;rw[zV,zV,decide_eq_true_iff,decide_eq_true_iff,decide_eq_true_iff]at h;exact⟨h.1.1,h.1.2,h.2⟩
theorem q69(ha:XV X a f)(hb:XV X b g):XE X (.BinOp a .Mult b pos) (Z0 X1 f g):=q62 qhk (q7s (λ_ _ h=>mulOk h) λ_ _ _=>rfl) ha hb
theorem qy(ha:XV X a f)(hb:XV X b g):XE X (.BinOp a .FloorDiv b pos) (Z0 oDiv f g):=q62 qgq (q7s (λ_ _ h=>divOk h) λ_ _ _=>rfl) ha hb
theorem qu(ha:XV X a f)(hb:XV X b g):XE X (.BinOp a .Mod b pos) (Z0 oMod f g):=q62 qhE (q7s (λ_ _ h=>of_decide_eq_true h) λ_ _ _=>rfl) ha hb
theorem q8w(ha:XV X a f)(hb:XV X b g):XE X (.BinOp a .Pow b pos) (Z0 zAk f g):=q62 qht (q7s (λ_ _ h=>powOk h) λ_ _ _=>rfl) ha hb
noncomputable def oNeg:D->Option R
 | .int i=>↥(.int (-i))
 | _=>none
noncomputable def fNeg(f:FD):FE:=λω=>(f ω).bind oNeg
theorem qhJ(ha:XV X a f):XE X (.UnaryOp .USub a pos) (fNeg f):=by
 obtain⟨t,h1,h2⟩:=ha;refine⟨_,qi6 qgO h1,λG0 H0 G ω σ H d Q ow e k=>?_⟩;obtain⟨x,q,e⟩:=bnd e;refine h2 G0 H0 G ω σ H x _ ow q λv G1 H1 x1 y1=>?_;cases x with
 | int i=>cases e;cases y1.int;exact⟨i,rfl,k _ G1 H1 x1 rfl⟩
 | _=>cases e
theorem qid(ha:XV X a f)(hb:XV X b g):XE X (.Compare a [.Lt] [b] pos) (Z0 oLt f g):=q6Y qfC (q2T λ_ _ _=>rfl) ha hb (Yw _)
theorem qfz(ha:XV X a f)(hb:XV X b g):XE X (.Compare a [.LtE] [b] pos) (Z0 oLe f g):=q6Y qfB (q2T λ_ _ _=>rfl) ha hb (Yw _)
theorem qhX(ha:XV X a f)(hb:XV X b g):XE X (.Compare a [.Gt] [b] pos) (Z0 oGt f g):=q6Y qfL (q2T λ_ _ _=>rfl) ha hb (Yw _)
theorem q5L(ha:XV X a f)(hb:XV X b g):XT X (.Compare a [.Lt] [b] pos) (tOf (Z0 oLt f g)):=q5v qfC (q2T λ_ _ _=>rfl) ha hb (Yw _)
theorem qhY(ha:XV X a f)(hb:XV X b g):XT X (.Compare a [.LtE] [b] pos) (tOf (Z0 oLe f g)):=q5v qfB (q2T λ_ _ _=>rfl) ha hb (Yw _)
theorem qi9(ha:XV X a f)(hb:XV X b g):XT X (.Compare a [.Gt] [b] pos) (tOf (Z0 oGt f g)):=q5v qfL (q2T λ_ _ _=>rfl) ha hb (Yw _)
end
mutual
noncomputable def D.py:D->PyData
 | .non=>.none
 | .bl b=>.bool b
 | .int i=>.int i
 | .str x=>.str x
 | .lst xs=>.list (D.pys xs)
 | .tup xs=>.tuple (D.pys xs)
 | .scr ns=>.list (ns.map PyData.int)
 | .exc _=>.dict []
 | .dic _ _=>.dict []
noncomputable def D.pys:List D->List PyData
 | []=>[]
 | d::ds=>d.py::D.pys ds
end
section
variable{X:Cx}{pins:List (vC×Obj)}{σ:St}{H:Hp}{s:vF}
theorem Xh{h:vX}:∀{ns:List Int}{us:List vB},YU (ns.map V.int) us->∃as,ReadsAll h us (ns.map PyData.int) as
 | [],_,r=>by cases r;exact⟨_,.nil⟩
 | n::ns,_,r=>by
  rw[zT]at r;cases r with
  | cons r1 r2=>
   obtain⟨t,rfl⟩:=r1;obtain⟨as,q⟩:=Xh (h:=h) r2;exact⟨_,.cons (.int n t) q⟩
mutual
theorem Y0(I:Inv X pins σ H s):∀{d:D}{v:V}{u:vB},d.py.canLay0=true->Rep X.K H d v->RelV v u->∃as,Reads s.heap u d.py as
 | .non,_,_,_,h,r=>by cases (show _=V.non from h);cases r;exact⟨_,.none⟩
 | .bl b,_,_,_,h,r=>by cases (show _=V.bl b from h);cases r;exact⟨_,.bool b⟩
 | .int i,_,_,_,h,r=>by cases (show _=V.int i from h);obtain⟨t,rfl⟩:=r;exact⟨_,.int i t⟩
 | .str x,_,_,_,h,r=>by cases (show _=V.str x from h);obtain⟨t,rfl⟩:=r;exact⟨_,.str x t⟩
 | .lst ds,_,_,hc,⟨a,vs,rfl,h2,h3⟩,r=>by
  cases r;obtain⟨its,n,rv,e,_⟩:=I.lst h2;obtain⟨as,q⟩:=XL I (show PyData.canLayAll0 (D.pys ds)=true from hc) h3 rv;exact⟨_,.list e rfl rfl ⇑q⟩
 | .tup ds,_,_,hc,⟨a,vs,rfl,h2,h3⟩,r=>by
  cases r;obtain⟨its,rv,⟨o,e,c,n,dd⟩,_⟩:=I.tuple (SqT.of h2);obtain⟨as,q⟩:=XL I (show PyData.canLayAll0 (D.pys ds)=true from hc) h3 rv;exact⟨_,.tuple e c dd ⇑q⟩
 | .exc _,_,_,hc,_,_=>by cases hc
 | .dic _ _,_,_,hc,_,_=>by cases hc
 | .scr ns,_,_,_,⟨a,rfl,h2⟩,r=>by
  cases r;obtain⟨its,rv,pl,_⟩:=I.list h2;obtain⟨o,e,c,n,dd⟩:=pl.isList;obtain⟨as,q⟩:=Xh (h:=s.heap) rv;exact⟨_,.list e c dd ⇑q⟩
theorem XL(I:Inv X pins σ H s):∀{ds:List D}{vs:List V}{us:List vB},PyData.canLayAll0 (D.pys ds)=true->YA X.K H ds vs->YU vs us->∃as,ReadsAll s.heap us (D.pys ds) as
 | [],_,_,_,h,r=>by cases (show _=[]from h);cases r;exact⟨_,.nil⟩
 | d::ds,_,_,hc,⟨v,vr,h1,h2,h3⟩,r=>by
  have hc':=wM.mp (show (d.py.canLay0&&PyData.canLayAll0 (D.pys ds))=true from hc);subst h1;cases r with
  | cons r1 r2=>
   obtain⟨as,q1⟩:=Y0 I hc'.1 h2 r1;obtain⟨bs,q2⟩:=XL I hc'.2 h3 r2;exact⟨_,.cons q1 q2⟩
end
end
noncomputable def shp(d:D):Bool:=SeqAt.shaped d.py
noncomputable def eqD(x y:D):Bool:=PyData.eqv x.py y.py
noncomputable def rEqD(K:zB)(neg:Bool):R2:=λx y H Q=>∃d e,Rep K H d x/\Rep K H e y/\shp d=true/\shp e=true/\Q (.bl (if neg then !eqD d e else eqD d e)) H
noncomputable def oEq(neg:Bool):D->D->Option R:=λx y=>if shp x&&shp y then ↥(.bl (if neg then !eqD x y else eqD x y))else none
section
variable{X:Cx}{a b:vQ}{pos:Pos}{f g:FD}
theorem zAc(hu:X.A.units+64<uT):OpR X (vz .Eq) (rEqD X.K false):=by
 intro pins s σ H x y v u Q I rx ry h;obtain⟨d,e,h1,h2,h3,h4,q⟩:=h;obtain⟨as,ra⟩:=Y0 I (SeqAt.canLay_of_shaped h3) h1 rx;obtain⟨bs,rb⟩:=Y0 I (SeqAt.canLay_of_shaped h4) h2 ry;exact SeqAt.compareEq_shaped ra rb h3 h4 hu ⟨.bl _,H,I,rfl,q⟩
theorem zAe(hu:X.A.units+64<uT):OpR X (vz .NotEq) (rEqD X.K true):=by
 intro pins s σ H x y v u Q I rx ry h;obtain⟨d,e,h1,h2,h3,h4,q⟩:=h;obtain⟨as,ra⟩:=Y0 I (SeqAt.canLay_of_shaped h3) h1 rx;obtain⟨bs,rb⟩:=Y0 I (SeqAt.canLay_of_shaped h4) h2 ry;exact SeqAt.compareNe_shaped ra rb h3 h4 hu ⟨.bl _,H,I,rfl,q⟩
theorem X7{K:zB}{neg:Bool}:OpV K (rEqD K neg) (oEq neg):=by
 intro G H x y d v u Q s e hx hy k;unfold oEq at e
 by_cases z:(shp x&&shp y)=true
 ·rw[vM z]at e
  cases e;rw[zV]at z;exact⟨x,y,hx.rep s,hy.rep s,z.1,z.2,k _ G H (Ext.refl s) rfl⟩
 ·rw[vN z]at e;cases e
theorem Xe(hu:X.A.units+64<uT)(ha:XV X a f)(hb:XV X b g):XE X (.Compare a [.Eq] [b] pos) (Z0 (oEq false) f g):=q6Y (zAc hu) X7 ha hb (Yw _)
theorem xe_ne(hu:X.A.units+64<uT)(ha:XV X a f)(hb:XV X b g):XE X (.Compare a [.NotEq] [b] pos) (Z0 (oEq true) f g):=q6Y (zAe hu) X7 ha hb (Yw _)
theorem Ye(hu:X.A.units+64<uT)(ha:XV X a f)(hb:XV X b g):XT X (.Compare a [.Eq] [b] pos) (tOf (Z0 (oEq false) f g)):=q5v (zAc hu) X7 ha hb (Yw _)
theorem Xn(hu:X.A.units+64<uT)(ha:XV X a f)(hb:XV X b g):XT X (.Compare a [.NotEq] [b] pos) (tOf (Z0 (oEq true) f g)):=q5v (zAe hu) X7 ha hb (Yw _)
noncomputable def Yl:D->Bool
 | .non=>true
 | .bl _=>true
 | .int _=>true
 | .str _=>true
 | _=>false
noncomputable def D.v:D->V
 | .bl b=>.bl b
 | .int i=>.int i
 | .str x=>.str x
 | _=>.non
theorem Xq{K:zB}{H:Hp}{d:D}{v:V}(h:Rep K H d v)(f:Yl d=true):v=d.v/\XX v=true:=by
 cases d with
 | non=>cases (show v=V.non from h);exact⟨rfl,rfl⟩
 | bl b=>cases (show v=V.bl b from h);exact⟨rfl,rfl⟩
 | int b=>cases (show v=V.int b from h);exact⟨rfl,rfl⟩
 | str b=>cases (show v=V.str b from h);exact⟨rfl,rfl⟩
 | _=>cases f
theorem XJ{K:zB}{H:Hp}:∀{ds:List D}{vs:List V},YA K H ds vs->ds.all Yl=true->vs=ds.map D.v/\vs.all XX=true
 | [],_,h,_=>by cases (show _=[]from h);exact⟨rfl,rfl⟩
 | d::ds,_,⟨v,r,h1,h2,h3⟩,f=>by
  rw[yh,zV]at f;obtain⟨e1,e2⟩:=Xq h2 f.1;obtain⟨e3,e4⟩:=XJ h3 f.2;subst h1;refine⟨by rw[zT,<- e1,<- e3],by rw[yh,e2,e4];rfl⟩
noncomputable def inD(x:D)(ds:List D):Bool:=inV x.v (ds.map D.v)
noncomputable def oIn(neg:Bool):D->D->Option R
 | x,.lst ys=>if Yl x&&ys.all Yl then ↥(.bl (if neg then !inD x ys else inD x ys))else none
 | x,.tup ys=>if Yl x&&ys.all Yl then ↥(.bl (if neg then !inD x ys else inD x ys))else none
 | _,_=>none
theorem zAb{K:zB}{neg:Bool}:OpV K (rIn K neg) (oIn neg):=by
 intro G H x y d v u Q s e hx hy k;cases y with
 | lst ys=>
  unfold oIn at e
  dsimp only at e
  by_cases z:(Yl x&&ys.all Yl)=true
  ·rw[vM z]at e
   cases e;rw[zV]at z;obtain⟨p,vs,rfl,h1,h2⟩:=hy.lst s;obtain⟨e1,e2⟩:=Xq (hx.rep s) z.1;obtain⟨e3,e4⟩:=XJ h2 z.2;refine⟨p,vs,rfl,.inl (SqL.of h1),e2,e4,?_⟩;rw[e1,e3];exact k _ G H (Ext.refl s) rfl
  ·rw[vN z]at e;cases e
 | tup ys=>
  unfold oIn at e
  dsimp only at e
  by_cases z:(Yl x&&ys.all Yl)=true
  ·rw[vM z]at e
   cases e;rw[zV]at z;obtain⟨p,vs,rfl,h1,h2⟩:=hy.tup;obtain⟨e1,e2⟩:=Xq (hx.rep s) z.1;obtain⟨e3,e4⟩:=XJ h2 z.2;refine⟨p,vs,rfl,.inr (SqT.of (s _ _ h1)),e2,e4,?_⟩;rw[e1,e3];exact k _ G H (Ext.refl s) rfl
  ·rw[vN z]at e;cases e
 | _=>cases x <;> cases e
theorem xt_in(ha:XV X a f)(hb:XV X b g)(hm:vo .In b=false:=by with_unfolding_all rfl):XT X (.Compare a [.In] [b] pos) (tOf (Z0 (oIn false) f g)):=q5v qdT zAb ha hb hm
theorem zAM(ha:XV X a f)(hb:XV X b g)(hm:vo .NotIn b=false:=by with_unfolding_all rfl):XT X (.Compare a [.NotIn] [b] pos) (tOf (Z0 (oIn true) f g)):=q5v qbo zAb ha hb hm
noncomputable def oIx:D->D->Option R
 | .lst ds,.int i=>(atI ds i).map R.sh
 | .tup ds,.int i=>(atI ds i).map R.sh
 | .scr ns,.int i=>(atI ns i).map λn=>.sh (.int n)
 | _,_=>none
theorem WF{K:zB}{H:Hp}{ds:List D}{vs:List V}{i:Int}{d:D}(h:YA K H ds vs)(e:atI ds i=some d):∃v,atI vs i=some v/\Rep K H d v:=by
 unfold atI at e ⊢;rw[<- h.len];cases q:ixN ds.length i with
 | none=>rw[q]at e;cases e
 | some j=>
  rw[q]at e;obtain⟨v,e1,e2⟩:=h.get e;exact⟨v,e1,e2⟩
theorem zAa{ns:List Int}{i n:Int}(e:atI ns i=some n):atI (ns.map V.int) i=some (.int n):=by
 unfold atI at e ⊢;rw[zA];cases q:ixN ns.length i with
 | none=>rw[q]at e;cases e
 | some j=>
  rw[q]at e;have e':ns[j]?=some n:=e;show (ns.map V.int)[j]?=_;rw[za,e'];rfl
theorem opv_ix{K:zB}:OpV K (rIx K) oIx:=by
 intro G H x y d v u Q s e hx hy k;cases y with
 | int i=>
  cases hy.int;cases x with
  | lst ds=>
   obtain⟨d',q,e'⟩:=mpd e;subst e';obtain⟨p,vs,rfl,h1,h2⟩:=hx.lst s;obtain⟨w,e1,e2⟩:=WF h2 q;exact .inl ⟨p,vs,i,w,rfl,rfl,SqL.of h1,e1,k _ G H (Ext.refl s) e2⟩
  | tup ds=>
   obtain⟨d',q,e'⟩:=mpd e;subst e';obtain⟨p,vs,rfl,h1,h2⟩:=hx.tup;obtain⟨w,e1,e2⟩:=WF h2 q;exact .inr (.inl ⟨p,vs,i,w,rfl,rfl,SqT.of (s _ _ h1),e1,k _ G H (Ext.refl s) e2⟩)
  | scr ns=>
   obtain⟨n,q,e'⟩:=mpd e;subst e';obtain⟨p,rfl,h1⟩:=hx.scr;exact .inl ⟨p,_,i,.int n,rfl,rfl,s.seq h1,zAa q,k _ G H (Ext.refl s) rfl⟩
  | _=>cases e
 | _=>cases x <;> cases e
theorem Z2(ha:XV X a f)(hb:XV X b g)(hs:X4 b:=by exact λ_ _=>rfl):XE X (.Subscript a b pos) (Z0 oIx f g):=qhV qgL opv_ix ha hb hs
noncomputable abbrev FO:=WSt->Option (Option Int)
def SimO(K:zB)(t:TO)(f:FO):Prop:=∀G0 H0 G ω σ H o(Q:Option Int->Hp->Prop),Own K G0 H0 G ω σ H->f ω=some o->(∀G' H',Ext G H G' H'->Q o H')->t σ H Q
def XO(X:Cx)(e:Option vQ)(f:FO):Prop:=∃t,PO X e t/\SimO X.K t f
noncomputable def pNo:FO:=λ_=>some none
noncomputable def pAt(f:FD):FO:=λω=>(f ω).bind λd=>match d with|.int i=>some (some i)|_=>none
theorem YG:XO X none pNo:=⟨_,qg8,λG0 H0 G ω σ H o Q ow e k=>by cases e;exact k G H (Ext.refl ow.gh)⟩
theorem YC(h:XV X a f):XO X (some a) (pAt f):=by
 obtain⟨t,h1,h2⟩:=h;refine⟨_,qgH h1,λG0 H0 G ω σ H o Q ow e k=>?_⟩;obtain⟨d,q,e⟩:=bnd e;refine h2 G0 H0 G ω σ H d _ ow q λv G1 H1 x1 y1=>?_;cases d with
 | int i=>cases e;cases y1.int;exact⟨i,rfl,k G1 H1 x1⟩
 | _=>cases e
noncomputable def cutD{α:Type}(xs:List α)(lo hi:Option Int):List α:=(xs.drop (HT.sIx xs.length 0 lo)).take (HT.sIx xs.length xs.length hi-HT.sIx xs.length 0 lo)
theorem WE{K:zB}{H:Hp}{ds:List D}{vs:List V}(h:YA K H ds vs)(lo hi:Option Int):YA K H (cutD ds lo hi) (Wf vs lo hi):=by
 unfold cutD Wf;rw[h.len];exact(h.drop _).take _
theorem zAJ(ns:List Int)(lo hi:Option Int):Wf (ns.map V.int) lo hi=(cutD ns lo hi).map V.int:=by
 unfold cutD Wf;rw[zA,wX,xu]
noncomputable def oSl:D->Option Int->Option Int->Option R
 | .lst ds,lo,hi=>some (.fr (cutD ds lo hi))
 | .scr ns,lo,hi=>some (.fr ((cutD ns lo hi).map D.int))
 | .tup ds,lo,hi=>if HT.sIx ds.length 0 lo=0/\HT.sIx ds.length ds.length hi=ds.length then ↥(.tup ds)else ↥(.tup (cutD ds lo hi))
 | _,_,_=>none
noncomputable def fSl(f:FD)(l h:FO):FE:=λω=>(f ω).bind λd=>(l ω).bind λlo=>(h ω).bind λhi=>oSl d lo hi
theorem Z7{lo hi:Option vQ}{l h:FO}{p2:Pos}(ha:XV X a f)(hl:XO X lo l)(hh:XO X hi h):XE X (.Subscript a (.Slice lo hi none p2) pos) (fSl f l h):=by
 obtain⟨t,h1,h2⟩:=ha;obtain⟨tl,h3,h4⟩:=hl;obtain⟨th,h5,h6⟩:=hh;refine⟨_,qeN (qg6.or (qhA.or qeW)) h1 h3 h5,λG0 H0 G ω σ H r Q ow e k=>?_⟩;obtain⟨d,q,e⟩:=bnd e;obtain⟨lo',q2,e⟩:=bnd e;obtain⟨hi',q3,e⟩:=bnd e;refine h2 G0 H0 G ω σ H d _ ow q λv G1 H1 x1 y1=>?_;refine h4 G0 H0 G1 ω σ H1 lo' _ (ow.keep x1) q2 λG2 H2 x2=>?_;refine h6 G0 H0 G2 ω σ H2 hi' _ ((ow.keep x1).keep x2) q3 λG3 H3 x3=>?_;have y3:=(y1.keep x2).keep x3;have x13:=(x1.trans x2).trans x3;cases d with
 | lst ds=>
  cases e;obtain⟨p,vs,rfl,h1,h2⟩:=y3.lst x3.gh;refine .inl ⟨p,vs,rfl,SqL.of h1,λn hn=>?_⟩;exact k _ G3 _ (x13.trans (Ext.hide x3.gh hn _)) ⟨n,_,rfl,x13.hh.free hn,x3.gh.free hn,qm,WE h2 _ _⟩
 | scr ns=>
  cases e;obtain⟨p,rfl,h1⟩:=y3.scr;refine .inl ⟨p,_,rfl,x3.gh.seq h1,λn hn=>?_⟩;refine k _ G3 _ (x13.trans (Ext.hide x3.gh hn _)) ⟨n,_,rfl,x13.hh.free hn,x3.gh.free hn,qm,?_⟩;rw[zAJ];exact YA.ints _
 | tup ds=>
  unfold oSl at e
  dsimp only at e
  obtain⟨p,vs,rfl,h1,h2⟩:=y3.tup
  by_cases z:HT.sIx ds.length 0 lo'=0/\HT.sIx ds.length ds.length hi'=ds.length
  ·rw[vM z]at e
   cases e;exact .inr (.inr ⟨p,vs,rfl,SqT.of (x3.gh _ _ h1),by rw[<- h2.len];exact z,k _ G3 H3 x13 ⟨p,vs,rfl,h1,h2⟩⟩)
  ·rw[vN z]at e
   cases e;refine .inr (.inl ⟨p,vs,rfl,SqT.of (x3.gh _ _ h1),by rw[<- h2.len];exact z,λn hn=>?_⟩);have x4:=Ext.lay x3.gh hn (.tup (Wf vs lo' hi'));exact k _ _ _ (x13.trans x4) ⟨n,_,rfl,qm,(WE h2 _ _).mono x4.gg⟩
 | _=>cases e
end
section
variable{X:Cx}{a b c:vQ}{pos:Pos}{rest:List vQ}{f g:FT}
noncomputable def XU(f g:FT):FT:=λω=>(f ω).bind λc=>if c=true then g ω else some false
noncomputable def WD(f g:FT):FT:=λω=>(f ω).bind λc=>if c=true then some true else g ω
noncomputable def Yb(f:FT):FT:=λω=>(f ω).map (!·)
theorem qf4{t u:TT}(h:WC X.K t f)(h':WC X.K u g):WC X.K (tAnd t u) (XU f g):=by
 intro G0 H0 G ω σ H b Q o e k;obtain⟨c,q,e⟩:=bnd e;refine h G0 H0 G ω σ H c _ o q λG1 H1 x1=>?_;cases c with
 | true=>rw[vM rfl]at e ⊢;exact h' G0 H0 G1 ω σ H1 b Q (o.keep x1) e λG2 H2 x2=>k G2 H2 (x1.trans x2)
 | false=>cases e;exact k G1 H1 x1
theorem qgp{t u:TT}(h:WC X.K t f)(h':WC X.K u g):WC X.K (tOr t u) (WD f g):=by
 intro G0 H0 G ω σ H b Q o e k;obtain⟨c,q,e⟩:=bnd e;refine h G0 H0 G ω σ H c _ o q λG1 H1 x1=>?_;cases c with
 | true=>cases e;exact k G1 H1 x1
 | false=>exact h' G0 H0 G1 ω σ H1 b Q (o.keep x1) e λG2 H2 x2=>k G2 H2 (x1.trans x2)
theorem q3Z(h:XT X a f):XW X (.BoolOp .And [a] pos) f:=let ⟨t,h1,h2⟩:=h;⟨t,qgd h1,h2⟩
theorem q3r(h:XT X a f):XW X (.BoolOp .Or [a] pos) f:=let ⟨t,h1,h2⟩:=h;⟨t,qgS h1,h2⟩
theorem q5A(h:XT X a f)(h':XW X (.BoolOp .And (b::rest) pos) g):XW X (.BoolOp .And (a::b::rest) pos) (XU f g):=let ⟨_,h1,h2⟩:=h;let ⟨_,h3,h4⟩:=h';⟨_,qh8 h1 h3,qf4 h2 h4⟩
theorem q3f(h:XT X a f)(h':XW X (.BoolOp .Or (b::rest) pos) g):XW X (.BoolOp .Or (a::b::rest) pos) (WD f g):=let ⟨_,h1,h2⟩:=h;let ⟨_,h3,h4⟩:=h';⟨_,qi2 h1 h3,qgp h2 h4⟩
theorem XW.toT(h:XW X a f):XT X a f:=let ⟨t,h1,h2⟩:=h;⟨t,h1.pt,h2⟩
theorem qZ(h:XT X a f):XT X (.UnaryOp .Not a pos) (Yb f):=by
 obtain⟨t,h1,h2⟩:=h;refine⟨_,qhM h1,λG0 H0 G ω σ H b Q o e k=>?_⟩;obtain⟨c,q,e⟩:=mpd e;subst e;exact h2 G0 H0 G ω σ H c _ o q k
noncomputable def truD:D->Option Bool
 | .non=>some false
 | .bl b=>some b
 | .int i=>some (i != 0)
 | .lst xs=>some (!xs.isEmpty)
 | .tup xs=>some (!xs.isEmpty)
 | _=>none
noncomputable def Yv(f:FD):FT:=λω=>(f ω).bind truD
theorem q7R{α β:Type}{xs:List α}{ys:List β}(h:xs.length=ys.length):xs.isEmpty=ys.isEmpty:=by
 cases xs <;> cases ys <;> first|rfl|cases h
theorem qx{f:FD}(h:XV X a f)(he:∀whole,tZ a X.env whole=(do let v <- whole;standAt a.pos;holding [v] (truthy v)):=by intro _;rfl):XT X a (Yv f):=by
 obtain⟨t,h1,h2⟩:=h;refine⟨_,qey h1 he,λG0 H0 G ω σ H b Q o e k=>?_⟩;obtain⟨d,q,e⟩:=bnd e;refine h2 G0 H0 G ω σ H d _ o q λv G1 H1 x1 y1=>⟨b,?_,k G1 H1 x1⟩;cases d with
 | non=>cases e;cases y1.non;rfl
 | bl c=>cases e;cases y1.bl;rfl
 | int i=>cases e;cases y1.int;rfl
 | lst xs=>
  cases e;obtain⟨p,vs,rfl,h1,h2⟩:=y1.lst x1.gh;exact .inl ⟨vs,SqL.of h1,by rw[q7R h2.len]⟩
 | tup xs=>
  cases e;obtain⟨p,vs,rfl,h1,h2⟩:=y1.tup;exact .inr (.inl ⟨vs,SqT.of (x1.gh _ _ h1),by rw[q7R h2.len]⟩)
 | _=>cases e
noncomputable def blOf:D->Option Bool
 | .bl b=>some b
 | _=>none
noncomputable def Xd(f g:FD):FD:=λω=>(f ω).bind λd=>(blOf d).bind λc=>if c=true then g ω else some (.bl false)
noncomputable def vNot(f:FD):FD:=λω=>(f ω).bind λd=>(blOf d).map λc=>.bl (!c)
variable{fa fb:FD}
theorem q3y{op}(h:XD X a fa):XD X (.BoolOp op [a] pos) fa:=let ⟨t,h1,h2⟩:=h;⟨t,qhe h1,h2⟩
theorem q0K(h:XD X a fa)(h':XD X (.BoolOp .And (b::rest) pos) fb):XD X (.BoolOp .And (a::b::rest) pos) (Xd fa fb):=by
 obtain⟨t,h1,h2⟩:=h;obtain⟨u,h3,h4⟩:=h';refine⟨_,qhz h1 h3,λG0 H0 G ω σ H d Q o e k=>?_⟩;obtain⟨x,q,e⟩:=bnd e;obtain⟨c,q2,e2⟩:=bnd e;clear e;refine h2 G0 H0 G ω σ H x _ o q λv G1 H1 x1 y1=>?_;cases x with
 | bl z=>
  cases q2;cases (show v=V.bl c from y1);refine⟨c,rfl,?_⟩;cases c with
  | true=>rw[vM rfl]at e2 ⊢;exact h4 G0 H0 G1 ω σ H1 d Q (o.keep x1) e2 λv G2 H2 x2 y2=>k v G2 H2 (x1.trans x2) y2
  | false=>cases e2;exact k _ G1 H1 x1 rfl
 | _=>cases q2
theorem qem(h:XD X a fa):XD X (.UnaryOp .Not a pos) (vNot fa):=by
 obtain⟨t,h1,h2⟩:=h;refine⟨_,qhb h1,λG0 H0 G ω σ H d Q o e k=>?_⟩;obtain⟨x,q,e⟩:=bnd e;obtain⟨c,q2,e⟩:=mpd e;subst e;refine h2 G0 H0 G ω σ H x _ o q λv G1 H1 x1 y1=>?_;cases x with
 | bl z=>cases q2;cases (show v=V.bl c from y1);exact⟨c,rfl,k _ G1 H1 x1 rfl⟩
 | _=>cases q2
theorem zAf.after{K:zB}{G H G1 H1 G2 H2:Hp}{r:R}{v:V}(x:Ext G H G1 H1)(y:zAf K H1 G2 H2 r v):zAf K H G2 H2 r v:=by
 cases r with
 | sh d=>exact y
 | fr ds=>obtain⟨l,vs,e1,e2,e3⟩:=y;exact⟨l,vs,e1,x.hh.free e2,e3⟩
 | vw ds=>exact y
end
def Xa(K:zB)(r:List V->Hp->VK->Prop)(op:List D->Option R):Prop:=∀G H ds vs d(Q:VK),YO G H->op ds=some d->VwA K G H ds vs ->
 (∀w G' H',Ext G H G' H'->zAf K H G' H' d w->Q w H')->r vs H Q
noncomputable def Yg(op:List D->Option R)(g:FA):FE:=λω=>(g ω).bind op
section
variable{X:Cx}{e:vQ}{es:List vQ}{x:Str}{p pos:Pos}{r:List V->Hp->VK->Prop}{op:List D->Option R}{g:FA}{id T:String}
theorem q9b{t:TA}(hd:Xa X.K r op)(h:SimVA X.K t g):zA6 X.K (tCB r t) (Yg op g):=by
 intro G0 H0 G ω σ H d Q o e k;obtain⟨ds,q,e⟩:=bnd e;refine h G0 H0 G ω σ H ds _ o q λvs G1 H1 x1 y1=>?_;exact hd G1 H1 ds vs d Q x1.gh e y1 λw G2 H2 x2 y2=>k w G2 H2 (x1.trans x2) (y2.after x1)
theorem qL(hc:Yy X (.builtin id) r)(hd:Xa X.K r op)(hg:Gl X x)(hm:X.mg x=none)(hv:vZ x=some (.builtin id))(ha:XVA X (e::es) g)(hn:x ≠ "__name__" := by decide)(hdb:(x==("__debug__" : Str))=false:=by decide)(he:vJ (e::es) X.env=(false,eval e X.env)::vJ es X.env:=by rfl)(hpl:(vk pos (vJ es X.env)).any (·.1)=false:=by rfl):XE X (.Call (.Name x p) (e::es) [] pos) (Yg op g):=by
 obtain⟨t,h1,h2⟩:=ha;exact⟨_,q5D hc hg hm hv h1 hn hdb he hpl,q9b hd h2⟩
theorem q1c(hc:Yy X (.type T) r)(hd:Xa X.K r op)(hg:Gl X x)(hm:X.mg x=none)(hv:vZ x=some (.type T))(ha:XVA X (e::es) g)(hn:x ≠ "__name__" := by decide)(hdb:(x==("__debug__" : Str))=false:=by decide)(he:vJ (e::es) X.env=(false,eval e X.env)::vJ es X.env:=by rfl)(hpl:(vk pos (vJ es X.env)).any (·.1)=false:=by rfl):XE X (.Call (.Name x p) (e::es) [] pos) (Yg op g):=by
 obtain⟨t,h1,h2⟩:=ha;exact⟨_,qa6 hc hg hm hv h1 hn hdb he hpl,q9b hd h2⟩
theorem VwA.one{K:zB}{G H:Hp}{d:D}{vs:List V}(h:VwA K G H [d] vs):∃v,vs=[v]/\Vw K G H d v:=by
 obtain⟨v,r,h1,h2,h3⟩:=h;cases (show r=[]from h3);exact⟨v,h1,h2⟩
theorem VwA.two{K:zB}{G H:Hp}{d e:D}{vs:List V}(h:VwA K G H [d,e] vs):∃v u,vs=[v,u]/\Vw K G H d v/\Vw K G H e u:=by
 obtain⟨v,r,h1,h2,h3⟩:=h;obtain⟨u,rfl,h4⟩:=VwA.one h3;exact⟨v,u,h1,h2,h4⟩
noncomputable def Y7:List D->Option R
 | [.lst ds]=>↥(.int ds.length)
 | [.tup ds]=>↥(.int ds.length)
 | [.scr ns]=>↥(.int ns.length)
 | _=>none
theorem q0d{K:zB}:Xa K (λxs H Q=>∃p ys,xs=[.ref p]/\(SqL K H p ys\/SqT K H p ys)/\Q (.int ys.length) H) Y7:=by
 intro G H ds vs d Q s e hv k
 match ds,e with
 | [.lst ds],e=>
  cases e;obtain⟨v,rfl,h⟩:=hv.one;obtain⟨p,us,rfl,h1,h2⟩:=h.lst s;exact⟨p,us,rfl,.inl (SqL.of h1),k _ G H (Ext.refl s) (by show V.int _=V.int _;rw[h2.len])⟩
 | [.tup ds],e=>
  cases e;obtain⟨v,rfl,h⟩:=hv.one;obtain⟨p,us,rfl,h1,h2⟩:=h.tup;exact⟨p,us,rfl,.inr (SqT.of (s _ _ h1)),k _ G H (Ext.refl s) (by show V.int _=V.int _;rw[h2.len])⟩
 | [.scr ns],e=>
  cases e;obtain⟨v,rfl,h⟩:=hv.one;obtain⟨p,rfl,h1⟩:=h.scr;exact⟨p,_,rfl,.inl (s.seq h1),k _ G H (Ext.refl s) (by show V.int _=V.int _;rw[zA])⟩
noncomputable def bAbs:List D->Option R
 | [.int i]=>↥(.int (if i<0 then -i else i))
 | _=>none
theorem qhs{K:zB}:Xa K (λxs H Q=>∃i,xs=[.int i]/\Q (.int (if i<0 then -i else i)) H) bAbs:=by
 intro G H ds vs d Q s e hv k
 match ds,e with
 | [.int i],e=>
  cases e;obtain⟨v,rfl,h⟩:=hv.one;cases h.int;exact⟨i,rfl,k _ G H (Ext.refl s) rfl⟩
noncomputable def Xb:List D->Option R
 | [.lst ds]=>some (.fr ds)
 | [.tup ds]=>some (.fr ds)
 | _=>none
theorem q63{K:zB}:Xa K (λxs H Q=>∃p ys,xs=[.ref p]/\(SqL K H p ys\/SqT K H p ys)/\∀l,H l=none->Q (.ref l) (upd H l (.lst ys))) Xb:=by
 intro G H ds vs d Q s e hv k
 match ds,e with
 | [.lst ds],e=>
  cases e;obtain⟨v,rfl,h⟩:=hv.one;obtain⟨p,us,rfl,h1,h2⟩:=h.lst s;exact⟨p,us,rfl,.inl (SqL.of h1),λl hl=>k _ G _ (Ext.hide s hl _) ⟨l,us,rfl,hl,s.free hl,qm,h2⟩⟩
 | [.tup ds],e=>
  cases e;obtain⟨v,rfl,h⟩:=hv.one;obtain⟨p,us,rfl,h1,h2⟩:=h.tup;exact⟨p,us,rfl,.inr (SqT.of (s _ _ h1)),λl hl=>k _ G _ (Ext.hide s hl _) ⟨l,us,rfl,hl,s.free hl,qm,h2⟩⟩
noncomputable def Y2:List D->Option R
 | [.lst ds]=>↥(.tup ds)
 | [.tup ds]=>↥(.tup ds)
 | _=>none
theorem q0L{K:zB}:Xa K (λxs H Q=>∃p ys,xs=[.ref p]/\((SqL K H p ys/\∀l,H l=none->Q (.ref l) (upd H l (.tup ys)))\/(SqT K H p ys/\Q (.ref p) H))) Y2:=by
 intro G H ds vs d Q s e hv k
 match ds,e with
 | [.lst ds],e=>
  cases e;obtain⟨v,rfl,h⟩:=hv.one;obtain⟨p,us,rfl,h1,h2⟩:=h.lst s;refine⟨p,us,rfl,.inl ⟨SqL.of h1,λl hl=>?_⟩⟩;have x2:=Ext.lay s hl (.tup us);exact k _ _ _ x2 ⟨l,us,rfl,qm,h2.mono x2.gg⟩
 | [.tup ds],e=>
  cases e;obtain⟨v,rfl,h⟩:=hv.one;obtain⟨p,us,rfl,h1,h2⟩:=h.tup;exact⟨p,us,rfl,.inr ⟨SqT.of (s _ _ h1),k _ G H (Ext.refl s) ⟨p,us,rfl,h1,h2⟩⟩⟩
noncomputable def allB:List D->Option Bool
 | []=>some true
 | .bl b::r=>(allB r).map λc=>b&&c
 | _=>none
noncomputable def XB:List D->Option R
 | [.lst ds]=>(allB ds).map λb=>.sh (.bl b)
 | _=>none
noncomputable def zA8:List D->Option Int
 | []=>some 0
 | .int i::r=>(zA8 r).map λc=>i+c
 | _=>none
noncomputable def bSum:List D->Option R
 | [.lst ds]=>(zA8 ds).map λb=>.sh (.int b)
 | _=>none
end
def rAll:List V->Hp->VK->Prop:=λxs H Q=>∃(p:vC) (bs:List Bool),xs=[.ref p]/\H p=some (.lst (bs.map V.bl))/\Q (.bl (bs.all id)) H
def rSum:List V->Hp->VK->Prop:=λxs H Q=>∃(p:vC) (ns:List Int),xs=[.ref p]/\H p=some (.lst (ns.map V.int))/\Q (.int ns.sum) H
section
variable{X:Cx}
theorem qc2:∀{bs:List Bool}{us:List vB},YU (bs.map V.bl) us->us=bs.map Value.bool
 | [],_,r=>by cases r;rfl
 | b::bs,_,r=>by
  rw[zT]at r;cases r with
  | cons r1 r2=>cases r1;rw[qc2 r2];rfl
theorem qdU{bs:List Bool}:(yk bs.length).all (λi=>bs.getD i false)=bs.all id:=by
 induction bs with
 | nil=>rfl
 | cons b r ih=>
  rw[zG,wt,yh,wE,yh];have e:((λi=>(b::r).getD i false) ∘ Nat.succ)=λi=>r.getD i false:=by funext i;rfl
  rw[e,ih];rfl
theorem q1P(hc:X.calm=true):Yy X (.builtin "all") rAll:=by
 intro pins s σ H xs us Q I r h;obtain⟨p,bs,rfl,hp,q⟩:=h;obtain⟨u,rfl,rx⟩:=vals1 r;cases rx;obtain⟨its,n,rv,e,hz⟩:=I.lst hp;have ei:=qc2 rv;have hlt:p<s.heap.objs.size:=zM e;refine call_all_walk (uS (items:=its.toArray) ⟨_,e,rfl,n,rfl⟩ ?_);refine⟨s.heap.objs.size,_,_,its.toArray.size,_,_,λi=>bs.getD i false,rfl,Walks.list (by first|exact I.ok.hd hc|(show X.A.handled=none;exact I.ok.hd hc)) _ p (ze hlt) its.toArray,⟨⟨_,zR _ rfl,rfl,rfl⟩,⟨_,zF _ e,rfl,n,rfl⟩⟩,λi v s' Q' E' hv hq=>?_,λh' tk hk=>?_⟩
 ·have hv':its[i]?=some v:=by simpa using hv
  rw[ei,za]at hv';cases eb:bs[i]? with
  | none=>rw[eb]at hv';cases hv'
  | some b=>
   rw[eb]at hv';cases hv';have:bs.getD i false=b:=by rw[zX,eb];rfl
   have hq':Q' b s':=by rw[<- this];exact hq
   exact v5 hq'
 ·have hl:its.toArray.size=bs.length:=by rw[zO,ei,zA]
  rw[hl,qdU];exact⟨.bl _,H,I.kept (λb o z=>hk b o (λhm=>by
   have:b=s.heap.objs.size:=by simpa using hm
   subst this;exact vK (zM z) (yv _)) (zF _ z)),rfl,q⟩
theorem qcr:∀{ds:List D}{b:Bool},allB ds=some b->∃bs:List Bool,ds=bs.map D.bl/\bs.all id=b
 | [],_,e=>by cases e;exact⟨[],rfl,rfl⟩
 | .bl c::r,b,e=>by
  obtain⟨k,q,e⟩:=mpd e;obtain⟨bs,h1,h2⟩:=qcr q;exact⟨c::bs,by rw[h1];rfl,by rw[yh,h2];exact e⟩
 | .non::_,_,e=>by cases e
 | .int _::_,_,e=>by cases e
 | .str _::_,_,e=>by cases e
 | .lst _::_,_,e=>by cases e
 | .tup _::_,_,e=>by cases e
 | .scr _::_,_,e=>by cases e
 | .exc _::_,_,e=>by cases e
 | .dic _ _::_,_,e=>by cases e
theorem qbZ:∀{ds:List D}{b:Int},zA8 ds=some b->∃bs:List Int,ds=bs.map D.int/\bs.sum=b
 | [],_,e=>by cases e;exact⟨[],rfl,rfl⟩
 | .int c::r,b,e=>by
  obtain⟨k,q,e⟩:=mpd e;obtain⟨bs,h1,h2⟩:=qbZ q;exact⟨c::bs,by rw[h1];rfl,by rw[List.sum_cons,h2];exact e⟩
 | .non::_,_,e=>by cases e
 | .bl _::_,_,e=>by cases e
 | .str _::_,_,e=>by cases e
 | .lst _::_,_,e=>by cases e
 | .tup _::_,_,e=>by cases e
 | .scr _::_,_,e=>by cases e
 | .exc _::_,_,e=>by cases e
 | .dic _ _::_,_,e=>by cases e
theorem qcq{K:zB}{H:Hp}:∀{bs:List Bool}{vs:List V},YA K H (bs.map D.bl) vs->vs=bs.map V.bl
 | [],_,h=>h
 | n::r,_,⟨v,vs,h1,h2,h3⟩=>by
  have:=qcq h3;have e:v=.bl n:=h2;rw[h1,this,e];rfl
theorem q5e{K:zB}:Xa K rAll XB:=by
 intro G H ds vs d Q s e hv k
 match ds,e with
 | [.lst ds],e=>
  obtain⟨b,q,e⟩:=mpd e;subst e;obtain⟨bs,rfl,rfl⟩:=qcr q;obtain⟨v,rfl,h⟩:=hv.one;obtain⟨p,us,rfl,h1,h2⟩:=h.lst s;exact⟨p,bs,rfl,by rw[h1,qcq h2],k _ G H (Ext.refl s) rfl⟩
theorem q8I:∀(ns:List Int)(k:Nat),k<=ns.length->preSum (λi=>ns.getD i 0) k=(ns.take k).sum
 | _,0,_=>rfl
 | ns,k+1,h=>by
  have e:ns.take (k+1)=ns.take k++[ns.getD k 0]:=by
   rw[List.take_add_one,zD ∅,zX,zD ∅];rfl
  show preSum (λi=>ns.getD i 0) k+ns.getD k 0=_;rw[q8I ns k ∅,e,List.sum_append];simp
theorem qea(hc:X.calm=true):Yy X (.builtin "sum") rSum:=by
 intro pins s σ H xs us Q I r h;obtain⟨p,ns,rfl,hp,q⟩:=h;obtain⟨u,rfl,rx⟩:=vals1 r;cases rx;obtain⟨its,n,rv,e,hz⟩:=I.lst hp;have ia:=q6r rv;have hlen:its.length=ns.length:=by rw[<- rv.length,zA]
 have hlt:p<s.heap.objs.size:=zM e;refine call_sum_walkAnyS (uS (items:=its.toArray) ⟨_,e,rfl,n,rfl⟩ ?_);refine⟨s.heap.objs.size,_,_,_,its.toArray.size,_,_,λi=>ns.getD i 0,rfl,(Walks.list (by first|exact I.ok.hd hc|(show X.A.handled=none;exact I.ok.hd hc)) _ p (ze hlt) its.toArray).toS,⟨⟨_,zR _ rfl,rfl,rfl⟩,⟨_,zF _ e,rfl,n,rfl⟩⟩,λb hb=>?_,λi v hv=>PyProof.Rows.IntsAre.int_at ia i v ⇑hv,λs' t' hm=>?_⟩
 ·show b<(s.heap.push _).objs.size
  rw[yO];rcases zE.mp hb with rfl|hb
  ·exact ya _
  ·rw[zL.mp hb];exact yJ hlt
 ·rw[Moved.eq_with hm]
  have es:preSum (λi=>ns.getD i 0) its.toArray.size=ns.sum:=by
   rw[zO,hlen,q8I ns _ (zQ _),wH]
  rw[es];exact⟨.int _,H,I.kept (λb o z=>hm.heap b o (λhmm=>by
   have:b=s.heap.objs.size:=by simpa using hmm
   subst this;exact vK (zM z) (yv _)) (zF _ z)),⟨_,rfl⟩,q⟩
theorem qhy{K:zB}:Xa K rSum bSum:=by
 intro G H ds vs d Q s e hv k
 match ds,e with
 | [.lst ds],e=>
  obtain⟨b,q,e⟩:=mpd e;subst e;obtain⟨bs,rfl,rfl⟩:=qbZ q;obtain⟨v,rfl,h⟩:=hv.one;obtain⟨p,us,rfl,h1,h2⟩:=h.lst s;exact⟨p,bs,rfl,by rw[h1,h2.of_ints],k _ G H (Ext.refl s) rfl⟩
end
inductive Ty where
 | non|bl|int|str|lst|tup|dic
noncomputable def Ty.n:Ty->String
 | .non => "NoneType"
 | .bl => "bool"
 | .int => "int"
 | .str => "str"
 | .lst => "list"
 | .tup => "tuple"
 | .dic => "dict"
noncomputable def tyD:D->Ty
 | .non=>.non
 | .bl _=>.bl
 | .int _=>.int
 | .str _=>.str
 | .lst _=>.lst
 | .tup _=>.tup
 | .scr _=>.lst
 | .exc _=>.non
 | .dic _ _=>.non
noncomputable def Xi:Ty->Ty->Bool
 | .non,.non=>true
 | .bl,.bl=>true
 | .bl,.int=>true
 | .int,.int=>true
 | .str,.str=>true
 | .lst,.lst=>true
 | .tup,.tup=>true
 | _,_=>false
noncomputable def XQ(c:Ty)(f:FD):FE:=λω=>(f ω).bind λd=>match d with
 | .scr _=>none
 | .exc _=>none
 | .dic _ _=>none
 | d=>↥(.bl (Xi (tyD d) c))
def IsT(K:zB)(c:Ty):Prop:=∀t:Ty,t≠.dic->ZF K (.type t.n) (.type c.n)=some (Xi t c)
def rIsi(K:zB):List V->Hp->VK->Prop:=λxs H Q=>∃x c T b,xs=[x,.ty c]/\TyOf K H x (.type T)/\ZF K (.type T) (.type c)=some b/\Q (.bl b) H
section
variable{X:Cx}{a:vQ}{f:FD}
theorem qeH:Yy X (.builtin "isinstance") (rIsi X.K):=by
 intro pins s σ H xs us Q I r h;obtain⟨x,c,T,b,rfl,ty,e,q⟩:=h;obtain⟨u1,u2,rfl,r2,r3⟩:=vals2 r;cases (show u2=Value.type c from r3);exact qe4 I r2 ty e λtk=>⟨.bl b,H,I.tok tk,rfl,q⟩
theorem qg5{K:zB}{G H:Hp}{d:D}{v:V}(h:Vw K G H d v)(s:YO G H)(n:∀ns,d≠.scr ns)(n':∀c,d≠.exc c)(n'':∀ks ds,d≠.dic ks ds):TyOf K H v (.type (tyD d).n):=by
 cases d with
 | non=>cases h.non;exact .non
 | bl b=>cases h.bl;exact .bl b
 | int i=>cases h.int;exact .int i
 | str x=>cases h.str;exact .str x
 | lst ds=>obtain⟨p,us,rfl,h1,_⟩:=h.lst s;exact .lst h1
 | tup ds=>obtain⟨p,us,rfl,h1,_⟩:=h.tup;exact .tup (s _ _ h1)
 | scr ns=>exact vK rfl (n ns)
 | exc c=>exact vK rfl (n' c)
 | dic ks ds=>exact vK rfl (n'' ks ds)
theorem qgY(d:D):tyD d≠.dic:=by cases d <;> exact λz=>nomatch z
theorem qI{c:Ty}{x:Str}{p q pos:Pos}(ha:XV X a f)(hk:IsT X.K c)(hg:Gl X "isinstance")(hm:X.mg "isinstance" = none)(hgc:Gl X x)(hmc:X.mg x=none)(hvc:vZ x=some (.type c.n))(hnx:x ≠ "__name__" := by decide)(hdx:(x==("__debug__" : Str))=false:=by decide)(he:vJ [a,.Name x q] X.env=(false,eval a X.env)::vJ [.Name x q] X.env:=by rfl)(he2:vJ [.Name x q] X.env=(false,eval (.Name x q) X.env)::vJ [] X.env:=by rfl)(hpl:(vk pos (vJ [.Name x q] X.env)).any (·.1)=false:=by rfl):
  XE X (.Call (.Name "isinstance" p) [a,.Name x q] [] pos) (XQ c f):=by
 obtain⟨t,h1,h2⟩:=ha;refine⟨_,q5D qeH hg hm PyProof.Rows.boot_isinstance (q0G h1 (q0G (qgw hgc hmc hvc (v:=.ty c.n) rfl hnx hdx) q1l he2) he) (by decide) (by decide) he hpl,λG0 H0 G ω σ H r Q o e k=>?_⟩;obtain⟨d,q,e⟩:=bnd e;refine h2 G0 H0 G ω σ H d _ o q λv G1 H1 x1 y1=>?_;have n:∀ns,d≠.scr ns:=λns z=>by subst z;cases e
 have n':∀c,d≠.exc c:=λns z=>by subst z;cases e
 have n'':∀ks ds,d≠.dic ks ds:=λks ds z=>by subst z;cases e
 have e':r=.sh (.bl (Xi (tyD d) c)):=by
  cases d <;> first|(cases e;rfl)|cases e
 subst e';exact⟨v,c.n,(tyD d).n,Xi (tyD d) c,rfl,qg5 y1 x1.gh n n' n'',hk _ (qgY d),k _ G1 H1 x1 rfl⟩
end
inductive Out where
 | nx|bk|ct|rt (r:O)
noncomputable abbrev FS:=WSt->Option (Out×WSt)
def Post(K:zB)(H0 G':Hp)(E:Ends):Out->St->Hp->Prop
 | .nx,σ,H=>E.nx σ H
 | .bk,σ,H=>E.bk σ H
 | .ct,σ,H=>E.ct σ H
 | .rt r,_,H=>∀v,zAf K H0 G' H r.r v->E.rt v H
def SimS(K:zB)(t:TS)(f:FS):Prop:=∀G0 H0 G ω σ H out ω'(E:Ends),Own K G0 H0 G ω σ H->f ω=some (out,ω') ->
 (∀G' σ' H',Own K G0 H0 G' ω' σ' H'->YO G G'->Post K H0.hp G' E out σ' H')->t E σ H
def XS(X:Cx)(st:vf)(f:FS):Prop:=∃t,PS X st t/\SimS X.K t f
def XSs(X:Cx)(st:List vf)(f:FS):Prop:=∃t,PSs X st t/\SimS X.K t f
noncomputable def Yc:FS:=λω=>some (.nx,ω)
noncomputable def Z8(f g:FS):FS:=λω=>(f ω).bind λp=>match p.1 with
 | .nx=>g p.2
 | o=>some (o,p.2)
section
variable{X:Cx}{st:vf}{rest:List vf}{f g:FS}
theorem qe:XSs X [] Yc:=⟨_,qg9,λG0 H0 G ω σ H out ω' E o e k=>by cases e;exact k G σ H o (YO.refl _)⟩
theorem qa(h:XS X st f):XSs X [st] f:=let ⟨t,h1,h2⟩:=h;⟨t,q7v h1,h2⟩
theorem q0(h:XS X st f)(h':XSs X rest g):XSs X (st::rest) (Z8 f g):=by
 obtain⟨t,h1,h2⟩:=h;obtain⟨u,h3,h4⟩:=h';refine⟨_,q2O h1 h3,λG0 H0 G ω σ H out ω' E o e k=>?_⟩;obtain⟨⟨o1,ω1⟩,q,e⟩:=bnd e;refine h2 G0 H0 G ω σ H o1 ω1 _ o q λG1 σ1 H1 w1 g1=>?_;cases o1 with
 | nx=>exact h4 G0 H0 G1 ω1 σ1 H1 out ω' E w1 e λG2 σ2 H2 w2 g2=>k G2 σ2 H2 w2 (g1.trans g2)
 | bk=>cases e;exact k G1 σ1 H1 w1 g1
 | ct=>cases e;exact k G1 σ1 H1 w1 g1
 | rt r=>cases e;exact k G1 σ1 H1 w1 g1
end
section
variable{K:zB}{G0:Hp}{H0:Fr}{G:Hp}{ω:WSt}{σ:St}{H:Hp}
theorem qj{α:Type}{l:List α}{i j:Nat}{x y:α}(h:(l.set i x)[j]?=some y):(i=j/\i<l.length/\y=x)\/(i≠j/\l[j]?=some y):=by
 rw[List.getElem?_set]at h
 by_cases e:i=j
 ·rw[vM e]at h
  by_cases z:i<l.length
  ·rw[vM z]at h;exact .inl ⟨e,z,(zo h).symm⟩
  ·rw[vN z]at h;cases h
 ·rw[vN e]at h;exact .inr ⟨e,h⟩
theorem q3X{α:Type}{l:List α}{i:Nat}{x:α}(h:i<l.length):(l.set i x)[i]?=some x:=xB h
theorem Yq.set{i:Nat}{w:Option W}{v:Option V}(o:Yq K H0 G ω σ H)(hw:∀ds,w≠some (.pw ds))(hv:∀ds,w=some (.ow ds)->∀(j:Nat)es,ω[j]?=some (some (.pw es))->v≠some (.ref (H0.pin j))):Yq K H0 G (ω.set i w) (σ.set i v) H:=by
 intro j ds hj;rcases qj hj with⟨rfl,hl,z⟩|⟨ne,z⟩
 ·exact vK z.symm (hw ds)
 ·obtain⟨vs,h1,h2,h3,h4,h5,h6,h7⟩:=o j ds z
  refine⟨vs,by rw[zS ne];exact h1,h2,h3,h4,h5,λk es hk=>?_,λk es hk sk=>?_⟩
  ·rcases qj hk with⟨rfl,hl',z'⟩|⟨ne',z'⟩
   ·exact vK z'.symm (hw es)
   ·exact h6 k es z'
  ·rcases qj hk with⟨rfl,hl',z'⟩|⟨ne',z'⟩
   ·rcases qj sk with⟨_,_,e⟩|⟨ne2,_⟩
    ·exact hv es z'.symm j ds z e.symm
    ·exact ne2 rfl
   ·rw[zS ne']at sk;exact h7 k es z' sk
theorem Yq.setW{i:Nat}{w:Option W}(o:Yq K H0 G ω σ H)(hw:∀ds,w≠some (.pw ds))(ho:∀ds,w≠some (.ow ds)):Yq K H0 G (ω.set i w) σ H:=by
 intro j ds hj;rcases qj hj with⟨rfl,hl,z⟩|⟨ne,z⟩
 ·exact vK z.symm (hw ds)
 ·obtain⟨vs,h1,h2,h3,h4,h5,h6,h7⟩:=o j ds z
  refine⟨vs,h1,h2,h3,h4,h5,λk es hk=>?_,λk es hk=>?_⟩
  ·rcases qj hk with⟨rfl,hl',z'⟩|⟨ne',z'⟩
   ·exact vK z'.symm (hw es)
   ·exact h6 k es z'
  ·rcases qj hk with⟨rfl,hl',z'⟩|⟨ne',z'⟩
   ·exact vK z'.symm (ho es)
   ·exact h7 k es z'
theorem Yq.upd{p:vC}{ob:HO}(o:Yq K H0 G ω σ H)(hp:∀(j:Nat)es,ω[j]?=some (some (.pw es))->H0.pin j≠p):Yq K H0 G ω σ (upd H p ob):=by
 intro j ds hj;obtain⟨vs,h1,h2,h3⟩:=o j ds hj;exact⟨vs,h1,by rw[qf (hp j ds hj)];exact h2,h3⟩
theorem Yq.grow{p:vC}{ob:HO}(o:Yq K H0 G ω σ H)(g:G p=none)(hp:∀(j:Nat)es,ω[j]?=some (some (.pw es))->H0.pin j≠p):Yq K H0 (L2.upd G p ob) ω σ H:=by
 intro j ds hj;obtain⟨vs,h1,h2,h3,h4,h5,h6⟩:=o j ds hj;exact⟨vs,h1,h2,by rw[qf (hp j ds hj)];exact h3,h4,h5.mono (Yi g _),h6⟩
theorem Yq.ne_ow{i:Nat}{ds:List D}{l:vC}(o:Yq K H0 G ω σ H)(hi:ω[i]?=some (some (.ow ds)))(hσ:σ[i]?=some (some (.ref l))):∀(j:Nat)es,ω[j]?=some (some (.pw es))->H0.pin j≠l:=λj es hj y=>by
 obtain⟨_,_,_,_,_,_,_,h7⟩:=o j es hj;exact h7 i ds hi (by rw[y];exact hσ)
theorem Yq.ne_ob{l:vC}(o:Yq K H0 G ω σ H)(h:∀vs,H l≠some (.lst vs)):∀(j:Nat)es,ω[j]?=some (some (.pw es))->H0.pin j≠l:=λj es hj y=>by
 obtain⟨vs,_,h2,_⟩:=o j es hj;exact h vs (by rw[<- y];exact h2)
theorem Yq.setL{i:Nat}{ds es:List D}(o:Yq K H0 G ω σ H)(hi:ω[i]?=some (some (.ow ds))):Yq K H0 G (ω.set i (some (.ow es))) σ H:=by
 intro j ds' hj;rcases qj hj with⟨rfl,hl,z⟩|⟨ne,z⟩
 ·cases z
 ·obtain⟨vs,h1,h2,h3,h4,h5,h6,h7⟩:=o j ds' z
  refine⟨vs,h1,h2,h3,h4,h5,λk es hk=>?_,λk es hk=>?_⟩
  ·rcases qj hk with⟨rfl,hl',z'⟩|⟨ne',z'⟩
   ·cases z'
   ·exact h6 k es z'
  ·rcases qj hk with⟨rfl,hl',z'⟩|⟨ne',z'⟩
   ·exact h7 i ds hi
   ·exact h7 k es z'
theorem Own.od_set{i:Nat}{w:Option W}{v:Option V}(o:Own K G0 H0 G ω σ H)(h:∀ks ds,w≠some (.od ks ds)):∀(j:Nat)ks ds,(ω.set i w)[j]?=some (some (.od ks ds))->∃p vs,(σ.set i v)[j]?=some (some (.ref p))/\H p=some (.dK (kvsOf ks vs))/\G p=none/\H0 p=none/\ks.length=ds.length/\YA K G ds vs /\
  ∀(k:Nat)ks' es,(ω.set i w)[k]?=some (some (.od ks' es))->(σ.set i v)[k]?=some (some (.ref p))->j=k:=by
 intro j ks ds hj;rcases qj hj with⟨rfl,hl,z⟩|⟨ne,z⟩
 ·exact vK z.symm (h ks ds)
 ·obtain⟨p,vs,h1,h2,h3,h4,h5,h6,h7⟩:=o.od j ks ds z
  refine⟨p,vs,by rw[zS ne];exact h1,h2,h3,h4,h5,h6,λk ks' es hk sk=>?_⟩;rcases qj hk with⟨rfl,hl',z'⟩|⟨ne',z'⟩
  ·exact vK z'.symm (h ks' es)
  ·rw[zS ne']at sk
   exact h7 k ks' es z' sk
theorem Own.setSh{i:Nat}{d:D}{v:V}(o:Own K G0 H0 G ω σ H)(h:Rep K G d v):Own K G0 H0 G (ω.set i ↥d) (σ.set i (some v)) H:=by
 refine⟨o.ext,by rw[yP,yP,o.len],λj e hj=>?_,λj ds hj=>?_,λj k ds es l hj hk sj sk=>?_,o.od_set (λ_ _ z=>by cases z),o.pw.set (λ_ z=>by cases z) (λ_ z=>by cases z)⟩
 ·rcases qj hj with⟨rfl,hl,z⟩|⟨ne,z⟩
  ·cases z;exact⟨v,q3X (by rw[<- o.len];exact hl),h⟩
  ·obtain⟨u,h1,h2⟩:=o.sh j e z
   exact⟨u,by rw[zS ne];exact h1,h2⟩
 ·rcases qj hj with⟨rfl,hl,z⟩|⟨ne,z⟩
  ·cases z
  ·obtain⟨l,vs,h1,h2⟩:=o.ow j ds z
   exact⟨l,vs,by rw[zS ne];exact h1,h2⟩
 ·rcases qj hj with⟨rfl,hl,z⟩|⟨ne,z⟩
  ·cases z
  ·rcases qj hk with⟨rfl,hl',z'⟩|⟨ne',z'⟩
   ·cases z'
   ·rw[zS ne]at sj
    rw[zS ne']at sk;exact o.nd j k ds es l z z' sj sk
theorem Own.setOw{i:Nat}{ds:List D}{l:vC}{vs:List V}(o:Own K G0 H0 G ω σ H)(h1:H l=some (.lst vs))(h2:G l=none)(h3:H0 l=none)(h4:YA K G ds vs)(h5:∀(j:Nat)es,ω[j]?=some (some (.ow es))->σ[j]?≠some (some (.ref l)))(h6:∀(j:Nat)es,ω[j]?=some (some (.pw es))->H0.pin j≠l):Own K G0 H0 G (ω.set i (some (.ow ds))) (σ.set i (some (.ref l))) H:=by
 refine⟨o.ext,by rw[yP,yP,o.len],λj e hj=>?_,λj es hj=>?_,λj k es fs m hj hk sj sk=>?_,o.od_set (λ_ _ z=>by cases z),o.pw.set (λ_ z=>by cases z) (λ_ _ j es hj y=>h6 j es hj (by cases y;rfl))⟩
 ·rcases qj hj with⟨rfl,hl,z⟩|⟨ne,z⟩
  ·cases z
  ·obtain⟨u,q1,q2⟩:=o.sh j e z
   exact⟨u,by rw[zS ne];exact q1,q2⟩
 ·rcases qj hj with⟨rfl,hl,z⟩|⟨ne,z⟩
  ·cases z;exact⟨l,vs,q3X (by rw[<- o.len];exact hl),h1,h2,h3,h4⟩
  ·obtain⟨m,us,q1,q2⟩:=o.ow j es z
   exact⟨m,us,by rw[zS ne];exact q1,q2⟩
 ·rcases qj hj with⟨e1,hl,z⟩|⟨ne,z⟩
  ·rcases qj hk with⟨e2,hl',z'⟩|⟨ne',z'⟩
   ·exact e1.symm.trans e2
   ·rw[zS ne']at sk
    subst e1;rw[q3X (by rw[<- o.len];exact hl)]at sj;cases sj;exact vK sk (h5 k fs z')
  ·rcases qj hk with⟨e2,hl',z'⟩|⟨ne',z'⟩
   ·rw[zS ne]at sj
    subst e2;rw[q3X (by rw[<- o.len];exact hl')]at sk;cases sk;exact vK sj (h5 j es z)
   ·rw[zS ne]at sj
    rw[zS ne']at sk;exact o.nd j k es fs m z z' sj sk
theorem Own.mut{i:Nat}{ds es:List D}{l:vC}{vs us:List V}(o:Own K G0 H0 G ω σ H)(hi:ω[i]?=some (some (.ow ds)))(hσ:σ[i]?=some (some (.ref l)))(h1:H l=some (.lst vs))(h2:G l=none)(h3:H0 l=none)(h4:YA K G es us):
  Own K G0 H0 G (ω.set i (some (.ow es))) σ (upd H l (.lst us)):=by
 have ho:i<ω.length:=(zh.mp hi).1;refine⟨⟨o.ext.gg,YJ o.ext.gh h2 _,YJ o.ext.hh h3 _,o.ext.new⟩,by rw[yP,o.len],λj e hj=>?_,λj fs hj=>?_,λj k fs gs m hj hk sj sk=>?_,λj ks fs hj=>?_,(o.pw.upd (o.pw.ne_ow hi hσ)).setL hi⟩
 ·rcases qj hj with⟨rfl,hl,z⟩|⟨ne,z⟩
  ·cases z
  ·exact o.sh j e z
 ·rcases qj hj with⟨rfl,hl,z⟩|⟨ne,z⟩
  ·cases z;exact⟨l,us,hσ,qm,h2,h3,h4⟩
  ·obtain⟨m,ws,q1,q2,q3,q4,q5⟩:=o.ow j fs z
   have hm:m≠l:=λy=>ne (o.nd i j ds fs l hi z hσ (by rw[<- y];exact q1));exact⟨m,ws,q1,by rw[qf hm];exact q2,q3,q4,q5⟩
 ·rcases qj hj with⟨e1,hl,z⟩|⟨ne,z⟩
  ·rcases qj hk with⟨e2,hl',z'⟩|⟨ne',z'⟩
   ·exact e1.symm.trans e2
   ·subst e1;exact o.nd i k ds gs m hi z' sj sk
  ·rcases qj hk with⟨e2,hl',z'⟩|⟨ne',z'⟩
   ·subst e2;exact o.nd j i fs ds m z hi sj sk
   ·exact o.nd j k fs gs m z z' sj sk
 ·rcases qj hj with⟨e1,hl,z⟩|⟨ne,z⟩
  ·cases z
  ·obtain⟨p,ws,q1,q2,q3,q4,q5,q6,q7⟩:=o.od j ks fs z
   have hp:p≠l:=λy=>by rw[y,h1]at q2;cases q2
   refine⟨p,ws,q1,by rw[qf hp];exact q2,q3,q4,q5,q6,λk ks' es hk sk=>?_⟩;rcases qj hk with⟨e2,hl',z'⟩|⟨ne',z'⟩
   ·cases z'
   ·exact q7 k ks' es z' sk
theorem Own.setOd{i:Nat}{ks:List Int}{ds:List D}{p:vC}{vs:List V}(o:Own K G0 H0 G ω σ H)(h1:H p=some (.dK (kvsOf ks vs)))(h2:G p=none)(h3:H0 p=none)(h4:ks.length=ds.length)(h5:YA K G ds vs)(h6:∀(j:Nat)ks' es,ω[j]?=some (some (.od ks' es))->σ[j]?≠some (some (.ref p))):Own K G0 H0 G (ω.set i (some (.od ks ds))) (σ.set i (some (.ref p))) H:=by
 refine⟨o.ext,by rw[yP,yP,o.len],λj e hj=>?_,λj es hj=>?_,λj k es fs m hj hk sj sk=>?_,λj ks' es hj=>?_,o.pw.set (λ_ z=>by cases z) (λ_ z=>by cases z)⟩
 ·rcases qj hj with⟨rfl,hl,z⟩|⟨ne,z⟩
  ·cases z
  ·obtain⟨u,q1,q2⟩:=o.sh j e z
   exact⟨u,by rw[zS ne];exact q1,q2⟩
 ·rcases qj hj with⟨rfl,hl,z⟩|⟨ne,z⟩
  ·cases z
  ·obtain⟨m,us,q1,q2⟩:=o.ow j es z
   exact⟨m,us,by rw[zS ne];exact q1,q2⟩
 ·rcases qj hj with⟨e1,hl,z⟩|⟨ne,z⟩
  ·cases z
  ·rcases qj hk with⟨e2,hl',z'⟩|⟨ne',z'⟩
   ·cases z'
   ·rw[zS ne]at sj
    rw[zS ne']at sk;exact o.nd j k es fs m z z' sj sk
 ·rcases qj hj with⟨rfl,hl,z⟩|⟨ne,z⟩
  ·cases z
   refine⟨p,vs,q3X (by rw[<- o.len];exact hl),h1,h2,h3,h4,h5,λk ks'' fs hk sk=>?_⟩;rcases qj hk with⟨e2,hl',z'⟩|⟨ne',z'⟩
   ·exact e2
   ·rw[zS ne']at sk
    exact vK sk (h6 k ks'' fs z')
  ·obtain⟨p',vs',q1,q2,q3,q4,q5,q6,q7⟩:=o.od j ks' es z
   refine⟨p',vs',by rw[zS ne];exact q1,q2,q3,q4,q5,q6,λk ks'' fs hk sk=>?_⟩;rcases qj hk with⟨e2,hl',z'⟩|⟨ne',z'⟩
   ·subst e2
    rw[q3X (by rw[<- o.len];exact hl')]at sk;cases sk;exact vK q1 (h6 j ks' es z)
   ·rw[zS ne']at sk
    exact q7 k ks'' fs z' sk
theorem Own.mutD{i:Nat}{ks ks2:List Int}{ds es:List D}{p:vC}{vs us:List V}(o:Own K G0 H0 G ω σ H)(hi:ω[i]?=some (some (.od ks ds)))(hσ:σ[i]?=some (some (.ref p)))(h1:H p=some (.dK (kvsOf ks vs)))(h2:G p=none)(h3:H0 p=none)(h4:ks2.length=es.length)(h5:YA K G es us):
  Own K G0 H0 G (ω.set i (some (.od ks2 es))) σ (upd H p (.dK (kvsOf ks2 us))):=by
 have ho:i<ω.length:=(zh.mp hi).1;refine⟨⟨o.ext.gg,YJ o.ext.gh h2 _,YJ o.ext.hh h3 _,o.ext.new⟩,by rw[yP,o.len],λj e hj=>?_,λj fs hj=>?_,λj k fs gs m hj hk sj sk=>?_,λj ks' fs hj=>?_,(o.pw.upd (o.pw.ne_ob λvs z=>by rw[h1]at z;cases z)).setW (λ_ z=>by cases z) (λ_ z=>by cases z)⟩
 ·rcases qj hj with⟨rfl,hl,z⟩|⟨ne,z⟩
  ·cases z
  ·exact o.sh j e z
 ·rcases qj hj with⟨rfl,hl,z⟩|⟨ne,z⟩
  ·cases z
  ·obtain⟨m,ws,q1,q2,q3,q4,q5⟩:=o.ow j fs z
   have hm:m≠p:=λy=>by rw[y,h1]at q2;cases q2
   exact⟨m,ws,q1,by rw[qf hm];exact q2,q3,q4,q5⟩
 ·rcases qj hj with⟨e1,hl,z⟩|⟨ne,z⟩
  ·cases z
  ·rcases qj hk with⟨e2,hl',z'⟩|⟨ne',z'⟩
   ·cases z'
   ·exact o.nd j k fs gs m z z' sj sk
 ·obtain⟨p0,vs0,r1,r2,r3,r4,r5,r6,r7⟩:=o.od i ks ds hi
  rw[hσ]at r1;cases r1;rcases qj hj with⟨rfl,hl,z⟩|⟨ne,z⟩
  ·cases z
   refine⟨p,us,hσ,qm,h2,h3,h4,h5,λk ks'' gs hk sk=>?_⟩;rcases qj hk with⟨e2,hl',z'⟩|⟨ne',z'⟩
   ·exact e2
   ·exact r7 k ks'' gs z' sk
  ·obtain⟨q,ws,q1,q2,q3,q4,q5,q6,q7⟩:=o.od j ks' fs z
   have hp:q≠p:=λy=>ne (r7 j ks' fs z (by rw[<- y];exact q1));refine⟨q,ws,q1,by rw[qf hp];exact q2,q3,q4,q5,q6,λk ks'' gs hk sk=>?_⟩;rcases qj hk with⟨e2,hl',z'⟩|⟨ne',z'⟩
   ·subst e2
    rw[hσ]at sk;cases sk;exact vK rfl hp
   ·exact q7 k ks'' gs z' sk
noncomputable def share(i:Nat)(ω:WSt):WSt:=match ω[i]? with
 | some (some (.ow ds))=>ω.set i ↥(.lst ds)
 | some (some (.od ks ds))=>ω.set i ↥(.dic ks ds)
 | _=>ω
theorem Own.share(i:Nat)(o:Own K G0 H0 G ω σ H):(∃G',YO G G'/\Own K G0 H0 G' (share i ω) σ H)\/∃p kvs,σ[i]?=some (some (.ref p))/\H p=some (.dK kvs)/\∀ob,∃G',YO G G'/\Own K G0 H0 G' (share i ω) σ (upd H p (.frz ob (.dK kvs))):=by
 unfold Hk.share;cases q:ω[i]? with
 | none=>exact .inl ⟨G,YO.refl _,o⟩
 | some w=>
  cases w with
  | none=>exact .inl ⟨G,YO.refl _,o⟩
  | some w=>
   cases w with
   | sh d=>exact .inl ⟨G,YO.refl _,o⟩
   | pw ds=>exact .inl ⟨G,YO.refl _,o⟩
   | ow ds=>
    obtain⟨l,vs,q1,q2,q3,q4,q5⟩:=o.ow i ds q;have s1:YO G (upd G l (.lst vs)):=Yi q3 _;have ho:i<ω.length:=(zh.mp q).1;refine .inl ⟨upd G l (.lst vs),s1,⟨o.ext.gg.trans s1,λb u z=>?_,o.ext.hh,λb z1 z2=>?_⟩,by rw[yP,o.len],λj e hj=>?_,λj fs hj=>?_,λj k fs gs m hj hk sj sk=>?_,λj ks fs hj=>?_,(o.pw.grow q3 (o.pw.ne_ow q q1)).setW (λ_ z=>by cases z) (λ_ z=>by cases z)⟩
    ·by_cases hb:b=l
     ·subst hb;rw[qm]at z;rw[q2];exact z
     ·rw[qf hb]at z;exact o.ext.gh b u z
    ·rw[qf (λhb=>z2 (by rw[hb];exact q4))];exact o.ext.new b z1 z2
    ·rcases qj hj with⟨rfl,hl,z⟩|⟨ne,z⟩
     ·cases z;exact⟨_,q1,l,vs,rfl,qm,q5.mono s1⟩
     ·obtain⟨u,r1,r2⟩:=o.sh j e z
      exact⟨u,r1,r2.mono s1⟩
    ·rcases qj hj with⟨rfl,hl,z⟩|⟨ne,z⟩
     ·cases z
     ·obtain⟨m,ws,r1,r2,r3,r4,r5⟩:=o.ow j fs z
      have hm:m≠l:=λy=>ne (o.nd i j ds fs l q z q1 (by rw[<- y];exact r1));exact⟨m,ws,r1,r2,by rw[qf hm];exact r3,r4,r5.mono s1⟩
    ·rcases qj hj with⟨e1,hl,z⟩|⟨ne,z⟩
     ·cases z
     ·rcases qj hk with⟨e2,hl',z'⟩|⟨ne',z'⟩
      ·cases z'
      ·exact o.nd j k fs gs m z z' sj sk
    ·rcases qj hj with⟨e1,hl,z⟩|⟨ne,z⟩
     ·cases z
     ·obtain⟨m,ws,r1,r2,r3,r4,r5,r6,r7⟩:=o.od j ks fs z
      have hm:m≠l:=λy=>by rw[y,q2]at r2;cases r2
      refine⟨m,ws,r1,r2,by rw[qf hm];exact r3,r4,r5,r6.mono s1,λk ks' es hk sk=>?_⟩;rcases qj hk with⟨e2,hl',z'⟩|⟨ne',z'⟩
      ·cases z'
      ·exact r7 k ks' es z' sk
   | od ks0 ds=>
    obtain⟨l,vs,q1,q2,q3,q4,q6,q5,q7⟩:=o.od i ks0 ds q;refine .inr ⟨l,_,q1,q2,λob=>?_⟩;have s1:YO G (upd G l (.frz ob (.dK (kvsOf ks0 vs)))):=Yi q3 _;have ho:i<ω.length:=(zh.mp q).1;refine⟨upd G l (.frz ob (.dK (kvsOf ks0 vs))),s1,⟨o.ext.gg.trans s1,Xv o.ext.gh _,YJ o.ext.hh q4 _,λb z1 z2=>?_⟩,by rw[yP,o.len],λj e hj=>?_,λj fs hj=>?_,λj k fs gs m hj hk sj sk=>?_,λj ks fs hj=>?_,((o.pw.upd (o.pw.ne_ob λvs z=>by rw[q2]at z;cases z)).grow q3 (o.pw.ne_ob λvs z=>by rw[q2]at z;cases z)).setW (λ_ z=>by cases z) (λ_ z=>by cases z)⟩
    ·rw[qf (λhb=>z2 (by rw[hb];exact q4))];exact o.ext.new b z1 z2
    ·rcases qj hj with⟨rfl,hl,z⟩|⟨ne,z⟩
     ·cases z;exact⟨_,q1,l,vs,rfl,⟨ob,qm⟩,q6,q5.mono s1⟩
     ·obtain⟨u,r1,r2⟩:=o.sh j e z
      exact⟨u,r1,r2.mono s1⟩
    ·rcases qj hj with⟨rfl,hl,z⟩|⟨ne,z⟩
     ·cases z
     ·obtain⟨m,ws,r1,r2,r3,r4,r5⟩:=o.ow j fs z
      have hm:m≠l:=λy=>by rw[y,q2]at r2;cases r2
      exact⟨m,ws,r1,by rw[qf hm];exact r2,by rw[qf hm];exact r3,r4,r5.mono s1⟩
    ·rcases qj hj with⟨e1,hl,z⟩|⟨ne,z⟩
     ·cases z
     ·rcases qj hk with⟨e2,hl',z'⟩|⟨ne',z'⟩
      ·cases z'
      ·exact o.nd j k fs gs m z z' sj sk
    ·rcases qj hj with⟨e1,hl,z⟩|⟨ne,z⟩
     ·cases z
     ·obtain⟨m,ws,r1,r2,r3,r4,r5,r6,r7⟩:=o.od j ks fs z
      have hm:m≠l:=λy=>ne (q7 j ks fs z (by rw[<- y];exact r1));refine⟨m,ws,r1,by rw[qf hm];exact r2,by rw[qf hm];exact r3,r4,r5,r6.mono s1,λk ks' es hk sk=>?_⟩;rcases qj hk with⟨e2,hl',z'⟩|⟨ne',z'⟩
      ·cases z'
      ·exact r7 k ks' es z' sk
end
theorem Inv.freeze{X:Cx}{pins:List (vC×Obj)}{σ:St}{H:Hp}{s:vF}{p:vC}{kvs:List (Key×V)}(I:Inv X pins σ H s)(hp:H p=some (.dK kvs)):∃ob,Inv X pins σ (upd H p (.frz ob (.dK kvs))) s:=by
 have ok:=I.hok p _ hp;obtain⟨_,_,_,_,ob,_,_,e,_⟩:=id ok;have stay:∀b u,YQ X.prog X.w H s.heap b u->YQ X.prog X.w (upd H p (.frz ob (.dK kvs))) s.heap b u:=λb u x=>
  x.stay (λ_ _ _ q=>q) (λc q=>by rw[qf (λz=>by rw[z,hp]at q;cases q)];exact q) λc xs q=>by rw[qf (λz=>by rw[z,hp]at q;cases q)];exact q
 refine⟨ob,I.step (H':=upd H p (.frz ob (.dK kvs))) (h':=s.heap) (g':=s.gens) (d':=s.drawn) (t':=s.toks) (ch:=[]) (λ_ z=>nomatch z) (λ_ _ _ _ _ e _=>e) (λ_ o _ _ _ e _=>⟨o.slots,e⟩) (λb o _ _ n=>by rw[qf (λz=>by rw[z,hp]at n;cases n)];exact n) (λ_ o _ e=>⟨o,e⟩)
  (λb xs q=>by rw[qf (λz=>by rw[z,hp]at q;cases q)];exact q) (λb o u q=>by rw[qf (λz=>by rw[z,hp]at q;cases q)];exact q) (λb ps q=>⟨#[],by rw[qf (λz=>by rw[z,hp]at q;cases q),q];simp⟩) (λ_ hm=>hm) (λb u q=>?_) I.bare⟩
 by_cases z:b=p
 ·subst z
  rw[qm]at q;cases q;exact⟨e,stay _ _ ok⟩
 ·rw[qf z]at q
  exact stay b u (I.hok b u q)
theorem q90{X:Cx}{sts:List vf}{t:TS}(i:Nat)(h:PSs X sts t):PSs X sts (λD σ H=>∃p kvs,σ[i]?=some (some (.ref p))/\H p=some (.dK kvs)/\∀ob,t D σ (upd H p (.frz ob (.dK kvs)))):=by
 intro pins s σ H D I q;obtain⟨p,kvs,_,hp,q⟩:=q;obtain⟨ob,I'⟩:=Inv.freeze I hp;exact h pins s σ _ D I' (q ob)
noncomputable def Yf(i:Nat)(f:FS):FS:=λω=>f (share i ω)
theorem q0m{X:Cx}{sts:List vf}{f:FS}(i:Nat)(h:XSs X sts f):XSs X sts (Yf i f):=by
 obtain⟨t,h1,h2⟩:=h;refine⟨λD σ H=>t D σ H\/∃p kvs,σ[i]?=some (some (.ref p))/\H p=some (.dK kvs)/\∀ob,t D σ (upd H p (.frz ob (.dK kvs))),λpins s σ H D I q=>?_,λG0 H0 G ω σ H out ω' E o e k=>?_⟩
 ·rcases q with q|q
  ·exact h1 pins s σ H D I q
  ·exact q90 i h1 pins s σ H D I q
 ·rcases o.share i with⟨G1,g1,o1⟩|⟨p,kvs,z1,z2,z3⟩
  ·exact .inl (h2 G0 H0 G1 _ σ H out ω' E o1 e λG2 σ2 H2 w2 g2=>k G2 σ2 H2 w2 (g1.trans g2))
  ·refine .inr ⟨p,kvs,z1,z2,λob=>?_⟩
   obtain⟨G1,g1,o1⟩:=z3 ob;exact h2 G0 H0 G1 _ σ _ out ω' E o1 e λG2 σ2 H2 w2 g2=>k G2 σ2 H2 w2 (g1.trans g2)
noncomputable def setR(i:Nat)(r:R)(ω:WSt):Option WSt:=match r with
 | .sh d=>some (ω.set i ↥d)
 | .fr ds=>some (ω.set i (some (.ow ds)))
 | .vw _=>none
noncomputable def YM(i:Nat)(f:FE):FS:=λω=>(f ω).bind λr=>(setR i r ω).map λw=>(.nx,w)
section
variable{X:Cx}{e:vQ}{f:FE}{pos pos':Pos}
theorem qbV{i:Nat}{t:TE}(h:zA6 X.K t f):SimS X.K (tAsg t (We i)) (YM i f):=by
 intro G0 H0 G ω σ H out ω' E o e k;obtain⟨r,q,e⟩:=bnd e;obtain⟨w,q2,e⟩:=mpd e;cases e;refine h G0 H0 G ω σ H r _ o q λv G1 H1 x1 y1=>?_;have o1:=o.keep x1;show E.nx (σ.set i (some v)) H1;cases r with
 | sh d=>cases q2;exact k G1 _ H1 (o1.setSh y1) x1.gg
 | fr ds=>
  cases q2;obtain⟨l,vs,rfl,e2,e3,e4,e5⟩:=y1;refine k G1 _ H1 (o1.setOw e4 e3 (o.ext.hh.free e2) e5 (λj es hj z=>?_) λj es hj y=>?_) x1.gg
  ·obtain⟨m,us,q1,q2,_⟩:=o.ow j es hj
   rw[q1]at z;cases z;rw[e2]at q2;cases q2
  ·obtain⟨us,_,q2,_⟩:=o.pw j es hj
   rw[y,e2]at q2;cases q2
 | vw ds=>cases q2
theorem qg{i:Nat}{x:Str}(hN:X.N.Nodup)(hi:X.N[i]?=some x)(hx:Loc X.env.scope x)(he:XE X e f)(hs:vm e (some (.Name x pos')) pos.line X.env=pure false:=by rfl)(hf:X.fn x=true\/X.env.scope.names.lookup x=some .local:=by first|exact .inl rfl|exact .inr rfl|assumption):
  XS X (.Assign [.Name x pos'] e pos) (YM i f):=let ⟨_,h1,h2⟩:=he;⟨_,q61 hN hi hx h1 hs hf,qbV h2⟩
noncomputable abbrev FG:=D->WSt->Option WSt
def SimG(K:zB)(g:TG)(fg:FG):Prop:=∀G0 H0 G ω σ H d v ω'(Q:St->Hp->Prop),Own K G0 H0 G ω σ H->fg d ω=some ω'->Rep K G d v->(∀σ',Own K G0 H0 G ω' σ' H->Q σ' H)->g v σ H Q
def XG(X:Cx)(tg:vQ)(fg:FG):Prop:=∃g,PG X tg g/\SimG X.K g fg
noncomputable def gN(i:Nat):FG:=λd ω=>some (ω.set i ↥d)
theorem qd{i:Nat}{x:Str}(hN:X.N.Nodup)(hi:X.N[i]?=some x)(hx:Loc X.env.scope x)(hf:X.fn x=true\/X.env.scope.names.lookup x=some .local:=by first|exact .inl rfl|exact .inr rfl|assumption):XG X (.Name x pos) (gN i) :=
 ⟨_,q99 hN hi hx hf,λG0 H0 G ω σ H d v ω' Q o e h k=>by cases e;exact k _ (o.setSh h)⟩
def SimGs(K:zB)(g:TGs)(fg:List D->WSt->Option WSt):Prop:=∀G0 H0 G ω σ H ds vs ω'(Q:St->Hp->Prop),Own K G0 H0 G ω σ H->fg ds ω=some ω'->YA K G ds vs->(∀σ',Own K G0 H0 G ω' σ' H->Q σ' H)->g vs σ H Q
def XGs(X:Cx)(tg:List vQ)(fg:List D->WSt->Option WSt):Prop:=∃g,PGs X tg g/\SimGs X.K g fg
noncomputable def Ym:List D->WSt->Option WSt
 | [],ω=>some ω
 | _,_=>none
noncomputable def YD(f:FG)(g:List D->WSt->Option WSt):List D->WSt->Option WSt
 | d::ds,ω=>(f d ω).bind λw=>g ds w
 | [],_=>none
theorem q31:XGs X [] Ym:=⟨_,qfO,λG0 H0 G ω σ H ds vs ω' Q o e h k=>by
 cases ds with
 | nil=>cases e;cases (show vs=[]from h);exact⟨rfl,k σ o⟩
 | cons d r=>cases e⟩
theorem q06{es:List vQ}{fg:FG}{gs:List D->WSt->Option WSt}(h:XG X e fg)(h':XGs X es gs)(hs:(v7 (e::es) X.env).map (·.2)=assign e X.env::(v7 es X.env).map (·.2):=by rfl):XGs X (e::es) (YD fg gs):=by
 obtain⟨g,h1,h2⟩:=h;obtain⟨u,h3,h4⟩:=h';refine⟨_,qf2 h1 h3 hs,λG0 H0 G ω σ H ds vs ω' Q o e h k=>?_⟩;cases ds with
 | nil=>cases e
 | cons d r=>
  obtain⟨w1,q,e1⟩:=bnd e;obtain⟨v,vr,rfl,r1,r2⟩:=h;exact⟨v,vr,rfl,h2 G0 H0 G ω σ H d v w1 _ o q r1 λσ1 o1=>h4 G0 H0 G w1 σ1 H r vr ω' Q o1 e1 r2 k⟩
noncomputable def gT(n:Nat)(g:List D->WSt->Option WSt):FG:=λd ω=>match d with
 | .tup ds=>if ds.length=n then g ds ω else none
 | _=>none
theorem q4h{es:List vQ}{k n:Nat}{gs:List D->WSt->Option WSt}(hc:X.calm=true)(h:XGs X es gs)(hn:(v7 es X.env).length=n:=by rfl)(hst:(v7 es X.env).findIdx? (·.1)=none:=by rfl):XG X (.Tuple es k pos) (gT n gs):=by
 obtain⟨g,h1,h2⟩:=h;refine⟨_,qgZ hc h1 hn hst,λG0 H0 G ω σ H d v ω' Q o e h k=>?_⟩;unfold gT at e;cases d with
 | tup ds=>
  dsimp only at e
  obtain⟨a,vs,rfl,r1,r2⟩:=h
  by_cases z:ds.length=n
  ·rw[vM z]at e
   exact⟨a,vs,rfl,SqT.of (o.gh _ _ r1),by rw[<- r2.len];exact z,h2 G0 H0 G ω σ H ds vs ω' Q o e r2 k⟩
  ·rw[vN z]at e;cases e
 | _=>cases e
noncomputable def sAsg(f:FD)(g:FG):FS:=λω=>(f ω).bind λd=>(g d ω).map λw=>(.nx,w)
theorem qer{tg:vQ}{fd:FD}{fg:FG}(he:XD X e fd)(hg:XG X tg fg)(hs:swapsWithSole [tg] e pos.line X.env=pure false:=by rfl)(hw:swappedStores [tg] e X.env=pure none:=by rfl)(h1:(v7 [tg] X.env).map (·.2)=[assign tg X.env]:=by rfl):XS X (.Assign [tg] e pos) (sAsg fd fg):=by
 obtain⟨t,p1,p2⟩:=he;obtain⟨g,p3,p4⟩:=hg;refine⟨_,qhQ p1 p3 hs hw h1,λG0 H0 G ω σ H out ω' E o e k=>?_⟩;obtain⟨d,q,e⟩:=bnd e;obtain⟨w,q2,e⟩:=mpd e;cases e;refine p2 G0 H0 G ω σ H d _ o q λv G1 H1 x1 y1=>?_;exact p4 G0 H0 G1 ω σ H1 d v _ _ (o.keep x1) q2 y1 λσ1 o1=>k G1 σ1 H1 o1 x1.gg
end
noncomputable def sIf(c:FT)(f g:FS):FS:=λω=>(c ω).bind λb=>if b=true then f ω else g ω
noncomputable def YR(f:FE):FS:=λω=>(f ω).bind λr=>match r with
 | .sh d=>some (.rt (.sh d),ω)
 | .fr ds=>some (.rt (.fr ds),ω)
 | .vw _=>none
noncomputable def WT(i:Nat):FS:=λω=>match ω[i]? with
 | some ↥d=>some (.rt (.sh d),ω)
 | some (some (.ow ds))=>some (.rt (.fr ds),ω)
 | _=>none
noncomputable def sNo:FS:=λ_=>none
noncomputable def Wp(f:FE):FS:=λω=>(f ω).map λ_=>(.nx,ω)
section
variable{X:Cx}{c e:vQ}{a b:List vf}{st:vf}{pos:Pos}{fc:FT}{f g:FS}{fe:FE}
theorem qt(hc:XT X c fc)(ha:XSs X a f)(hb:XSs X b g):XS X (.If c a b pos) (sIf fc f g):=by
 obtain⟨t,h1,h2⟩:=hc;obtain⟨u,h3,h4⟩:=ha;obtain⟨w,h5,h6⟩:=hb;refine⟨_,qfI h1 h3 h5,λG0 H0 G ω σ H out ω' E o e k=>?_⟩;obtain⟨z,q,e⟩:=bnd e;refine h2 G0 H0 G ω σ H z _ o q λG1 H1 x1=>?_;cases z with
 | true=>rw[vM rfl]at e ⊢;exact h4 G0 H0 G1 ω σ H1 out ω' E (o.keep x1) e λG2 σ2 H2 o2 g2=>k G2 σ2 H2 o2 (x1.gg.trans g2)
 | false=>exact h6 G0 H0 G1 ω σ H1 out ω' E (o.keep x1) e λG2 σ2 H2 o2 g2=>k G2 σ2 H2 o2 (x1.gg.trans g2)
theorem qb(he:XE X e fe):XS X (.Return (some e) pos) (YR fe):=by
 obtain⟨t,h1,h2⟩:=he;refine⟨_,q8z h1,λG0 H0 G ω σ H out ω' E o e k=>?_⟩;obtain⟨r,q,e⟩:=bnd e;refine h2 G0 H0 G ω σ H r _ o q λv G1 H1 x1 y1=>?_;cases r with
 | sh d=>cases e;exact k G1 σ H1 (o.keep x1) x1.gg v y1
 | fr ds=>
  cases e;obtain⟨l,vs,e1,e2,e3⟩:=y1;exact k G1 σ H1 (o.keep x1) x1.gg v ⟨l,vs,e1,o.ext.hh.free e2,e3⟩
 | vw ds=>cases e
theorem qcB{i:Nat}(he:PE X e (XR i)):XS X (.Return (some e) pos) (WT i):=by
 refine⟨_,q8z he,λG0 H0 G ω σ H out ω' E o e k=>?_⟩;unfold WT at e;cases q:ω[i]? with
 | none=>rw[q]at e;cases e
 | some w=>
  rw[q]at e;cases w with
  | none=>cases e
  | some w=>
   cases w with
   | sh d=>
    cases e;obtain⟨v,q1,q2⟩:=o.sh i d q;exact⟨v,q1,k G σ H o (YO.refl _) v q2⟩
   | ow ds=>
    cases e;obtain⟨l,vs,q1,q2,q3,q4,q5⟩:=o.ow i ds q;exact⟨_,q1,k G σ H o (YO.refl _) _ ⟨l,vs,rfl,q4,q3,q2,q5⟩⟩
   | od ks ds=>cases e
   | pw ds=>cases e
theorem qfK:XS X st sNo:=⟨_,qbp,λG0 H0 G ω σ H out ω' E o e k=>by cases e⟩
theorem q98(he:XE X e fe)(hs:vm e none pos.line X.env=pure false:=by rfl):XS X (.Expr e pos) (Wp fe):=by
 obtain⟨t,h1,h2⟩:=he;refine⟨_,q5a h1 hs,λG0 H0 G ω σ H out ω' E o e k=>?_⟩;obtain⟨r,q,e⟩:=mpd e;cases e;exact h2 G0 H0 G ω σ H r _ o q λv G1 H1 x1 y1=>k G1 σ H1 (o.keep x1) x1.gg
noncomputable def zA1(i:Nat)(f:FD):FS:=λω=>(f ω).bind λd=>match ω[i]? with
 | some (some (.ow ds))=>if ds.length<1000000 then some (.nx,ω.set i (some (.ow (ds++[d]))))else none
 | _=>none
theorem q72{i:Nat}{o e:vQ}{fd:FD}{apos cpos:Pos}(ho:PE X o (XR i))(he:XD X e fd)(hbase:uO o "append" X.env (eval o X.env)=eval o X.env:=by rfl)(hfew:((vk cpos (vJ [e] X.env)).all (λx=>!x.1)&&(tQ cpos (uq [] X.env)).all (λx=>x.1.isSome)
   && decide (([e]:List vQ).length+([]:List ua).length+(if ([]:List ua).isEmpty then 0 else 1)<30))=true:=by rfl)
  (hline:(apos.endLine==cpos.line)=true:=by rfl) (hs:vJ [e] X.env=(false,eval e X.env)::vJ [] X.env:=by rfl) (hplain:(vk cpos (vJ [] X.env)).any (·.1)=false:=by rfl)
  (hsw:vm (.Call (.Attribute o "append" apos) [e] [] cpos) none pos.line X.env=pure false:=by rfl) :
  XS X (.Expr (.Call (.Attribute o "append" apos) [e] [] cpos) pos) (zA1 i fd):=by
 obtain⟨t,h1,h2⟩:=he;refine⟨_,q5a (qaw PySem.F.plainAttrs_list PySem.F.slot_list_append PySem.F.type_list_append q5H ho (q0G h1 q1l hs) hbase hfew hline hs hplain) hsw,λG0 H0 G ω σ H out ω' E ow e k=>?_⟩;obtain⟨d,q,e⟩:=bnd e;cases q2:ω[i]? with
 | none=>rw[q2]at e;cases e
 | some w=>
  rw[q2]at e;cases w with
  | none=>cases e
  | some w=>
   cases w with
   | sh d=>cases e
   | od ks ds=>cases e
   | pw ds=>cases e
   | ow ds=>
    dsimp only at e
    by_cases z:ds.length<1000000
    ·rw[vM z]at e
     cases e;obtain⟨l,vs,r1,r2,r3,r4,r5⟩:=ow.ow i ds q2;refine⟨.ref l,r1,.inl ⟨rfl,vs,SqL.of r2⟩,h2 G0 H0 G ω σ H d _ ow q λv G1 H1 x1 y1=>?_⟩;have o1:=ow.keep x1;have hz:vs.length<sizeLine:=by rw[<- r5.len,uB];omega
     refine⟨l,vs,v,rfl,rfl,x1.hh _ _ r2,hz,?_⟩;exact k G1 σ _ (o1.mut q2 r1 (x1.hh _ _ r2) (x1.new l r3 (by rw[r2];exact λz=>by cases z)) r4 ((r5.mono x1.gg).app (YA.cons y1 YA.nil))) x1.gg
    ·rw[vN z]at e;cases e
end
end Hk
namespace PySem
open AutoSeq1 MeetsSeq MeetsSeq2 MeetsSeq3
theorem extTup(l b:vC)(xs ys:Array vB)(n m:Nat)(dd:Option vC)(sl:Array (Option vB))(h1:¬(!xs.isEmpty&&Builtin.List.listTooLong (xs.size+ys.size))=true)(h2:xs.size<=sizeLine)(h3:xs.size+ys.size<=sizeLine+1):
  Meets (Builtin.«list.extend» ⟨[.ref l,.ref b],[]⟩) (λ_ R s=>s.heap.get? l=some { cls:=.type "list", data:=.seq xs n }/\s.heap.get? b=some { cls:=.type "tuple", dict:=dd,data:=.seq ys m,slots:=sl } /\
   R (.ok (.ret Value.none)) { s with heap:=s.heap.update l (Obj.mapSeq λz=>z++ys),toks:=s.toks }) :=
 .of_wp λprog w A R s h=>by
  obtain⟨hp,g,d,tk,os⟩:=s;obtain⟨e1,e2,q⟩:=h;have p1:=idx_int;have p2:=sub_tuple_tuple;have p3:=sub_list_list;have p4:=sub_tuple_list;have p5:=sub_list_tuple;have fit:(xs++ys).size<=sizeLine+1:=by rw[Array.size_append];exact h3
  wp_walk using (vx e1 rfl (hz:=h2) (_hz':=fit)),wpAny_loadPart' e1,wpAny_loadPart' e2
  exact⟨_,rfl,q⟩
end PySem
namespace Hk
open PySem L2
section
variable{X:Cx}{pos:Pos}
def rExtA:V->List V->Hp->VK->Prop:=λx vs H Q=>WW x vs H Q\/∃l b xs zs,x=.ref l/\vs=[.ref b]/\H l=some (.lst xs)/\H b=some (.tup zs)/\xs.length+zs.length<=sizeLine/\Q .non (upd H l (.lst (xs++zs)))
theorem qgt:MtR X "list.extend" rExtA:=by
 intro pins s σ H x vs v us Q I rx rv h;rcases h with h|h
 ·exact qdZ pins s σ H x vs v us Q I rx rv h
 obtain⟨l,b,xs,zs,rfl,rfl,hH,hB,hz,q⟩:=h;cases rx;obtain⟨u,rfl,ru⟩:=rv.one;cases ru;obtain⟨z,its,n,r,hl,e⟩:=I.lstM hH;obtain⟨its2,r2,⟨o2,e2,c2,n2,d2⟩,z2⟩:=I.tuple (SqT.of hB);have hl2:=r2.length;obtain⟨cls,dd,dt,sl⟩:=o2;cases c2;cases d2;have hsz:its.toArray.size+its2.toArray.size<=sizeLine:=by rw[zO,zO];omega
 have hlong:¬(!its.toArray.isEmpty&&Builtin.List.listTooLong (its.toArray.size+its2.toArray.size))=true:=by
  rw[WB hsz,yI];exact yE
 refine tL F.slot_list_extend ⟨_,e,rfl⟩ F.entry_list_extend (F.args_list_extend_2 _ _)
  (extTup l b its.toArray its2.toArray n n2 dd sl hlong (by rw[zO];omega) ∅) ⟨e,e2,?_⟩
 refine⟨.non,_,I.lset (its':=its++its2) hH e (by simp) (r.append r2) ?_,rfl,q⟩;rw[zC];omega
noncomputable def itemsOf:D->Option (List D)
 | .lst ds=>some ds
 | .tup ds=>some ds
 | _=>none
noncomputable def zA3(i:Nat)(f:FD):FS:=λω=>(f ω).bind λd=>(itemsOf d).bind λes=>match ω[i]? with
 | some (some (.ow ds))=>if ds.length+es.length<=1000000 then some (.nx,ω.set i (some (.ow (ds++es))))else none
 | _=>none
theorem qdw{i:Nat}{o e:vQ}{fd:FD}{apos cpos:Pos}(ho:PE X o (XR i))(he:XD X e fd)(hbase:uO o "extend" X.env (eval o X.env)=eval o X.env:=by rfl)(hfew:((vk cpos (vJ [e] X.env)).all (λx=>!x.1)&&(tQ cpos (uq [] X.env)).all (λx=>x.1.isSome)
   && decide (([e]:List vQ).length+([]:List ua).length+(if ([]:List ua).isEmpty then 0 else 1)<30))=true:=by rfl)
  (hline:(apos.endLine==cpos.line)=true:=by rfl) (hs:vJ [e] X.env=(false,eval e X.env)::vJ [] X.env:=by rfl) (hplain:(vk cpos (vJ [] X.env)).any (·.1)=false:=by rfl)
  (hsw:vm (.Call (.Attribute o "extend" apos) [e] [] cpos) none pos.line X.env=pure false:=by rfl) :
  XS X (.Expr (.Call (.Attribute o "extend" apos) [e] [] cpos) pos) (zA3 i fd):=by
 obtain⟨t,h1,h2⟩:=he;refine⟨_,q5a (qaw PySem.F.plainAttrs_list PySem.F.slot_list_extend PySem.F.type_list_extend qgt ho (q0G h1 q1l hs) hbase hfew hline hs hplain) hsw,λG0 H0 G ω σ H out ω' E ow e k=>?_⟩;obtain⟨d,q,e⟩:=bnd e;obtain⟨es,q3,e⟩:=bnd e;cases q2:ω[i]? with
 | none=>rw[q2]at e;cases e
 | some w=>
  rw[q2]at e;cases w with
  | none=>cases e
  | some w=>
   cases w with
   | sh d=>cases e
   | od ks ds=>cases e
   | pw ds=>cases e
   | ow ds=>
    dsimp only at e
    by_cases z:ds.length+es.length<=1000000
    ·rw[vM z]at e
     cases e;obtain⟨l,vs,r1,r2,r3,r4,r5⟩:=ow.ow i ds q2;refine⟨.ref l,r1,.inl ⟨rfl,vs,SqL.of r2⟩,h2 G0 H0 G ω σ H d _ ow q λv G1 H1 x1 y1=>?_⟩;have o1:=ow.keep x1;have fin:∀us:List V,YA X.K G1 es us->vs.length+us.length<=sizeLine/\Post X.K H0 G1 E .nx σ (upd H1 l (.lst (vs++us))):=λus hu=>
      ⟨by rw[<- r5.len,<- hu.len];exact q8i z,k G1 σ _ (o1.mut q2 r1 (x1.hh _ _ r2) (x1.new l r3 (by rw[r2];exact λz=>by cases z)) r4 ((r5.mono x1.gg).app hu)) x1.gg⟩
     cases d with
     | lst ds'=>
      cases q3;obtain⟨b,us,rfl,r6,r7⟩:=y1;obtain⟨f1,f2⟩:=fin us r7;exact .inl ⟨l,b,vs,us,rfl,rfl,x1.hh _ _ r2,x1.gh _ _ r6,f1,f2⟩
     | tup ds'=>
      cases q3;obtain⟨b,us,rfl,r6,r7⟩:=y1;obtain⟨f1,f2⟩:=fin us r7;exact .inr ⟨l,b,vs,us,rfl,rfl,x1.hh _ _ r2,x1.gh _ _ r6,f1,f2⟩
     | _=>cases q3
    ·rw[vN z]at e;cases e
end
structure IterOf (K:zB) (J:It) (G:Hp) (ds:List D):Prop where
 go:∀H i,YO G H->i<ds.length->J.go i H
 yld:∀G2 H i x H' d,YO G G2->YO G2 H->ds[i]?=some d->J.yld i H x H'->∃G3,Ext G2 H G3 H'/\Rep K G3 d x
 stop:∀H,YO G H->J.stop ds.length H
noncomputable abbrev FI:=WSt->Option (List D)
def SimI(K:zB)(wi:TI)(f:FI):Prop:=∀G0 H0 G ω σ H ds(R:It->Hp->Prop),Own K G0 H0 G ω σ H->f ω=some ds->(∀J G' H',Ext G H G' H'->IterOf K J G' ds->R J H')->wi σ H R
def XI(X:Cx)(tg iter:vQ)(f:FI):Prop:=∃wi,PI X tg iter wi/\SimI X.K wi f
section
variable{X:Cx}{tg e:vQ}
theorem qeT{K:zB}{G:Hp}{a:vC}{ds:List D}{vs:List V}(h1:G a=some (.lst vs))(h2:YA K G ds vs):IterOf K (Itl K a) G ds:=by
 refine⟨λH i s hi=>?_,λG2 H i x H' d s0 s1 hd hy=>?_,λH s=>⟨vs,SqL.of (s _ _ h1),by rw[h2.len];exact zQ _⟩⟩
 ·have:i<vs.length:=by rw[<- h2.len];exact hi
  exact⟨vs,vs[i],SqL.of (s _ _ h1),zD this⟩
 ·obtain⟨e,y⟩:=hy
  obtain⟨v,q1,q2⟩:=h2.get hd;have:=y vs (SqL.of (s1 _ _ (s0 _ _ h1)));rw[q1]at this;cases this;subst e;exact⟨G2,Ext.refl s1,q2.mono s0⟩
theorem qfq{K:zB}{G:Hp}{a:vC}{ds:List D}{vs:List V}(h1:G a=some (.tup vs))(h2:YA K G ds vs):IterOf K (Itt K a) G ds:=by
 refine⟨λH i s hi=>?_,λG2 H i x H' d s0 s1 hd hy=>?_,λH s=>⟨vs,SqT.of (s _ _ h1),by rw[h2.len];exact zQ _⟩⟩
 ·have:i<vs.length:=by rw[<- h2.len];exact hi
  exact⟨vs,vs[i],SqT.of (s _ _ h1),zD this⟩
 ·obtain⟨e,y⟩:=hy
  obtain⟨v,q1,q2⟩:=h2.get hd;have:=y vs (SqT.of (s1 _ _ (s0 _ _ h1)));rw[q1]at this;cases this;subst e;exact⟨G2,Ext.refl s1,q2.mono s0⟩
noncomputable def Ys(f:FD):FI:=λω=>(f ω).bind itemsOf
theorem qv{f:FD}(h:XD X e f):XI X tg e (Ys f):=by
 obtain⟨t,h1,h2⟩:=h;refine⟨λσ H R=>zAz X.K t σ H R\/iTup X.K t σ H R,λpins s σ H R I q=>?_,λG0 H0 G ω σ H ds R o e k=>?_⟩
 ·rcases q with q|q
  ·exact q7G h1 pins s σ H R I q
  ·exact qgW h1 pins s σ H R I q
 ·obtain⟨d,q,e⟩:=bnd e
  cases d with
  | lst es=>
   cases e;refine .inl (h2 G0 H0 G ω σ H _ _ o q λv G1 H1 x1 ⟨a,vs,e1,e2,e3⟩=>⟨a,e1,⟨vs,SqL.of (x1.gh _ _ e2)⟩,k _ G1 H1 x1 (qeT e2 e3)⟩)
  | tup es=>
   cases e;refine .inr (h2 G0 H0 G ω σ H _ _ o q λv G1 H1 x1 ⟨a,vs,e1,e2,e3⟩=>⟨a,e1,⟨vs,SqT.of (x1.gh _ _ e2)⟩,k _ G1 H1 x1 (qfq e2 e3)⟩)
  | _=>cases e
noncomputable def upTo(lo:Int)(n:Nat):List D:=(yk n).map λ(i:Nat)=>D.int (lo+(i:Int))
theorem qfi{K:zB}{G:Hp}(lo:Int)(n:Nat):IterOf K (Itr lo n) G (upTo lo n):=by
 have hl:(upTo lo n).length=n:=by unfold upTo;rw[zA,yU]
 refine⟨λH i s hi=>by rw[hl]at hi;exact hi,λG2 H i x H' d s0 s1 hd hy=>?_,λH s=>by rw[hl];exact zQ _⟩;obtain⟨e,y⟩:=hy;subst e;refine⟨G2,Ext.refl s1,?_⟩;unfold upTo at hd;rw[za]at hd;have hi:i<n:=by
  rcases yC i n with z|z
  ·exact z
  ·rw[zt (by rw[yU];exact z)]at hd;cases hd
 rw[xq hi]at hd;cases hd;exact y
noncomputable def iRg1(g:FA):FI:=λω=>(g ω).bind λds=>match ds with
 | [.int j]=>if -(2^62)<=j/\j<2^62 then some (upTo 0 j.toNat)else none
 | _=>none
theorem q9Y{a:vQ}{g:FA}{p pos:Pos}(hg:Gl X "range")(hm:X.mg "range" = none)(ha:XVA X [a] g)(hs:vJ [a] X.env=[(false,eval a X.env)]:=by rfl):XI X tg (.Call (.Name "range" p) [a] [] pos) (iRg1 g):=by
 obtain⟨t,h1,h2⟩:=ha;refine⟨_,qdI hg hm h1 hs,λG0 H0 G ω σ H ds R o e k=>?_⟩;obtain⟨vs,q,e⟩:=bnd e;refine h2 G0 H0 G ω σ H vs _ o q λus G1 H1 x1 y1=>?_
 match vs,e with
 | [.int j],e=>
  dsimp only at e
  by_cases z:-(2^62)<=j/\j<2^62
  ·rw[vM z]at e
   cases e;obtain⟨v,rfl,y2⟩:=y1.one;cases y2.int;exact⟨j,rfl,z.1,z.2,k _ G1 H1 x1 (qfi _ _)⟩
  ·rw[vN z]at e;cases e
end
noncomputable def Yr(g:FG)(b:FS):List D->FS
 | [],ω=>some (.nx,ω)
 | d::ds,ω=>(g d ω).bind λw=>(b w).bind λp=>match p.1 with
  | .nx=>Yr g b ds p.2
  | .ct=>Yr g b ds p.2
  | .bk=>some (.nx,p.2)
  | .rt r=>some (.rt r,p.2)
noncomputable def Xu(fi:FI)(g:FG)(b:FS):FS:=λω=>(fi ω).bind λds=>Yr g b ds ω
section
variable{X:Cx}{tg iter:vQ}{body:List vf}{pos:Pos}{fi:FI}{fg:FG}{fb:FS}
theorem q0S(hp:tD (model X.prog X.w) X.A X.env X.xe)(hc:X.calm=true)(hi:XI X tg iter fi)(hg:XG X tg fg)(hb:XSs X body fb)(hs:∀x,vn iter X.env x=pure x:=by intro _;rfl):XS X (.For tg iter body [] pos) (Xu fi fg fb):=by
 obtain⟨wi,h1,h2⟩:=hi;obtain⟨g,h3,h4⟩:=hg;obtain⟨tb,h5,h6⟩:=hb;refine⟨_,qb2 hp hc h1 h3 h5 hs,λG0 H0 G ω σ H out ω' E o e k=>?_⟩;obtain⟨ds,q,e⟩:=bnd e;refine h2 G0 H0 G ω σ H ds _ o q λJ G1 H1 x1 it=>?_;refine⟨λi m σ2 H2=>∃G2 ω2,Own X.K G0 H0 G2 ω2 σ2 H2/\YO G1 G2/\Yr fg fb (ds.drop i) ω2=some (out,ω')/\i<=ds.length/\m=ds.length-i,⟨_,G1,ω,o.keep x1,YO.refl _,e,zu _,rfl⟩,?_⟩;rintro i m σ2 H2 ⟨G2,ω2,o2,s2,f2,hi2,rfl⟩
 by_cases hlt:i<ds.length
 ·refine .inr ⟨it.go H2 i (s2.trans o2.gh) hlt,λσ3 H3=>∃G3 ω3,Own X.K G0 H0 G3 ω3 σ3 H3/\YO G1 G3/\Yr fg fb (ds.drop (i+1)) ω3=some (out,ω'),λσ3 H3 ⟨G3,ω3,a1,a2,a3⟩=>⟨ds.length-(i+1),∅,G3,ω3,a1,a2,a3,hlt,rfl⟩,λx H3 hy=>?_⟩
  have hd:ds[i]?=some ds[i]:=zD hlt;obtain⟨G4,x4,rx⟩:=it.yld G2 H2 i x H3 ds[i] s2 o2.gh hd hy;have o2:=o2.keep x4;have s2:=s2.trans x4.gg;rw[yb hlt]at f2;obtain⟨w,q1,f2⟩:=bnd f2;obtain⟨⟨o3,ω3⟩,q2,f2⟩:=bnd f2;refine h4 G0 H0 G4 ω2 σ2 H3 ds[i] x w _ o2 q1 rx λσ4 o4=>?_;refine h6 G0 H0 G4 w σ4 H3 o3 ω3 _ o4 q2 λG5 σ5 H5 o5 s5=>?_;cases o3 with
  | nx=>exact⟨G5,ω3,o5,s2.trans s5,f2⟩
  | ct=>exact⟨G5,ω3,o5,s2.trans s5,f2⟩
  | bk=>cases f2;exact k G5 σ5 H5 o5 (x1.gg.trans (s2.trans s5))
  | rt r=>cases f2;exact k G5 σ5 H5 o5 (x1.gg.trans (s2.trans s5))
 ·have ei:i=ds.length:=∅
  subst ei;rw[we]at f2;cases f2;exact .inl ⟨it.stop H2 (s2.trans o2.gh),k G2 σ2 H2 o2 (x1.gg.trans s2)⟩
end
noncomputable def Yh(g:FG)(c:FT)(f:FD):List D->WSt->Option (List D)
 | [],_=>some []
 | d::ds,ω=>(g d ω).bind λw=>(c w).bind λb=>if b=true then (f w).bind λx=>(Yh g c f ds w).map λr=>x::r else Yh g c f ds w
noncomputable def Yn:Option (Option W)->Option W
 | some ↥d=>↥d
 | _=>none
noncomputable def inW(M:Nat)(frees:List Nat)(ω:WSt):WSt:=wR M none++frees.map λj=>Yn ω[j]?
noncomputable def YY(M:Nat)(frees:List Nat)(fi:FI)(g:FG)(c:FT)(f:FD):FE:=λω=>(fi ω).bind λds=>if ds.length<=1000000 then (Yh g c f ds (inW M frees ω)).map R.fr else none
def XTs(X:Cx)(ifs:List vQ)(f:FT):Prop:=∃t,PTs X ifs t/\WC X.K t f
noncomputable def YX:FT:=λ_=>some true
theorem qE{X:Cx}:XTs X [] YX:=⟨_,qgB,λG0 H0 G ω σ H b Q o e k=>by cases e;exact k G H (Ext.refl o.gh)⟩
theorem q32{X:Cx}{c:vQ}{f:FT}(h:XT X c f):XTs X [c] f:=let ⟨t,h1,h2⟩:=h;⟨t,qgF h1,h2⟩
section
variable{X:Cx}{N:List Str}{M:Nat}{frees:List Nat}{scope:uN}{tg iter elt:vQ}{ifs:List vQ}{pos:Pos}{fi:FI}{fg:FG}{fc:FT}{fe:FD}
def Y9(ω:WSt):Prop:=∀(i:Nat)w,ω[i]?=some (some w)->∃d,w=.sh d
theorem Y9.ow{ω:WSt}(h:Y9 ω)(i:Nat)(ds:List D):ω[i]?≠some (some (.ow ds)):=λz=>by obtain⟨d,e⟩:=h i _ z;cases e
theorem Y9.od{ω:WSt}(h:Y9 ω)(i:Nat)(ks:List Int)(ds:List D):ω[i]?≠some (some (.od ks ds)):=λz=>by obtain⟨d,e⟩:=h i _ z;cases e
theorem Y9.pw{ω:WSt}(h:Y9 ω)(i:Nat)(ds:List D):ω[i]?≠some (some (.pw ds)):=λz=>by obtain⟨d,e⟩:=h i _ z;cases e
theorem qaz{wi:TI}{g:TG}{tc:TT}{te:TE}(h2:SimI X.K wi fi)(h4:SimG X.K g fg)(h6:WC X.K tc fc)(h8:zA7 X.K te fe)(hg:∀d ω ω',Y9 ω->fg d ω=some ω'->Y9 ω'):zA6 X.K (zAT M frees wi g tc te) (YY M frees fi fg fc fe):=by
 intro G0 H0 G ω σ H r Q o e k;obtain⟨ds,q,e⟩:=bnd e
 by_cases hz:ds.length<=1000000
 ·rw[vM hz]at e
  obtain⟨rs,q2,e⟩:=mpd e;subst e;refine h2 G0 H0 G ω σ H ds _ o q λJ G1 H1 x1 it=>?_;intro A hA;have ow0:Y9 (inW M frees ω):=by
   intro i es z;unfold inW at z;rcases yC i M with y|y
   ·rw[zj ⇑y,yl,vM y]at z;cases z
   ·rw[zf ⇑y,ye,za]at z
    cases e1:frees[i-M]? with
    | none=>rw[e1]at z;cases z
    | some j=>
     rw[e1]at z;have z':Yn ω[j]?=some es:=zo z;generalize ω[j]?=u at z';unfold Yn at z'
     split at z'
     ·cases z';exact⟨_,rfl⟩
     ·cases z'
  have own0:∀G2 H2,YO G1 G2->YO G2 H2->Own X.K G2 (fr H2) G2 (inW M frees ω) (Wq M frees σ) H2:=λG2 H2 s1 s2=>by
   have o1:=o.keep x1;refine⟨Ext.refl s2,by unfold inW Wq;simp,λi d hi=>?_,λi ds' hi=>vK hi (ow0.ow i ds'),λi j ds' es l hi=>vK hi (ow0.ow i ds'),λi ks ds' hi=>vK hi (ow0.od i ks ds'),Yq.no ow0.pw⟩;unfold inW at hi;unfold Wq;rcases yC i M with y|y
   ·rw[zj ⇑y,yl,vM y]at hi;cases hi
   ·rw[zf ⇑y,ye,za]at hi ⊢
    cases e1:frees[i-M]? with
    | none=>rw[e1]at hi;cases hi
    | some j=>
     rw[e1]at hi;have hi':Yn ω[j]?=↥d:=zo hi;cases e2:ω[j]? with
     | none=>rw[e2]at hi';cases hi'
     | some w=>
      rw[e2]at hi';cases w with
      | none=>cases hi'
      | some w=>
       cases w with
       | ow _=>cases hi'
       | od _ _=>cases hi'
       | pw _=>cases hi'
       | sh d'=>
        cases hi';obtain⟨v,q3,q4⟩:=o1.sh j _ e2;exact⟨v,by rw[yD,q3];rfl,q4.mono s1⟩
  refine⟨λi m σ2 H2=>∃G2 ω2 accd accv,Own X.K G2 (fr H2) G2 ω2 σ2 H2/\Y9 ω2/\Ext G1 H1 G2 H2/\G2 A=none/\H2 A=some (.lst accv)/\YA X.K G2 accd accv/\accd.length<=i/\i<=ds.length/\m=ds.length-i /\
   ∃rest,Yh fg fc fe (ds.drop i) ω2=some rest/\accd++rest=rs,⟨_,G1,inW M frees ω,[],[],own0 _ _ (YO.refl _) (YJ x1.gh (x1.gh.free hA) _),ow0,Ext.hide x1.gh hA _,x1.gh.free hA,qm,YA.nil,zQ _,zu _,rfl,rs,q2,rfl⟩,?_⟩
  rintro i m σ2 H2 ⟨G2,ω2,accd,accv,o2,no2,x2,gA,hA2,ra,la,li,rfl,rest,cd,er⟩
  by_cases hlt:i<ds.length
  ·refine .inr ⟨it.go H2 i (x2.gg.trans x2.gh) hlt,λx H3 hy=>?_⟩
   have hd:ds[i]?=some ds[i]:=zD hlt;obtain⟨G4,x4,rx⟩:=it.yld G2 H2 i x H3 ds[i] x2.gg x2.gh hd hy;have o2':=o2.keep x4;have o2:Own X.K G4 (fr H3) G4 ω2 σ2 H3:=⟨Ext.refl x4.gh,o2'.len,o2'.sh,λi ds' hi=>vK hi (no2.ow i ds'),λi j ds' es l hi=>vK hi (no2.ow i ds'),λi ks ds' hi=>vK hi (no2.od i ks ds'),Yq.no no2.pw⟩;have gA:G4 A=none:=x4.new A gA (by rw[hA2];exact λz=>by cases z);have hA2:H3 A=some (.lst accv):=x4.hh _ _ hA2;have x2:=x2.trans x4;have ra:=ra.mono x4.gg;rw[yb hlt]at cd;obtain⟨w,q1,cd⟩:=bnd cd;obtain⟨b,q3,cd⟩:=bnd cd;have now:=hg _ _ _ no2 q1;refine h4 G4 (fr H3) G4 ω2 σ2 H3 ds[i] x w _ o2 q1 rx λσ4 o4=>?_;refine h6 G4 (fr H3) G4 w σ4 H3 b _ o4 q3 λG5 H5 x5=>?_;have o5:=o4.keep x5;have gA5:G5 A=none:=x5.new A gA (by rw[hA2];exact λz=>by cases z);have hA5:H5 A=some (.lst accv):=x5.hh _ _ hA2;cases b with
   | false=>
    rw[vN yE];rw[vN yE]at cd;have o6:Own X.K G5 (fr H5) G5 w σ4 H5:=⟨Ext.refl x5.gh,o5.len,o5.sh,λi ds' hi=>vK hi (now.ow i ds'),λi j ds' es l hi=>vK hi (now.ow i ds'),λi ks ds' hi=>vK hi (now.od i ks ds'),Yq.no now.pw⟩;exact⟨ds.length-(i+1),∅,G5,w,accd,accv,o6,now,x2.trans x5,gA5,hA5,ra.mono x5.gg,∅,hlt,rfl,rest,cd,er⟩
   | true=>
    rw[vM rfl]at cd ⊢;obtain⟨d,q4,cd⟩:=bnd cd;obtain⟨rest',q5,cd⟩:=mpd cd;subst cd;refine h8 G4 (fr H3) G5 w σ4 H5 d _ o5 q4 λv G6 H6 x6 y6=>?_;have gA6:G6 A=none:=x6.new A gA5 (by rw[hA5];exact λz=>by cases z);have hA6:H6 A=some (.lst accv):=x6.hh _ _ hA5;have x26:=(x2.trans x5).trans x6;have raa:=ra.mono (x5.gg.trans x6.gg);have hl:accv.length<sizeLine:=by rw[<- raa.len,uB];omega
    refine⟨accv,hA6,hl,ds.length-(i+1),∅,G6,w,accd++[d],accv++[v],?_,now,⟨x26.gg,YJ x26.gh gA6 _,YJ x26.hh hA _,x26.new⟩,gA6,qm,raa.app (YA.cons y6 YA.nil),by rw[zC,zH];omega,hlt,rfl,rest',q5,by rw[zY];exact er⟩;have o6:=o5.keep x6;exact⟨Ext.refl (YJ x6.gh gA6 _),o6.len,o6.sh,λi ds' hi=>vK hi (now.ow i ds'),λi j ds' es l hi=>vK hi (now.ow i ds'),λi ks ds' hi=>vK hi (now.od i ks ds'),Yq.no now.pw⟩
  ·have ei:i=ds.length:=∅
   subst ei;rw[we]at cd;cases cd;rw[zi]at er;subst er;refine .inl ⟨it.stop H2 (x2.gg.trans x2.gh),k _ G2 H2 (x1.trans x2) ⟨A,accv,rfl,x1.hh.free hA,gA,hA2,ra⟩⟩
 ·rw[vN hz]at e;cases e
theorem qeK{ω:WSt}{i:Nat}{d:D}(h:Y9 ω):Y9 (ω.set i ↥d):=by
 intro j ds z;rcases qj z with⟨_,_,y⟩|⟨_,y⟩
 ·cases y;exact⟨d,rfl⟩
 ·exact h j ds y
def Tame(fg:FG):Prop:=∀d ω ω',Y9 ω->fg d ω=some ω'->Y9 ω'
def Ws(gs:List D->WSt->Option WSt):Prop:=∀ds ω ω',Y9 ω->gs ds ω=some ω'->Y9 ω'
theorem qz(i:Nat):Tame (gN i):=λd ω ω' h e=>by cases e;exact qeK h
theorem q7c:Ws Ym:=λds ω ω' h e=>by
 cases ds with
 | nil=>cases e;exact h
 | cons _ _=>cases e
theorem q2a{fg:FG}{gs:List D->WSt->Option WSt}(h:Tame fg)(h':Ws gs):Ws (YD fg gs):=λds ω ω' n e=>by
 cases ds with
 | nil=>cases e
 | cons d r=>obtain⟨w,q,e⟩:=bnd e;exact h' _ _ _ (h _ _ _ n q) e
theorem qbb{n:Nat}{gs:List D->WSt->Option WSt}(h:Ws gs):Tame (gT n gs):=λd ω ω' no e=>by
 unfold gT at e;cases d with
 | tup ds=>
  dsimp only at e
  by_cases z:ds.length=n
  ·rw[vM z]at e;exact h _ _ _ no e
  ·rw[vN z]at e;cases e
 | _=>cases e
noncomputable def canD(K:zB)(f:FD):TE:=λσ H Q=>∃G0 H0 G ω d,Own K G0 H0 G ω σ H/\f ω=some d/\∀v G' H',Ext G H G' H'->Rep K G' d v->Q v H'
noncomputable def canT(K:zB)(f:FT):TT:=λσ H Q=>∃G0 H0 G ω b,Own K G0 H0 G ω σ H/\f ω=some b/\∀G' H',Ext G H G' H'->Q b H'
noncomputable def canG(K:zB)(f:FG):TG:=λv σ H Q=>∃G0 H0 G ω d ω',Own K G0 H0 G ω σ H/\f d ω=some ω'/\Rep K G d v/\∀σ',Own K G0 H0 G ω' σ' H->Q σ' H
theorem XD.can{X:Cx}{e:vQ}{f:FD}(h:XD X e f):PE X e (canD X.K f):=λpins s σ H Q I ⟨G0,H0,G,ω,d,o,e,k⟩=>let ⟨_,h1,h2⟩:=h;h1 pins s σ H Q I (h2 G0 H0 G ω σ H d Q o e k)
theorem XTs.can{X:Cx}{e:List vQ}{f:FT}(h:XTs X e f):PTs X e (canT X.K f):=λpins s σ H Q I ⟨G0,H0,G,ω,d,o,e,k⟩=>let ⟨_,h1,h2⟩:=h;h1 pins s σ H Q I (h2 G0 H0 G ω σ H d Q o e k)
theorem XG.can{X:Cx}{e:vQ}{f:FG}(h:XG X e f):PG X e (canG X.K f):=λpins s σ H v u Q I r ⟨G0,H0,G,ω,d,ω',o,e,y,k⟩=>let ⟨_,h1,h2⟩:=h;h1 pins s σ H v u Q I r (h2 G0 H0 G ω σ H d v ω' Q o e y k)
theorem qbq{K:zB}{f:FD}:zA7 K (canD K f) f:=λG0 H0 G ω σ H d Q o e k=>⟨G0,H0,G,ω,d,o,e,k⟩
theorem qbs{K:zB}{f:FT}:WC K (canT K f) f:=λG0 H0 G ω σ H d Q o e k=>⟨G0,H0,G,ω,d,o,e,k⟩
theorem qbl{K:zB}{f:FG}:SimG K (canG K f) f:=λG0 H0 G ω σ H d v ω' Q o e y k=>⟨G0,H0,G,ω,d,ω',o,e,y,k⟩
theorem qG(hc:X.calm=true)(B:BlkOk X N M frees scope)(hi:XI X tg iter fi)(ht:Tame fg)(hb:∀C s H fp,XG (Yx X N scope C s H fp) tg fg/\XTs (Yx X N scope C s H fp) ifs fc/\XD (Yx X N scope C s H fp) elt fe)(hs:∀x,vn iter X.env x=pure x:=by intro _;rfl):XE X (.ListComp elt [⟨tg,iter,ifs,0⟩] scope pos) (YY M frees fi fg fc fe):=by
 obtain⟨wi,h1,h2⟩:=hi;have b4:∀C s H fp,PG (Yx X N scope C s H fp) tg (canG X.K fg)/\PTs (Yx X N scope C s H fp) ifs (canT X.K fc)/\PE (Yx X N scope C s H fp) elt (canD X.K fe):=λC s H fp=>⟨(hb C s H fp).1.can,(hb C s H fp).2.1.can,(hb C s H fp).2.2.can⟩;exact⟨_,qci hc B h1 b4 hs,qaz h2 qbl qbs qbq ht⟩
theorem q1E{i:Nat}{x:Str}{pos' spos:Pos}(hc:X.calm=true)(hN:X.N.Nodup)(hi':X.N[i]?=some x)(hx:X.env.scope.names.lookup x=some .local)(B:BlkOk X N M frees scope)(hi:XI X tg iter fi)(ht:Tame fg)(hb:∀C s H fp,XG (Yx X N scope C s H fp) tg fg/\XTs (Yx X N scope C s H fp) ifs fc/\XD (Yx X N scope C s H fp) elt fe)(hsw:vm (.ListComp elt [⟨tg,iter,ifs,0⟩] scope pos) (some (.Name x pos')) spos.line X.env=pure true:=by rfl)(hs:∀x,vn iter X.env x=pure x:=by intro _;rfl):XS X (.Assign [.Name x pos'] (.ListComp elt [⟨tg,iter,ifs,0⟩] scope pos) spos) (YM i (YY M frees fi fg fc fe)):=by
 obtain⟨wi,h1,h2⟩:=hi;have b4:∀C s H fp,PG (Yx X N scope C s H fp) tg (canG X.K fg)/\PTs (Yx X N scope C s H fp) ifs (canT X.K fc)/\PE (Yx X N scope C s H fp) elt (canD X.K fe):=λC s H fp=>⟨(hb C s H fp).1.can,(hb C s H fp).2.1.can,(hb C s H fp).2.2.can⟩;exact⟨_,qfP hc hN hi' hx B h1 b4 hsw hs,qbV (qaz h2 qbl qbs qbq ht)⟩
def Xj(X:Cx)(scope:uN):List Str->List Nat->Prop
 | [],[]=>True
 | x::xs,j::js=>(X.N[j]?=some x/\(X.env.kindOf x=some .cell\/X.env.kindOf x=some .free)/\scope.names.lookup x=some .free)/\Xj X scope xs js
 | _,_=>False
theorem q8S{X:Cx}{scope:uN}:∀{xs:List Str}{js:List Nat},Xj X scope xs js->∀(k:Nat)(x:Str),xs[k]?=some x->∃j,js[k]?=some j/\X.N[j]?=some x/\(X.env.kindOf x=some .cell\/X.env.kindOf x=some .free)/\scope.names.lookup x=some .free
 | [],_,_,_,_,e=>by simp at e
 | _::_,[],h,_,_,_=>h.elim
 | y::ys,i::is,⟨h1,h2⟩,0,x,e=>by
  have:y=x:=by simpa using e
  subst this;exact⟨i,rfl,h1⟩
 | y::ys,i::is,⟨h1,h2⟩,k+1,x,e=>by
  obtain⟨j,q⟩:=q8S h2 k x ⇑e;exact⟨j,by simpa using q.1,q.2⟩
theorem q7Q{X:Cx}{scope:uN}:∀{xs:List Str}{js:List Nat},Xj X scope xs js->xs.length=js.length
 | [],[],_=>rfl
 | [],_::_,h=>h.elim
 | _::_,[],h=>h.elim
 | _::ys,_::is,⟨_,h2⟩=>by rw[zG,zG,q7Q h2]
theorem blk{X:Cx}{scope:uN}(own free:List Str)(frees:List Nat)(h1:scope.kind=.function)(h2:∀y∈scope.names,y.2≠.cell)(h3:∀y∈scope.names,y.2=.local->scope.names.lookup y.1=some .local)(h4:(scope.names.all λp=>p.2 != .free || (X.env.cells.lookup p.1).isSome)=true)(h5:Xj X scope free frees):BlkOk X (own++free) own.length frees scope:=by
 refine⟨h1,h2,h3,λp hp hf=>?_,λk x e=>?_,by rw[zC,q7Q h5]⟩
 ·have:=yG.mp h4 p hp
  rw[hf]at this;simpa using this
 ·rw[zf (Nat.le_add_right _ _),wd]at e
  exact q8S h5 k x e
end
noncomputable def entry(n:Nat)(ds:List D):WSt:=ds.map (λd=>↥d)++wR (n-ds.length) none
noncomputable def mir(n:Nat)(body:FS)(ds:List D):Option O:=match body (entry n ds)with
 | some (.rt r,_)=>some r
 | some (.nx,_)=>some (.sh .non)
 | _=>none
theorem q8O{K:zB}{H:Hp}{N:List Str}{ds:List D}{vs:List V}(h:YA K H ds vs)(i:Nat)(d:D)(e:(entry N.length ds)[i]?=some ↥d):∃v,(L2.start N vs)[i]?=some (some v)/\Rep K H d v:=by
 unfold entry at e;unfold L2.start;have hl:=h.len;rcases yC i ds.length with y|y
 ·rw[zj ⇑y,za]at e
  have e1:ds[i]?=some d:=by
   cases q:ds[i]? with
   | none=>rw[q]at e;cases e
   | some d'=>rw[q]at e;cases e;rfl
  obtain⟨v,q1,q2⟩:=h.get e1;refine⟨v,?_,q2⟩;rw[zj ⇑((∅:i<vs.length)),za,q1];rfl
 ·rw[zf ⇑y,yl]at e
  split at e <;> cases e
theorem q0T{n:Nat}{ds:List D}:Y9 (entry n ds):=by
 intro i es z;unfold entry at z;rcases yC i ds.length with y|y
 ·rw[zj ⇑y,za]at z
  cases q:ds[i]? with
  | none=>rw[q]at z;cases z
  | some d=>rw[q]at z;cases z;exact⟨d,rfl⟩
 ·rw[zf ⇑y,yl]at z
  split at z <;> cases z
theorem fnD{P:vO}{w:vU}{K:zB}{mg:Str->Option vB}{base:vX}{x qual:Str}{st:vf}{f:vC}{fd:vH}{N ps:List Str}{k:Nat}{body:FS}(F:Fun K x qual st f fd)(S:FnScope N ps (Z1 st))(hb:∀(cdv:vB)(A:vY)(outer:List Env)(s:vF)(H:Hp)(E:XK),Room k (A.deeper (PyProof.Rows.envOfC qual (Z1 st) s.heap.objs.size f cdv))->XSs (WQ CX0 P w K mg base N qual (Z1 st) f cdv A outer s H E).nox (Yk st) body):
  FnOk P w K mg base CX0 (k+1) f fd ps (spD K ps.length (mir N.length body)):=by
 refine F.ok S (λvs H Q E h=>?_) (λcdv A outer s H vs Q E hr h=>?_)
 ·obtain⟨G,ds,r,_,h2,_,h4,_⟩:=h
  rw[<- h4.len];exact h2
 ·obtain⟨G,ds,r,h1,h2,h3,h4,h5⟩:=h
  obtain⟨t,p1,p2⟩:=hb cdv A outer s H E hr;refine⟨t,p1,?_⟩;unfold mir at h1;have hl:=h4.len;have hpl:ps.length<=N.length:=by have:=uE xy S.pre;rw[zy]at this;omega
  have o0:Own K G (fr H) G (entry N.length ds) (L2.start N vs) H:=by
   refine⟨Ext.refl h3,?_,λi d e=>q8O h4 i d e,λi es e=>vK e (q0T.ow i es),λi j es fs l e=>vK e (q0T.ow i es),λi ks es e=>vK e (q0T.od i ks es),Yq.no q0T.pw⟩;unfold entry L2.start;simp only[zC,zA,ye];omega
  cases q:body (entry N.length ds)with
  | none=>rw[q]at h1;cases h1
  | some p=>
   obtain⟨out,ω'⟩:=p;rw[q]at h1;refine p2 G (fr H) G _ _ H out ω' _ o0 q λG' σ' H' o' s'=>?_;cases out with
   | nx=>cases h1;exact h5 _ G' H' o'.ext rfl
   | bk=>cases h1
   | ct=>cases h1
   | rt r'=>cases h1;exact λv y=>h5 v G' H' o'.ext y
theorem q0e:vZ "len" = some (.builtin "len"):=⋯
theorem q5r:vZ "all" = some (.builtin "all"):=⋯
theorem qgP:vZ "sum" = some (.builtin "sum"):=⋯
theorem qhx:vZ "abs" = some (.builtin "abs"):=⋯
theorem q7b:vZ "sorted" = some (.builtin "sorted"):=⋯
theorem qds:vZ "int" = some (.type "int"):=⋯
theorem q9n:vZ "bool" = some (.type "bool"):=⋯
theorem qQ:vZ "list" = some (.type "list"):=⋯
theorem qK:vZ "tuple" = some (.type "tuple"):=⋯
theorem qh4:vZ "set" = some (.type "set"):=⋯
theorem qhK:vZ "zip" = some (.type "zip"):=⋯
noncomputable def zAy(o:Option (Out×WSt))(g:FS):Option (Out×WSt):=o.bind λp=>match p.1 with
 | .nx=>g p.2
 | o=>some (o,p.2)
noncomputable def setS(i:Nat)(ω:WSt)(o:Option R):Option (Out×WSt):=o.bind λr=>(setR i r ω).map λw=>(.nx,w)
noncomputable def ifS(c:Option Bool)(f g:FS)(ω:WSt):Option (Out×WSt):=c.bind λb=>if b=true then f ω else g ω
noncomputable def retS(ω:WSt)(o:Option R):Option (Out×WSt):=o.bind λr=>match r with
 | .sh d=>some (.rt (.sh d),ω)
 | .fr ds=>some (.rt (.fr ds),ω)
 | .vw _=>none
noncomputable def retV(ω:WSt)(o:Option (Option W)):Option (Out×WSt):=match o with
 | some ↥d=>some (.rt (.sh d),ω)
 | some (some (.ow ds))=>some (.rt (.fr ds),ω)
 | _=>none
noncomputable def appS(i:Nat)(ω:WSt)(o:Option D)(l:Option (Option W)):Option (Out×WSt):=o.bind λd=>match l with
 | some (some (.ow ds))=>if ds.length<1000000 then some (.nx,ω.set i (some (.ow (ds++[d]))))else none
 | _=>none
noncomputable def extS(i:Nat)(ω:WSt)(o:Option D)(l:Option (Option W)):Option (Out×WSt):=o.bind λd=>(itemsOf d).bind λes=>match l with
 | some (some (.ow ds))=>if ds.length+es.length<=1000000 then some (.nx,ω.set i (some (.ow (ds++es))))else none
 | _=>none
noncomputable def shrS(i:Nat)(ω:WSt)(o:Option (Option W)):WSt:=match o with
 | some (some (.ow ds))=>ω.set i ↥(.lst ds)
 | some (some (.od ks ds))=>ω.set i ↥(.dic ks ds)
 | _=>ω
noncomputable def forS(o:Option (List D))(g:FG)(b:FS)(ω:WSt):Option (Out×WSt):=o.bind λds=>Yr g b ds ω
noncomputable def asgS(o:Option D)(g:FG)(ω:WSt):Option (Out×WSt):=o.bind λd=>(g d ω).map λw=>(.nx,w)
noncomputable def varR(o:Option (Option W)):Option R:=match o with
 | some ↥d=>↥d
 | some (some (.ow ds))=>some (.vw ds)
 | some (some (.pw ds))=>some (.vw ds)
 | _=>none
noncomputable def eD(o:Option D):Option R:=o.map R.sh
noncomputable def dR(o:Option R):Option D:=match o with
 | ↥d=>some d
 | some (.fr ds)=>some (.lst ds)
 | _=>none
noncomputable def vR(o:Option R):Option D:=o.map R.d
noncomputable def op2(op:D->D->Option R)(x y:Option D):Option R:=x.bind λx=>y.bind λy=>op x y
noncomputable def callR(m:List D->Option O)(o:Option (List D)):Option R:=o.bind λds=>(m ds).map O.r
noncomputable def consA(o:Option D)(r:Option (List D)):Option (List D):=o.bind λd=>r.map λds=>d::ds
noncomputable def bltR(op:List D->Option R)(o:Option (List D)):Option R:=o.bind op
noncomputable def slR(o:Option D)(l h:Option (Option Int)):Option R:=o.bind λd=>l.bind λlo=>h.bind λhi=>oSl d lo hi
noncomputable def atP(o:Option D):Option (Option Int):=o.bind λd=>match d with|.int i=>some (some i)|_=>none
noncomputable def zAn(c:Ty)(o:Option D):Option R:=o.bind λd=>match d with
 | .scr _=>none
 | .exc _=>none
 | .dic _ _=>none
 | d=>↥(.bl (Xi (tyD d) c))
noncomputable def tR(o:Option R):Option Bool:=match o with
 | ↥(.bl k)=>some k
 | _=>none
noncomputable def andT(o:Option Bool)(g:FT)(ω:WSt):Option Bool:=o.bind λc=>if c=true then g ω else some false
noncomputable def orT(o:Option Bool)(g:FT)(ω:WSt):Option Bool:=o.bind λc=>if c=true then some true else g ω
noncomputable def notT(o:Option Bool):Option Bool:=o.map (!·)
noncomputable def truT(o:Option D):Option Bool:=o.bind truD
noncomputable def andV(o:Option D)(g:FD)(ω:WSt):Option D:=o.bind λd=>(blOf d).bind λc=>if c=true then g ω else some (.bl false)
noncomputable def notV(o:Option D):Option D:=o.bind λd=>(blOf d).map λc=>.bl (!c)
noncomputable def seqI(o:Option D):Option (List D):=o.bind itemsOf
noncomputable def rg1I(o:Option (List D)):Option (List D):=o.bind λds=>match ds with
 | [.int j]=>if -(2^62)<=j/\j<2^62 then some (upTo 0 j.toNat)else none
 | _=>none
noncomputable def compR(M:Nat)(fr:List Nat)(o:Option (List D))(g:FG)(c:FT)(f:FD)(ω:WSt):Option R:=o.bind λds=>if ds.length<=1000000 then (Yh g c f ds (inW M fr ω)).map R.fr else none
noncomputable def outM(o:Option (Out×WSt)):Option O:=match o with
 | some (.rt r,_)=>some r
 | some (.nx,_)=>some (.sh .non)
 | _=>none
section
variable{f g:FS}{ω w:WSt}{i:Nat}{fe fe':FE}{fd fd':FD}{ft ft':FT}{r:O}{d d':D}{ds ds':List D}{a b:Int}{p q:Bool}{fa:FA}{fg:FG}{fi:FI}{n:Nat}
theorem q4G:mir n f ds=outM (f (entry n ds)):=rfl
theorem q2x:outM (some (.rt r,w))=some r:=rfl
theorem q1Z:outM (some (.nx,w))=some (.sh .non):=rfl
theorem qD:Z8 f g ω=zAy (f ω) g:=rfl
theorem q1X:zAy (some (.nx,w)) g=g w:=rfl
theorem q2b:zAy (some (.rt r,w)) g=some (.rt r,w):=rfl
theorem q4y:Yc ω=some (.nx,ω):=rfl
theorem q53:YM i fe ω=setS i ω (fe ω):=rfl
theorem q2v:setS i ω ↥d=some (.nx,ω.set i ↥d):=rfl
theorem q2f:setS i ω (some (.fr ds))=some (.nx,ω.set i (some (.ow ds))):=rfl
theorem zAI:sIf ft f g ω=ifS (ft ω) f g ω:=rfl
theorem q36:ifS (some true) f g ω=f ω:=rfl
theorem q3p:ifS (some false) f g ω=g ω:=rfl
theorem q4w:YR fe ω=retS ω (fe ω):=rfl
theorem q2u:retS ω ↥d=some (.rt (.sh d),ω):=rfl
theorem q2h:retS ω (some (.fr ds))=some (.rt (.fr ds),ω):=rfl
theorem q3E:WT i ω=retV ω ω[i]?:=rfl
theorem q2t:retV ω (some (some (.ow ds)))=some (.rt (.fr ds),ω):=rfl
theorem q4Q:zA1 i fd ω=appS i ω (fd ω) ω[i]?:=rfl
theorem Xr(h:ds.length<1000000):appS i ω (some d) (some (some (.ow ds)))=some (.nx,ω.set i (some (.ow (ds++[d])))):=vM h
theorem q4r:zA3 i fd ω=extS i ω (fd ω) ω[i]?:=rfl
theorem q2H(h:ds.length+ds'.length<=1000000):extS i ω (some (.tup ds')) (some (some (.ow ds)))=some (.nx,ω.set i (some (.ow (ds++ds')))):=vM h
theorem q1R(h:ds.length+ds'.length<=1000000):extS i ω (some (.lst ds')) (some (some (.ow ds)))=some (.nx,ω.set i (some (.ow (ds++ds')))):=vM h
theorem q2k:Yf i f ω=f (shrS i ω ω[i]?):=rfl
theorem q26:shrS i ω (some (some (.ow ds)))=ω.set i ↥(.lst ds):=rfl
theorem q4C:Xu fi fg f ω=forS (fi ω) fg f ω:=rfl
theorem zAO:forS (some ds) fg f ω=Yr fg f ds ω:=rfl
theorem q51:sAsg fd fg ω=asgS (fd ω) fg ω:=rfl
theorem zAN:asgS (some d) fg ω=(fg d ω).map λw=>(.nx,w):=rfl
theorem Wy:gN i d ω=some (ω.set i ↥d):=rfl
theorem Wu{gs}:gT n gs (.tup ds) ω=if ds.length=n then gs ds ω else none:=rfl
theorem W9{gs}:YD fg gs (d::ds) ω=(fg d ω).bind λw=>gs ds w:=rfl
theorem zAE:Ym [] ω=some ω:=rfl
theorem q4T:Zy i ω=varR ω[i]?:=rfl
theorem q21:varR (some ↥d)=↥d:=rfl
theorem q2o:varR (some (some (.ow ds)))=some (.vw ds):=rfl
theorem e_c:fC d ω=some d:=rfl
theorem e_e:eOf fd ω=eD (fd ω):=rfl
theorem W6:eD (some d)=↥d:=rfl
theorem e_d:dOf fe ω=dR (fe ω):=rfl
theorem q1W:dR ↥d=some d:=rfl
theorem q2w:dR (some (.fr ds))=some (.lst ds):=rfl
theorem e_v:vOf fe ω=vR (fe ω):=rfl
theorem q25:vR ↥d=some d:=rfl
theorem q2g:vR (some (.fr ds))=some (.lst ds):=rfl
theorem q2y:vR (some (.vw ds))=some (.lst ds):=rfl
theorem Wz{op}:Z0 op fd fd' ω=op2 op (fd ω) (fd' ω):=rfl
theorem W0{op}:op2 op (some d) (some d')=op d d':=rfl
theorem q3l{m}:Z6 m fa ω=callR m (fa ω):=rfl
theorem zAA{m}:callR m (some ds)=(m ds).map O.r:=rfl
theorem q2z:(O.sh d).r=.sh d:=rfl
theorem q23:(O.fr ds).r=.fr ds:=rfl
theorem Ww:Zw fd fa ω=consA (fd ω) (fa ω):=rfl
theorem zAZ:consA (some d) (some ds)=some (d::ds):=rfl
theorem zAX:Z3 ω=some []:=rfl
theorem q4A:Yj fa ω=(fa ω).map R.fr:=rfl
theorem q4Z:Yp fa ω=(fa ω).map D.tup:=rfl
theorem q4P{op}:Yg op fa ω=bltR op (fa ω):=rfl
theorem zAS{op}:bltR op (some ds)=op ds:=rfl
theorem q4V{l h:FO}:fSl fd l h ω=slR (fd ω) (l ω) (h ω):=rfl
theorem W5{lo hi:Option Int}:slR (some d) (some lo) (some hi)=oSl d lo hi:=rfl
theorem zAP:pNo ω=some none:=rfl
theorem W3:pAt fd ω=atP (fd ω):=rfl
theorem Wx:atP (some (.int a))=some (some a):=rfl
theorem q4s{c}:XQ c fd ω=zAn c (fd ω):=rfl
theorem q0U{c}:zAn c (some (.int a))=↥(.bl (Xi .int c)):=rfl
theorem q1m{c}:zAn c (some (.bl p))=↥(.bl (Xi .bl c)):=rfl
theorem q0W{c}:zAn c (some .non)=↥(.bl (Xi .non c)):=rfl
theorem q0R{c x}:zAn c (some (.str x))=↥(.bl (Xi .str c)):=rfl
theorem q18{c}:zAn c (some (.lst ds))=↥(.bl (Xi .lst c)):=rfl
theorem q0X{c}:zAn c (some (.tup ds))=↥(.bl (Xi .tup c)):=rfl
theorem e_t:tOf fe ω=tR (fe ω):=rfl
theorem zAF:tR ↥(.bl p)=some p:=rfl
theorem q3x:XU ft ft' ω=andT (ft ω) ft' ω:=rfl
theorem zAK:andT (some p) ft ω=if p=true then ft ω else some false:=rfl
theorem q4F:(if p=true then some q else some false)=some (p&&q):=by cases p <;> rfl
theorem q50:WD ft ft' ω=orT (ft ω) ft' ω:=rfl
theorem W7:orT (some p) ft ω=if p=true then some true else ft ω:=rfl
theorem q4x:(if p=true then some true else some q)=some (p || q):=by cases p <;> rfl
theorem q37:Yb ft ω=notT (ft ω):=rfl
theorem W8:notT (some p)=some (!p):=rfl
theorem q3J:Yv fd ω=truT (fd ω):=rfl
theorem q1Y:truT (some (.bl p))=some p:=rfl
theorem q1q:truT (some (.lst ds))=some (!ds.isEmpty):=rfl
theorem q33:Xd fd fd' ω=andV (fd ω) fd' ω:=rfl
theorem Wv:andV (some (.bl p)) fd ω=if p=true then fd ω else some (.bl false):=rfl
theorem q4v:(if p=true then some (D.bl q)else some (D.bl false))=some (.bl (p&&q)):=by cases p <;> rfl
theorem q39:vNot fd ω=notV (fd ω):=rfl
theorem zAC:notV (some (.bl p))=some (.bl (!p)):=rfl
theorem q3L:Ys fd ω=seqI (fd ω):=rfl
theorem q3F:seqI (some (.lst ds))=some ds:=rfl
theorem q3o:seqI (some (.tup ds))=some ds:=rfl
theorem q4R:iRg1 fa ω=rg1I (fa ω):=rfl
theorem qfG(h:-(2^62)<=a/\a<2^62):rg1I (some [.int a])=some (upTo 0 a.toNat):=vM h
theorem q38{M fr}:YY M fr fi fg ft fd ω=compR M fr (fi ω) fg ft fd ω:=rfl
theorem Yd{M fr}(h:ds.length<=1000000):compR M fr (some ds) fg ft fd ω=(Yh fg ft fd ds (inW M fr ω)).map R.fr:=vM h
theorem q57:fNeg fd ω=(fd ω).bind oNeg:=rfl
theorem W1:oNeg (.int a)=↥(.int (-a)):=rfl
theorem q2e:Y7 [.lst ds]=↥(.int ds.length):=rfl
theorem q2n:Y7 [.tup ds]=↥(.int ds.length):=rfl
theorem q2s{ns}:Y7 [.scr ns]=↥(.int ns.length):=rfl
theorem q1p:Xb [.lst ds]=some (.fr ds):=rfl
theorem q3m:oEq false (.int a) (.int b)=↥(.bl (a==b)):=rfl
theorem q3c:oEq true (.int a) (.int b)=↥(.bl (!(a==b))):=rfl
theorem q3A:oEq false (.bl p) (.bl q)=↥(.bl (p==q)):=rfl
theorem q2q:X0 (.int a) (.int b)=↥(.int (a-b)):=rfl
theorem q3z:oLt (.int a) (.int b)=↥(.bl (decide (a<b))):=rfl
theorem q3C:oLe (.int a) (.int b)=↥(.bl (decide (a<=b))):=rfl
theorem q3K:oGt (.int a) (.int b)=↥(.bl (decide (b<a))):=rfl
theorem q2m:YL (.int a) (.int b)=↥(.int (a+b)):=rfl
theorem q58:oIx (.lst ds) (.int a)=(atI ds a).map R.sh:=rfl
theorem q4N:oIx (.tup ds) (.int a)=(atI ds a).map R.sh:=rfl
theorem q4O{ns:List Int}:oIx (.scr ns) (.int a)=(atI ns a).map λn=>.sh (.int n):=rfl
theorem q1B{α:Type}{xs:List α}{i:Int}(h0:0<=i)(h1:i<xs.length):atI xs i=some (xs[i.toNat]'∅):=by
 unfold atI ixN;rw[vM h0,vM h1];show xs[i.toNat]?=_;rw[zD ∅]
theorem at0{α:Type}{x:α}{xs:List α}:atI (x::xs) 0=some x:=by
 rw[q1B (by decide) (by rw[zG];omega)];rfl
theorem at1{α:Type}{x y:α}{xs:List α}:atI (x::y::xs) 1=some y:=by
 rw[q1B (by decide) (by rw[zG,zG];omega)];rfl
theorem at2{α:Type}{x y z:α}{xs:List α}:atI (x::y::z::xs) 2=some z:=by
 rw[q1B (by decide) (by rw[zG,zG,zG];omega)];rfl
theorem qgs{i j:Int}(h0:0<j)(h1:j<1073741824):cDiv i j=true:=by unfold cDiv;rw[vP h0,vP h1];rfl
theorem qg2{i j:Int}(h0:0<j):cMod i j=true:=by unfold cMod;rw[vP h0]
theorem qfg{i j:Int}(h0:-(2^64)<j)(h1:j<2^64):zAq i j=true:=by unfold zAq;rw[vP h0,vP h1];simp
theorem qfe{i j:Int}(h0:-(2^64)<i)(h1:i<2^64):zAq i j=true:=by unfold zAq;rw[vP h0,vP h1];simp
theorem q03(h:0<b):oMod (.int a) (.int b)=↥(.int (a%b)):=vM (qg2 h)
theorem q1H(h:0<b)(h':b<1073741824):oDiv (.int a) (.int b)=↥(.int (a/b)):=vM (qgs h h')
theorem q81(h:-(2^64)<b)(h':b<2^64):X1 (.int a) (.int b)=↥(.int (a*b)):=vM (qfg h h')
theorem qbw(h:-(2^64)<a)(h':a<2^64):X1 (.int a) (.int b)=↥(.int (a*b)):=vM (qfe h h')
end
def Y6(o:Option (Out×WSt))(P:WSt->Prop):Prop:=match o with
 | some (.nx,ω)=>P ω
 | some (.ct,ω)=>P ω
 | _=>False
theorem q29{ω:WSt}{P:WSt->Prop}:Y6 (some (.nx,ω)) P=P ω:=rfl
theorem qfb{g:FG}{b:FS}(ds:List D)(I:List D->WSt->Prop)(turn:∀pre d post ω,ds=pre++d::post->I pre ω->∃w,g d ω=some w/\Y6 (b w) (I (pre++[d]))){ω:WSt}(h0:I [] ω):∃ω',Yr g b ds ω=some (.nx,ω')/\I ds ω':=by
 have key:∀(post pre:List D)(ω:WSt),ds=pre++post->I pre ω->∃ω',Yr g b post ω=some (.nx,ω')/\I ds ω':=by
  intro post
  induction post with
  | nil=>intro pre ω e h;exact⟨ω,rfl,by rw[e,zi];exact h⟩
  | cons d post ih=>
   intro pre ω e h;obtain⟨w,h1,h2⟩:=turn pre d post ω e h;rw[Yr,h1,zZ]
   match hb:b w,h2 with
   | some (.nx,ω2),h2=>exact ih (pre++[d]) ω2 (by rw[e,zY];rfl) h2
   | some (.ct,ω2),h2=>exact ih (pre++[d]) ω2 (by rw[e,zY];rfl) h2
 exact key ds [] ω rfl h0
theorem q1t{α:Type}{g:FG}{b:FS}(F:α->D)(xs:List α)(I:List α->WSt->Prop)(turn:∀pre x post ω,xs=pre++x::post->I pre ω->∃w,g (F x) ω=some w/\Y6 (b w) (I (pre++[x]))){ω:WSt}(h0:I [] ω):∃ω',Yr g b (xs.map F) ω=some (.nx,ω')/\I xs ω':=by
 have key:∀(post pre:List α)(ω:WSt),xs=pre++post->I pre ω->∃ω',Yr g b (post.map F) ω=some (.nx,ω')/\I xs ω':=by
  intro post
  induction post with
  | nil=>intro pre ω e h;exact⟨ω,rfl,by rw[e,zi];exact h⟩
  | cons d post ih=>
   intro pre ω e h;obtain⟨w,h1,h2⟩:=turn pre d post ω e h;rw[zT,Yr,h1,zZ]
   match hb:b w,h2 with
   | some (.nx,ω2),h2=>exact ih (pre++[d]) ω2 (by rw[e,zY];rfl) h2
   | some (.ct,ω2),h2=>exact ih (pre++[d]) ω2 (by rw[e,zY];rfl) h2
 exact key xs [] ω rfl h0
theorem q5O{g:FG}{c:FT}{f:FD}(P:WSt->Prop)(q:D->Bool)(F:D->D):∀(ds:List D){ω:WSt},P ω ->
  (∀d∈ds,∀ω,P ω->∃w,g d ω=some w/\P w/\c w=some (q d)/\(q d=true->f w=some (F d)))->Yh g c f ds ω=some ((ds.filter q).map F)
 | [],_,_,_=>rfl
 | d::ds,ω,h,t=>by
  obtain⟨w,h1,h2,h3,h4⟩:=t d zK ω h;have ih:=q5O P q F ds h2 (λe he=>t e (zJ _ he));rw[Yh,h1,zZ,h3,zZ];cases hq:q d with
  | true=>rw[vM rfl,h4 hq,zZ,ih,wf hq];rfl
  | false=>rw[vN (by decide),ih,wj (by rw[hq];decide)]
theorem q5J{i:Nat}{f:FD}(F:D->D)(ds:List D){ω:WSt}(h:∀d∈ds,f (ω.set i ↥d)=some (F d)):Yh (gN i) YX f ds ω=some (ds.map F):=by
 have:=q5O (g:=gN i) (c:=YX) (f:=f) (λw=>∀x,w.set i x=ω.set i x) (λ_=>true) F ds (ω:=ω) (λx=>rfl) λd hd w hw=>
  ⟨w.set i ↥d,rfl,λx=>by rw[ZZ,hw],rfl,λ_=>by rw[hw];exact h d hd⟩
 rw[this,xa.mpr (λ_ _=>rfl)]
theorem qa4{i:Nat}{c:FT}{f:FD}(q:D->Bool)(F:D->D)(ds:List D){ω:WSt}(h:∀d∈ds,c (ω.set i ↥d)=some (q d)/\(q d=true->f (ω.set i ↥d)=some (F d))):Yh (gN i) c f ds ω=some ((ds.filter q).map F) :=
 q5O (g:=gN i) (c:=c) (f:=f) (λw=>∀x,w.set i x=ω.set i x) q F ds (ω:=ω) (λx=>rfl) λd hd w hw=>
  ⟨w.set i ↥d,rfl,λx=>by rw[ZZ,hw],by rw[hw];exact(h d hd).1,λz=>by rw[hw];exact(h d hd).2 z⟩
theorem qeL{lo:Int}{n:Nat}{d:D}(h:d∈upTo lo n):∃i:Nat,i<n/\d=.int (lo+i):=by
 unfold upTo at h;obtain⟨i,h1,h2⟩:=zN.mp h;exact⟨i,wA.mp h1,h2.symm⟩
theorem qaL{lo:Int}{n:Nat}:(upTo lo n).length=n:=by unfold upTo;rw[zA,yU]
noncomputable def onI(F:Int->Int):D->D
 | .int k=>.int (F k)
 | d=>d
theorem qfd{lo:Int}{n:Nat}(F:Int->Int):(Hk.upTo lo n).map (onI F)=((yk n).map λ(i:Nat)=>F (lo+(i:Int))).map D.int:=by
 unfold upTo;rw[xC,xC];rfl
theorem q04{ds:List D}{lo hi:Option Int}:oSl (.lst ds) lo hi=some (.fr (cutD ds lo hi)):=rfl
theorem qhZ{ns:List Int}{lo hi:Option Int}:oSl (.scr ns) lo hi=some (.fr ((cutD ns lo hi).map D.int)):=rfl
theorem qX{xs ys:List D}(h:xs.length+ys.length<=1000000):YL (.lst xs) (.lst ys)=some (.fr (xs++ys)):=vM h
theorem q8a(a:Int):∀(ns:List Int),inD (.int a) (ns.map D.int)=decide (a∈ns)
 | []=>rfl
 | n::r=>by
  have ih:=q8a a r;unfold inD inV at ih ⊢;rw[zT,zT,xt,ih];have e:eqV (D.int n).v (D.int a).v=decide (a=n):=by
   show (n==a)=_
   by_cases h:a=n
   ·subst h;simp
   ·rw[vT h];simpa using λz=>h z.symm
  rw[e]
  by_cases h:a=n
  ·simp[h]
  ·by_cases h':a∈r <;> simp[h,h']
theorem qeM{d:D}(h:shp d=true):eqD d d=true:=SeqAt.eqv_refl d.py (SeqAt.canLay_of_shaped h)
theorem q40{d:D}(h:shp d=true):oEq false d d=↥(.bl true):=by
 unfold oEq;rw[h];show some (R.sh (D.bl (eqD d d)))=_;rw[qeM h]
theorem qcp{ds:List D}(n:Nat)(hn:n<64)(h:∀d∈ds,d.py.canLay0=true/\d.py.depth<=n):shp (.lst ds)=true:=by
 unfold shp SeqAt.shaped;have:∀ds:List D,(∀d∈ds,d.py.canLay0=true/\d.py.depth<=n)->PyData.canLayAll0 (D.pys ds)=true/\PyData.depthAll (D.pys ds)<=n:=by
  intro ds
  induction ds with
  | nil=>intro _;exact⟨rfl,zu _⟩
  | cons d ds ih=>
   intro h;obtain⟨a,b⟩:=ih λe he=>h e (zJ _ he);obtain⟨a',b'⟩:=h d zK;refine⟨?_,?_⟩
   ·rw[D.pys,PyData.canLayAll0,a,a'];rfl
   ·rw[D.pys,PyData.depthAll];exact Nat.max_le.mpr ⟨b',b⟩
 obtain⟨a,b⟩:=this ds h;show (PyData.canLayAll0 (D.pys ds)&&decide (PyData.depthAll (D.pys ds)+1<=64))=true;rw[a,vP ∅];rfl
noncomputable def WI(x:Int):List Int->List Int
 | []=>[x]
 | y::r=>if x<y then x::y::r else if x=y then y::r else y::WI x r
noncomputable def YK(ns:List Int):List Int:=ns.foldr WI []
theorem q8k{x y:Int}:∀{l:List Int},y∈WI x l↔y=x\/y∈l
 | []=>by simp[WI]
 | z::r=>by
  unfold WI
  split
  ·simp
  ·split
   ·rename_i h;subst h;simp
   ·simp only[zE,q8k (l:=r)]
    constructor
    ·rintro(h|h|h) <;> simp[h]
    ·rintro(h|h|h) <;> simp[h]
theorem q9W{x:Int}:∀{l:List Int},l.Pairwise (· < ·)->(WI x l).Pairwise (· < ·)
 | [],_=>by simp[WI]
 | z::r,h=>by
  obtain⟨h1,h2⟩:=zg.mp h;unfold WI
  split
  ·rename_i hx
   refine zg.mpr ⟨λy hy=>?_,h⟩;rcases zE.mp hy with rfl|hy
   ·exact hx
   ·exact Int.lt_trans hx (h1 y hy)
  ·split
   ·exact h
   ·refine zg.mpr ⟨λy hy=>?_,q9W h2⟩
    rcases q8k.mp hy with rfl|hy
    ·omega
    ·exact h1 y hy
theorem q5N{y:Int}:∀{ns:List Int},y∈YK ns↔y∈ns
 | []=>by simp[YK]
 | x::r=>by
  show y∈WI x (YK r)↔_;rw[q8k,q5N (ns:=r),zE]
theorem q3d:∀{ns:List Int},(YK ns).Pairwise (· < ·)
 | []=>xW
 | x::r=>q9W (q3d (ns:=r))
theorem qaK{x:Int}:∀(l:List Int),(WI x l).length<=l.length+1
 | []=>by simp[WI]
 | z::r=>by
  have:=qaK (x:=x) r;unfold WI
  split
  ·simp
  ·split
   ·simp
   ·rw[zG,zG];omega
theorem q4f:∀(l:List Int),(YK l).length<=l.length
 | []=>zQ _
 | x::r=>by
  have h1:=qaK (x:=x) (YK r);have h2:=q4f r;show (WI x (YK r)).length<=_;rw[zG];omega
theorem qcx:∀{l m:List Int},l.Pairwise (· < ·)->m.Pairwise (· < ·)->(∀x,x∈l↔x∈m)->l=m
 | [],[],_,_,_=>rfl
 | [],y::r,_,_,h=>vK ((h y).mpr zK) (by simp)
 | x::r,[],_,_,h=>vK ((h x).mp zK) (by simp)
 | x::r,y::q,hl,hm,h=>by
  obtain⟨a1,a2⟩:=zg.mp hl;obtain⟨b1,b2⟩:=zg.mp hm;have e:x=y:=by
   rcases zE.mp ((h x).mp zK)with e|e
   ·exact e
   ·rcases zE.mp ((h y).mpr zK)with f|f
    ·exact f.symm
    ·have:=b1 x e;have:=a1 y f;omega
  subst e;rw[qcx a2 b2 λz=>?_]
  constructor
  ·intro hz
   rcases zE.mp ((h z).mp (zJ _ hz))with f|f
   ·have:=a1 z hz;omega
   ·exact f
  ·intro hz
   rcases zE.mp ((h z).mpr (zJ _ hz))with f|f
   ·have:=b1 z hz;omega
   ·exact f
theorem qbL{l:List Int}(h:l.Pairwise (· <= ·))(n:l.Nodup):l.Pairwise (· < ·):=by
 induction l with
 | nil=>exact xW
 | cons x r ih=>
  obtain⟨h1,h2⟩:=zg.mp h;obtain⟨n1,n2⟩:=yj.mp n;refine zg.mpr ⟨λy hy=>?_,ih h2 n2⟩;have:=h1 y hy;have:x≠y:=λe=>n1 (e▸hy);omega
def setP(w:vU)(S:vC)(ns:List Int):vX->Prop:=λh=>zAW h S (Yo w) (λi=>ns.getD i 0) ns.length
def rSet(w:vU):List V->Hp->VK->Prop:=λxs H Q=>∃p ns,xs=[.ref p]/\H p=some (.lst (ns.map V.int))/\ns.length+1<4096/\∀S,H S=none->Q (.ref S) (upd H S (.ext (setP w S ns)))
def fewS(ns:List Int):Prop:=(YK ns).length<64/\ns.length<4000
noncomputable instance (ns:List Int):Decidable (fewS ns):=inferInstanceAs (Decidable (_/\_))
theorem qhD{ns:List Int}(h:ns.length<64):fewS ns:=⟨ZO (q4f ns) h,∅⟩
def rSortS(w:vU):List V->Hp->VK->Prop:=λxs H Q=>∃S ns,xs=[.ref S]/\H S=some (.ext (setP w S ns))/\fewS ns/\∀l,H l=none->Q (.ref l) (upd H l (.lst ((YK ns).map V.int)))
section
variable{X:Cx}
theorem qdO{pins:List (vC×Obj)}{σ:St}{H:Hp}{s:vF}(I:L2.Inv X pins σ H s)(d:tN):L2.Inv X pins σ H { s with drawn:=d } :=
 ⟨I.ok,I.os,I.bare,I.base,I.loc,I.cell,I.free,I.freeC,I.pin,I.hok,I.len⟩
theorem qeR(hc:X.calm=true):Yy X (.type "set") (rSet X.w):=by
 intro pins s σ H xs us Q I r h;obtain⟨p,ns,rfl,hp,hz,q⟩:=h;obtain⟨u,rfl,rx⟩:=vals1 r;cases rx;obtain⟨its,n,rv,e,_⟩:=I.lst hp;have ia:=q6r rv;have hlen:its.length=ns.length:=by rw[<- rv.length,zA]
 refine qbB (items:=its.toArray) (ns:=ns) (I.ok.hd hc) ⟨_,e,rfl,n,rfl⟩ ⇑ia (by rw[zO,hlen];exact hz) λh' tk sv kp=>?_;have hsz:its.toArray.size=ns.length:=by rw[zO,hlen]
 rw[hsz]at sv;refine⟨.ref s.heap.objs.size,_,I.laid (t':=tk) (λb o e=>kp b o (zM e) e) (zQ _) (show YQ X.prog X.w _ h' _ (.ext (setP X.w s.heap.objs.size ns))from ⟨sv,?_,λh1 h2 a1 a2=>a1.at a2⟩),rfl,q _ (I.hok.fresh (zQ _))⟩;obtain⟨_,⟨o,_,_,_,e,_⟩,_⟩:=sv;exact⟨o,e⟩
theorem qcY(hc:X.calm=true):Yy X (.builtin "sorted") (rSortS X.w):=by
 intro pins s σ H xs us Q I r h;obtain⟨S,ns,rfl,hp,hz,q⟩:=h;obtain⟨u,rfl,rx⟩:=vals1 r;cases rx;obtain⟨⟨zs,SI,hl,hm⟩,_⟩:=I.hok S _ hp;obtain⟨o,es,ep,t,go,gx,gd,T,gl,gb,gg,gv,gn⟩:=id SI;have mz:∀x,x∈zs↔x∈YK ns:=λx=>by
  rw[hm,q5N]
  constructor
  ·rintro⟨i,hi,rfl⟩
   dsimp only
   rw[zX,zD hi];exact ym hi
  ·intro hx
   obtain⟨i,hi,e⟩:=zn.mp hx;exact⟨i,hi,by dsimp only;rw[zX,zD hi];exact e⟩
 have zl:=((wU gn ((q3d (ns:=ns)).imp λh=>∅)).mpr mz).length_eq;refine qcM (I.ok.hd hc) SI (by rw[zl];exact hz.1) λD h' tk d vs ys n kp hD hg ia pm pw=>?_;have ey:ys=YK ns:=qcx (qbL pw (pm.nodup_iff.mpr gn)) q3d λx=>by rw[pm.mem_iff,mz]
 subst ey;have hvl:vs.length=(YK ns).length:=PyProof.Rows.IntsAre.length ia;have hsl:(YK ns).length<=sizeLine:=by
  have:=pm.length_eq;exact zm (show (YK ns).length<=64 from yL hz.1) (by decide)
 have I2:=qdO (I.laid (a:=D) (o:=.lst ((YK ns).map V.int)) (t':=tk) kp hD (show YQ X.prog X.w _ h' _ (.lst _)from ⟨by rw[zA];exact hsl,vs,n,q4d ia,hg⟩)) d;exact⟨.ref D,_,I2,rfl,q _ (I.hok.fresh hD)⟩
noncomputable def intsOf:List D->Option (List Int)
 | []=>some []
 | .int i::r=>(intsOf r).map λl=>i::l
 | _=>none
theorem q5K:∀{ds:List D}{ns:List Int},intsOf ds=some ns->ds=ns.map D.int
 | [],_,e=>by cases e;rfl
 | .int c::r,b,e=>by
  obtain⟨k,q,e⟩:=mpd e;subst e;rw[q5K q];rfl
 | .non::_,_,e=>by cases e
 | .bl _::_,_,e=>by cases e
 | .str _::_,_,e=>by cases e
 | .lst _::_,_,e=>by cases e
 | .tup _::_,_,e=>by cases e
 | .scr _::_,_,e=>by cases e
 | .exc _::_,_,e=>by cases e
 | .dic _ _::_,_,e=>by cases e
theorem q4L:∀(ns:List Int),intsOf (ns.map D.int)=some ns
 | []=>rfl
 | n::r=>by show (intsOf (r.map D.int)).map _=_;rw[q4L r];rfl
noncomputable def WA:D->Option R
 | .lst ds=>(intsOf ds).bind λns=>if fewS ns then some (.fr ((YK ns).map D.int))else none
 | _=>none
noncomputable def Xo(f:FD):FE:=λω=>(f ω).bind WA
theorem qd4{a:vQ}{f:FD}{p1 p2 q1 q2:Pos}(hg1:Gl X "sorted")(hm1:X.mg "sorted" = none)(hg2:Gl X "set")(hm2:X.mg "set" = none)(ha:XV X a f)(hc:X.calm=true:=by rfl)(he1:vJ [a] X.env=(false,eval a X.env)::vJ [] X.env:=by rfl)(hpl1:(vk q2 (vJ [] X.env)).any (·.1)=false:=by rfl)(he2:vJ [.Call (.Name "set" p2) [a] [] q2] X.env=(false,eval (.Call (.Name "set" p2) [a] [] q2) X.env)::vJ [] X.env:=by rfl)(hpl2:(vk q1 (vJ [] X.env)).any (·.1)=false:=by rfl):
  XE X (.Call (.Name "sorted" p1) [.Call (.Name "set" p2) [a] [] q2] [] q1) (Xo f):=by
 obtain⟨t,h1,h2⟩:=ha;refine⟨_,q5D (qcY hc) hg1 hm1 q7b (q0G (qa6 (qeR hc) hg2 hm2 qh4 (q0G h1 q1l he1) (by decide) (by decide) he1 hpl1) q1l he2) (by decide) (by decide) he2 hpl2,λG0 H0 G ω σ H r Q o e k=>?_⟩;obtain⟨d,q,e⟩:=bnd e;refine h2 G0 H0 G ω σ H d _ o q λv G1 H1 x1 y1=>?_;cases d with
 | lst ds=>
  obtain⟨ns,e1,e2⟩:=bnd (show (intsOf ds).bind _=some r from e);have hds:=q5K e1;subst hds
  by_cases hz:fewS ns
  ·rw[vM hz]at e2
   cases e2;obtain⟨p,vs,rfl,g1,g2⟩:=y1.lst x1.gh;have hv:=g2.of_ints;subst hv;refine⟨p,ns,rfl,g1,by have:=hz.2;omega,λS hS=>?_⟩;refine⟨S,ns,rfl,qm,hz,λl hl=>?_⟩;have x2:=Ext.hide x1.gh hS (.ext (setP X.w S ns));have x3:=Ext.hide x2.gh hl (.lst ((YK ns).map V.int));exact k _ G1 _ ((x1.trans x2).trans x3) ⟨l,_,rfl,(x1.trans x2).hh.free hl,x2.gh.free hl,qm,YA.ints _⟩
  ·rw[vN hz]at e2;cases e2
 | _=>cases e
end
end Hk
namespace PySem.F
theorem noLenZip:uX (.type "zip") "__len__" = pure none:=by rw[vv,vi];kernel_rfl
theorem noHintZip:uX (.type "zip") "__length_hint__" = pure none:=by rw[vv,vi];kernel_rfl
end PySem.F
namespace Hk
open PySem PySem.Spec PyProof.Rows
section
variable{prog:vO}{w:vU}{A:vY}{E:vB->vF->Prop}{s:vF}
abbrev Xt(h:vX)(z TI TO:vC)(f0 f1:vB):Prop:=h.get? z=some { cls:=.type "zip", dict:=none,data:=.fields #[f0,f1,.bool false,.ref TI,.ref TO],slots:=#[] }
theorem qeA{a:vC}{Q:Option Obj->vF->Prop}(h:Q (s.heap.get? a) s):vL (model prog w) A (loadIfAlive a) Q E s:=λ_ _ _=>h
theorem qcc{z TI TO t:vC}{ot:Obj}{f1:vB}{Q:Bool->vF->Prop}(hz:Xt s.heap z TI TO (uD t) f1)(ht:s.heap.get? t=some ot)(k:∀h' f1',Xt h' z TI TO (uD t) f1'->xU z s.heap h'->Q false { s with heap:=h' }):vL (model prog w) A (Builtin.SmallTypes.ownedTupleIsFree (.ref z)) Q E s:=by
 unfold Builtin.SmallTypes.ownedTupleIsFree;refine vA (uC hz rfl (x:=uD t) rfl ?_);show vL _ _ (loadIfAlive ((t:Int)).toNat >>= _) _ _ _;rw[yT];refine vA (qeA ?_);rw[ht];show vL _ _ (field (.ref z) 1 >>= _) _ _ _;refine vA (uC hz rfl (x:=f1) rfl ?_);refine vW (λ_=>?_) (λ_=>?_)
 ·refine vA (vq hz (by simp) λh1 e1 sb=>vG (k h1 (.bool true) e1 sb))
 ·exact vG (k s.heap f1 hz (ZY z s.heap))
theorem qdD{z TI TO i1 i2 l1 l2 t:vC}{ot:Obj}{f1:vB}{k1 k2:Nat}{xs ys:Array vB}{x y:vB}{Q:Option vB->vF->Prop}(D:ub z TI TO i1 i2 l1 l2)(hz:Xt s.heap z TI TO (uD t) f1)(ht:s.heap.get? t=some ot)(hTI:uV s.heap TI (.ref i1) (.ref i2))(h1:s.heap.IsListIter i1 l1 k1)(h2:s.heap.IsListIter i2 l2 k2)(hl1:s.heap.IsList l1 xs)(hl2:s.heap.IsList l2 ys)(hx:xs[k1]?=some x)(hy:ys[k2]?=some y)(hQ:∀h' f1',Xt h' z TI TO (uD t) f1'->h'.IsListIter i1 l1 (k1+1)->h'.IsListIter i2 l2 (k2+1)->uV h' s.heap.objs.size x y ->
   (∀c o,c≠z->c≠i1->c≠i2->s.heap.get? c=some o->h'.get? c=some o)->Q (some (.ref s.heap.objs.size)) { s with heap:=h' }) :
  vL (model prog w) A (v9 (.ref z)) Q E s:=by
 have hT:s.TypeIs (.ref z) "zip" := ⟨_,hz,rfl⟩;unfold v9;refine vA (uP (wpAny_callSpecial?_slot (name:=Str.ofString "__next__") hT PySem.F.slot_zip_next (vg PySem.F.slot_zip_next hT PySem.F.entry_zip_next ?_ (PySem.F.args_zip_next_1 _))));show vL _ _ (field (.ref z) 2 >>= _) _ _ _;refine vA (uC hz rfl (x:=.bool false) rfl ?_);show vL _ _ (field (.ref z) 3 >>= _) _ _ _;refine vA (uC hz rfl (x:=.ref TI) rfl ?_);refine vA (uJ hTI rfl ?_);show vL _ _ (Builtin.SmallTypes.ownedTupleIsFree (.ref z) >>= _) _ _ _;refine vA (qcc hz ht λh' f1' hz1 sb1=>?_);simp only[z9,if_false];have a1:=h1.extBut sb1.extBut D.i1z;have a2:=h2.extBut sb1.extBut D.i2z;have b1:=hl1.extBut sb1.extBut D.l1z;have b2:=hl2.extBut sb1.extBut D.l2z;rw[<- ZP];simp only[w8,Zo];refine vA (vA (vA (vh ?_)));show vL _ _ (Builtin.SmallTypes.nextOf (.ref i1) >>= _) _ _ _;refine vA (uW a1 b1 hx λh₂ c1 sb2=>vG ?_);refine vG ?_;refine vA (vA (vh ?_));show vL _ _ (Builtin.SmallTypes.nextOf (.ref i2) >>= _) _ _ _;refine vA (uW (a2.extBut sb2.extBut D.i12.symm) (b2.extBut sb2.extBut D.l2i1) hy λh₃ c2 sb3=>vG ?_);refine vG (vG ?_);show vL _ _ (newTuple [x,y] >>= _) _ _ _;refine vA (wpAny_newTuple ?_);have hsz:h₃.objs.size=s.heap.objs.size:=by rw[sb3.1,sb2.1,sb1.1]
 refine vG ⟨_,rfl,vG ?_⟩
 dsimp only
 rw[hsz];refine hQ _ f1' ?_ ?_ ?_ ?_ ?_
 ·exact zF _ (sb3.extBut _ _ D.i2z.symm (sb2.extBut _ _ D.i1z.symm hz1))
 ·exact(c1.extBut sb3.extBut D.i12).at λo e=>zF _ e
 ·exact c2.at λo e=>zF _ e
 ·have:=zR h₃ (o:={ cls:=.type "tuple", data:=.seq [x,y].toArray }) rfl
  rw[hsz]at this;exact this
 ·exact λc o n1 n2 n3 e=>zF _ (sb3.extBut _ _ n3 (sb2.extBut _ _ n2 (sb1.extBut _ _ n1 e)))
theorem qeI{z TI TO i1 i2 l1 l2 t:vC}{ot:Obj}{f1:vB}{k1 k2:Nat}{xs ys:Array vB}{Q:Option vB->vF->Prop}(hh:A.handled=none)(D:ub z TI TO i1 i2 l1 l2)(hz:Xt s.heap z TI TO (uD t) f1)(ht:s.heap.get? t=some ot)(hTI:uV s.heap TI (.ref i1) (.ref i2))(h1:s.heap.IsListIter i1 l1 k1)(h2:s.heap.IsListIter i2 l2 k2)(hl1:s.heap.IsList l1 xs)(hl2:s.heap.IsList l2 ys)(hend:xs[k1]?=none\/ys[k2]?=none)(hQ:∀h',(∀c o,c≠z->c≠i1->c≠i2->s.heap.get? c=some o->h'.get? c=some o)->Q none { s with heap:=h' }):
  vL (model prog w) A (v9 (.ref z)) Q E s:=by
 have hT:s.TypeIs (.ref z) "zip" := ⟨_,hz,rfl⟩;unfold v9;refine vA (uP (wpAny_callSpecial?_slot (name:=Str.ofString "__next__") hT PySem.F.slot_zip_next (vg PySem.F.slot_zip_next hT PySem.F.entry_zip_next ?_ (PySem.F.args_zip_next_1 _))));show vL _ _ (field (.ref z) 2 >>= _) _ _ _;refine vA (uC hz rfl (x:=.bool false) rfl ?_);show vL _ _ (field (.ref z) 3 >>= _) _ _ _;refine vA (uC hz rfl (x:=.ref TI) rfl ?_);refine vA (uJ hTI rfl ?_);show vL _ _ (Builtin.SmallTypes.ownedTupleIsFree (.ref z) >>= _) _ _ _;refine vA (qcc hz ht λh' f1' hz1 sb1=>?_);simp only[z9,if_false];have a1:=h1.extBut sb1.extBut D.i1z;have a2:=h2.extBut sb1.extBut D.i2z;have b1:=hl1.extBut sb1.extBut D.l1z;have b2:=hl2.extBut sb1.extBut D.l2z;rw[<- ZP];simp only[w8,Zo];refine vA (vA (vA (vh ?_)));show vL _ _ (Builtin.SmallTypes.nextOf (.ref i1) >>= _) _ _ _;cases hx:xs[k1]? with
 | none=>
  refine vA (u0 hh a1 b1 hx λh₂ e sb2 he=>?_);obtain⟨o,ho,hc⟩:=he;refine vA (uA (T := "StopIteration") (b:=true) ⟨o,ho,hc⟩ um ?_);exact vG (hQ _ λc o n1 n2 n3 e=>sb2 _ _ n2 (sb1.extBut _ _ n1 e))
 | some x=>
  have hy:ys[k2]?=none:=by rcases hend with h|h;rw[hx]at h;cases h;exact h
  refine vA (uW a1 b1 hx λh₂ c1 sb2=>vG ?_);refine vG ?_;refine vA (vA (vh ?_));show vL _ _ (Builtin.SmallTypes.nextOf (.ref i2) >>= _) _ _ _;refine vA (u0 hh (a2.extBut sb2.extBut D.i12.symm) (b2.extBut sb2.extBut D.l2i1) hy λh₃ e sb3 he=>?_);obtain⟨o,ho,hc⟩:=he;refine vA (uA (T := "StopIteration") (b:=true) ⟨o,ho,hc⟩ um ?_);exact vG (hQ _ λc o n1 n2 n3 e=>sb3 _ _ n3 (sb2.extBut _ _ n2 (sb1.extBut _ _ n1 e)))
structure ZSt (h0:vX) (S z TI TO i1 i2 l1 l2:vC) (xs ys:Array vB) (ts:List vC) (h:vX):Prop where
 zip:(ts=[]/\Xt h z TI TO .none (.bool false))\/∃t f1,t∈ts/\Xt h z TI TO (uD t) f1
 pTI:uV h TI (.ref i1) (.ref i2)
 pTO:∃a b,uV h TO a b
 it1:h.IsListIter i1 l1 ts.length
 it2:h.IsListIter i2 l2 ts.length
 hl1:h.IsList l1 xs
 hl2:h.IsList l2 ys
 tups:∀(j:Nat)t,ts[j]?=some t->∃x y,xs[j]?=some x/\ys[j]?=some y/\uV h t x y
 old:∀t∈ts,t≠S/\t≠z/\t≠TO/\t≠i1/\t≠i2
 nd:ts.Nodup
 new:∀t∈ts,h0.objs.size<=t
 keep:∀b o,b≠S->h0.get? b=some o->h.get? b=some o
theorem qf3{h0:vX}{S z TI TO i1 i2 l1 l2:vC}{xs ys:Array vB}{ts:List vC}{Q:Option vB->vF->Prop}(D:ub z TI TO i1 i2 l1 l2)(hf:∀b∈[z,TO,i1,i2],h0.get? b=none)(hS:S∉[z,TI,TO,i1,i2,l1,l2])(Z:ZSt h0 S z TI TO i1 i2 l1 l2 xs ys ts s.heap)(hSo:∃o,s.heap.get? S=some o)(hsz:h0.objs.size<=s.heap.objs.size)(hlt:ts.length<min xs.size ys.size)(k:∀h' t,ZSt h0 S z TI TO i1 i2 l1 l2 xs ys (ts++[t]) h'->(∀o,s.heap.get? S=some o->h'.get? S=some o)->s.heap.objs.size<=h'.objs.size->Q (some (.ref t)) { s with heap:=h' }):
  vL (model prog w) A (v9 (.ref z)) Q E s:=by
 have hix:ts.length<xs.size:=zd hlt (w9 ..);have hiy:ts.length<ys.size:=zd hlt (Zg ..);obtain⟨a,b,hTO⟩:=Z.pTO;obtain⟨oS,hoS⟩:=hSo;have gx:=zk hix;have gy:=zk hiy;simp only[zE,zI,or_false,not_or]at hS;have nz:∀b o,h0.get? b=some o->b≠z/\b≠TO/\b≠i1/\b≠i2:=λb o e=>
  ⟨λq=>(by have:=hf z (by simp);rw[q,this]at e;cases e),λq=>(by have:=hf TO (by simp);rw[q,this]at e;cases e),λq=>(by have:=hf i1 (by simp);rw[q,this]at e;cases e),λq=>(by have:=hf i2 (by simp);rw[q,this]at e;cases e)⟩
 have fin:∀(h':vX)(f1:vB)(u:vC),u∈ts++[s.heap.objs.size]->Xt h' z TI TO (uD u) f1->(∃a b,uV h' TO a b)->h'.IsListIter i1 l1 (ts.length+1)->h'.IsListIter i2 l2 (ts.length+1)->uV h' s.heap.objs.size xs[ts.length] ys[ts.length] ->
   (∀c o,c≠z->c≠TO->c≠i1->c≠i2->s.heap.get? c=some o->h'.get? c=some o)->Q (some (.ref s.heap.objs.size)) { s with heap:=h' }:=λh' f1 u hu g1 g2 g3 g4 g5 g6=>by
  refine k h' _ ⟨.inr ⟨u,f1,hu,g1⟩,g6 _ _ D.TIz D.TITO D.TIi1 D.TIi2 Z.pTI,g2,by rw[zC];exact g3,by rw[zC];exact g4,Z.hl1.at λo e=>g6 _ o D.l1z D.l1TO D.l1i1 D.l1i2 e,Z.hl2.at λo e=>g6 _ o D.l2z D.l2TO D.l2i1 D.l2i2 e,λj t ht=>?_,λt ht=>?_,?_,λt ht=>?_,λb o hb e=>?_⟩ (λo e=>?_) (yL (zM g5))
  ·rcases yC j ts.length with y|y
   ·rw[zj y]at ht
    obtain⟨p,q,r1,r2,r3⟩:=Z.tups j t ht;have ho:=Z.old t (zx ht);exact⟨p,q,r1,r2,g6 _ _ ho.2.1 ho.2.2.1 ho.2.2.2.1 ho.2.2.2.2 r3⟩
   ·rw[zf y]at ht
    have hj:j=ts.length:=by
     rcases yC (j-ts.length) 1 with c|c
     ·omega
     ·rw[zt ⇑c]at ht;cases ht
    subst hj;rw[Nat.sub_self]at ht;cases ht;exact⟨_,_,gx,gy,g5⟩
  ·rcases zP.mp ht with ht|ht
   ·exact Z.old t ht
   ·rw[zL.mp ht]
    have lt:∀{c o},s.heap.get? c=some o->s.heap.objs.size≠c:=λe=>wO (zM e);refine⟨lt hoS,?_,lt hTO,?_,?_⟩
    ·rcases Z.zip with⟨_,e⟩|⟨_,_,_,e⟩ <;> exact lt e
    ·obtain⟨_,e,_⟩:=Z.it1;exact lt e
    ·obtain⟨_,e,_⟩:=Z.it2;exact lt e
  ·refine yd.mpr ⟨Z.nd,by simp,λa ha b hb=>?_⟩
   rw[zL.mp hb];intro e;obtain⟨j,hj,ej⟩:=zn.mp ha;obtain⟨_,_,_,_,et⟩:=Z.tups j a (by rw[zD hj,ej]);exact vK (zM et) (by rw[e];exact yv _)
  ·rcases zP.mp ht with ht|ht
   ·exact Z.new t ht
   ·rw[zL.mp ht];exact hsz
  ·obtain⟨n1,n2,n3,n4⟩:=nz b o e
   exact g6 b o n1 n2 n3 n4 (Z.keep b o hb e)
  ·exact g6 S o hS.1 hS.2.2.1 hS.2.2.2.1 hS.2.2.2.2.1 e
 rcases Z.zip with⟨_,hz⟩|⟨t,f1,ht,hz⟩
 ·exact u3 D hz Z.pTI hTO Z.it1 Z.it2 Z.hl1 Z.hl2 gx gy λh' a1 a2 a3 a4 a5 a6 a7=>fin h' _ _ (by simp) a1 ⟨_,_,a2⟩ a3 a4 a5 a7
 ·obtain⟨j,hj,ej⟩:=zn.mp ht
  obtain⟨_,_,_,_,et⟩:=Z.tups j t (by rw[zD hj,ej]);refine qdD D hz et Z.pTI Z.it1 Z.it2 Z.hl1 Z.hl2 gx gy λh' f1' a1 a3 a4 a5 a7=>fin h' f1' t (zb _ ht) a1 ⟨a,b,?_⟩ a3 a4 a5 λc o n1 _ n3 n4 e=>a7 c o n1 n3 n4 e;exact a7 _ _ D.TOz D.TOi1 D.TOi2 hTO
theorem qgz{h0:vX}{S z TI TO i1 i2 l1 l2:vC}{xs ys:Array vB}{ts:List vC}{Q:Option vB->vF->Prop}(hh:A.handled=none)(D:ub z TI TO i1 i2 l1 l2)(Z:ZSt h0 S z TI TO i1 i2 l1 l2 xs ys ts s.heap)(hlt:ts.length=min xs.size ys.size)(k:∀h',(∀c o,c≠z->c≠TO->c≠i1->c≠i2->s.heap.get? c=some o->h'.get? c=some o)->Q none { s with heap:=h' }):
  vL (model prog w) A (v9 (.ref z)) Q E s:=by
 obtain⟨a,b,hTO⟩:=Z.pTO;have hend:xs[ts.length]?=none\/ys[ts.length]?=none:=by
  rcases Za xs.size ys.size with h|h
  ·left;exact yN ∅
  ·right;exact yN ∅
 rcases Z.zip with⟨_,hz⟩|⟨t,f1,ht,hz⟩
 ·exact u7 hh D hz Z.pTI hTO Z.it1 Z.it2 Z.hl1 Z.hl2 hend λh' g=>k h' g
 ·obtain⟨j,hj,ej⟩:=zn.mp ht
  obtain⟨_,_,_,_,et⟩:=Z.tups j t (by rw[zD hj,ej]);exact qeI hh D hz et Z.pTI Z.it1 Z.it2 Z.hl1 Z.hl2 hend λh' g=>k h' λc o n1 _ n3 n4 e=>g c o n1 n3 n4 e
end
end Hk
namespace Hk
open PySem PySem.Spec PySem.W PyProof.Rows
section
variable{prog:vO}{w:vU}{A:vY}{E:vB->vF->Prop}{R:tJ->vF->Prop}{s:vF}
abbrev Xp(h:vX)(S:vC)(acc:Array vB)(c:Nat):Prop:=h.get? S=some { cls:=.type "list", dict:=none,data:=.seq acc c,slots:=#[] }
theorem q9V{h0 h h':vX}{S z TI TO i1 i2 l1 l2:vC}{xs ys:Array vB}{ts:List vC}(hS:S∉[z,TI,TO,i1,i2,l1,l2])(Z:ZSt h0 S z TI TO i1 i2 l1 l2 xs ys ts h)(k:∀b o,b≠S->h.get? b=some o->h'.get? b=some o):
  ZSt h0 S z TI TO i1 i2 l1 l2 xs ys ts h':=by
 simp only[zE,zI,or_false,not_or]at hS;obtain⟨s1,s2,s3,s4,s5,s6,s7⟩:=hS;refine⟨?_,k _ _ (Ne.symm s2) Z.pTI,?_,Z.it1.at λo e=>k _ o (Ne.symm s4) e,Z.it2.at λo e=>k _ o (Ne.symm s5) e,Z.hl1.at λo e=>k _ o (Ne.symm s6) e,Z.hl2.at λo e=>k _ o (Ne.symm s7) e,λj t ht=>?_,Z.old,Z.nd,Z.new,λb o hb e=>k b o hb (Z.keep b o hb e)⟩
 ·rcases Z.zip with⟨e1,e2⟩|⟨t,f1,e1,e2⟩
  ·exact .inl ⟨e1,k _ _ (Ne.symm s1) e2⟩
  ·exact .inr ⟨t,f1,e1,k _ _ (Ne.symm s1) e2⟩
 ·obtain⟨a,b,e⟩:=Z.pTO
  exact⟨a,b,k _ _ (Ne.symm s3) e⟩
 ·obtain⟨x,y,a1,a2,a3⟩:=Z.tups j t ht
  exact⟨x,y,a1,a2,k _ _ (Z.old t (zx ht)).1 a3⟩
theorem qev{h0:vX}{S z TI TO i1 i2 l1 l2:vC}{xs ys:Array vB}{res:vB}(hh:A.handled=none)(D:ub z TI TO i1 i2 l1 l2)(hf:∀b∈[z,TO,i1,i2],h0.get? b=none)(hS:S∉[z,TI,TO,i1,i2,l1,l2])(hn:min xs.size ys.size<=sizeLine)(g0:Array ut)(d0:tN)(o0)(hR:∀(h':vX)(tk:Nat)(ts:List vC)(c:Nat),ts.length=min xs.size ys.size->ts.Nodup->(∀t∈ts,t≠S/\h0.objs.size<=t)->Xp h' S (ts.map Value.ref).toArray c->(∀b o,b≠S->h0.get? b=some o->h'.get? b=some o)->(∀(j:Nat)t,ts[j]?=some t->∃x y,xs[j]?=some x/\ys[j]?=some y/\uV h' t x y)->R (.ok (.ret res)) ⟨h',g0,d0,tk,o0⟩):
  ∀(k:Nat)(h:vX)(tk:Nat)(ts:List vC)(c:Nat),min xs.size ys.size-ts.length=k->ts.length<=min xs.size ys.size->ZSt h0 S z TI TO i1 i2 l1 l2 xs ys ts h->Xp h S (ts.map Value.ref).toArray c->h0.objs.size<=h.objs.size ->
   uI (model prog w) A (.builtin "list.extend.loop" ⟨[.ref S,.ref z,res],[]⟩) R ⟨h,g0,d0,tk,o0⟩:=by
 have hS':=hS;simp only[zE,zI,or_false,not_or]at hS';have nz:∀b o,h0.get? b=some o->b≠z/\b≠TO/\b≠i1/\b≠i2:=λb o e=>
  ⟨λq=>(by have:=hf z (by simp);rw[q,this]at e;cases e),λq=>(by have:=hf TO (by simp);rw[q,this]at e;cases e),λq=>(by have:=hf i1 (by simp);rw[q,this]at e;cases e),λq=>(by have:=hf i2 (by simp);rw[q,this]at e;cases e)⟩
 intro k
 induction k with
 | zero=>
  intro h tk ts c hk hi Z hl hsz;have hin:ts.length=min xs.size ys.size:=∅
  refine vt PySem.F.entry_extend_loop ?_;rw[Around.under_plainId PySem.F.plain_extend_loop _];show vL _ A.in1 (v9 (.ref z) >>= _) _ _ _;refine vA (qgz (A:=A.in1) hh D Z hin λh' g=>?_);refine vG (hR h' tk ts c hin Z.nd (λt ht=>⟨(Z.old t ht).1,Z.new t ht⟩) (g _ _ hS'.1 hS'.2.2.1 hS'.2.2.2.1 hS'.2.2.2.2.1 hl) (λb o hb e=>?_) λj t ht=>?_)
  ·obtain⟨n1,n2,n3,n4⟩:=nz b o e
   exact g b o n1 n2 n3 n4 (Z.keep b o hb e)
  ·obtain⟨x,y,a1,a2,a3⟩:=Z.tups j t ht
   have ho:=Z.old t (zx ht);exact⟨x,y,a1,a2,g _ _ ho.2.1 ho.2.2.1 ho.2.2.2.1 ho.2.2.2.2 a3⟩
 | succ k ih=>
  intro h tk ts c hk hi Z hl hsz;have hlt:ts.length<min xs.size ys.size:=∅
  refine vt PySem.F.entry_extend_loop ?_;rw[Around.under_plainId PySem.F.plain_extend_loop _];show vL _ A.in1 (v9 (.ref z) >>= _) _ _ _;refine vA (qf3 (A:=A.in1) D hf hS Z ⟨_,hl⟩ hsz hlt λh' t Z' hk' hsz'=>?_);have hl':=hk' _ hl;show vL _ A.in1 (ui S (·.push (.ref t)) >>= _) _ _ _;refine vA ?_;have sz:(ts.map Value.ref).toArray.size=ts.length:=by simp
  have e:=get?_update_seq hl' (·.push (Value.ref t));have e2:(ts.map Value.ref).toArray.push (.ref t)=((ts++[t]).map Value.ref).toArray:=by simp
  rw[e2]at e;refine vx hl' rfl (vG ⟨vy PySem.F.plain_extend_loop _,ih _ _ (ts++[t]) _ (by rw[zC,zH];omega) (by rw[zC,zH];omega) (q9V hS Z' λb o hb e=>?_) e (by rw[wI];exact zm hsz hsz')⟩)
   (by rw[sz];omega) (by show ((ts.map Value.ref).toArray.push (.ref t)).size<=sizeLine+1;rw[Zi,sz];omega)
  exact(yB _ _ (Ne.symm hb)).trans e
theorem qcQ{h0:vX}{S z TI TO i1 i2 l1 l2:vC}{xs ys:Array vB}{res:vB}{c₀:Nat}(hh:A.handled=none)(D:ub z TI TO i1 i2 l1 l2)(hf:∀b∈[z,TO,i1,i2],h0.get? b=none)(hS:S∉[z,TI,TO,i1,i2,l1,l2])(hn:min xs.size ys.size<=sizeLine)(Z:ZSt h0 S z TI TO i1 i2 l1 l2 xs ys [] s.heap)(hl:Xp s.heap S #[] c₀)(hsz:h0.objs.size<=s.heap.objs.size)(hR:∀(h':vX)(tk:Nat)(ts:List vC)(c:Nat),ts.length=min xs.size ys.size->ts.Nodup->(∀t∈ts,t≠S/\h0.objs.size<=t)->Xp h' S (ts.map Value.ref).toArray c->(∀b o,b≠S->h0.get? b=some o->h'.get? b=some o)->(∀(j:Nat)t,ts[j]?=some t->∃x y,xs[j]?=some x/\ys[j]?=some y/\uV h' t x y)->R (.ok (.ret res)) { s with heap:=h',toks:=tk }):
  vL (model prog w) A.in1 (Builtin.List.listExtendWith (.ref S) (.ref z) res)
   (λfin s'=>match fin with|.done f=>R (.ok f) s'|.again c'=>c'.quiet=true/\uI (model prog w) A c' R s') (λe s'=>R (.error e) s') s:=by
 obtain⟨hp,g,d,tk,os⟩:=s;have hS':=hS;simp only[zE,zI,or_false,not_or]at hS';obtain⟨_,hz⟩|⟨t,_,ht,_⟩:=Z.zip
 rotate_left
 ·cases ht
 have hT:Shared.TypeIs ⟨hp,g,d,tk,os⟩ (.ref z) "zip" := ⟨_,hz,rfl⟩;unfold Builtin.List.listExtendWith;refine vA (uL (T := "zip") hT ?_);have h1:Builtin.List.listSameRef (.ref S) (.ref z)=false:=by simp[Builtin.List.listSameRef,hS'.1]
 have h2:(Value.type "zip" == Value.type "list")=false:=by decide
 have h3:(Value.type "zip" == Value.type "tuple")=false:=by decide
 simp only[h1,h2,h3,yg,z9,if_false];refine vA (uw hz ?_);refine vA (vh ?_);unfold Builtin.List.listLengthHint;refine vA (uH hT PySem.F.noLenZip ?_);show vL _ A.in1 (specialOf (Value.ref z) (Str.ofString "__length_hint__") >>= _) _ _ _;refine vA (uH hT PySem.F.noHintZip ?_);refine vG ?_;have key:∀(h:vX)(c₁:Nat),ZSt h0 S z TI TO i1 i2 l1 l2 xs ys [] h->Xp h S #[] c₁->h0.objs.size<=h.objs.size->uI (model prog w) A (.builtin "list.extend.loop" ⟨[.ref S,.ref z,res],[]⟩) R ⟨h,g,d,tk,os⟩ :=
  λh c₁ Z' hl' z'=>qev hh D hf hS hn g d os (λh' tk' ts c a1 a2 a3 a4 a5 a6=>hR h' tk' ts c a1 a2 a3 a4 a5 a6) _ h tk [] c₁ rfl (zu _) Z' hl' z'
 refine vW (λ_=>?_) (λ_=>vG ⟨vy PySem.F.plain_extend_loop _,key _ c₀ Z hl hsz⟩);refine vA (uY ?_);refine vA ?_;show vL _ _ (ui S (·.push .none) >>= λ_=>ui S (·.pop)) _ _ _;refine vA (vx hl rfl ?_);have hS₂:=xT (Obj.mapSeq (·.push Value.none)) hl rfl;refine vx (hz:=by seq_fits) hS₂ rfl ?_;have hS₃:=xT (Obj.mapSeq (·.pop)) hS₂ rfl;refine vG ⟨vy PySem.F.plain_extend_loop _,key _ _ (q9V hS Z λb o hb e=>?_) hS₃ (by rw[wI,wI];exact hsz)⟩;exact(yB _ _ (Ne.symm hb)).trans ((yB _ _ (Ne.symm hb)).trans e)
theorem qeS{l1 l2:vC}{xs ys:Array vB}{Q:vB->vF->Prop}{s0:vF}(hh:A.handled=none)(hl1:s0.heap.IsList l1 xs)(hl2:s0.heap.IsList l2 ys)(hn:min xs.size ys.size<=sizeLine)(hz:IsZip s.heap (s0.heap.objs.size+4) (s0.heap.objs.size+2) (s0.heap.objs.size+3) .none)(hp1:uV s.heap (s0.heap.objs.size+2) (.ref s0.heap.objs.size) (.ref (s0.heap.objs.size+1)))(hp2:uV s.heap (s0.heap.objs.size+3) .none .none)(hi1:s.heap.IsListIter s0.heap.objs.size l1 0)(hi2:s.heap.IsListIter (s0.heap.objs.size+1) l2 0)(hs:s.heap.objs.size=s0.heap.objs.size+5)(hk:∀c o,s0.heap.get? c=some o->s.heap.get? c=some o)(hQ:∀(h':vX)(tk:Nat)(S:vC)(ts:List vC)(c:Nat),s0.heap.objs.size<=S->ts.length=min xs.size ys.size->ts.Nodup->(∀t∈ts,t≠S/\s0.heap.objs.size<=t)->Xp h' S (ts.map Value.ref).toArray c->(∀b o,s0.heap.get? b=some o->h'.get? b=some o) ->
   (∀(j:Nat)t,ts[j]?=some t->∃x y,xs[j]?=some x/\ys[j]?=some y/\uV h' t x y)->Q (.ref S) { s with heap:=h',toks:=tk }) :
  vL (model prog w) A (call (.type "list") [.ref (s0.heap.objs.size+4)]) Q E s:=by
 refine callType_codes (Q₁:=λobj s₁=>obj=.ref s.heap.objs.size/\s₁={ s with heap:=s.heap.push { cls:=.type "list", data:=.seq #[] } }) PySem.F.called_list (PySem.F.typeCall_list_1 _) PySem.F.entry_list_init
  (code_list_new _ ⟨rfl,rfl⟩) λobj s₁ h₁=>?_
 obtain⟨rfl,rfl⟩:=h₁;have hS:(s.heap.push { cls:=.type "list", data:=.seq #[] }).get? s.heap.objs.size=some { cls:=.type "list", data:=.seq #[] }:=zR _ rfl;refine⟨⟨_,hS,rfl⟩,PySem.F.args_list_init_2 _ _,?_⟩;generalize hn0:s0.heap.objs.size=n at *;have e1:l1<n:=by obtain⟨_,e,_⟩:=hl1;rw[<- hn0];exact zM e
 have e2:l2<n:=by obtain⟨_,e,_⟩:=hl2;rw[<- hn0];exact zM e
 generalize hS0:s.heap.objs.size=S at *;have D:ub (n+4) (n+2) (n+3) n (n+1) l1 l2:=by
  constructor <;> (intro q;simp only[vC]at *;omega)
 have hSn:S∉[n+4,n+2,n+3,n,n+1,l1,l2]:=by
  simp only[zE,zI,or_false,not_or];refine⟨?_,?_,?_,?_,?_,?_,?_⟩ <;> (intro q;simp only[vC]at *;omega)
 have hf:∀b∈[n+4,n+3,n,n+1],s0.heap.get? b=none:=λb hb=>by
  cases q:s0.heap.get? b with
  | none=>rfl
  | some o=>
   have:=zM q;rw[hn0]at this;simp only[zE,zI,or_false]at hb;simp only[vC]at *;omega
 show vL _ _ (do let old <- Builtin.List.listItems (.ref S);Builtin.List.listUpdate (.ref S) (λ_=>#[]);letGo old.toList.reverse;Builtin.List.listExtendWith (.ref S) (.ref (n+4)) .none) _ _ _;refine vA ?_;unfold Builtin.List.listItems;refine vA (uJ hS rfl (vG ?_));show vL _ _ (ui S (λ_=>#[]) >>= λ_=>letGo (#[]:Array vB).toList.reverse >>= λ_=>Builtin.List.listExtendWith (.ref S) (.ref (n+4)) .none) _ _ _;refine vA (vx hS rfl ?_);have hS₂:=get?_update_seq hS (λ_=>(#[]:Array vB));have oth:∀b o,b≠S->s.heap.get? b=some o->((s.heap.push { cls:=.type "list", data:=.seq #[] }).update S (Obj.mapSeq (λ_=>(#[]:Array vB)))).get? b=some o :=
  λb o hb e=>(yB _ _ (Ne.symm hb)).trans (zF _ e)
 refine vA (wpAny_letGo ?_);have hSn':=hSn;simp only[zE,zI,or_false,not_or]at hSn';refine qcQ (A:=A.in1) (h0:=s0.heap) hh D hf hSn hn ⟨.inl ⟨rfl,oth _ _ (Ne.symm hSn'.1) hz⟩,oth _ _ (Ne.symm hSn'.2.1) hp1,⟨_,_,oth _ _ (Ne.symm hSn'.2.2.1) hp2⟩,hi1.at λo e=>oth _ o (Ne.symm hSn'.2.2.2.1) e,hi2.at λo e=>oth _ o (Ne.symm hSn'.2.2.2.2.1) e,
  hl1.at λo e=>oth _ o (Ne.symm hSn'.2.2.2.2.2.1) (hk _ o e),hl2.at λo e=>oth _ o (Ne.symm hSn'.2.2.2.2.2.2) (hk _ o e),λj t ht=>(by simp at ht),λt ht=>(by simp at ht),wB,λt ht=>(by simp at ht),λb o hb e=>oth b o hb (hk b o e)⟩ hS₂ (by rw[wI,yO,hn0,hS0];simp only[vC]at *;omega) λh' tk ts c a1 a2 a3 a4 a5 a6=>?_
 rw[hn0]at a3;exact⟨rfl,hQ h' tk S ts c (by simp only[vC]at *;omega) a1 a2 a3 a4 (λb o e=>a5 b o (λq=>by
  have:=zM e;rw[hn0,q]at this;simp only[vC]at *;omega) e) a6⟩
end
end Hk
namespace Hk
open PySem L2
section
variable{X:Cx}{pins:List (vC×Obj)}{σ:St}{H H':Hp}{s:vF}
theorem qfu{h':vX}{t':Nat}(I:L2.Inv X pins σ H s)(k:∀b u,s.heap.get? b=some u->h'.get? b=some u)(hs:YO H H')(hn:∀b,H b=none->H' b≠none->s.heap.objs.size<=b)(new:∀b u,H b=none->H' b=some u->YQ X.prog X.w H' h' b u):L2.Inv X pins σ H' { s with heap:=h',toks:=t' }:=by
 refine I.un ⟨λb o q _ _ _=>k b o q,λb o q _ _ _=>⟨o.slots,k b o q⟩,λb o q n _=>?_,λb o q _=>⟨o,k b o q⟩,λb xs q=>hs _ _ q,λb o u q=>hs _ _ q,λb ps q=>⟨#[],by rw[hs _ _ q];simp⟩⟩ λb u e=>?_
 ·cases e:H' b with
  | none=>rfl
  | some u=>exact vK (zM q) (Zn.mpr (hn b n (by rw[e];exact λz=>by cases z)))
 ·cases q:H b with
  | none=>exact new b u q e
  | some u'=>
   have:=hs _ _ q;rw[e]at this;cases this;exact(I.hok b u q).stay (λc v _ z=>k c v z) (λc z=>hs _ _ z) λc xs z=>hs _ _ z
noncomputable def WP(H:Hp):List vC->List V->List V->Hp
 | t::ts,x::xs,y::ys=>upd (WP H ts xs ys) t (.tup [x,y])
 | _,_,_=>H
theorem q5d{b:vC}:∀{ts:List vC}{xs ys:List V},b∉ts->WP H ts xs ys b=H b
 | [],_,_,_=>rfl
 | _::_,[],_,_=>rfl
 | _::_,_::_,[],_=>rfl
 | t::ts,x::xs,y::ys,h=>by
  rw[zE,not_or]at h;show upd _ t _ b=_;rw[qf h.1];exact q5d h.2
theorem q9v:∀{ts:List vC}{xs ys:List V}{j:Nat}{t:vC}{x y:V},ts.Nodup->ts[j]?=some t->xs[j]?=some x->ys[j]?=some y->WP H ts xs ys t=some (.tup [x,y])
 | [],_,_,_,_,_,_,_,h,_,_=>by simp at h
 | _::_,[],_,_,_,_,_,_,_,h,_=>by simp at h
 | _::_,_::_,[],_,_,_,_,_,_,_,h=>by simp at h
 | u::ts,a::xs,b::ys,0,t,x,y,n,h1,h2,h3=>by
  simp at h1 h2 h3;subst h1;subst h2;subst h3;exact qm
 | u::ts,a::xs,b::ys,j+1,t,x,y,n,h1,h2,h3=>by
  simp only[zr]at h1 h2 h3;obtain⟨n1,n2⟩:=yj.mp n;show upd _ u _ t=_;rw[qf (λe=>n1 (by rw[<- e];exact zx h1))];exact q9v n2 h1 h2 h3
def rLZ:List V->Hp->VK->Prop:=λvs H2 Q=>∃p q xs ys,vs=[.ref p,.ref q]/\H2 p=some (.lst xs)/\H2 q=some (.lst ys) /\
 ∀(S:vC)(ts:List vC),H2 S=none->(∀t∈ts,H2 t=none/\t≠S)->ts.Nodup->ts.length=min xs.length ys.length->Q (.ref S) (upd (WP H2 ts xs ys) S (.lst (ts.map V.ref)))
theorem q8g:∀{xs:List V}{us:List vB},YU xs us->∀{j:Nat}{u:vB},us[j]?=some u->∃x,xs[j]?=some x/\RelV x u
 | _,_,.nil,j,u,h=>by simp at h
 | _,_,.cons r1 r2,0,u,h=>by simp at h;subst h;exact⟨_,rfl,r1⟩
 | _,_,.cons r1 r2,j+1,u,h=>by
  simp only[zr]at h ⊢;exact q8g r2 h
theorem q9C:∀(ts:List vC),YU (ts.map V.ref) (ts.map Value.ref)
 | []=>.nil
 | t::r=>.cons rfl (q9C r)
theorem qcS{a b:vQ}{t:TA}{p1 p2 q1 q2:Pos}(hg1:Gl X "list")(hm1:X.mg "list" = none)(hg2:Gl X "zip")(hm2:X.mg "zip" = none)(ha:PA X [a,b] t)(hc:X.calm=true)(he1:vJ [a,b] X.env=(false,eval a X.env)::vJ [b] X.env)(hpl1:(vk q2 (vJ [b] X.env)).any (·.1)=false)(he2:vJ [.Call (.Name "zip" p2) [a,b] [] q2] X.env=(false,eval (.Call (.Name "zip" p2) [a,b] [] q2) X.env)::vJ [] X.env)(hpl2:(vk q1 (vJ [] X.env)).any (·.1)=false):
  PE X (.Call (.Name "list" p1) [.Call (.Name "zip" p2) [a,b] [] q2] [] q1) (tCB rLZ t):=by
 intro pins s σ H Q I h;refine vp (q1S I hg1 hm1 qQ ?_ (by decide) (by decide));refine PyProof.Rows.callWith_type1 ?_ he2 hpl2;rw[he2];show vL _ _ (spliced ((false,eval _ X.env)::vk q1 (vJ [] X.env))) _ _ s;refine Calls.spliced_cons ?_;refine vp (q1S I hg2 hm2 qhK ?_ (by decide) (by decide));refine PyProof.Rows.callWith_type1 (thn (ha q2 pins s σ H _ I h) λus s1 ⟨vs,H1,I1,r1,q1⟩=>?_) he1 hpl1
 ·obtain⟨p,q,xs,ys,rfl,hp,hq,k⟩:=q1
  obtain⟨u1,u2,rfl,e1,e2⟩:=vals2 r1;cases e1;cases e2;obtain⟨its1,n1,rv1,g1,z1⟩:=I1.lst hp;obtain⟨its2,n2,rv2,g2,z2⟩:=I1.lst hq;have il1:s1.heap.IsList p its1.toArray:=⟨_,g1,rfl,n1,rfl⟩;have il2:s1.heap.IsList q its2.toArray:=⟨_,g2,rfl,n2,rfl⟩;refine call_zip_2 il1 il2 λh' a1 a2 a3 a4 a5 a6 a7=>?_;refine Calls.spliced_nil ?_;have len1:its1.toArray.size=xs.length:=by rw[zO,rv1.length]
  have len2:its2.toArray.size=ys.length:=by rw[zO,rv2.length]
  refine qeS (s0:=s1) (I1.ok.hd hc) il1 il2 (by rw[len1];exact zm (w9 _ _) z1) a1 a2 a3 a4 a5 a6 a7 λh2 tk S ts c b1 b2 b3 b4 b5 b6 b7=>?_;rw[len1,len2]at b2;have fS:H1 S=none:=I1.hok.fresh b1;have ft:∀t∈ts,H1 t=none:=λt ht=>I1.hok.fresh (b4 t ht).2;have hsame:YO H1 (upd (WP H1 ts xs ys) S (.lst (ts.map V.ref))):=λb u e=>by
   have nS:b≠S:=λz=>by rw[z,fS]at e;cases e
   have nt:b∉ts:=λz=>by rw[ft b z]at e;cases e
   rw[qf nS,q5d nt];exact e
  have tup:∀(j:Nat)t,ts[j]?=some t->∃x y,xs[j]?=some x/\ys[j]?=some y/\WP H1 ts xs ys t=some (.tup [x,y])/\YQ X.prog X.w (upd (WP H1 ts xs ys) S (.lst (ts.map V.ref))) h2 t (.tup [x,y]):=λj t ht=>by
   obtain⟨x',y',c1,c2,c3⟩:=b7 j t ht;obtain⟨x,d1,d2⟩:=q8g rv1 (j:=j) (u:=x') ⇑c1;obtain⟨y,d3,d4⟩:=q8g rv2 (j:=j) (u:=y') ⇑c2;exact⟨x,y,d1,d3,q9v b3 ht d1 d3,⟨by show 2<=sizeLine;decide,[x',y'],.cons d2 (.cons d4 .nil),⟨_,c3,rfl,_,rfl⟩⟩⟩
  refine⟨.ref S,_,qfu (s:=s1) (t':=tk) I1 b6 hsame (λb n1 n2=>?_) (λb u n1 n2=>?_),rfl,k S ts fS (λt ht=>⟨ft t ht,(b4 t ht).1⟩) b3 b2⟩
  ·by_cases e:b=S
   ·rw[e];exact b1
   ·by_cases e':b∈ts
    ·exact(b4 b e').2
    ·rw[qf e,q5d e']at n2;exact vK n1 n2
  ·by_cases e:b=S
   ·subst e
    rw[qm]at n2;cases n2;refine⟨?_,ts.map Value.ref,c,q9C ts,b5⟩;rw[zA,b2];exact zm (w9 _ _) z1
   ·by_cases e':b∈ts
    ·obtain⟨j,hj,ej⟩:=zn.mp e'
     obtain⟨x,y,_,_,m1,m2⟩:=tup j b (by rw[zD hj,ej]);rw[qf e,m1]at n2;cases n2;exact m2
    ·rw[qf e,q5d e',n1]at n2;cases n2
noncomputable def pairD(x y:D):D:=.tup [x,y]
noncomputable def XF:List D->Option R
 | [.lst xs,.lst ys]=>some (.fr (wu pairD xs ys))
 | _=>none
theorem q6Z{K:zB}{G:Hp}:∀{ds:List D}{ts:List vC},ds.length=ts.length->(∀(j:Nat)d t,ds[j]?=some d->ts[j]?=some t->Rep K G d (.ref t))->YA K G ds (ts.map V.ref)
 | [],[],_,_=>rfl
 | [],_::_,h,_=>by simp at h
 | _::_,[],h,_=>by simp at h
 | d::ds,t::ts,h,f=>⟨.ref t,_,rfl,f 0 d t rfl rfl,q6Z ⇑h λj e u h1 h2=>f (j+1) e u ⇑h1 ⇑h2⟩
theorem qd6{K:zB}:Xa K rLZ XF:=by
 intro G H ds vs d Q s e hv k
 match ds,e with
 | [.lst xs,.lst ys],e=>
  cases e;obtain⟨v,u,rfl,h,h'⟩:=hv.two;obtain⟨p,us,rfl,h1,h2⟩:=h.lst s;obtain⟨q,ws,rfl,h3,h4⟩:=h'.lst s;refine⟨p,q,us,ws,rfl,h1,h3,λS ts hS ht nd hl=>?_⟩
  let G':Hp:=λb=>if b∈ts then WP H ts us ws b else G b
  have hout:∀b,b∉ts->G' b=G b:=λb z=>vN z;have hin:∀b,b∈ts->G' b=WP H ts us ws b:=λb z=>vM z;have gg:YO G G':=λb o z=>by
   have n:b∉ts:=λy=>by rw[s.free (ht b y).1]at z;cases z
   rw[hout b n];exact z
  have hh:YO H (upd (WP H ts us ws) S (.lst (ts.map V.ref))):=λb o z=>by
   have nS:b≠S:=λy=>by rw[y,hS]at z;cases z
   have n:b∉ts:=λy=>by rw[(ht b y).1]at z;cases z
   rw[qf nS,q5d n];exact z
  have gh:YO G' (upd (WP H ts us ws) S (.lst (ts.map V.ref))):=λb o z=>by
   by_cases y:b∈ts
   ·rw[hin b y]at z
    rw[qf (ht b y).2];exact z
   ·rw[hout b y]at z
    exact hh b o (s _ _ z)
  have x:Ext G H G' (upd (WP H ts us ws) S (.lst (ts.map V.ref))):=⟨gg,gh,hh,λb z1 z2=>by
   have n:b∉ts:=λy=>z2 (ht b y).1;rw[hout b n];exact z1⟩
  have nS:S∉ts:=λy=>(ht S y).2 rfl;refine k _ G' _ x ⟨S,_,rfl,hS,by rw[hout S nS];exact s.free hS,qm,q6Z ?_ λj d t e1 e2=>?_⟩
  ·rw[List.length_zipWith,hl,h2.len,h4.len]
  ·rw[List.getElem?_zipWith]at e1
   cases q1:xs[j]? with
   | none=>rw[q1]at e1;cases e1
   | some a=>
    cases q2:ys[j]? with
    | none=>rw[q1,q2]at e1;cases e1
    | some b=>
     rw[q1,q2]at e1;cases e1;obtain⟨va,y1,y2⟩:=h2.get q1;obtain⟨vb,y3,y4⟩:=h4.get q2;refine⟨t,[va,vb],rfl,?_,YA.cons (y2.mono gg) (YA.cons (y4.mono gg) YA.nil)⟩;rw[hin t (zx e2)];exact q9v nd e2 y1 y3
theorem qd7{a b:vQ}{g:FA}{p1 p2 q1 q2:Pos}(hg1:Gl X "list")(hm1:X.mg "list" = none)(hg2:Gl X "zip")(hm2:X.mg "zip" = none)(ha:XVA X [a,b] g)(hc:X.calm=true:=by rfl)(he1:vJ [a,b] X.env=(false,eval a X.env)::vJ [b] X.env:=by rfl)(hpl1:(vk q2 (vJ [b] X.env)).any (·.1)=false:=by rfl)(he2:vJ [.Call (.Name "zip" p2) [a,b] [] q2] X.env=(false,eval (.Call (.Name "zip" p2) [a,b] [] q2) X.env)::vJ [] X.env:=by rfl)(hpl2:(vk q1 (vJ [] X.env)).any (·.1)=false:=by rfl):
  XE X (.Call (.Name "list" p1) [.Call (.Name "zip" p2) [a,b] [] q2] [] q1) (Yg XF g):=by
 obtain⟨t,h1,h2⟩:=ha;exact⟨_,qcS hg1 hm1 hg2 hm2 h1 hc he1 hpl1 he2 hpl2,q9b qd6 h2⟩
end
section
variable{X:Cx}
end
noncomputable def whD(c:FT)(b:FS):Nat->FS
 | 0=>λ_=>none
 | n+1=>λω=>(c ω).bind λk=>if k=true then (b ω).bind (λp=>match p.1 with
   | .nx=>whD c b n p.2
   | .ct=>whD c b n p.2
   | .bk=>some (.nx,p.2)
   | .rt r=>some (.rt r,p.2))else some (.nx,ω)
noncomputable def sWh(n:Nat)(c:FT)(b:FS):FS:=whD c b n
section
variable{X:Cx}{c:vQ}{body:List vf}{fc:FT}{fb:FS}{pos:Pos}{n:Nat}
theorem qdS{K:zB}{t:TT}{u:TS}(h2:WC K t fc)(h4:SimS K u fb):SimS K (zAg t u) (sWh n fc fb):=by
 intro G0 H0 G ω σ H out ω' E o e k;refine⟨λm σ1 H1=>∃G1 ω1,Own K G0 H0 G1 ω1 σ1 H1/\YO G G1/\whD fc fb m ω1=some (out,ω'),⟨n,G,ω,o,YO.refl _,e⟩,λm σ1 H1 ⟨G1,ω1,o1,g1,e1⟩=>?_⟩;cases m with
 | zero=>cases e1
 | succ m=>
  obtain⟨b,q,e1⟩:=bnd e1;refine h2 G0 H0 G1 ω1 σ1 H1 b _ o1 q λG2 H2 x2=>?_;cases b with
  | false=>cases e1;exact k G2 σ1 H2 (o1.keep x2) (g1.trans x2.gg)
  | true=>
   rw[vM rfl];rw[vM rfl]at e1;obtain⟨⟨o3,ω3⟩,q3,e1⟩:=bnd e1;refine⟨λσ' H'=>∃G1 ω1,Own K G0 H0 G1 ω1 σ' H'/\YO G G1/\whD fc fb m ω1=some (out,ω'),λσ' H' z=>⟨m,ya m,z⟩,?_⟩;refine h4 G0 H0 G2 ω1 σ1 H2 o3 ω3 _ (o1.keep x2) q3 λG4 σ4 H4 o4 g4=>?_;have gg:=(g1.trans x2.gg).trans g4;cases o3 with
   | nx=>exact⟨G4,ω3,o4,gg,e1⟩
   | ct=>exact⟨G4,ω3,o4,gg,e1⟩
   | bk=>cases e1;exact k G4 σ4 H4 o4 gg
   | rt r=>cases e1;exact k G4 σ4 H4 o4 gg
theorem qff(hp:tD (model X.prog X.w) X.A X.env X.xe)(hc:XT X c fc)(hb:XSs X body fb):XS X (.While c body [] pos) (sWh n fc fb):=by
 obtain⟨t,h1,h2⟩:=hc;obtain⟨u,h3,h4⟩:=hb;exact⟨_,qeD hp h1 h3,qdS h2 h4⟩
end
section
variable{fc:FT}{fb:FS}
def stepW(I:WSt->Prop)(μ:WSt->Nat)(m:Nat)(J:WSt->Prop)(o:Option (Out×WSt)):Prop:=match o with
 | some (.nx,w)=>I w/\μ w<m
 | some (.ct,w)=>I w/\μ w<m
 | some (.bk,w)=>J w
 | _=>False
theorem qaW(I:WSt->Prop)(μ:WSt->Nat)(J:WSt->Prop)(stop:∀ω,I ω->fc ω=some false->J ω)(turn:∀ω,I ω->∃k,fc ω=some k/\(k=true->stepW I μ (μ ω) J (fb ω))):
  ∀(n:Nat)(ω:WSt),I ω->μ ω<n->∃ω',whD fc fb n ω=some (.nx,ω')/\J ω'
 | 0,_,_,z=>vK z (wN _)
 | n+1,ω,h,z=>by
  obtain⟨k,e,t⟩:=turn ω h;show ∃ω',((fc ω).bind _)=_/\_;rw[e];cases k with
  | false=>exact⟨ω,rfl,stop ω h e⟩
  | true=>
   have t:=t rfl;rw[show ∀(f:Bool->Option (Out×WSt)),(some true).bind f=f true from λ_=>rfl,vM rfl];cases q:fb ω with
   | none=>rw[q]at t;exact t.elim
   | some p=>
    rw[q]at t;obtain⟨o,w⟩:=p;cases o with
    | nx=>exact qaW I μ J stop turn n w t.1 (by have:=t.2;omega)
    | ct=>exact qaW I μ J stop turn n w t.1 (by have:=t.2;omega)
    | bk=>exact⟨w,rfl,t⟩
    | rt r=>exact t.elim
theorem qhB{n:Nat}(I:WSt->Prop)(μ:WSt->Nat)(J:WSt->Prop)(stop:∀ω,I ω->fc ω=some false->J ω)(turn:∀ω,I ω->∃k,fc ω=some k/\(k=true->stepW I μ (μ ω) J (fb ω))){ω:WSt}(h:I ω)(z:μ ω<n):∃ω',sWh n fc fb ω=some (.nx,ω')/\J ω':=qaW I μ J stop turn n ω h z
end
theorem YA.rev{K:zB}{H:Hp}:∀{ds:List D}{vs:List V},YA K H ds vs->YA K H ds.reverse vs.reverse
 | [],_,h=>by cases (show _=_ from h);rfl
 | _::_,_,⟨v,r,h1,h2,h3⟩=>by rw[h1,xk,xk];exact(YA.rev h3).app (YA.cons h2 YA.nil)
section
variable{X:Cx}{pos:Pos}{o:vQ}{apos cpos:Pos}{i:Nat}
end
noncomputable abbrev FM:=WSt->Option (D×WSt)
def SimM(K:zB)(t:TE)(f:FM):Prop:=∀G0 H0 G ω σ H d ω'(Q:VK),Own K G0 H0 G ω σ H->f ω=some (d,ω') ->
 (∀v G' H',Own K G0 H0 G' ω' σ H'->YO G G'->Rep K G' d v->Q v H')->t σ H Q
def XM(X:Cx)(e:vQ)(f:FM):Prop:=∃t,PE X e t/\SimM X.K t f
section
variable{X:Cx}{pos:Pos}{o e:vQ}{apos cpos pos':Pos}{i:Nat}{fd:FD}{f:FM}
noncomputable def zAQ(i:Nat)(f:FM):FS:=λω=>(f ω).map λp=>(.nx,p.2.set i (some (.sh p.1)))
theorem qgr{x:Str}(hN:X.N.Nodup)(hi:X.N[i]?=some x)(hx:Loc X.env.scope x)(he:XM X e f)(hs:vm e (some (.Name x pos')) pos.line X.env=pure false:=by rfl)(hf:X.fn x=true\/X.env.scope.names.lookup x=some .local:=by first|exact .inl rfl|exact .inr rfl|assumption):
  XS X (.Assign [.Name x pos'] e pos) (zAQ i f):=by
 obtain⟨t,h1,h2⟩:=he;refine⟨_,q61 hN hi hx h1 hs hf,λG0 H0 G ω σ H out ω' E o e k=>?_⟩;unfold zAQ at e;cases q:f ω with
 | none=>rw[q]at e;cases e
 | some p=>
  obtain⟨d,ω1⟩:=p;rw[q]at e;cases e;exact h2 G0 H0 G ω σ H d ω1 _ o q λv G1 H1 o1 g1 r1=>k G1 _ H1 (o1.setSh r1) g1
end
section
variable{X:Cx}{a b c:vQ}{pos:Pos}{fa fb fc:FD}{op op':tV}{p p':Int->Int->Bool}
end
noncomputable def zA4(x:Int):List Int->List Int
 | []=>[x]
 | y::r=>if x<=y then x::y::r else y::zA4 x r
noncomputable def YN(ns:List Int):List Int:=ns.foldr zA4 []
theorem q78{x:Int}:∀{l:List Int},(zA4 x l).Perm (x::l)
 | []=>.refl _
 | y::r=>by
  unfold zA4
  by_cases h:x<=y
  ·rw[vM h]
  ·rw[vN h];exact(q78.cons y).trans (.swap x y r)
theorem q0i:∀{l:List Int},(YN l).Perm l
 | []=>.refl _
 | y::r=>q78.trans ((q0i (l:=r)).cons y)
theorem qcn{x:Int}:∀{l:List Int},l.Pairwise (· <= ·)->(zA4 x l).Pairwise (· <= ·)
 | [],_=>List.pairwise_singleton _ _
 | y::r,h=>by
  obtain⟨h1,h2⟩:=zg.mp h;unfold zA4
  by_cases z:x<=y
  ·rw[vM z]
   refine zg.mpr ⟨λa ha=>?_,h⟩;cases ha with
   | head=>exact z
   | tail _ ha=>exact Int.le_trans z (h1 a ha)
  ·rw[vN z]
   refine zg.mpr ⟨λa ha=>?_,qcn h2⟩;cases (q78.mem_iff.mp ha:a∈x::r)with
   | head=>omega
   | tail _ ha=>exact h1 a ha
theorem q3Y:∀{l:List Int},(YN l).Pairwise (· <= ·)
 | []=>.nil
 | y::r=>qcn (q3Y (l:=r))
theorem q54:∀{l m:List Int},l.Pairwise (· <= ·)->m.Pairwise (· <= ·)->l.Perm m->l=m
 | [],m,_,_,p=>(List.Perm.nil_eq p)
 | a::l,m,h,h',p=>by
  cases m with
  | nil=>exact vK p.length_eq (by simp)
  | cons b m=>
   obtain⟨h1,h2⟩:=zg.mp h;obtain⟨h3,h4⟩:=zg.mp h';have hab:a=b:=by
    have x1:a∈b::m:=p.mem_iff.mp (.head _);have x2:b∈a::l:=p.mem_iff.mpr (.head _);cases x1 with
    | head=>rfl
    | tail _ x1=>
     cases x2 with
     | head=>rfl
     | tail _ x2=>have:=h3 a x1;have:=h1 b x2;omega
   subst hab;rw[q54 h2 h4 p.cons_inv]
theorem q9M(l:List Int):(YN l).length=l.length:=q0i.length_eq
def rSortL:List V->Hp->VK->Prop:=λxs H Q=>∃p ns,xs=[.ref p]/\H p=some (.lst (ns.map V.int))/\ns.length<64/\∀l,H l=none->Q (.ref l) (upd H l (.lst ((YN ns).map V.int)))
noncomputable def zAd:D->Option R
 | .lst ds=>(intsOf ds).bind λns=>if ns.length<64 then some (.fr ((YN ns).map D.int))else none
 | _=>none
noncomputable def X6(f:FD):FE:=λω=>(f ω).bind zAd
section
variable{X:Cx}
theorem qcL:Yy X (.builtin "sorted") rSortL:=by
 intro pins s σ H xs us Q I r h;obtain⟨p,ns,rfl,hp,hz,q⟩:=h;obtain⟨u,rfl,rx⟩:=vals1 r;cases rx;obtain⟨its,n,rv,e,_⟩:=I.lst hp;have hlen:its.length=ns.length:=by rw[<- rv.length,zA]
 refine PyProof.Rows.sorted_ints ⟨_,e,rfl,n,rfl⟩ (q6r rv) ∅ λout ns' a1 a2 a3=>?_;obtain⟨m,hm⟩:=PyProof.Rows.sortedAll_at s.heap its out;have en:ns'=YN ns:=q54 a3 q3Y (a2.trans q0i.symm);subst en;have hsl:(YN ns).length<=sizeLine:=by rw[q9M];exact zm (yL hz) (by decide)
 have I2:=I.laid (a:=s.heap.objs.size+1) (o:=.lst ((YN ns).map V.int)) (t':=s.toks) (λb o e=>PyProof.Rows.sortedAll_old e) (xn _)
  (show YQ X.prog X.w _ (PyProof.Rows.sortedAll s.heap its out) _ (.lst _)from ⟨by rw[zA];exact hsl,out.toList,m,q4d a1,by rw[wL];exact hm⟩)
 exact⟨.ref _,_,I2,rfl,q _ (I.hok.fresh (xn _))⟩
theorem qcd{a:vQ}{f:FD}{p q:Pos}(hg:Gl X "sorted")(hm:X.mg "sorted" = none)(ha:XV X a f)(he:vJ [a] X.env=(false,eval a X.env)::vJ [] X.env:=by rfl)(hpl:(vk q (vJ [] X.env)).any (·.1)=false:=by rfl):XE X (.Call (.Name "sorted" p) [a] [] q) (X6 f):=by
 obtain⟨t,h1,h2⟩:=ha;refine⟨_,q5D qcL hg hm q7b (q0G h1 q1l he) (by decide) (by decide) he hpl,λG0 H0 G ω σ H r Q o e k=>?_⟩;obtain⟨d,z,e⟩:=bnd e;refine h2 G0 H0 G ω σ H d _ o z λv G1 H1 x1 y1=>?_;cases d with
 | lst ds=>
  obtain⟨ns,e1,e2⟩:=bnd (show (intsOf ds).bind _=some r from e);have hds:=q5K e1;subst hds
  by_cases hz:ns.length<64
  ·rw[vM hz]at e2
   cases e2;obtain⟨p,vs,rfl,g1,g2⟩:=y1.lst x1.gh;have hv:=g2.of_ints;subst hv;refine⟨p,ns,rfl,g1,hz,λl hl=>?_⟩;have x2:=Ext.hide x1.gh hl (.lst ((YN ns).map V.int));exact k _ G1 _ (x1.trans x2) ⟨l,_,rfl,x1.hh.free hl,x1.gh.free hl,qm,YA.ints _⟩
  ·rw[vN hz]at e2;cases e2
 | _=>cases e
end
end Hk
namespace Hk
open PySem PySem.Spec PyProof.Rows
theorem zAV:uX (.type "list_reverseiterator") "__len__" = pure none:=by rw[vv,vi];kernel_rfl
theorem zAs:uX (.type "list_reverseiterator") "__length_hint__" = pure (some (.builtin "list_reverseiterator.__length_hint__")):=by rw[vv,vi];kernel_rfl
section
variable{prog:vO}{w:vU}{A:vY}{E:vB->vF->Prop}{s:vF}
theorem qf5{r:vC}{Q:Bool->vF->Prop}(hT:s.TypeIs (.ref r) "list_reverseiterator")(h:Q false s):vL (model prog w) A (Builtin.List.listLengthHint (.ref r)) Q E s:=by
 unfold Builtin.List.listLengthHint;refine vA (uH hT zAV ?_);show vL _ A (specialOf (Value.ref r) (Str.ofString "__length_hint__") >>= _) _ _ _;refine vA (uH hT zAs ?_);generalize hid:("list_reverseiterator.__length_hint__" : String)=id0
 wp_delta
 rw[show splitId id0=some ("list_reverseiterator", "__length_hint__")from by subst hid;decide +kernel];subst hid;refine vA (uA (T := "list_reverseiterator") (b:=true) hT (by rw[uU];kernel_rfl) ?_);refine vW (λhab=>vK hab (by decide)) (λ_=>?_);refine vW (λ_=>?_) (λhab=>vK ⋯ hab);refine vW (λhab=>vK hab ⋯) (λ_=>?_);exact vG h
theorem qd8{R:tJ->vF->Prop}{S I l:vC}{items:Array vB}{res:vB}{c₀:Nat}(hh:A.handled=none)(hn:items.size<=sizeLine)(hSI:S≠I)(hSl:S≠l)(hne:l≠I)(hit:s.heap.IsRevIter I l ((items.size:Int)-1))(hl:s.heap.IsList l items)(hS:Xp s.heap S #[] c₀)(hR:∀(h':vX)(tk:Nat)(c:Nat),(∀b o,b≠S->b≠I->s.heap.get? b=some o->h'.get? b=some o)->Xp h' S items.reverse c->R (.ok (.ret res)) { s with heap:=h',toks:=tk }):
  vL (model prog w) A.in1 (Builtin.List.listExtendWith (.ref S) (.ref I) res)
   (λfin s'=>match fin with|.done f=>R (.ok f) s'|.again c'=>c'.quiet=true/\uI (model prog w) A c' R s') (λe s'=>R (.error e) s') s:=by
 have W:=Walks.listRev (prog:=prog) (w:=w) (A:=A.in1) hh I l hne items;have hT:=hit.typeIs;have hSf:S∉[I,l]:=by simp[hSI,hSl]
 unfold Builtin.List.listExtendWith;refine vA (uL (T := "list_reverseiterator") hT ?_);rw[show Builtin.List.listSameRef (.ref S) (.ref I)=false by simp[Builtin.List.listSameRef,hSI],show (Value.type "list_reverseiterator" == Value.type "list")=false by decide,show (Value.type "list_reverseiterator" == Value.type "tuple")=false by decide];refine vW (λhab=>vK hab (by decide)) (λ_=>?_);refine vA (uc hit ?_);refine vA (vh (qf5 hT ?_));refine vW (λhab=>vK hab (by decide)) (λ_=>?_);have st:0<=items.size/\s.heap.IsRevIter I l ((items.size:Int)-1-((0:Nat):Int))/\s.heap.IsList l items:=⟨zu _,by simpa using hit,hl⟩;refine vG ⟨vy PySem.F.plain_extend_loop _,u6 W.toS hn S hSf res items.size 0 _ #[] c₀ rfl (zu _) st hS (ItemsOf.nil _) λs' acc' c' hm hS' hacc=>?_⟩;rw[Moved.eq_with hm];have e:acc'=items.reverse:=by
  apply Array.ext_getElem?;intro j;rcases yC j items.size with z|z
  ·have hz:j<acc'.size:=by rw[hacc.1];exact z
   have q:acc'[j]?=some acc'[j]:=zk hz;rw[q,Array.getElem?_reverse z];exact(hacc.2 j _ q).symm
  ·rw[yN (by rw[hacc.1];exact z),yN (by rw[Array.size_reverse];exact z)]
 subst e;exact hR s'.heap s'.toks c' (λb o b1 b2 e=>hm.heap b o (by simp[b1,b2]) e) hS'
theorem qeE{l:vC}{items:Array vB}{Q:vB->vF->Prop}(hh:A.handled=none)(hn:items.size<=sizeLine)(hl:s.heap.IsList l items)(hQ:∀(h':vX)(tk:Nat)(S:vC)(c:Nat),s.heap.objs.size<=S->(∀b o,s.heap.get? b=some o->h'.get? b=some o)->Xp h' S items.reverse c->Q (.ref S) { s with heap:=h',toks:=tk }):
  vL (model prog w) A (call (.type "list") [.ref s.heap.objs.size]) Q E { s with heap:=s.heap.push (tU l ((items.size:Int)-1)) }:=by
 have hll:l<s.heap.objs.size:=by obtain⟨_,e,_⟩:=hl;exact zM e
 have gI:(s.heap.push (tU l ((items.size:Int)-1))).get? s.heap.objs.size=some (tU l ((items.size:Int)-1)):=zR _ rfl;have k1:∀b o,s.heap.get? b=some o->(s.heap.push (tU l ((items.size:Int)-1))).get? b=some o:=λb o e=>zF _ e;generalize hI:s.heap.objs.size=I at *;generalize hp:s.heap.push (tU l ((items.size:Int)-1))=h1 at *;have hI1:I<h1.objs.size:=zM gI;have hS:(h1.push { cls:=.type "list", data:=.seq #[] }).get? h1.objs.size=some { cls:=.type "list", data:=.seq #[] }:=zR _ rfl;refine callType_codes (s:={ s with heap:=h1 }) (Q₁:=λobj s₁=>obj=.ref h1.objs.size/\s₁={ s with heap:=h1.push { cls:=.type "list", data:=.seq #[] } }) PySem.F.called_list (PySem.F.typeCall_list_1 _) PySem.F.entry_list_init
  (code_list_new _ ⟨rfl,rfl⟩) λobj s₁ z=>?_
 obtain⟨rfl,rfl⟩:=z;refine⟨⟨_,hS,rfl⟩,PySem.F.args_list_init_2 _ _,?_⟩;generalize hS0:h1.objs.size=S at *;show vL _ _ (do let old <- Builtin.List.listItems (.ref S);Builtin.List.listUpdate (.ref S) (λ_=>#[]);letGo old.toList.reverse;Builtin.List.listExtendWith (.ref S) (.ref I) .none) _ _ _;apply vA;unfold Builtin.List.listItems;refine vA (uJ hS rfl (vG ?_));show vL _ _ (ui S (λ_=>#[]) >>= λ_=>letGo (#[]:Array vB).toList.reverse >>= λ_=>Builtin.List.listExtendWith (.ref S) (.ref I) .none) _ _ _;refine vA (vx hS rfl ?_);have hS2:=get?_update_seq hS (λ_=>(#[]:Array vB));have oth:∀b o,b≠S->h1.get? b=some o->((h1.push { cls:=.type "list", data:=.seq #[] }).update S (Obj.mapSeq (λ_=>(#[]:Array vB)))).get? b=some o :=
  λb o hb e=>(yB _ _ (Ne.symm hb)).trans (zF _ e)
 refine vA (wpAny_letGo ?_);have n1:S≠I:=by simp only[vC]at *;omega
 have n2:S≠l:=by simp only[vC]at *;omega
 have n3:l≠I:=by simp only[vC]at *;omega
 refine qd8 (A:=A.in1) (items:=items) (I:=I) (l:=l) hh hn n1 n2 n3 ⟨_,oth _ _ (Ne.symm n1) gI,rfl,rfl⟩ (hl.at λo e=>oth l o (Ne.symm n2) (k1 l o e)) hS2 λh' tk c kp e=>?_;refine⟨rfl,hQ h' tk S c (by simp only[vC]at *;omega) (λb o z=>?_) e⟩;have hb:b<I:=hI▸zM z;exact kp b o (by simp only[vC]at *;omega) (by simp only[vC]at *;omega) (oth b o (by simp only[vC]at *;omega) (k1 b o z))
end
open L2
def rLR:List V->Hp->VK->Prop:=λvs H Q=>∃p xs,vs=[.ref p]/\H p=some (.lst xs)/\∀S,H S=none->Q (.ref S) (upd H S (.lst xs.reverse))
section
variable{X:Cx}
theorem qd2{a:vQ}{t:TA}{p1 p2 q1 q2:Pos}(hg1:Gl X "list")(hm1:X.mg "list" = none)(hg2:Gl X "reversed")(hm2:X.mg "reversed" = none)(ha:PA X [a] t)(hc:X.calm=true)(he1:vJ [a] X.env=(false,eval a X.env)::vJ [] X.env)(hpl1:(vk q2 (vJ [] X.env)).any (·.1)=false)(he2:vJ [.Call (.Name "reversed" p2) [a] [] q2] X.env=(false,eval (.Call (.Name "reversed" p2) [a] [] q2) X.env)::vJ [] X.env)(hpl2:(vk q1 (vJ [] X.env)).any (·.1)=false):
  PE X (.Call (.Name "list" p1) [.Call (.Name "reversed" p2) [a] [] q2] [] q1) (tCB rLR t):=by
 intro pins s σ H Q I h;refine vp (q1S I hg1 hm1 qQ ?_ (by decide) (by decide));refine PyProof.Rows.callWith_type1 ?_ he2 hpl2;rw[he2];show vL _ _ (spliced ((false,eval _ X.env)::vk q1 (vJ [] X.env))) _ _ s;refine Calls.spliced_cons ?_;refine vp (q1S I hg2 hm2 PyProof.Rows.boot_reversed ?_ (by decide) (by decide));refine PyProof.Rows.callWith_type1 (thn (ha q2 pins s σ H _ I h) λus s1 ⟨vs,H1,I1,r1,z1⟩=>?_) he1 hpl1;obtain⟨p,xs,rfl,hp,k⟩:=z1;obtain⟨u,rfl,e1⟩:=vals1 r1;cases e1;obtain⟨its,n,rv,g1,sz⟩:=I1.lst hp;have il:s1.heap.IsList p its.toArray:=⟨_,g1,rfl,n,rfl⟩;refine tM il (Calls.spliced_nil ?_);refine qeE (I1.ok.hd hc) (by rw[zO,<- rv.length];exact sz) il λh2 tk S c b1 b2 b3=>?_;refine⟨.ref S,_,I1.laid (t':=tk) b2 b1 (show YQ X.prog X.w _ h2 S (.lst xs.reverse)from ⟨by rw[yc];exact sz,its.reverse,c,rv.reverse,by rw[b3];simp⟩),rfl,k S (I1.hok.fresh b1)⟩
noncomputable def oRev:D->Option R
 | .lst ds=>some (.fr ds.reverse)
 | _=>none
noncomputable def fRev(f:FD):FE:=λω=>(f ω).bind oRev
theorem q8m{a:vQ}{f:FD}{p1 p2 q1 q2:Pos}(hg1:Gl X "list")(hm1:X.mg "list" = none)(hg2:Gl X "reversed")(hm2:X.mg "reversed" = none)(ha:XV X a f)(hc:X.calm=true:=by rfl)(he1:vJ [a] X.env=(false,eval a X.env)::vJ [] X.env:=by rfl)(hpl1:(vk q2 (vJ [] X.env)).any (·.1)=false:=by rfl)(he2:vJ [.Call (.Name "reversed" p2) [a] [] q2] X.env=(false,eval (.Call (.Name "reversed" p2) [a] [] q2) X.env)::vJ [] X.env:=by rfl)(hpl2:(vk q1 (vJ [] X.env)).any (·.1)=false:=by rfl):
  XE X (.Call (.Name "list" p1) [.Call (.Name "reversed" p2) [a] [] q2] [] q1) (fRev f):=by
 obtain⟨t,h1,h2⟩:=ha;refine⟨_,qd2 hg1 hm1 hg2 hm2 (q0G h1 q1l he1) hc he1 hpl1 he2 hpl2,λG0 H0 G ω σ H r Q o e k=>?_⟩;obtain⟨d,q,e⟩:=bnd e;refine h2 G0 H0 G ω σ H d _ o q λv G1 H1 x1 y1=>?_;cases d with
 | lst ds=>
  cases e;obtain⟨p,vs,rfl,g1,g2⟩:=y1.lst x1.gh;refine⟨p,vs,rfl,g1,λS hS=>?_⟩;have x2:=Ext.hide x1.gh hS (.lst vs.reverse);exact k _ G1 _ (x1.trans x2) ⟨S,_,rfl,x1.hh.free hS,x1.gh.free hS,qm,g2.rev⟩
 | _=>cases e
end
end Hk
namespace L2
open PySem PySem.Spec PyProof.Rows
theorem Inv.turnedL{X:Cx}{pins:List (vC×Obj)}{σ:List (Option V)}{H:Hp}{s:vF}{h':vX}{t':Nat}{fp:List vC}(I:Inv X pins σ H s)(k:∀b o,b∉fp->s.heap.get? b=some o->h'.get? b=some o)(hf:∀b∈fp,Wm X pins H b):
  Inv X pins σ H { s with heap:=h',toks:=t' }:=by
 have nit:∀b u,H b=some u->b∉fp:=λb u e z=>by have:=(hf b z).1;rw[e]at this;cases this
 refine I.step (g':=s.gens) (d':=s.drawn) (ch:=fp) (λb hb=>?_) (λb o _ _ hc e _=>k b o hc e) (λb o _ _ hc e _=>⟨o.slots,k b o hc e⟩) (λ_ _ _ _ n=>n)
  (λb o hc e=>⟨o,k b o hc e⟩) (λ_ _ e=>e) (λ_ _ _ e=>e) (λb ps e=>⟨#[],by rw[e];simp⟩) (λm hm=>?_) (λb u e=>?_) I.bare
 ·obtain⟨f0,f1,f2,f3,f4,f5⟩:=hf b hb
  exact⟨f3,f1,f4,f5⟩
 ·obtain⟨o,es,ep,ho,r⟩:=hm
  exact⟨o,es,ep,k _ o (λz=>(hf _ z).2.1 rfl) ho,r⟩
 ·refine(I.hok b u e).stay (λc v hc q=>k c v ?_ q) (λ_ q=>q) λ_ _ q=>q
  rcases hc with z|z
  ·rw[z];exact nit b u e
  ·exact nit c _ z
noncomputable def Itz(K:zB)(a b:vC):It :=
 ⟨λi H=>∃xs ys x y,SqL K H a xs/\SqL K H b ys/\xs[i]?=some x/\ys[i]?=some y,
  λi H x H'=>∃t x1 y1,H t=none/\x=.ref t/\H'=upd H t (.tup [x1,y1])/\∀xs ys,SqL K H a xs->SqL K H b ys->xs[i]?=some x1/\ys[i]?=some y1,
  λi H=>∃xs ys,SqL K H a xs/\SqL K H b ys/\(xs[i]?=none\/ys[i]?=none)⟩
theorem qfv{P:vO}{w:vU}{K:zB}{elts:List vQ}{kx}{tpos:Pos}(a b z TI TO i1 i2:vC)(D:ub z TI TO i1 i2 a b):
  Turn P w K (.Tuple elts kx tpos) (Itz K a b) [z,TI,TO,i1,i2] z (λi h=>IsZip h z TI TO .none/\uV h TI (.ref i1) (.ref i2)/\(∃x y,uV h TO x y)/\h.IsListIter i1 a i/\h.IsListIter i2 b i) where
 mem:=by simp
 obj:=λi h st c hc=>by
  obtain⟨s1,s2,⟨_,_,s3⟩,⟨o4,e4,c4,d4⟩,⟨o5,e5,c5,d5⟩⟩:=st;simp only[zE,zI,or_false]at hc;rcases hc with rfl|rfl|rfl|rfl|rfl
  ·exact⟨_,s1,λv y=>by cases (show Data.fields _=Data.cell v from y)⟩
  ·exact⟨_,s2,λv y=>by cases (show Data.seq _ _=Data.cell v from y)⟩
  ·exact⟨_,s3,λv y=>by cases (show Data.seq _ _=Data.cell v from y)⟩
  ·exact⟨_,e4,λv y=>by rw[d4]at y;cases y⟩
  ·exact⟨_,e5,λv y=>by rw[d5]at y;cases y⟩
 keep:=λi h h' st k=>by
  obtain⟨s1,s2,⟨x,y,s3⟩,s4,s5⟩:=st;exact⟨k _ (by simp) _ s1,k _ (by simp) _ s2,⟨x,y,k _ (by simp) _ s3⟩,s4.at λo e=>k _ (by simp) o e,s5.at λo e=>k _ (by simp) o e⟩
 item:=by
  intro X hP hw hK hc i pins s σ H E I hf st hg;subst hP hw hK;obtain⟨xs,ys,x,y,hq1,hq2,hx,hy⟩:=hg;obtain⟨its1,rv1,p1,hz1⟩:=I.list hq1;obtain⟨its2,rv2,p2,hz2⟩:=I.list hq2;obtain⟨u1,hu1,ru1⟩:=rv1.get hx;obtain⟨u2,hu2,ru2⟩:=rv2.get hy;obtain⟨s1,s2,⟨_,_,s3⟩,s4,s5⟩:=st;have ex:∀c∈[z,TI,TO,i1,i2],∃o,s.heap.get? c=some o:=λc hc=>by
   simp only[zE,zI,or_false]at hc;rcases hc with rfl|rfl|rfl|rfl|rfl
   ·exact⟨_,s1⟩
   ·exact⟨_,s2⟩
   ·exact⟨_,s3⟩
   ·obtain⟨o,e,_⟩:=s4;exact⟨o,e⟩
   ·obtain⟨o,e,_⟩:=s5;exact⟨o,e⟩
  have nt:∀c∈[z,TI,TO,i1,i2],c≠s.heap.objs.size:=λc hc=>by
   obtain⟨o,e⟩:=ex c hc;exact ze (zM e)
  refine u3 D s1 s2 s3 s4 s5 p1.isList p2.isList (x:=u1) (y:=u2) (by simpa using hu1) (by simpa using hu2) λh' a1 a2 a3 a4 a5 a6 hk=>?_;have hn:H s.heap.objs.size=none:=I.hok.fresh (zQ _);have I1:Inv X pins σ (upd H s.heap.objs.size (.tup [x,y])) { s with heap:=s.heap.push { cls:=.type "tuple", data:=.seq #[u1,u2] },toks:=s.toks } :=
   I.laid (λb o e=>zF _ e) (zQ _) (show YQ X.prog X.w _ _ _ (.tup [x,y])from ⟨by show 2<=sizeLine;decide,[u1,u2],.cons ru1 (.cons ru2 .nil),⟨_,zR _ rfl,rfl,_,rfl⟩⟩)
  have hf':∀c∈[z,TI,TO,i1,i2],Wm X pins (upd H s.heap.objs.size (.tup [x,y])) c:=λc hc=>by
   obtain⟨f0,f⟩:=hf c hc;exact⟨by rw[qf (nt c hc)];exact f0,f⟩
  have I2:Inv X pins σ (upd H s.heap.objs.size (.tup [x,y])) { s with heap:=h',toks:=s.toks }:=I1.turnedL (λb o hb e=>by
   simp only[zE,zI,or_false,not_or]at hb
   by_cases q:b=s.heap.objs.size
   ·subst q
    rw[zR _ rfl]at e;cases e;exact a5
   ·have e':s.heap.get? b=some o:=by
     rcases yC b s.heap.objs.size with l|l
     ·obtain⟨z1,z2⟩:=xw.mp e
      refine xw.mpr ⟨?_,z2⟩;rw[<- z1];show s.heap.objs[b]?=(s.heap.objs.push _)[b]?;rw[ZJ,vN q]
     ·have:=zM e
      rw[yO]at this;exact vK (by simp only[vC]at *;omega) q
    exact hk b o hb.1 hb.2.2.1 hb.2.2.2.1 hb.2.2.2.2 e') hf'
  refine⟨_,rfl,wpAny_letOwnedTupleGo_zip a1 λh2 b1 sb=>?_⟩;have I3:Inv X pins σ (upd H s.heap.objs.size (.tup [x,y])) { s with heap:=h2,toks:=s.toks }:=I2.turnedL (λb o hb e=>(sb.2 b (λq=>hb (by simp[q]))).trans e) hf';refine⟨.ref s.heap.objs.size,_,I3,rfl,⟨_,x,y,hn,rfl,rfl,λxs' ys' q1 q2=>⟨by rw[I.list_inj q1 hq1];exact hx,by rw[I.list_inj q2 hq2];exact hy⟩⟩,⟨b1,?_,⟨u1,u2,sb.extBut _ _ D.TOz a2⟩,a3.extBut sb.extBut D.i1z,a4.extBut sb.extBut D.i2z⟩,λc hc=>(hf' c hc).1⟩;exact sb.extBut _ _ D.TIz (hk _ _ D.TIz D.TITO D.TIi1 D.TIi2 s2)
 done:=by
  intro X hP hw hK hc i pins s σ H E I hf st hg;subst hP hw hK;obtain⟨xs,ys,hq1,hq2,hx⟩:=hg;obtain⟨its1,rv1,p1,hz1⟩:=I.list hq1;obtain⟨its2,rv2,p2,hz2⟩:=I.list hq2;obtain⟨s1,s2,⟨_,_,s3⟩,s4,s5⟩:=st;have l1:=rv1.length;have l2:=rv2.length;refine u7 (I.ok.hd hc) D s1 s2 s3 s4 s5 p1.isList p2.isList ?_ λh' hk=>⟨rfl,I.turnedL (t':=s.toks) (λb o hb e=>?_) hf⟩
  ·rcases hx with hx|hx
   ·exact .inl (by rw[xo]at hx;simp;omega)
   ·exact .inr (by rw[xo]at hx;simp;omega)
  ·simp only[zE,zI,or_false,not_or]at hb
   exact hk b o hb.1 hb.2.2.1 hb.2.2.2.1 hb.2.2.2.2 e
 self:=λ_ _ _ _ _ st h=>uw st.1 h
noncomputable def iZip(K:zB)(ta:TA):TI:=λσ H R=>ta σ H λvs H1=>∃a b xs ys,vs=[.ref a,.ref b]/\SqL K H1 a xs/\SqL K H1 b ys/\R (Itz K a b) H1
theorem qgM{X:Cx}{a b:vQ}{ta:TA}{p pos tpos:Pos}{elts:List vQ}{kx}(hg:Gl X "zip")(hm:X.mg "zip" = none)(ha:PA X [a,b] ta)(hs:vJ [a,b] X.env=[(false,eval a X.env),(false,eval b X.env)]:=by rfl)(hs2:vJ [b] X.env=[(false,eval b X.env)]:=by rfl):
  PI X (.Tuple elts kx tpos) (.Call (.Name "zip" p) [a,b] [] pos) (iZip X.K ta):=by
 intro pins s σ H R I h;refine Call_ (q1S I hg hm PyProof.Rows.boot_zip (PyProof.Rows.callWith_type1 (thn (ha pos pins s σ H _ I h) λus s1 ⟨vs,H1,I1,r1,q1⟩=>?_) (by rw[hs,hs2]) (by rw[hs2];rfl)));obtain⟨l1,l2,xs,ys,e,hq1,hq2,q⟩:=q1;subst e;cases r1 with
 | cons r rr=>
  cases rr with
  | cons r' rr=>
   cases rr;cases r;cases r';obtain⟨its1,rv1,p1,hz1⟩:=I1.list hq1;obtain⟨its2,rv2,p2,hz2⟩:=I1.list hq2;have e1:l1<s1.heap.objs.size:=by obtain⟨_,_,e,_⟩:=p1;exact zM e
   have e2:l2<s1.heap.objs.size:=by obtain⟨_,_,e,_⟩:=p2;exact zM e
   refine call_zip_2 p1.isList p2.isList λh' a1 a2 a3 a4 a5 a6 hk=>?_;refine uw a1 ?_;have D:ub (s1.heap.objs.size+4) (s1.heap.objs.size+2) (s1.heap.objs.size+3) s1.heap.objs.size (s1.heap.objs.size+1) l1 l2:=by
    generalize s1.heap.objs.size=n at *
    constructor <;> (intro q;simp only[vC]at *;omega)
   refine⟨s1.heap.objs.size+4,[s1.heap.objs.size+4,s1.heap.objs.size+2,s1.heap.objs.size+3,s1.heap.objs.size,s1.heap.objs.size+1],_,_,H1,rfl,I1.kept (t':=s1.toks) hk,qfv l1 l2 _ _ _ _ _ D,⟨a1,a2,⟨_,_,a3⟩,a4,a5⟩,λc hc=>?_,q⟩;have hle:s1.heap.objs.size<=c:=by
    simp only[zE,zI,or_false]at hc;simp only[vC]at *;omega
   have I2:=I1.kept (t':=s1.toks) hk;exact I1.fpOk hle (I1.hok.fresh hle)
end L2
namespace Hk
open PySem L2
noncomputable def Xl:List D->List D->List D
 | a::as,b::bs=>.tup [a,b]::Xl as bs
 | _,_=>[]
theorem q7Y:∀(as bs:List D),(Xl as bs).length=min as.length bs.length
 | a::as,b::bs=>by show (Xl as bs).length+1=_;rw[q7Y as bs,zG,zG];omega
 | [],bs=>by cases bs <;> simp[Xl]
 | a::as,[]=>by simp[Xl]
theorem qbc:∀(as bs:List D)(i:Nat)(d:D),(Xl as bs)[i]?=some d->∃a b,as[i]?=some a/\bs[i]?=some b/\d=.tup [a,b]
 | a::as,b::bs,0,d,h=>by cases h;exact⟨a,b,rfl,rfl,rfl⟩
 | a::as,b::bs,i+1,d,h=>qbc as bs i d h
 | [],bs,i,d,h=>by cases bs <;> cases h
 | a::as,[],i,d,h=>by cases h
theorem qfj{K:zB}{G:Hp}{a b:vC}{ds es:List D}{vs us:List V}(h1:G a=some (.lst vs))(h2:YA K G ds vs)(h3:G b=some (.lst us))(h4:YA K G es us):IterOf K (Itz K a b) G (Xl ds es):=by
 have l1:=h2.len;have l2:=h4.len;refine⟨λH i s hi=>?_,λG2 H i x H' d s0 s1 hd hy=>?_,λH s=>⟨vs,us,SqL.of (s _ _ h1),SqL.of (s _ _ h3),?_⟩⟩
 ·rw[q7Y]at hi
  exact⟨vs,us,vs[i]'∅,us[i]'∅,SqL.of (s _ _ h1),SqL.of (s _ _ h3),zD _,zD _⟩
 ·obtain⟨t,x1,y1,ht,rfl,rfl,y⟩:=hy
  obtain⟨e1,e2⟩:=y vs us (SqL.of (s1 _ _ (s0 _ _ h1))) (SqL.of (s1 _ _ (s0 _ _ h3)));obtain⟨p,q,f1,f2,rfl⟩:=qbc ds es i d hd;obtain⟨v,q1,q2⟩:=h2.get f1;obtain⟨u,q3,q4⟩:=h4.get f2;rw[e1]at q1;cases q1;rw[e2]at q3;cases q3;have x2:=Ext.lay s1 ht (.tup [x1,y1]);exact⟨_,x2,⟨t,_,rfl,qm,YA.cons (q2.mono (s0.trans x2.gg)) (YA.cons (q4.mono (s0.trans x2.gg)) YA.nil)⟩⟩
 ·rw[q7Y]
  rcases Za ds.length es.length with h|h
  ·exact .inl (zt ∅)
  ·exact .inr (zt ∅)
noncomputable def iZp(g:FA):FI:=λω=>(g ω).bind λds=>match ds with
 | [.lst a,.lst b]=>some (Xl a b)
 | _=>none
theorem qbn{X:Cx}{a b:vQ}{g:FA}{p pos tpos:Pos}{elts:List vQ}{kx}(hg:Gl X "zip")(hm:X.mg "zip" = none)(ha:XA X [a,b] g)(hs:vJ [a,b] X.env=[(false,eval a X.env),(false,eval b X.env)]:=by rfl)(hs2:vJ [b] X.env=[(false,eval b X.env)]:=by rfl):
  XI X (.Tuple elts kx tpos) (.Call (.Name "zip" p) [a,b] [] pos) (iZp g):=by
 obtain⟨⟨t,h1,h2⟩,_⟩:=ha;refine⟨_,qgM hg hm h1 hs hs2,λG0 H0 G ω σ H ds R o e k=>?_⟩;obtain⟨vs,q,e⟩:=bnd e;refine h2 G0 H0 G ω σ H vs _ o q λus G1 H1 x1 y1=>?_
 match vs,e with
 | [.lst as,.lst bs],e=>
  cases e;obtain⟨v1,r1,rfl,z1,z2⟩:=y1;obtain⟨v2,r2,rfl,z3,z4⟩:=z2;cases (show r2=[]from z4);obtain⟨a1,ws1,rfl,f1,f2⟩:=z1;obtain⟨a2,ws2,rfl,f3,f4⟩:=z3;exact⟨a1,a2,ws1,ws2,rfl,SqL.of (x1.gh _ _ f1),SqL.of (x1.gh _ _ f3),k _ G1 H1 x1 (qfj f1 f2 f3 f4)⟩
section
open PySem.Spec PyProof.Rows
variable{X:Cx}
end
end Hk
namespace Hk
open PySem L2 PyProof.Rows
section
variable{X:Cx}{pos:Pos}{o e:vQ}{apos cpos:Pos}{i:Nat}{fd:FD}
end
end Hk
namespace Hk
open PySem L2
section
variable{X:Cx}{o c:vQ}{body:List vf}{pos ipos npos:Pos}{i j:Nat}{fc:FT}{fb:FS}
end
noncomputable def dropW(o:Option R)(ω:WSt):Option (Out×WSt):=o.map λ_=>(.nx,ω)
noncomputable def zipI(o:Option (List D)):Option (List D):=o.bind λds=>match ds with
 | [.lst a,.lst b]=>some (Xl a b)
 | _=>none
noncomputable def sortR(o:Option D):Option R:=o.bind zAd
section
variable{ω:WSt}{fe:FE}{fd:FD}{fa:FA}{r:R}{ds as bs:List D}{i j:Nat}{f:FS}{ft:FT}{m:List D->List D}
theorem q27:Wp fe ω=dropW (fe ω) ω:=rfl
theorem W2:dropW (some r) ω=some (.nx,ω):=rfl
theorem q3N:iZp fa ω=zipI (fa ω):=rfl
theorem zAH:zipI (some [.lst as,.lst bs])=some (Xl as bs):=rfl
theorem q24:X6 fd ω=sortR (fd ω):=rfl
end
theorem q9m{ns:List Int}(h:ns.length<64):sortR (some (.lst (ns.map D.int)))=some (.fr ((YN ns).map D.int)):=by
 show (intsOf (ns.map D.int)).bind _=_;rw[q4L];exact vM h
end Hk
namespace L2
open PySem PySem.Spec PyProof.Rows
section
variable{κ:Type}[DecidableEq κ]
noncomputable def X9(kvs:List (κ×V))(k:κ):Option V:=(kvs.find? λkv=>decide (kv.1=k)).map (·.2)
noncomputable def putK(kvs:List (κ×V))(k:κ)(v:V):List (κ×V) :=
 if (kvs.any λkv=>decide (kv.1=k))=true then kvs.map (λkv=>if kv.1=k then (kv.1,v)else kv)else kvs++[(k,v)]
theorem q6x{p:κ×V}{r:List (κ×V)}{k:κ}(e:p.1=k):X9 (p::r) k=some p.2:=by simp[X9,xh,e]
theorem q6A{p:κ×V}{r:List (κ×V)}{k:κ}(e:¬p.1=k):X9 (p::r) k=X9 r k:=by simp[X9,xh,e]
theorem qaJ(k:κ):∀kvs:List (κ×V),(kvs.any λkv=>decide (kv.1=k))=(X9 kvs k).isSome
 | []=>rfl
 | p::r=>by
  rw[xt]
  by_cases e:p.1=k
  ·simp only[q6x e,vP e,xD,Option.isSome_some]
  ·rw[q6A e,vT e,yw];exact qaJ k r
theorem q5W(kvs:List (κ×V))(k:κ)(v:V):(putK kvs k v).length<=kvs.length+1:=by
 unfold putK
 split
 ·rw[zA];omega
 ·rw[zC,zG,zq];omega
theorem Wh.isSome_eq{o:Option V}{u:Option vB}(r:Wh o u):o.isSome=u.isSome:=by
 cases o with
 | none=>cases u with
  | none=>rfl
  | some _=>exact(show False from r).elim
 | some _=>cases u with
  | none=>exact(show False from r).elim
  | some _=>rfl
theorem KV.val{kvs:List (κ×V)}{vs:List (κ×vB)}(r:KV kvs vs)(k:κ):Wh (X9 kvs k) (tF vs k):=by
 unfold KV at r
 induction r with
 | nil=>exact True.intro
 | @cons p q ps qs h t ih=>
  obtain⟨h1,h2⟩:=h
  by_cases e:p.1=k
  ·have e':q.1=k:=h1.symm.trans e
   have b:tF (q::qs) k=some q.2:=by simp[tF,xh,e']
   rw[q6x e,b];exact h2
  ·have e':¬q.1=k:=λz=>e (h1.trans z)
   have b:tF (q::qs) k=tF qs k:=by simp[tF,xh,e']
   rw[q6A e,b];exact ih
theorem KV.any{kvs:List (κ×V)}{vs:List (κ×vB)}(r:KV kvs vs)(k:κ):(kvs.any λkv=>decide (kv.1=k))=vs.any λkv=>decide (kv.1=k):=by
 unfold KV at r
 induction r with
 | nil=>rfl
 | cons h t ih=>rw[xt,xt,ih,h.1]
theorem KV.repl{kvs:List (κ×V)}{vs:List (κ×vB)}(r:KV kvs vs)(k:κ){y:V}{u:vB}(ry:RelV y u):
  KV (kvs.map λkv=>if kv.1=k then (kv.1,y)else kv) (vs.map λkv=>if kv.1=k then (kv.1,u)else kv):=by
 unfold KV at r ⊢
 induction r with
 | nil=>exact .nil
 | @cons p q ps qs h t ih=>
  rw[zT,zT];refine .cons ?_ ih;obtain⟨h1,h2⟩:=h
  by_cases e:p.1=k
  ·rw[vM e,vM (h1.symm.trans e)];exact⟨h1,ry⟩
  ·rw[vN e,vN (λz=>e (h1.trans z))];exact⟨h1,h2⟩
theorem KV.put{kvs:List (κ×V)}{vs:List (κ×vB)}(r:KV kvs vs)(k:κ){y:V}{u:vB}(ry:RelV y u):KV (putK kvs k y) (stored vs k u):=by
 unfold putK stored;rw[r.any k]
 by_cases e:(vs.any λkv=>decide (kv.1=k))=true
 ·rw[vM e,vM e];exact r.repl k ry
 ·rw[vN e,vN e];exact Paired.snoc r ⟨rfl,ry⟩
theorem KV.keys{kvs:List (κ×V)}{vs:List (κ×vB)}(r:KV kvs vs):kvs.map (·.1)=vs.map (·.1):=by
 unfold KV at r
 induction r with
 | nil=>rfl
 | cons h t ih=>rw[zT,zT,ih,h.1]
theorem KV.length{kvs:List (κ×V)}{vs:List (κ×vB)}(r:KV kvs vs):kvs.length=vs.length:=Paired.length r
end
theorem q8X{P:vO}{w:vU}{k:Key}{u:vB}(r:RelV (kV k) u):(YT P w).is k u=true:=by
 cases k with
 | inl i=>obtain⟨t,e⟩:=(show ∃t,u=Value.int i t from r);subst e;exact qbD P w i t
 | inr x=>obtain⟨t,e⟩:=(show ∃t,u=Value.str x t from r);subst e;exact qbJ P w x t
theorem q9Z{P:vO}{w:vU}:∀{ks:List Key}{us:List vB},YU (ks.map kV) us->ItemsAre (YT P w) ks us
 | [],_,r=>by rw[yA]at r;cases r;exact .nil
 | k::ks,_,r=>by
  rw[zT]at r;cases r with
  | cons h t=>exact .cons (q8X h) (q9Z t)
abbrev KT(H:Hp):List (List Key×V)->List (List Key×vC×vB)->Prop:=tT λp q=>p.1=q.1/\H q.2.1=some (.tup (p.1.map kV))/\RelV p.2 q.2.2
theorem KT.val{H:Hp}{kvs:List (List Key×V)}{xs:List (List Key×vC×vB)}(r:KT H kvs xs)(k:List Key):Wh (X9 kvs k) ((tX xs k).map (·.2)):=by
 induction r with
 | nil=>exact True.intro
 | @cons p q ps qs h t ih=>
  obtain⟨h1,_,h2⟩:=h
  by_cases e:p.1=k
  ·have e':q.1=k:=h1.symm.trans e
   have b:tX (q::qs) k=some q.2:=by simp[tX,xh,e']
   rw[q6x e,b];exact h2
  ·have e':¬q.1=k:=λz=>e (h1.trans z)
   have b:tX (q::qs) k=tX qs k:=by simp[tX,xh,e']
   rw[q6A e,b];exact ih
theorem KT.repl{H:Hp}{kvs:List (List Key×V)}{xs:List (List Key×vC×vB)}(r:KT H kvs xs)(k:List Key){y:V}{u:vB}(ry:RelV y u):
  KT H (kvs.map λkv=>if kv.1=k then (kv.1,y)else kv) (xs.map (putAt k u)):=by
 induction r with
 | nil=>exact .nil
 | @cons p q ps qs h t ih=>
  rw[zT,zT];refine .cons ?_ ih;obtain⟨h1,h2,h3⟩:=h;unfold putAt
  by_cases e:p.1=k
  ·rw[vM e,vM (h1.symm.trans e)];exact⟨h1,h2,ry⟩
  ·rw[vN e,vN (λz=>e (h1.trans z))];exact⟨h1,h2,h3⟩
theorem KT.put{H:Hp}{kvs:List (List Key×V)}{xs:List (List Key×vC×vB)}(r:KT H kvs xs)(k:List Key){b:vC}{y:V}{u:vB}(hb:H b=some (.tup (k.map kV)))(ry:RelV y u):
  KT H (putK kvs k y) (storedH xs k b u):=by
 have e:(kvs.any λkv=>decide (kv.1=k))=(tX xs k).isSome:=by
  rw[qaJ,(r.val k).isSome_eq,Zb]
 unfold putK storedH;rw[e]
 by_cases q:(tX xs k).isSome=true
 ·rw[vM q,vM q];exact r.repl k ry
 ·rw[vN q,vN q];exact Paired.snoc r ⟨rfl,hb,ry⟩
theorem KT.keeps{H H':Hp}{kvs:List (List Key×V)}{xs:List (List Key×vC×vB)}(r:KT H kvs xs)(ht:∀b ys,H b=some (.tup ys)->H' b=some (.tup ys)):KT H' kvs xs :=
 Paired.mapP r λ_ _ z=>⟨z.1,ht _ _ z.2.1,z.2.2⟩
section
variable{P:vO}{w:vU}{H:Hp}{h:vX}{a:vC}
theorem qfy{u:HO}(ok:HOk P w H h)(e:Rd H a u):YQ P w H h a u:=e.ok ok
theorem q8H{kvs:List (Key×V)}(ok:HOk P w H h)(e:Rd H a (.dK kvs)):kvs.length<=sizeLine/\(a==v6)=false/\∃vs,KV kvs vs/\h.DictOf (YT P w) a vs :=
 show YQ P w H h a (.dK kvs)from qfy ok e
theorem qfJ{kvs:List (Key×V)}(ok:HOk P w H h)(e:H a=some (.dK kvs)):kvs.length<=sizeLine/\(a==v6)=false/\∃vs,KV kvs vs/\h.DictOf (YT P w) a vs:=q8H ok (.inl e)
theorem q8x{ks:List Key}(ok:HOk P w H h)(e:H a=some (.tup (ks.map kV))):(u9 (YT P w)).is h ks a:=by
 obtain⟨_,its,r,o,h1,h2,n,h3⟩:=(show YQ P w H h a (.tup (ks.map kV))from ok a _ e);exact⟨o,its.toArray,n,h1,h2,h3,by simpa using q9Z r⟩
theorem qav{kvs:List (List Key×V)}(ok:HOk P w H h)(e:Rd H a (.dT kvs)):kvs.length<=sizeLine/\(a==v6)=false /\
  ∃xs,KT H kvs xs/\h.DictOfH (u9 (YT P w)) a xs:=by
 obtain⟨z,y,xs,r,o,es,ep,h1,h2,h3,h4,h5⟩:=(show YQ P w H h a (.dT kvs)from qfy ok e);refine⟨z,y,xs,r,o,es,ep,h1,h2,h3,h4,λx hx=>?_,h5⟩;have all:∀{l:List (List Key×V)}{m:List (List Key×vC×vB)},KT H l m->∀x∈m,(u9 (YT P w)).is h x.1 x.2.1:=by
  intro l m q
  induction q with
  | nil=>intro x hx;exact nomatch hx
  | @cons p q ps qs hq t ih=>
   intro x hx;rcases zE.mp hx with e|hx
   ·subst e
    exact q8x ok (by rw[<- hq.1];exact hq.2.1)
   ·exact ih x hx
 exact all r x hx
theorem qi4{kvs:List (List Key×V)}(ok:HOk P w H h)(e:H a=some (.dT kvs)):kvs.length<=sizeLine/\(a==v6)=false /\
  ∃xs,KT H kvs xs/\h.DictOfH (u9 (YT P w)) a xs:=qav ok (.inl e)
end
def WR(H:Hp)(a:vC)(y:V)(r:Option V):Prop :=
 (∃kvs k,Rd H a (.dK kvs)/\y=kV k/\r=X9 kvs k)\/∃kvs k b,Rd H a (.dT kvs)/\y=.ref b/\H b=some (.tup (k.map kV))/\r=X9 kvs k
def zAw(H:Hp)(a:vC)(y v:V)(H':Hp):Prop :=
 (∃kvs k,H a=some (.dK kvs)/\y=kV k/\kvs.length<sizeLine/\H'=upd H a (.dK (putK kvs k v))) \/
 ∃kvs k b,H a=some (.dT kvs)/\y=.ref b/\H b=some (.tup (k.map kV))/\kvs.length<sizeLine/\H'=upd H a (.dT (putK kvs k v))
theorem WR.k{H:Hp}{a:vC}{kvs:List (Key×V)}{k:Key}(e:H a=some (.dK kvs)):WR H a (kV k) (X9 kvs k):=.inl ⟨kvs,k,.inl e,rfl,rfl⟩
theorem zAw.k{H:Hp}{a:vC}{kvs:List (Key×V)}{k:Key}{v:V}(e:H a=some (.dK kvs))(hl:kvs.length<sizeLine):zAw H a (kV k) v (upd H a (.dK (putK kvs k v))):=.inl ⟨kvs,k,e,rfl,hl,rfl⟩
section
variable{X:Cx}{pins:List (vC×Obj)}{σ:St}{H:Hp}{s:vF}{a:vC}{y v:V}{u r:vB}{o:Option V}{A:vY}{E:vB->vF->Prop}
theorem Inv.big(I:Inv X pins σ H s):v6<s.heap.objs.size:=by
 have h:vS<s.heap.objs.size:=(I.mod.glob.keeps I.bk).lt;exact ZW (by decide) h
theorem qdv{Q:vB->vF->Prop}(hu:A.units+1<uT)(I:Inv X pins σ H s)(g:WR H a y (some v))(ry:RelV y u)(h:∀w' s',Inv X pins σ H s'->RelV v w'->Q w' s'):
  vL (model X.prog X.w) A (ug (.ref a) u) Q E s:=by
 rcases g with⟨kvs,k,e,ey,l⟩|⟨kvs,k,b,e,ey,eb,l⟩
 ·subst ey
  obtain⟨z,hd,vs,rel,dd⟩:=q8H I.hok e;obtain⟨w',hw,rw'⟩:=Wh.some_of (v:=v) (o:=tF vs k) (by rw[l];exact rel.val k);exact wpAny_getItem_of (q8X ry) dd.mapOf hw (h w' _ (I.tok _) rw')
 ·subst ey
  cases (show u=Value.ref b from ry);obtain⟨z,hd,xs,rel,dd⟩:=qav I.hok e;obtain⟨w',hw,rw'⟩:=Wh.some_of (v:=v) (o:=(tX xs k).map (·.2)) (by rw[l];exact rel.val k);obtain⟨p,hp,hp2⟩:=wD.mp hw;refine wpAny_getItem_heap (uo hu) (q8x I.hok eb) dd hp ?_;rw[hp2];exact h w' _ (I.tok _) rw'
theorem qg3{Q:vB->vF->Prop}(hu:A.units+1<uT)(I:Inv X pins σ H s)(g:WR H a y o)(ry:RelV y u)(h:∀s',Inv X pins σ H s'->Q (.bool (!o.isSome)) s'):
  vL (model X.prog X.w) A (vz .NotIn u (.ref a)) Q E s:=by
 rcases g with⟨kvs,k,e,ey,l⟩|⟨kvs,k,b,e,ey,eb,l⟩
 ·subst ey
  obtain⟨z,hd,vs,rel,dd⟩:=q8H I.hok e;refine wpAny_notIn_of (q8X ry) hd dd.mapOf ?_;rw[<- (rel.val k).isSome_eq,<- l];exact h _ (I.tok _)
 ·subst ey
  cases (show u=Value.ref b from ry);obtain⟨z,hd,xs,rel,dd⟩:=qav I.hok e;refine wpAny_notIn_heap (uo hu) (q8x I.hok eb) hd dd ?_;have q:=(rel.val k).isSome_eq;rw[Zb]at q;rw[<- q,<- l];exact h _ (I.tok _)
theorem q9g{h':vX}{t':Nat}{ob:HO}(I:Inv X pins σ H s)(mu:Mut (H a))(hs:xU a s.heap h')(he:∃q,h'.get? a=some q)(new:YQ X.prog X.w (upd H a ob) h' a ob):
  Inv X pins σ (upd H a ob) { s with heap:=h',toks:=t' } :=
 I.write (x:=a) (e:=a) mu (.inl rfl) (λb q hb z=>(hs.2 b hb).trans z) he new
theorem qe8{P:vO}{w:vU}{H':Hp}{h':vX}{kvs:List (Key×V)}{vs:List (Key×vB)}(z:kvs.length<=sizeLine)(hd:(a==v6)=false)(rel:KV kvs vs)(dd:h'.DictOf (YT P w) a vs):
  YQ P w H' h' a (.dK kvs):=⟨z,hd,vs,rel,dd⟩
theorem qdr{H':Hp}{Q:Unit->vF->Prop}(hu:A.units+1<uT)(I:Inv X pins σ H s)(g:zAw H a y v H')(ry:RelV y u)(rv:RelV v r)(h:∀s',Inv X pins σ H' s'->Q () s'):
  vL (model X.prog X.w) A (setItem (.ref a) u r) Q E s:=by
 rcases g with⟨kvs,k,e,ey,l,eH⟩|⟨kvs,k,b,e,ey,eb,l,eH⟩
 ·subst ey eH
  obtain⟨z,hd,vs,rel,dd⟩:=qfJ I.hok e;have hz:vs.length<=sizeLine:=by rw[<- rel.length];exact z
  have hl:(putK kvs k v).length<=sizeLine:=by have:=q5W kvs k v;omega
  refine wpAny_setItem_pairs (hsz:=hz) (q8X ry) dd λh' dd' hs=>h _ ?_;have he:∃q,h'.get? a=some q:=let ⟨q,_,_,hq,_⟩:=dd';⟨q,hq⟩
  exact q9g I (by rw[e];exact True.intro) hs he (qe8 hl hd (rel.put k rv) dd')
 ·subst ey eH
  cases (show u=Value.ref b from ry);obtain⟨z,hd,xs,rel,dd⟩:=qi4 I.hok e;have hz:xs.length<=sizeLine:=by rw[<- Paired.length rel];exact z
  have hl:(putK kvs k v).length<=sizeLine:=by have:=q5W kvs k v;omega
  refine wpAny_setItem_heap (hsz:=hz) (uo hu) (q8x I.hok eb) dd λh' dd' hs=>h _ ?_;obtain⟨q,es,ep,hq,h2,h3,h4,_,h5⟩:=dd';refine q9g I (by rw[e];exact True.intro) hs ⟨q,hq⟩ ⟨hl,hd,_,(rel.put k eb rv).keeps λc ys ec=>?_,q,es,ep,hq,h2,h3,h4,h5⟩;rw[qf (qi1 ec e (λz=>nomatch z))];exact ec
end
section
variable{X:Cx}{pins:List (vC×Obj)}{σ:St}{H:Hp}{s:vF}{a:vC}{kvs:List (Key×V)}{k:Key}{u:vB}{A:vY}{E:vB->vF->Prop}
end
def NoSl(i:vQ):Prop:=∀ov iv,subscripted i false ov iv=operate [ov,iv] (ug ov iv)
theorem qfX{prog:vO}{w:vU}{A:vY}{E:vB->vF->Prop}{s:vF}{env:Env}{value slice:vQ}{pos:Pos}{T id:String}{Q:vB->vF->Prop}(hl:uX (.type T) "__getitem__" = pure (some (.builtin id)))(hs:NoSl slice)(h:vL (model prog w) A (eval value env) (λo s₁=>vL (model prog w) A (eval slice env) (λi s₂=>s₂.TypeIs o T/\vL (model prog w) A (ug o i) Q E s₂) E s₁) E s):
  vL (model prog w) A (eval (.Subscript value slice pos) env) Q E s:=by
 refine Subscript_ (vc h (λo s₁ h₁=>vc h₁ (λi s₂ h₂=>?_) λ_ _ x=>x) λ_ _ x=>x);obtain⟨hT,h₂⟩:=h₂;unfold tI;refine vA ?_;rw[getitemInPython_of_ne hT.not_modules];refine vA (uH hT hl ?_);have fin:vL (model prog w) A (subscripted slice false o i) (λr s₃=>vL (model prog w) A (letTemporaryGo value o r >>= λ_=>pure r) Q E s₃) E s₂:=by
  rw[hs o i];exact wpAny_operating (vc h₂ (λr s₃ h₃=>vA (wpAny_letTemporaryGo (vG h₃))) λ_ _ x=>x)
 first
  | exact vG (vA fin)
  | exact vA (vG (vA fin))
  | exact vA fin
theorem qbE{X:Cx}{pins:List (vC×Obj)}{σ:St}{H:Hp}{s:vF}{a:vC}{y:V}{o:Option V}(I:Inv X pins σ H s)(g:WR H a y o):s.TypeIs (.ref a) "dict" := by
 rcases g with⟨kvs,k,e,_,_⟩|⟨kvs,k,b,e,_,_,_⟩
 ·obtain⟨_,_,vs,_,dd⟩:=q8H I.hok e
  exact dd.typeIs
 ·obtain⟨_,_,xs,_,dd⟩:=qav I.hok e
  exact dd.typeIs
noncomputable def tDGet(td ty:TE):TE:=λσ H Q=>td σ H λx H1=>ty σ H1 λy H2=>∃a v,x=.ref a/\WR H2 a y (some v)/\Q v H2
noncomputable def tDIn(ty td:TE):TE:=λσ H Q=>ty σ H λy H1=>td σ H1 λx H2=>∃a o,x=.ref a/\WR H2 a y o/\Q (.bl o.isSome) H2
noncomputable def Wg(ty td:TE):TE:=λσ H Q=>ty σ H λy H1=>td σ H1 λx H2=>∃a o,x=.ref a/\WR H2 a y o/\Q (.bl (!o.isSome)) H2
noncomputable def sDPut(td ty tv:TE):TS:=λD σ H=>tv σ H λv H1=>td σ H1 λx H2=>ty σ H2 λy H3=>∃a H4,x=.ref a/\zAw H3 a y v H4/\D.nx σ H4
section
variable{X:Cx}{o i e value:vQ}{pos pos' tpos:Pos}{td ty tv:TE}
theorem q9o(hu:X.A.units+1<uT)(ho:PE X o td)(hi:PE X i ty)(hs:NoSl i):PE X (.Subscript o i pos) (tDGet td ty):=by
 intro pins s σ H Q I h;refine qfX PySem.F.slot_dict_getitem.lookup hs (thn (ho pins s σ H _ I h) λu s1 ⟨x,H1,I1,rx,q1⟩=>thn (hi pins s1 σ H1 _ I1 q1) λiv s2 ⟨y,H2,I2,ry,a,v,ex,g,q2⟩=>?_);subst ex;obtain rfl:u=Value.ref a:=rx;exact⟨qbE I2 g,qdv hu I2 g ry λw' s3 I3 rw'=>⟨v,H2,I3,rw',q2⟩⟩
theorem qdx(hu:X.A.units+1<uT)(hi:PE X i ty)(ho:PE X o td):PC X .NotIn i o (Wg ty td):=by
 intro pins s σ H Q I h;refine thn (hi pins s σ H _ I h) λiv s1 ⟨y,H1,I1,ry,q1⟩=>thn (ho pins s1 σ H1 _ I1 q1) λu s2 ⟨x,H2,I2,rx,a,ov,ex,g,q2⟩=>?_;subst ex;obtain rfl:u=Value.ref a:=rx;exact qg3 hu I2 g ry λs3 I3=>⟨.bl (!ov.isSome),H2,I3,rfl,q2⟩
theorem qcf(hu:X.A.units+1<uT)(ho:PE X o td)(hi:PE X i ty)(hv:PE X value tv)(hs:vm value (some (.Subscript o i pos')) pos.line X.env=pure false):
  PS X (.Assign [.Subscript o i pos'] value pos) (sDPut td ty tv):=by
 intro pins s σ H D I h;refine wpAny_Assign_Subscript (thn (hv pins s σ H _ I h) λr s1 ⟨v,H1,I1,rv,q1⟩=>thn (ho pins s1 σ H1 _ I1 q1) λu s2 ⟨x,H2,I2,rx,q2⟩=>thn (hi pins s2 σ H2 _ I2 q2) λiv s3 ⟨y,H3,I3,ry,a,H4,ex,g,q3⟩=>?_) hs;subst ex;obtain rfl:u=Value.ref a:=rx;exact qdr hu I3 g ry rv λs4 I4=>⟨σ,H4,I4,q3⟩
end
theorem qbx{P:vO}{w:vU}{H:Hp}(h:vX)(hb:v6<h.objs.size):YQ P w H (h.push { cls:=.type "dict", data:=.dict #[] }) h.objs.size (.dK []) :=
 ⟨zu _,beq_eq_false_iff_ne.mpr (Ne.symm (ze hb)),[],.nil,Heap.DictOf.new h⟩
noncomputable def tDNewK:TE:=λ_ H Q=>∀p,H p=none->Q (.ref p) (upd H p (.dK []))
section
variable{X:Cx}{pos:Pos}
theorem qaE:PE X (.Dict [] [] pos) tDNewK:=λpins s σ H Q I h=>
 wpAny_Dict_empty ⟨.ref s.heap.objs.size,_,I.laid (a:=s.heap.objs.size) (o:=.dK []) (t':=s.toks) (λ_ _ q=>zF _ q) (zQ _) (qbx s.heap I.big),rfl,h _ (I.hok.fresh (zQ _))⟩
end
def WX:List (TE×TE)->St->Hp->(List (V×V)->Hp->Prop)->Prop
 | [],_,H,Q=>Q [] H
 | (tk,tv)::r,σ,H,Q=>tk σ H λx H1=>tv σ H1 λy H2=>WX r σ H2 λps H3=>Q ((x,y)::ps) H3
abbrev VV:List (V×V)->List (vB×vB)->Prop:=tT λp q=>RelV p.1 q.1/\RelV p.2 q.2
def PPs(X:Cx)(pos:Pos)(keys:List (Option vQ))(values:List vQ)(trs:List (TE×TE)):Prop :=
 ∀(pins:List (vC×Obj))(s:vF)(σ:St)(H:Hp)(Q:List (V×V)->Hp->Prop),Inv X pins σ H s->WX trs σ H Q ->
  vL (model X.prog X.w) X.A (evalPairs (pairTrees keys values X.env pos)) (λvs s'=>∃ps H',Inv X pins σ H' s'/\VV ps vs/\Q ps H') X.xe s
theorem qgx{X:Cx}{pos:Pos}:PPs X pos [] [] []:=λpins s σ H Q I h=>pairTrees_nil_walk ⟨[],H,I,.nil,h⟩
theorem qft{X:Cx}{pos:Pos}{k v:vQ}{ks:List (Option vQ)}{vs:List vQ}{tk tv:TE}{trs:List (TE×TE)}(hk:PE X k tk)(hv:PE X v tv)(hr:PPs X pos ks vs trs):
  PPs X pos (some k::ks) (v::vs) ((tk,tv)::trs):=λpins s σ H Q I h=>
 pairTrees_cons_walk (thn (hk pins s σ H _ I h) λu s1 ⟨x,H1,I1,rx,q1⟩=>thn (hv pins s1 σ H1 _ I1 q1) λw2 s2 ⟨y,H2,I2,ry,q2⟩=>
  thn (hr pins s2 σ H2 _ I2 q2) λws s3 ⟨ps,H3,I3,rel,q3⟩=>⟨(x,y)::ps,H3,I3,.cons ⟨rx,ry⟩ rel,q3⟩)
noncomputable def Xf(kvs more:List (Key×V)):List (Key×V):=more.foldl (λacc kv=>putK acc kv.1 kv.2) kvs
theorem KV.merge:∀{more:List (Key×V)}{rs:List (Key×vB)}{kvs:List (Key×V)}{vs:List (Key×vB)},KV more rs->KV kvs vs->KV (Xf kvs more) (merged vs rs):=by
 intro more rs kvs vs r;unfold KV at r
 induction r generalizing kvs vs with
 | nil=>intro q;exact q
 | @cons p q ps qs h t ih=>
  intro r0;have e:KV (putK kvs p.1 p.2) (stored vs q.1 q.2):=by
   have:=r0.put p.1 h.2;rw[<- h.1];exact this
  exact ih e
theorem q6M:∀(more kvs:List (Key×V)),(Xf kvs more).length<=kvs.length+more.length
 | [],kvs=>by show kvs.length<=kvs.length+0;omega
 | p::r,kvs=>by
  have h1:=q6M r (putK kvs p.1 p.2);have h2:=q5W kvs p.1 p.2;show (Xf (putK kvs p.1 p.2) r).length<=_;rw[zG];omega
theorem q8T{P:vO}{w:vU}:∀{kvs:List (Key×V)}{ws:List (vB×vB)},VV (kvs.map λkv=>(kV kv.1,kv.2)) ws->∃rs,Carries (YT P w) ws rs/\KV kvs rs
 | [],_,r=>by rw[yA]at r;cases r;exact⟨[],True.intro,.nil⟩
 | p::kvs,_,r=>by
  rw[zT]at r;cases r with
  | @cons a b as bs h t=>
   obtain⟨rs,c,q⟩:=q8T (P:=P) (w:=w) t;obtain⟨b1,b2⟩:=b;exact⟨(p.1,b2)::rs,⟨q8X h.1,rfl,c⟩,.cons ⟨rfl,h.2⟩ q⟩
noncomputable def tDisp(trs:List (TE×TE)):TE:=λσ H Q=>∀p,H p=none->WX trs σ (upd H p (.dK [])) λps H2=>H2 p=some (.dK [])/\∃kvs:List (Key×V),ps=kvs.map (λkv=>(kV kv.1,kv.2))/\kvs.length<=15/\Q (.ref p) (upd H2 p (.dK (Xf [] kvs)))
theorem qfZ{X:Cx}{pos:Pos}{keys:List (Option vQ)}{values:List vQ}{trs:List (TE×TE)}(h:PPs X pos keys values trs)(hall:keys.all (·.isSome)=true)(hl:keys.length=values.length)(h0:keys≠[])(h15:keys.length<=15):PE X (.Dict keys values pos) (tDisp trs):=by
 intro pins s σ H Q I q;have hn:=I.hok.fresh (zQ s.heap.objs.size);have I1:=I.laid (a:=s.heap.objs.size) (o:=.dK []) (h':=s.heap.push { cls:=.type "dict", data:=.dict #[] }) (t':=s.toks) (λ_ _ q=>zF _ q) (zQ _) (qbx s.heap I.big);refine wpAny_Dict_walk (knd:=YT X.prog X.w) hall hl h0 h15 (thn (h pins _ σ _ _ I1 (q _ hn)) λws s2 ⟨ps,H2,I2,rel,e,kvs,ep,lk,q2⟩=>?_);subst ep;obtain⟨rs,c,rk⟩:=q8T (P:=X.prog) (w:=X.w) rel;obtain⟨z,hd,vs0,r0,dd⟩:=qfJ I2.hok e;cases r0;refine⟨rs,c,dd,λh' dd' hs=>⟨.ref s.heap.objs.size,_,?_,rfl,q2⟩⟩;have hz:(Xf [] kvs).length<=sizeLine:=by
  have h1:=q6M kvs [];rw[zq]at h1;rw[uB];omega
 have he:∃q,h'.get? s.heap.objs.size=some q:=let ⟨q,_,_,hq,_⟩:=dd';⟨q,hq⟩
 exact q9g I2 (by rw[e];exact True.intro) hs he (qe8 hz hd (rk.merge .nil) dd')
section
variable{X:Cx}{pins:List (vC×Obj)}{σ:St}{H:Hp}{s:vF}{a:vC}{y d:V}{u r:vB}{o:Option V}{A:vY}{E:vB->vF->Prop}
end
section
variable{X:Cx}{o e f:vQ}{apos cpos:Pos}{td ty tx:TE}
end
section
variable{X:Cx}{pins:List (vC×Obj)}{σ:St}{H:Hp}{s:vF}{a:vC}{kvs:List (Key×V)}{A:vY}{E:vB->vF->Prop}
end
section
variable{X:Cx}{pins:List (vC×Obj)}{σ:St}{H:Hp}{s:vF}{a:vC}{y:V}{u:vB}{A:vY}{E:vB->vF->Prop}
end
end L2
namespace Hk
open PySem L2
noncomputable def YZ{α:Type}:List Int->List α->Int->Option α
 | k'::ks,x::xs,k=>if k'=k then some x else YZ ks xs k
 | _,_,_=>none
noncomputable def repA{α:Type}:List Int->List α->Int->α->List α
 | k'::ks,x::xs,k,y=>(if k'=k then y else x)::repA ks xs k y
 | _,xs,_,_=>xs
noncomputable def Y8(ks:List Int)(k:Int):List Int:=if k∈ks then ks else ks++[k]
noncomputable def putA{α:Type}(ks:List Int)(xs:List α)(k:Int)(y:α):List α:=if k∈ks then repA ks xs k y else xs++[y]
theorem qaY{α:Type}:∀(ks:List Int)(xs:List α)(k:Int)(y:α),(repA ks xs k y).length=xs.length
 | [],xs,_,_=>rfl
 | _::_,[],_,_=>rfl
 | k'::ks,x::xs,k,y=>by show (repA ks xs k y).length+1=xs.length+1;rw[qaY ks xs k y]
theorem qgu{α:Type}{ks:List Int}{xs:List α}(k:Int)(y:α)(h:ks.length=xs.length):(Y8 ks k).length=(putA ks xs k y).length:=by
 unfold Y8 putA
 by_cases z:k∈ks
 ·rw[vM z,vM z,qaY];exact h
 ·rw[vN z,vN z,zC,zC,h];rfl
theorem q5P:∀{ks:List Int}{vs:List V},ks.length=vs.length->∀k,X9 (kvsOf ks vs) (Sum.inl k)=YZ ks vs k
 | [],[],_,k=>rfl
 | [],_::_,h,_=>by simp at h
 | _::_,[],h,_=>by simp at h
 | k'::ks,v::vs,h,k=>by
  show X9 ((Sum.inl k',v)::kvsOf ks vs) (Sum.inl k)=if k'=k then some v else YZ ks vs k
  by_cases z:k'=k
  ·rw[vM z,q6x (p:=((Sum.inl k':Key),v)) (by rw[z])]
  ·rw[vN z,q6A (p:=((Sum.inl k':Key),v)) (λe=>z (Sum.inl.inj e))]
   exact q5P ⇑h k
theorem q7a:∀{ks:List Int}{vs:List V},ks.length=vs.length->(kvsOf ks vs).length=ks.length
 | [],[],_=>rfl
 | [],_::_,h=>by simp at h
 | _::_,[],h=>by simp at h
 | k'::ks,v::vs,h=>by show (kvsOf ks vs).length+1=_;rw[q7a ⇑h];rfl
theorem q8t:∀{ks:List Int}{vs:List V},ks.length=vs.length->(kvsOf ks vs).map (·.1)=ks.map (Sum.inl:Int->Key)
 | [],[],_=>rfl
 | [],_::_,h=>by simp at h
 | _::_,[],h=>by simp at h
 | k'::ks,v::vs,h=>by show (Sum.inl k':Key)::(kvsOf ks vs).map (·.1)=_;rw[q8t ⇑h];rfl
theorem q9G:∀{ks:List Int}{vs:List V},ks.length=vs.length->∀k,(kvsOf ks vs).any (λkv=>decide (kv.1=(Sum.inl k:Key)))=decide (k∈ks)
 | [],[],_,_=>rfl
 | [],_::_,h,_=>by simp at h
 | _::_,[],h,_=>by simp at h
 | k'::ks,v::vs,h,k=>by
  show (decide ((Sum.inl k':Key)=Sum.inl k) || (kvsOf ks vs).any _)=_;rw[q9G ⇑h k];have e:decide ((Sum.inl k':Key)=Sum.inl k)=decide (k'=k):=by
   by_cases z:k'=k
   ·rw[z];simp
   ·rw[vT z,vT (λe=>z (Sum.inl.inj e))]
  rw[e];simp only[zE]
  by_cases z:k'=k
  ·simp[z]
  ·have:¬k=k':=λy=>z y.symm
   simp[z,this]
theorem qa7:∀{ks:List Int}{vs:List V},ks.length=vs.length->∀(k:Int)(v:V),(kvsOf ks vs).map (λkv=>if kv.1=(Sum.inl k:Key)then (kv.1,v)else kv)=kvsOf ks (repA ks vs k v)
 | [],[],_,_,_=>rfl
 | [],_::_,h,_,_=>by simp at h
 | _::_,[],h,_,_=>by simp at h
 | k'::ks,u::vs,h,k,v=>by
  show (if (Sum.inl k':Key)=Sum.inl k then ((Sum.inl k':Key),v)else (Sum.inl k',u))::(kvsOf ks vs).map _=(Sum.inl k',if k'=k then v else u)::kvsOf ks (repA ks vs k v);rw[qa7 ⇑h k v]
  by_cases z:k'=k
  ·rw[vM (by rw[z]),vM z]
  ·rw[vN (λe=>z (Sum.inl.inj e)),vN z]
theorem q8V:∀{ks:List Int}{vs:List V},ks.length=vs.length->∀(k:Int)(v:V),kvsOf ks vs++[(Sum.inl k,v)]=kvsOf (ks++[k]) (vs++[v])
 | [],[],_,_,_=>rfl
 | [],_::_,h,_,_=>by simp at h
 | _::_,[],h,_,_=>by simp at h
 | k'::ks,u::vs,h,k,v=>by show _::(kvsOf ks vs++[(Sum.inl k,v)])=_;rw[q8V ⇑h k v];rfl
theorem q9H{ks:List Int}{vs:List V}(h:ks.length=vs.length)(k:Int)(v:V):putK (kvsOf ks vs) (Sum.inl k) v=kvsOf (Y8 ks k) (putA ks vs k v):=by
 unfold putK Y8 putA;rw[q9G h]
 by_cases z:k∈ks
 ·rw[vM (vP z),vM z,vM z];exact qa7 h k v
 ·rw[vN (by rw[vT z];decide),vN z,vN z];exact q8V h k v
section
variable{K:zB}{G:Hp}
theorem YA.val:∀{ks:List Int}{ds:List D}{vs:List V}{k:Int}{d:D},YA K G ds vs->YZ ks ds k=some d->∃v,YZ ks vs k=some v/\Rep K G d v
 | [],_,_,_,_,_,e=>by cases e
 | _::_,[],_,_,_,_,e=>by cases e
 | k'::ks,d'::ds,_,k,d,⟨v,r,h1,h2,h3⟩,e=>by
  subst h1;have e:(if k'=k then some d' else YZ ks ds k)=some d:=e;show ∃u,(if k'=k then some v else YZ ks r k)=some u/\_
  by_cases z:k'=k
  ·rw[vM z]at e ⊢;cases e;exact⟨v,rfl,h2⟩
  ·rw[vN z]at e ⊢;exact YA.val h3 e
theorem YA.isVal:∀{ks:List Int}{ds:List D}{vs:List V}(k:Int),YA K G ds vs->(YZ ks vs k).isSome=(YZ ks ds k).isSome
 | [],_,_,_,_=>rfl
 | _::_,[],_,_,h=>by cases (show _=[]from h);rfl
 | k'::ks,d'::ds,_,k,⟨v,r,h1,h2,h3⟩=>by
  subst h1;show (if k'=k then some v else YZ ks r k).isSome=(if k'=k then some d' else YZ ks ds k).isSome
  by_cases z:k'=k
  ·rw[vM z,vM z];rfl
  ·rw[vN z,vN z];exact YA.isVal k h3
theorem YA.repA:∀{ks:List Int}{ds:List D}{vs:List V}(k:Int){d:D}{v:V},YA K G ds vs->Rep K G d v->YA K G (Hk.repA ks ds k d) (Hk.repA ks vs k v)
 | [],_,_,_,_,_,h,_=>h
 | _::_,[],_,_,_,_,h,_=>by cases (show _=[]from h);rfl
 | k'::ks,d'::ds,_,k,d,v,⟨u,r,h1,h2,h3⟩,hv=>by
  subst h1;refine⟨_,_,rfl,?_,YA.repA k h3 hv⟩
  by_cases z:k'=k
  ·rw[vM z,vM z];exact hv
  ·rw[vN z,vN z];exact h2
theorem YA.putA{ks:List Int}{ds:List D}{vs:List V}(k:Int){d:D}{v:V}(h:YA K G ds vs)(hv:Rep K G d v):YA K G (Hk.putA ks ds k d) (Hk.putA ks vs k v):=by
 unfold Hk.putA
 by_cases z:k∈ks
 ·rw[vM z,vM z];exact h.repA k hv
 ·rw[vN z,vN z];exact h.app (YA.cons hv YA.nil)
end
noncomputable def XZ:Option (Option W)->Option (List Int×List D)
 | some (some (.od ks ds))=>some (ks,ds)
 | some ↥(.dic ks ds)=>some (ks,ds)
 | _=>none
theorem qc8{H H':Hp}{p:vC}{u:HO}(e:YO H H')(h:Rd H p u):Rd H' p u:=by
 rcases h with h|⟨o,h⟩
 ·exact .inl (e _ _ h)
 ·exact .inr ⟨o,e _ _ h⟩
theorem qbW{H:Hp}{a:vC}{kvs:List (Key×V)}{k:Key}(e:Rd H a (.dK kvs)):WR H a (kV k) (X9 kvs k):=.inl ⟨kvs,k,e,rfl,rfl⟩
theorem Own.dic{K:zB}{G0:Hp}{H0:Fr}{G:Hp}{ω:WSt}{σ:St}{H:Hp}{i:Nat}{ks:List Int}{ds:List D}(o:Own K G0 H0 G ω σ H)(h:XZ ω[i]?=some (ks,ds)):
  ∃p vs,σ[i]?=some (some (.ref p))/\Rd H p (.dK (kvsOf ks vs))/\ks.length=ds.length/\YA K G ds vs:=by
 unfold XZ at h
 split at h
 ·rename_i q
  cases h;obtain⟨p,vs,h1,h2,_,_,h5,h6,_⟩:=o.od i _ _ q;exact⟨p,vs,h1,.inl h2,h5,h6⟩
 ·rename_i q
  cases h;obtain⟨v,h1,p,vs,rfl,⟨ob,h2⟩,h3,h4⟩:=o.sh i _ q;exact⟨p,vs,h1,.inr ⟨ob,o.gh _ _ h2⟩,h3,h4⟩
 ·cases h
section
variable{X:Cx}{o k e:vQ}{pos pos' dpos:Pos}{i:Nat}{fk fv:FD}
theorem hu1(hu:X.A.units+64<uT):X.A.units+1<uT:=∅
noncomputable def zAR(i:Nat):FS:=λω=>some (.nx,ω.set i (some (.od [] [])))
theorem qcu{x:Str}(hN:X.N.Nodup)(hi:X.N[i]?=some x)(hx:Loc X.env.scope x)(hs:vm (.Dict [] [] dpos) (some (.Name x pos')) pos.line X.env=pure false:=by rfl)(hf:X.fn x=true\/X.env.scope.names.lookup x=some .local:=by first|exact .inl rfl|exact .inr rfl|assumption):
  XS X (.Assign [.Name x pos'] (.Dict [] [] dpos) pos) (zAR i):=by
 refine⟨_,q61 hN hi hx qaE hs hf,λG0 H0 G ω σ H out ω' E ow e k=>?_⟩;cases e;intro p hp;have o1:=ow.keep (Ext.hide ow.gh hp (.dK []));refine k G _ _ (o1.setOd (ks:=[]) (ds:=[]) (vs:=[]) qm (ow.gh.free hp) (ow.ext.hh.free hp) rfl YA.nil λj ks' es hj z=>?_) (YO.refl _);obtain⟨q,us,h1,h2,_⟩:=ow.od j ks' es hj;rw[h1]at z;cases z;rw[hp]at h2;cases h2
noncomputable def WZ(i:Nat)(fk fv:FD):FS:=λω=>(fv ω).bind λd=>(fk ω).bind λc=>match c,ω[i]? with
 | .int k,some (some (.od ks ds))=>if ks.length<1000000 then some (.nx,ω.set i (some (.od (Y8 ks k) (putA ks ds k d))))else none
 | _,_=>none
theorem q9c(hu:X.A.units+64<uT)(ho:PE X o (XR i))(hk:XD X k fk)(hv:XD X e fv)(hs:vm e (some (.Subscript o k pos')) pos.line X.env=pure false:=by rfl):XS X (.Assign [.Subscript o k pos'] e pos) (WZ i fk fv):=by
 obtain⟨tk,h1,h2⟩:=hk;obtain⟨tv,h3,h4⟩:=hv;refine⟨_,qcf (hu1 hu) ho h1 h3 hs,λG0 H0 G ω σ H out ω' E ow e kk=>?_⟩;obtain⟨d,q1,e⟩:=bnd e;obtain⟨c,q2,e⟩:=bnd e;refine h4 G0 H0 G ω σ H d _ ow q1 λv G1 H1 x1 y1=>?_;cases c with
 | int k=>
  split at e
  ·rename_i _ _ _ k' ks ds ek q3
   cases ek
   by_cases z:ks.length<1000000
   ·rw[vM z]at e
    cases e;have o1:=ow.keep x1;obtain⟨p,vs,r1,r2,r3,r4,r5,r6,r7⟩:=o1.od i ks ds q3;refine⟨.ref p,r1,h2 G0 H0 G1 ω σ H1 _ _ o1 q2 λu G2 H2 x2 y2=>?_⟩;cases (show u=.int k from y2);have o2:=o1.keep x2;have hl:ks.length=vs.length:=by rw[r5];exact r6.len
    refine⟨p,_,rfl,zAw.k (k:=Sum.inl k) (x2.hh _ _ r2) (by rw[q7a hl,uB];omega),?_⟩;rw[q9H hl];exact kk G2 σ _ (o2.mutD q3 r1 (x2.hh _ _ r2) (x2.new p r3 (by rw[r2];exact λz=>by cases z)) r4 (qgu k d r5) ((r6.mono x2.gg).putA k (y1.mono x2.gg))) (x1.gg.trans x2.gg)
   ·rw[vN z]at e;cases e
  ·cases e
 | _=>cases e
noncomputable def Wi(i:Nat)(fk:FD):FE:=λω=>(XZ ω[i]?).bind λp=>(fk ω).bind λc=>match c with
 | .int k=>(YZ p.1 p.2 k).map R.sh
 | _=>none
theorem q9h(hu:X.A.units+64<uT)(ho:PE X o (XR i))(hk:XD X k fk)(hs:NoSl k:=by intro _ _;rfl):XE X (.Subscript o k pos) (Wi i fk):=by
 obtain⟨tk,h1,h2⟩:=hk;refine⟨_,q9o (hu1 hu) ho h1 hs,λG0 H0 G ω σ H r Q ow e kk=>?_⟩;obtain⟨⟨ks,ds⟩,q1,e⟩:=bnd e;obtain⟨c,q2,e⟩:=bnd e;obtain⟨p,vs,r1,r2,r3,r4⟩:=ow.dic q1;refine⟨.ref p,r1,h2 G0 H0 G ω σ H c _ ow q2 λu G1 H1 x1 y1=>?_⟩;cases c with
 | int k=>
  cases (show u=.int k from y1);obtain⟨d,q3,e⟩:=mpd e;subst e;obtain⟨v,z1,z2⟩:=r4.val q3;have hl:ks.length=vs.length:=by rw[r3];exact r4.len
  have g:=qbW (k:=(Sum.inl k:Key)) (qc8 x1.hh r2);rw[q5P hl,z1]at g;exact⟨p,v,rfl,g,kk v G1 H1 x1 (z2.mono x1.gg)⟩
 | _=>cases e
noncomputable def Wo(neg:Bool)(i:Nat)(fk:FD):FT:=λω=>(fk ω).bind λc=>(XZ ω[i]?).bind λp=>match c with
 | .int k=>some (if neg then !(YZ p.1 p.2 k).isSome else (YZ p.1 p.2 k).isSome)
 | _=>none
theorem qgD{tk:TE}{neg:Bool}(h2:zA7 X.K tk fk):WC X.K (tB (if neg then Wg tk (XR i)else L2.tDIn tk (XR i))) (Wo neg i fk):=by
 intro G0 H0 G ω σ H b Q ow e kk;obtain⟨c,q2,e⟩:=bnd e;obtain⟨⟨ks,ds⟩,q1,e⟩:=bnd e;cases c with
 | int k=>
  have fin:∀(u:V)G1 H1,Ext G H G1 H1->u=.int k->∃p vs,σ[i]?=some (some (.ref p))/\WR H1 p u (YZ ks vs k)/\(YZ ks vs k).isSome=(YZ ks ds k).isSome:=λu G1 H1 x1 hu=>by
   subst hu;obtain⟨p,vs,r1,r2,r3,r4⟩:=ow.dic q1;have hl:ks.length=vs.length:=by rw[r3];exact r4.len
   have g:=qbW (k:=(Sum.inl k:Key)) (qc8 x1.hh r2);rw[q5P hl]at g;exact⟨p,vs,r1,g,YA.isVal k r4⟩
  cases neg with
  | true=>
   refine h2 G0 H0 G ω σ H _ _ ow q2 λu G1 H1 x1 y1=>?_;obtain⟨p,vs,r1,g,hs⟩:=fin u G1 H1 x1 y1;refine⟨.ref p,r1,p,_,rfl,g,_,rfl,?_⟩;cases e;rw[hs];exact kk G1 H1 x1
  | false=>
   refine h2 G0 H0 G ω σ H _ _ ow q2 λu G1 H1 x1 y1=>?_;obtain⟨p,vs,r1,g,hs⟩:=fin u G1 H1 x1 y1;refine⟨.ref p,r1,p,_,rfl,g,_,rfl,?_⟩;cases e;rw[hs];exact kk G1 H1 x1
 | _=>cases e
theorem q9N(hu:X.A.units+64<uT)(hk:XD X k fk)(ho:PE X o (XR i))(hb:vo .NotIn o=false:=by rfl):XT X (.Compare k [.NotIn] [o] pos) (Wo true i fk):=by
 obtain⟨tk,h1,h2⟩:=hk;exact⟨_,qhw (qdx (hu1 hu) h1 ho) hb,qgD (neg:=true) h2⟩
end
section
variable{X:Cx}{o k e:vQ}{pos pos' dpos:Pos}{i:Nat}{fk fv:FD}
noncomputable def Wa(i:Nat)(fk fv:FD):FS:=λω=>(fk ω).bind λc=>(fv ω).bind λd=>match c with
 | .int k=>some (.nx,ω.set i (some (.od [k] [d])))
 | _=>none
theorem qeY{x:Str}(hN:X.N.Nodup)(hi:X.N[i]?=some x)(hx:Loc X.env.scope x)(hk:XD X k fk)(hv:XD X e fv)(hs:vm (.Dict [some k] [e] dpos) (some (.Name x pos')) pos.line X.env=pure false:=by rfl)(hf:X.fn x=true\/X.env.scope.names.lookup x=some .local:=by first|exact .inl rfl|exact .inr rfl|assumption):
  XS X (.Assign [.Name x pos'] (.Dict [some k] [e] dpos) pos) (Wa i fk fv):=by
 obtain⟨tk,h1,h2⟩:=hk;obtain⟨tv,h3,h4⟩:=hv;refine⟨_,q61 hN hi hx (qfZ (qft h1 h3 qgx) rfl rfl (by simp) (by show 1<=15;decide)) hs hf,λG0 H0 G ω σ H out ω' E ow e kk=>?_⟩;obtain⟨c,q1,e⟩:=bnd e;obtain⟨d,q2,e⟩:=bnd e;cases c with
 | int k=>
  cases e;intro p hp;have x0:=Ext.hide ow.gh hp (.dK []);have o1:=ow.keep x0;refine h2 G0 H0 G ω σ _ _ _ o1 q1 λu G1 H1 x1 y1=>?_;cases (show u=.int k from y1);have o2:=o1.keep x1;refine h4 G0 H0 G1 ω σ H1 d _ o2 q2 λv G2 H2 x2 y2=>?_;have o3:=o2.keep x2;have hp2:H2 p=some (.dK []):=x2.hh _ _ (x1.hh _ _ qm);have gp1:G1 p=none:=x1.new p (ow.gh.free hp) (by rw[qm];exact λz=>by cases z);have gp2:G2 p=none:=x2.new p gp1 (by rw[x1.hh _ _ qm];exact λz=>by cases z);have h0p:H0 p=none:=ow.ext.hh.free hp;refine⟨hp2,[(Sum.inl k,v)],rfl,by show 1<=15;decide,?_⟩;have em:Xf [] [((Sum.inl k:Key),v)]=kvsOf [k] [v]:=by
   show putK [] (Sum.inl k:Key) v=_;unfold putK;rw[vN (by simp)];rfl
  rw[em];have ext4:Ext G0 H0.hp G2 (upd H2 p (.dK (kvsOf [k] [v]))):=⟨o3.ext.gg,YJ o3.ext.gh gp2 _,YJ o3.ext.hh h0p _,o3.ext.new⟩;have np:∀(j:Nat)ds',ω[j]?=some (some (.ow ds'))->∀l vs,σ[j]?=some (some (.ref l))->H2 l=some (.lst vs)->l≠p:=λj ds' hj l vs _ h z=>by rw[z,hp2]at h;cases h
  have npd:∀(j:Nat)ks' es,ω[j]?=some (some (.od ks' es))->σ[j]?≠some (some (.ref p)):=λj ks' es hj z=>by
   obtain⟨q,us,w1,w2,_⟩:=ow.od j ks' es hj;rw[w1]at z;cases z;rw[hp]at w2;cases w2
  have o4:Own X.K G0 H0 G2 ω σ (upd H2 p (.dK (kvsOf [k] [v]))):=by
   refine⟨ext4,o3.len,o3.sh,λj ds' hj=>?_,o3.nd,λj ks' es hj=>?_,o3.pw.upd (o3.pw.ne_ob λvs z=>by rw[hp2]at z;cases z)⟩
   ·obtain⟨l,vs,w1,w2,w3,w4,w5⟩:=o3.ow j ds' hj
    exact⟨l,vs,w1,by rw[qf (np j ds' hj l vs w1 w2)];exact w2,w3,w4,w5⟩
   ·obtain⟨q,us,w1,w2,w3,w4,w5,w6,w7⟩:=o3.od j ks' es hj
    have nq:q≠p:=λz=>npd j ks' es hj (by rw[<- z];exact w1);exact⟨q,us,w1,by rw[qf nq];exact w2,w3,w4,w5,w6,w7⟩
  exact kk G2 _ _ (o4.setOd (ks:=[k]) (ds:=[d]) (vs:=[v]) qm gp2 h0p rfl (YA.cons y2 YA.nil) npd) (x1.gg.trans x2.gg)
 | _=>cases e
end
section
open PySem.Spec PyProof.Rows PySem.W
theorem qcw:∀(vs:List vB)(ns:List Int),vs.length=ns.length->(∀(j:Nat)v n,vs[j]?=some v->ns[j]?=some n->∃t,v=.int n t)->v8 vs ns
 | [],[],_,_=>.nil
 | [],_::_,h,_=>by simp at h
 | _::_,[],h,_=>by simp at h
 | v::vs,n::ns,h,f=>by
  obtain⟨t,rfl⟩:=f 0 v n rfl rfl;exact .cons _ _ (qcw vs ns ⇑h λj a b e1 e2=>f (j+1) a b ⇑e1 ⇑e2)
variable{prog:vO}{w:vU}{A:vY}{E:vB->vF->Prop}{s:vF}
theorem qbS{a:vC}{kvs:List (Key×vB)}{ns:List Int}{Q:vB->vF->Prop}(hh:A.handled=none)(lo:(a==v6)=false)(dd:s.heap.DictOf (YT prog w) a kvs)(hk:kvs.map (·.1)=ns.map (Sum.inl:Int->Key))(h64:ns.length<64)(h:∀(h1 h':vX)(tk:Nat)(vs:List vB)(ys:List Int)(n:Nat),(∀b o,s.heap.get? b=some o->h1.get? b=some o)->(∀b o,h1.get? b=some o->h'.get? b=some o)->h'.get? h1.objs.size=some (tq "list" vs.toArray n)->v8 vs ys->ys.Perm ns->ys.Pairwise (· <= ·)->Q (.ref h1.objs.size) { s with heap:=h',toks:=tk }):
  vL (model prog w) A (call (.builtin "sorted") [.ref a]) Q E s:=by
 obtain⟨ep,hat⟩:=dd.dictAt;have hkl:kvs.length=ns.length:=by have:=uE xy hk;simpa using this
 refine Calls.call_function_entry kind_sorted plain_sorted entry_sorted (args_sorted1 _) ?_;unfold Builtin.«sorted»;refine vA (m:=checkCount "sorted" 1 1 _) (vG ?_);refine vA (kdu_collect (A:=A.in1) (kdl_dict (knd:=YT prog w) (kvs:=kvs) (ep:=ep) lo) hh hat (by rw[hkl];exact zm (yL h64) (by decide)) λh1 tk acc hk1 hacc=>?_);have y1:v8 acc.toList ns:=by
  refine qcw _ _ (by rw[zc,hacc.1,hkl]) λj v n e1 e2=>?_;obtain⟨k,x,hx,hi⟩:=hacc.2 j v (by rw[<- z5];exact e1);have e3:(kvs.map (·.1))[j]?=some k:=by rw[za,hx];rfl
  rw[hk,za,e2]at e3;cases e3;rcases q0n (k:=(Sum.inl n:Key)) hi with⟨i,t,e4,rfl⟩|⟨x,t,e4,_⟩
  ·cases e4;exact⟨t,rfl⟩
  ·cases e4
 have hlen:acc.toList.length=ns.length:=IntsAre.length y1;refine vA (wpAny_newList ?_ (zm (by rw[hlen];exact yL h64) (by decide)));generalize acc.toList=vs at y1 hlen;have hoL:(h1.push (tq "list" vs.toArray 0)).get? h1.objs.size=some (tq "list" vs.toArray 0):=zR _ rfl;refine vA (vh (vg slot_list_sort ⟨_,hoL,rfl⟩ entry_list_sort (list_sort_tree hoL y1 (by rw[hlen];exact h64) λout ns' a1 a2 a3=>⟨_,rfl,?_⟩) (args_list_sort _)));obtain⟨n,hn⟩:=sortedHeap_at (vs:=vs) (out:=out) hoL;refine vG ⟨_,rfl,h h1 _ tk out.toList ns' n hk1 (λb o e1=>?_) ?_ a1 a2 a3⟩
 ·rw[sortedHeap_old (ze (zM e1)) (by rw[yO];exact yJ (zM e1))]
  exact zF _ e1
 ·rw[wL];exact hn
end
def rSortD:List V->Hp->VK->Prop:=λxs H Q=>∃p kvs ns,xs=[.ref p]/\Rd H p (.dK kvs)/\kvs.map (·.1)=ns.map (Sum.inl:Int->Key)/\ns.length<64/\∀l,H l=none->Q (.ref l) (upd H l (.lst ((YN ns).map V.int)))
section
variable{X:Cx}{o:vQ}{i:Nat}
theorem qde(hc:X.calm=true):Yy X (.builtin "sorted") rSortD:=by
 intro pins s σ H xs us Q I r h;obtain⟨p,kvs,ns,rfl,hp,hk,hz,q⟩:=h;obtain⟨u,rfl,rx⟩:=vals1 r;cases rx;obtain⟨_,lo,vs,rel,dd⟩:=q8H I.hok hp;refine qbS (I.ok.hd hc) lo dd (by rw[<- rel.keys];exact hk) hz λh1 h' tk us ys n k1 k2 g1 a1 a2 a3=>?_;have en:ys=YN ns:=q54 a3 q3Y (a2.trans q0i.symm);subst en;have I1:Inv X pins σ H { s with heap:=h1,toks:=tk }:=I.kept k1;have hsl:(YN ns).length<=sizeLine:=by rw[q9M];exact zm (yL hz) (by decide)
 have I2:=I1.laid (a:=h1.objs.size) (o:=.lst ((YN ns).map V.int)) (t':=tk) (h':=h') k2 (zQ _)
  (show YQ X.prog X.w _ h' _ (.lst _)from ⟨by rw[zA];exact hsl,us,n,q4d a1,g1⟩)
 exact⟨.ref _,_,I2,rfl,q _ (I1.hok.fresh (zQ _))⟩
noncomputable def WU(i:Nat):FE:=λω=>(XZ ω[i]?).bind λp=>if p.1.length<64 then some (.fr ((YN p.1).map D.int))else none
theorem qfx{p q:Pos}(hc:X.calm=true)(hg:Gl X "sorted")(hm:X.mg "sorted" = none)(ho:PE X o (XR i))(he:vJ [o] X.env=(false,eval o X.env)::vJ [] X.env:=by rfl)(hpl:(vk q (vJ [] X.env)).any (·.1)=false:=by rfl):XE X (.Call (.Name "sorted" p) [o] [] q) (WU i):=by
 refine⟨_,q5D (qde hc) hg hm q7b (q0G ho q1l he) (by decide) (by decide) he hpl,λG0 H0 G ω σ H r Q ow e k=>?_⟩;obtain⟨⟨ks,ds⟩,q1,e⟩:=bnd e;obtain⟨p,vs,r1,r2,r3,r4⟩:=ow.dic q1
 by_cases hz:ks.length<64
 ·have e:(if ks.length<64 then some (R.fr ((YN ks).map D.int))else none)=some r:=e
  rw[vM hz]at e;cases e;refine⟨.ref p,r1,p,_,ks,rfl,r2,q8t (by rw[r3];exact r4.len),hz,λl hl=>?_⟩;have x2:=Ext.hide ow.gh hl (.lst ((YN ks).map V.int));exact k _ G _ x2 ⟨l,_,rfl,hl,ow.gh.free hl,qm,YA.ints _⟩
 ·have e:(if ks.length<64 then some (R.fr ((YN ks).map D.int))else none)=some r:=e
  rw[vN hz]at e;cases e
noncomputable def zAL(i:Nat):FM:=λω=>match ω[i]? with
 | some (some (.ow ds))=>(ds[ds.length-1]?).map λd=>(d,ω.set i (some (.ow ds.dropLast)))
 | _=>none
theorem YA.dropLast{K:zB}{H:Hp}{ds:List D}{vs:List V}(h:YA K H ds vs):YA K H ds.dropLast vs.dropLast:=by
 rw[ZB,ZB,h.len];exact h.take _
theorem qgf{apos cpos:Pos}(ho:PE X o (XR i))(hbase:uO o "pop" X.env (eval o X.env)=eval o X.env:=by rfl)(hline:(apos.endLine==cpos.line)=true:=by rfl):
  XM X (.Call (.Attribute o "pop" apos) [] [] cpos) (zAL i):=by
 refine⟨_,qhm PySem.F.plainAttrs_list PySem.F.slot_list_pop PySem.F.type_list_pop qgU ho hbase hline,λG0 H0 G ω σ H d ω' Q ow e k=>?_⟩;unfold zAL at e
 split at e
 ·rename_i ds q2
  obtain⟨d1,hd,e⟩:=mpd e;cases e;obtain⟨l,vs,r1,r2,r3,r4,r5⟩:=ow.ow i ds q2;obtain⟨y,hy,ry⟩:=r5.get hd;refine⟨.ref l,r1,.inl ⟨rfl,vs,SqL.of r2⟩,l,vs,y,rfl,rfl,r2,by rw[<- r5.len];exact hy,k y G _ (ow.mut q2 r1 r2 r3 r4 r5.dropLast) (YO.refl _) ry⟩
 ·cases e
end
noncomputable def WM:List Int->List (List Int)->Int->Int->List (List Int)
 | k::ks,x::xs,a,b=>if k=a then (x++[b])::xs else x::WM ks xs a b
 | _,xs,_,_=>xs
structure Tab (G H0 H:Hp) (p:vC) (ks:List Int) (ls:List vC) (xss:List (List Int)):Prop where
 dict:H p=some (.dK (kvsOf ks (ls.map V.ref)))
 gp:G p=none
 hp:H0 p=none
 len:ks.length=ls.length
 len2:ls.length=xss.length
 lst:∀(j:Nat)l xs,ls[j]?=some l->xss[j]?=some xs->H l=some (.lst (xs.map V.int))
 gl:∀l∈ls,G l=none/\H0 l=none
 nd:ls.Nodup
theorem Tab.inn{G H0 H:Hp}{p:vC}{ks:List Int}{ls:List vC}{xss:List (List Int)}(T:Tab G H0 H p ks ls xss){l:vC}(h:l∈ls):∃xs:List Int,H l=some (.lst (xs.map V.int)):=by
 obtain⟨j,hj,rfl⟩:=zn.mp h;have hj2:j<xss.length:=by rw[<- T.len2];exact hj
 exact⟨xss[j],T.lst j _ _ (zD hj) (zD hj2)⟩
theorem Tab.pl{G H0 H:Hp}{p:vC}{ks:List Int}{ls:List vC}{xss:List (List Int)}(T:Tab G H0 H p ks ls xss):p∉ls:=λh=>by
 obtain⟨xs,e⟩:=T.inn h;rw[T.dict]at e;cases e
theorem Tab.keep{G G' H0 H H':Hp}{p:vC}{ks:List Int}{ls:List vC}{xss:List (List Int)}(T:Tab G H0 H p ks ls xss)(x:Ext G H G' H'):Tab G' H0 H' p ks ls xss :=
 ⟨x.hh _ _ T.dict,x.new p T.gp (by rw[T.dict];exact λz=>by cases z),T.hp,T.len,T.len2,λj l xs h1 h2=>x.hh _ _ (T.lst j l xs h1 h2),λl h=>by
  obtain⟨xs,e⟩:=T.inn h;exact⟨x.new l (T.gl l h).1 (by rw[e];exact λz=>by cases z),(T.gl l h).2⟩,T.nd⟩
theorem qe6:∀{ks:List Int}{ls:List vC}{a:Int},ks.length=ls.length->a∈ks->∃(j:Nat) (l:vC),ks[j]?=some a/\ls[j]?=some l/\YZ ks (ls.map V.ref) a=some (.ref l)/\∀(xss:List (List Int))(b:Int),xss.length=ls.length->∃xs,xss[j]?=some xs/\WM ks xss a b=xss.set j (xs++[b])
 | [],_,_,_,h=>by simp at h
 | _::_,[],_,h,_=>by simp at h
 | k::ks,l::ls,a,h,ha=>by
  by_cases z:k=a
  ·refine⟨0,l,by rw[z];rfl,rfl,vM z,λxss b hx=>?_⟩
   cases xss with
   | nil=>simp at hx
   | cons x xs=>exact⟨x,rfl,vM z⟩
  ·have ha':a∈ks:=(zE.mp ha).resolve_left λe=>z e.symm
   obtain⟨j,l',e1,e2,e3,e4⟩:=qe6 (ks:=ks) (ls:=ls) ⇑h ha';refine⟨j+1,l',e1,e2,?_,λxss b hx=>?_⟩
   ·show (if k=a then _ else _)=_
    rw[vN z];exact e3
   ·cases xss with
    | nil=>simp at hx
    | cons x xs=>
     obtain⟨y,h1,h2⟩:=e4 xs b ⇑hx;refine⟨y,h1,?_⟩;show (if k=a then _ else x::WM ks xs a b)=_;rw[vN z,h2];rfl
theorem Tab.app{G H0 H:Hp}{p:vC}{ks:List Int}{ls:List vC}{xss:List (List Int)}(T:Tab G H0 H p ks ls xss){a:Int}(b:Int)(ha:a∈ks):
  ∃(l:vC) (xs:List Int),l∈ls/\xs∈xss/\YZ ks (ls.map V.ref) a=some (.ref l)/\WR H p (.int a) (some (.ref l))/\H l=some (.lst (xs.map V.int))/\Tab G H0 (upd H l (.lst ((xs++[b]).map V.int))) p ks ls (WM ks xss a b):=by
 obtain⟨j,l,e1,e2,e3,e4⟩:=qe6 T.len ha;obtain⟨xs,e5,e6⟩:=e4 xss b T.len2.symm;have hl:l∈ls:=zx e2;have hlp:p≠l:=λz=>T.pl (z▸hl);have g:=WR.k (k:=(Sum.inl a:Key)) T.dict;rw[q5P (by rw[zA];exact T.len),e3]at g;refine⟨l,xs,hl,zx e5,e3,g,T.lst j l xs e2 e5,?_⟩;rw[e6];refine⟨by rw[qf hlp];exact T.dict,T.gp,T.hp,T.len,by rw[yP];exact T.len2,λi m ys h1 h2=>?_,T.gl,T.nd⟩;rcases qj h2 with⟨rfl,_,rfl⟩|⟨ne,h3⟩
 ·rw[e2]at h1
  cases h1;exact qm
 ·have hm:m≠l:=λz=>by
   subst z;obtain⟨i1,i2⟩:=zh.mp h1;obtain⟨j1,j2⟩:=zh.mp e2;exact ne ((wZ T.nd).mp (j2.trans i2.symm))
  rw[qf hm];exact T.lst i m ys h1 h3
theorem Own.free{K:zB}{G0:Hp}{H0:Fr}{G:Hp}{ω:WSt}{σ:St}{H:Hp}{q:vC}{ob:HO}(o:Own K G0 H0 G ω σ H)(no:Y9 ω)(hG:G q=none)(h0:H0 q=none):Own K G0 H0 G ω σ (upd H q ob) :=
 ⟨⟨o.ext.gg,YJ o.ext.gh hG _,YJ o.ext.hh h0 _,o.ext.new⟩,o.len,o.sh,λi ds h=>vK h (no.ow i ds),o.nd,λi ks ds h=>vK h (no.od i ks ds),Yq.no no.pw⟩
theorem Tab.put{G H0 H:Hp}{p:vC}{ks:List Int}{ls:List vC}{xss:List (List Int)}(T:Tab G H0 H p ks ls xss){k:Int}{l:vC}(hk:k∉ks)(hl:H l=none)(sg:YO G H)(s0:YO H0 H)(hz:ks.length<1000000):
  ∃H4,zAw (upd H l (.lst [])) p (.int k) (.ref l) H4/\H4=upd (upd H l (.lst [])) p (.dK (kvsOf (ks++[k]) ((ls++[l]).map V.ref)))/\Tab G H0 H4 p (ks++[k]) (ls++[l]) (xss++[[]]):=by
 have hpl:p≠l:=λz=>by rw[<- z,T.dict]at hl;cases hl
 have hlen:ks.length=(ls.map V.ref).length:=by rw[zA];exact T.len
 have e:putK (kvsOf ks (ls.map V.ref)) (Sum.inl k) (.ref l)=kvsOf (ks++[k]) ((ls++[l]).map V.ref):=by
  rw[q9H hlen];unfold Y8 putA;rw[vN hk,vN hk,zW];rfl
 have d:=zAw.k (H:=upd H l (.lst [])) (a:=p) (kvs:=kvsOf ks (ls.map V.ref)) (k:=(Sum.inl k:Key)) (v:=.ref l) (by rw[qf hpl];exact T.dict) (by rw[q7a hlen,uB];omega);rw[e]at d;refine⟨_,d,rfl,qm,T.gp,T.hp,by rw[zC,zC,T.len];rfl,by rw[zC,zC,T.len2];rfl,λj m xs h1 h2=>?_,λm hm=>?_,?_⟩
 ·rcases yC j ls.length with z|z
  ·rw[zj z]at h1
   rw[zj (by rw[<- T.len2];exact z)]at h2;have e1:=T.lst j m xs h1 h2;have n1:m≠p:=λy=>T.pl (y▸zx h1);have n2:m≠l:=λy=>by rw[y,hl]at e1;cases e1
   rw[qf n1,qf n2];exact e1
  ·rw[zf z]at h1
   rw[zf (by rw[<- T.len2];exact z),<- T.len2]at h2;cases hj:j-ls.length with
   | zero=>
    rw[hj]at h1 h2;cases h1;cases h2;rw[qf (Ne.symm hpl)];exact qm
   | succ n=>rw[hj]at h1;cases h1
 ·rcases zP.mp hm with h|h
  ·exact T.gl m h
  ·cases zL.mp h;exact⟨sg.free hl,s0.free hl⟩
 ·rw[yd]
  refine⟨T.nd,by simp,λa ha b hb z=>?_⟩;cases zL.mp hb;obtain⟨xs,e1⟩:=T.inn ha;rw[z,hl]at e1;cases e1
noncomputable def pairsOf:List D->Option (List (Int×Int))
 | []=>some []
 | .tup [.int a,.int b]::r=>(pairsOf r).map λl=>(a,b)::l
 | _=>none
noncomputable def YH(e:Int×Int):D:=.tup [.int e.1,.int e.2]
theorem q8M:∀{ds:List D}{es:List (Int×Int)},pairsOf ds=some es->ds=es.map YH
 | [],_,h=>by cases h;rfl
 | d::r,es,h=>by
  unfold pairsOf at h
  split at h
  ·rename_i e;cases e
  ·rename_i e
   cases e;obtain⟨l,h1,h2⟩:=mpd h;subst h2;rw[q8M h1];rfl
  ·cases h
theorem q7M:∀es:List (Int×Int),pairsOf (es.map YH)=some es
 | []=>rfl
 | e::r=>by show (pairsOf (r.map YH)).map _=_;rw[q7M r];rfl
noncomputable def Y1(ks:List Int)(xss:List (List Int))(e:Int×Int):List (List Int):=WM ks (WM ks xss e.1 e.2) e.2 e.1
noncomputable def nbT(ts:List Int)(es:List (Int×Int)):List (List Int):=es.foldl (Y1 ts) (ts.map λ_=>[])
noncomputable def nbM(a b:List D):Option D:=(intsOf a).bind λts=>(pairsOf b).bind λes=>if ts.Nodup/\(∀e∈es,e.1∈ts/\e.2∈ts)/\ts.length<=1000/\es.length<=1000 then some (.dic ts ((nbT ts es).map λxs=>.lst (xs.map D.int)))else none
noncomputable def sNb:FS:=λω=>match ω with
 | [↥(.lst a),↥(.lst b),none,none,none]=>(nbM a b).map λd=>(.rt (.sh d),ω)
 | _=>none
theorem zAr{a b:D}{x:Option D}:Y9 [↥a,↥b,none,none,x.map W.sh]:=by
 intro i w e
 match i,e with
 | 0,e=>cases e;exact⟨_,rfl⟩
 | 1,e=>cases e;exact⟨_,rfl⟩
 | 2,e=>cases e
 | 3,e=>cases e
 | 4,e=>
  cases x with
  | none=>cases e
  | some d=>cases e;exact⟨d,rfl⟩
 | i+5,e=>simp at e
theorem Own.other{K:zB}{G0:Hp}{H0:Fr}{G:Hp}{ω:WSt}{σ:St}{H:Hp}{i:Nat}{v:Option V}(o:Own K G0 H0 G ω σ H)(no:Y9 ω)(hi:∀w,ω[i]?≠some (some w)):Own K G0 H0 G ω (σ.set i v) H :=
 ⟨o.ext,by rw[yP];exact o.len,λj d h=>by
  obtain⟨u,h1,h2⟩:=o.sh j d h;exact⟨u,by rw[zS (λz=>hi _ (z▸h))];exact h1,h2⟩,λi ds h=>vK h (no.ow i ds),λi j ds es l h=>vK h (no.ow i ds),λi ks ds h=>vK h (no.od i ks ds),Yq.no no.pw⟩
theorem q9y(n:Nat):∀(ks:List Int)(xss:List (List Int))(a b:Int),(∀x∈xss,x.length<=n)->∀x∈WM ks xss a b,x.length<=n+1
 | [],xss,_,_,h,x,hx=>wW (h x hx)
 | _::_,[],_,_,h,x,hx=>by cases hx
 | k::ks,y::xss,a,b,h,x,hx=>by
  unfold WM at hx
  by_cases z:k=a
  ·rw[vM z]at hx
   rcases zE.mp hx with rfl|hx
   ·have:=h y zK
    rw[zC,zH];omega
   ·exact wW (h x (zJ _ hx))
  ·rw[vN z]at hx
   rcases zE.mp hx with rfl|hx
   ·exact wW (h _ zK)
   ·exact q9y n ks xss a b (λx h'=>h x (zJ _ h')) x hx
theorem Tab.told{K:zB}{G0 G:Hp}{H0:Fr}{H:Hp}{ω:WSt}{σ:St}{p:vC}{ks:List Int}{ls:List vC}{xss:List (List Int)}(T:Tab G H0 H p ks ls xss)(o:Own K G0 H0 G ω σ H)(no:Y9 ω)(ob:Obj):
  ∃G',YO G G'/\Own K G0 H0 G' ω σ (upd H p (.frz ob (.dK (kvsOf ks (ls.map V.ref)))))/\Rep K G' (.dic ks (xss.map λxs=>.lst (xs.map D.int))) (.ref p):=by
 obtain⟨H',hH⟩:∃H':Hp,H'=upd H p (.frz ob (.dK (kvsOf ks (ls.map V.ref)))):=⟨_,rfl⟩;rw[<- hH];have hp':H' p=some (.frz ob (.dK (kvsOf ks (ls.map V.ref)))):=by rw[hH];exact qm
 have hn':∀b,b≠p->H' b=H b:=λb h=>by rw[hH];exact qf h
 let G':Hp:=λb=>if b=p\/b∈ls then H' b else G b
 have hin:∀b,(b=p\/b∈ls)->G' b=H' b:=λb h=>vM h;have hout:∀b,¬(b=p\/b∈ls)->G' b=G b:=λb h=>vN h;have gn:∀b,(b=p\/b∈ls)->G b=none/\H0 b=none:=λb h=>by
  rcases h with rfl|h
  ·exact⟨T.gp,T.hp⟩
  ·exact T.gl b h
 have gg:YO G G':=λb u z=>by
  by_cases y:b=p\/b∈ls
  ·rw[(gn b y).1]at z;cases z
  ·rw[hout b y];exact z
 have gh:YO G' H':=λb u z=>by
  by_cases y:b=p\/b∈ls
  ·rw[hin b y]at z;exact z
  ·rw[hout b y]at z;rw[hn' b λw=>y (.inl w)];exact o.gh b u z
 have hh:YO H0.hp H':=λb u z=>by
  rw[hn' b λw=>by rw[w,T.hp]at z;cases z];exact o.ext.hh b u z
 refine⟨G',gg,⟨⟨o.ext.gg.trans gg,gh,hh,λb z1 z2=>?_⟩,o.len,λi d h=>?_,λi ds h=>vK h (no.ow i ds),o.nd,λi ks ds h=>vK h (no.od i ks ds),Yq.no no.pw⟩,p,ls.map V.ref,rfl,⟨ob,by rw[hin p (.inl rfl)];exact hp'⟩,by rw[zA,<- T.len2];exact T.len,?_⟩
 ·by_cases y:b=p\/b∈ls
  ·exact vK (gn b y).2 z2
  ·rw[hout b y];exact o.ext.new b z1 z2
 ·obtain⟨v,h1,h2⟩:=o.sh i d h
  exact⟨v,h1,h2.mono gg⟩
 ·refine q6Z (by rw[zA];exact T.len2.symm) λj d t h1 h2=>?_
  rw[za]at h1;cases q:xss[j]? with
  | none=>rw[q]at h1;cases h1
  | some xs=>
   rw[q]at h1;cases h1;have hl:=T.lst j t xs h2 q;exact⟨t,_,rfl,by rw[hin t (.inr (zx h2)),hn' t λw=>by rw[w,T.dict]at hl;cases hl];exact hl,YA.ints xs⟩
theorem qei{K:zB}{ta tb:TE}{g0 g1:FD}(k2:zA7 K ta g0)(k4:zA7 K tb g1){G0:Hp}{H0:Fr}{G:Hp}{ω:WSt}{σ:St}{H:Hp}{p:vC}{ks:List Int}{ls:List vC}{xss:List (List Int)}{a b:Int}{Q:VK}(o:Own K G0 H0 G ω σ H)(no:Y9 ω)(hσ:σ[2]?=some (some (.ref p)))(T:Tab G H0 H p ks ls xss)(h0:g0 ω=some (.int a))(h1:g1 ω=some (.int b))(ha:a∈ks)(hz:∀xs∈xss,xs.length<1000000)(h:∀G' H',Own K G0 H0 G' ω σ H'->YO G G'->Tab G' H0 H' p ks ls (WM ks xss a b)->Q .non H'):tBM K "list" WV (tDGet (XR 2) ta) (tCons tb tNil) σ H Q:=by
 refine⟨.ref p,hσ,k2 G0 H0 G ω σ H _ _ o h0 λu G1 H1 x1 y1=>?_⟩;cases (show u=.int a from y1);have o1:=o.keep x1;have T1:=T.keep x1;obtain⟨l,xs,m1,m2,m3,m4,m5,_⟩:=T1.app b ha;refine⟨p,.ref l,rfl,m4,.inl ⟨rfl,_,SqL.of m5⟩,k4 G0 H0 G1 ω σ H1 _ _ o1 h1 λu G2 H2 x2 y2=>?_⟩;cases (show u=.int b from y2);have o2:=o1.keep x2;have T2:=T1.keep x2;obtain⟨l',xs',n1,n2,n3,n4,n5,n6⟩:=T2.app b ha;rw[m3]at n3;cases n3;refine⟨l,_,.int b,rfl,rfl,n5,by rw[zA,uB];have:=hz xs' n2;omega,?_⟩;rw[show xs'.map V.int++[V.int b]=(xs'++[b]).map V.int by rw[zW];rfl];exact h G2 _ (o2.free no (T2.gl l n1).1 (T2.gl l n1).2) (x1.gg.trans x2.gg) n6
theorem qee{a b:vQ}{p:Pos}{n:Str}{env:Env}(m:Sem vB):uO (.Subscript a b p) n env m=m:=rfl
section
variable{X:Cx}
theorem qhf{x2 x3 x4:Str}{o0 o1 o2 o3 o4 o4b e0 e1 e0b e1b e0':vQ}{q1 q2 q3 q4 q5 q6 q7 q8 q9 q10 q11 q12 q13 q14 q15 a1 a2 c1 c2:Pos}{g0 g1:FD}(hu:X.A.units+64<uT)(hp:tD (model X.prog X.w) X.A X.env X.xe)(hc:X.calm=true)(hN:X.N.Nodup)(i2:X.N[2]?=some x2)(i3:X.N[3]?=some x3)(i4:X.N[4]?=some x4)(l2:Loc X.env.scope x2)(l3:Loc X.env.scope x3)(l4:Loc X.env.scope x4)(f2:X.fn x2=true\/X.env.scope.names.lookup x2=some .local)(f3:X.fn x3=true\/X.env.scope.names.lookup x3=some .local)(f4:X.fn x4=true\/X.env.scope.names.lookup x4=some .local)(h0:PE X o0 (XR 0))(h1:PE X o1 (XR 1))(h2:PE X o2 (XR 2))(h2':PE X o4 (XR 2))(h2b:PE X o4b (XR 2))(h3:PE X o3 (XR 3))(h5:PE X e0' (XR 2))(ha:XD X e0 g0)(hb:XD X e1 g1)(hab:XD X e0b g0)(hbb:XD X e1b g1)(hg0:∀(ω:WSt)e,ω[4]?=some (some (.sh (YH e)))->g0 ω=some (.int e.1))(hg1:∀(ω:WSt)e,ω[4]?=some (some (.sh (YH e)))->g1 ω=some (.int e.2))(s1:vm (.Dict [] [] q1) (some (.Name x2 q2)) q3.line X.env=pure false:=by rfl)(s2:vm (.List [] q4) (some (.Subscript o2 o3 q5)) q6.line X.env=pure false:=by rfl)(n0:NoSl e0:=by intro _ _;rfl)(n1:NoSl e1b:=by intro _ _;rfl)(w1:((vk c1 (vJ [e1] X.env)).all (λx=>!x.1)&&(tQ c1 (uq [] X.env)).all (λx=>x.1.isSome)&&decide (([e1]:List vQ).length+([]:List ua).length+(if ([]:List ua).isEmpty then 0 else 1)<30))=true:=by rfl)(w2:((vk c2 (vJ [e0b] X.env)).all (λx=>!x.1)&&(tQ c2 (uq [] X.env)).all (λx=>x.1.isSome)&&decide (([e0b]:List vQ).length+([]:List ua).length+(if ([]:List ua).isEmpty then 0 else 1)<30))=true:=by rfl)(z1:(a1.endLine==c1.line)=true:=by rfl)(z2:(a2.endLine==c2.line)=true:=by rfl)(t1:vJ [e1] X.env=(false,eval e1 X.env)::vJ [] X.env:=by rfl)(t2:vJ [e0b] X.env=(false,eval e0b X.env)::vJ [] X.env:=by rfl)(p1:(vk c1 (vJ [] X.env)).any (·.1)=false:=by rfl)(p2:(vk c2 (vJ [] X.env)).any (·.1)=false:=by rfl)(v1:vm (.Call (.Attribute (.Subscript o4 e0 q7) "append" a1) [e1] [] c1) none q9.line X.env=pure false:=by rfl)(v2:vm (.Call (.Attribute (.Subscript o4b e1b q8) "append" a2) [e0b] [] c2) none q10.line X.env=pure false:=by rfl)(y1:∀x,vn o0 X.env x=pure x:=by intro _;rfl)(y2:∀x,vn o1 X.env x=pure x:=by intro _;rfl):
  XSs X [.Assign [.Name x2 q2] (.Dict [] [] q1) q3,.For (.Name x3 q11) o0 [.Assign [.Subscript o2 o3 q5] (.List [] q4) q6] [] q12,
   .For (.Name x4 q13) o1 [.Expr (.Call (.Attribute (.Subscript o4 e0 q7) "append" a1) [e1] [] c1) q9,.Expr (.Call (.Attribute (.Subscript o4b e1b q8) "append" a2) [e0b] [] c2) q10] [] q14,.Return (some e0') q15] sNb:=by
 obtain⟨ta,k1,k2⟩:=ha;obtain⟨tb,k3,k4⟩:=hb;obtain⟨ta',k1',k2'⟩:=hab;obtain⟨tb',k3',k4'⟩:=hbb;have hu:=hu1 hu;refine⟨_,q2O (q61 hN i2 l2 qaE s1 f2) (q2O (qb2 hp hc (q7G h0) (q99 hN i3 l3 f3) (q7v (qcf hu h2 h3 (qdu q1l) s2)) y1)
  (q2O (qb2 hp hc (q7G h1) (q99 hN i4 l4 f4) (q2O (q5a (qaw PySem.F.plainAttrs_list PySem.F.slot_list_append PySem.F.type_list_append q5H (q9o hu h2' k1 n0) (q0G k3 q1l t1) (qee _) w1 z1 t1 p1) v1)
   (q7v (q5a (qaw PySem.F.plainAttrs_list PySem.F.slot_list_append PySem.F.type_list_append q5H (q9o hu h2b k3' n1) (q0G k1' q1l t2) (qee _) w2 z2 t2 p2) v2))) y2) (q90 2 (q7v (q8z h5))))),λG0 H0 G ω σ H out ω' E ow e kk=>?_⟩
 unfold sNb at e
 split at e
 case h_2=>cases e
 case h_1 _ a b=>
 obtain⟨d,e2,e3⟩:=mpd e;clear e;cases e3;obtain⟨ts,e4,e5⟩:=bnd e2;obtain⟨es,e6,e7⟩:=bnd e5;clear e2 e5
 by_cases cond:ts.Nodup/\(∀e∈es,e.1∈ts/\e.2∈ts)/\ts.length<=1000/\es.length<=1000
 case neg=>rw[vN cond]at e7;cases e7
 rw[vM cond]at e7;cases e7;obtain⟨cd1,cd2,cd3,cd4⟩:=cond;have ha':=q5K e4;have hb':=q8M e6;subst ha' hb';clear e4 e6;have no:Y9 [some (W.sh (.lst (ts.map D.int))),↥(.lst (es.map YH)),none,none,none]:=zAr (x:=none);have hlen:σ.length=5:=ow.len.symm;obtain⟨v0,r0,A0,vs0,rfl,r1,r2⟩:=ow.sh 0 _ rfl;obtain⟨v1,r3,A1,vs1,rfl,r4,r5⟩:=ow.sh 1 _ rfl;have hvs0:=r2.of_ints;subst hvs0;intro p hpn;have o1:Own X.K G0 H0 G [some (W.sh (.lst (ts.map D.int))),↥(.lst (es.map YH)),none,none,none] (σ.set 2 (some (.ref p))) (upd H p (.dK [])):=(ow.free no (ow.gh.free hpn) (ow.ext.hh.free hpn)).other no λw z=>by cases z
 have T0:Tab G H0 (upd H p (.dK [])) p (ts.take 0) [] ((ts.take 0).map λ_=>[]):=⟨qm,ow.gh.free hpn,ow.ext.hh.free hpn,rfl,rfl,λj l xs h=>(by simp at h),λl h=>(by cases h),wB⟩;refine⟨.ref A0,by rw[zS (by decide)];exact r0,A0,rfl,⟨_,SqL.of (o1.gh _ _ r1)⟩,λn m σ2 H2=>∃ls,Own X.K G0 H0 G [some (W.sh (.lst (ts.map D.int))),↥(.lst (es.map YH)),none,none,none] σ2 H2/\σ2[2]?=some (some (.ref p))/\Tab G H0 H2 p (ts.take n) ls ((ts.take n).map λ_=>[])/\n<=ts.length/\m=ts.length-n,
  ⟨_,[],o1,xB (by rw[hlen];decide),T0,zu _,rfl⟩,?_⟩
 rintro n m σ2 H2 ⟨ls,o2,s22,T2,hn,rfl⟩
 by_cases hlt:n<ts.length
 ·have hq:=o2.gh _ _ r1
  refine .inr ⟨⟨_,.int ts[n],SqL.of hq,by rw[za,zD hlt];rfl⟩,λσ3 H3=>∃ls,Own X.K G0 H0 G [some (W.sh (.lst (ts.map D.int))),↥(.lst (es.map YH)),none,none,none] σ3 H3/\σ3[2]?=some (some (.ref p))/\Tab G H0 H3 p (ts.take (n+1)) ls ((ts.take (n+1)).map λ_=>[]),
   λσ3 H3 ⟨ls,b1,b2,b3⟩=>⟨ts.length-(n+1),∅,ls,b1,b2,b3,hlt,rfl⟩,λy H3 hy=>?_⟩
  obtain⟨rfl,hy⟩:=hy;have hy:=hy _ (SqL.of hq);rw[za,zD hlt]at hy;cases hy;have hl2:σ2.length=5:=o2.len.symm;refine⟨by show 0<=sizeLine;exact zu _,λl hl=>?_⟩;refine⟨.ref p,by rw[zS (by decide)];exact s22,.int ts[n],xB (by rw[hl2];decide),?_⟩;have nk:ts[n]∉ts.take n:=λz=>by
   obtain⟨j,hj,ej⟩:=zn.mp z;rw[ZV]at ej;have hj':j<n:=by rw[zy]at hj;omega
   have:=(wZ cd1).mp ej;omega
  obtain⟨H4,d1,d2,T4⟩:=T2.put nk hl o2.gh o2.ext.hh (by rw[zy];omega);refine⟨p,H4,rfl,d1,ls++[l],?_,by rw[zS (by decide)];exact s22,?_⟩
  ·subst d2
   exact((o2.free no (o2.gh.free hl) (o2.ext.hh.free hl)).free no T2.gp T2.hp).other no λw z=>by cases z
  ·rw[(wY hlt).symm,zW]
   exact T4
 ·have en:n=ts.length:=∅
  subst en;rw[wH]at T2;refine .inl ⟨⟨_,SqL.of (o2.gh _ _ r1),by rw[zA];exact zQ _⟩,?_⟩;obtain⟨v1',r3',A1',vs1',rfl,r4',r5'⟩:=o2.sh 1 _ rfl;have hl5:es.length=vs1'.length:=by have:=r5'.len;rw[zA]at this;exact this
  refine⟨.ref A1',r3',A1',rfl,⟨_,SqL.of (o2.gh _ _ r4')⟩,λn m σ3 H3=>∃G3 x4,Own X.K G0 H0 G3 [some (W.sh (.lst (ts.map D.int))),↥(.lst (es.map YH)),none,none,x4.map W.sh] σ3 H3/\YO G G3/\σ3[2]?=some (some (.ref p))/\Tab G3 H0 H3 p ts ls ((es.take n).foldl (Y1 ts) (ts.map λ_=>[])) /\
   (∀xs∈(es.take n).foldl (Y1 ts) (ts.map λ_=>[]),xs.length<=2*n)/\n<=es.length/\m=es.length-n,
   ⟨_,G,none,o2,YO.refl _,s22,T2,λxs hx=>by obtain⟨_,_,rfl⟩:=zN.mp hx;exact zQ _,zu _,rfl⟩,?_⟩
  rintro n m σ3 H3 ⟨G3,x4,o3,g3,s32,T3,b3,hn3,rfl⟩
  by_cases hlt3:n<es.length
  ·have hq3:=o3.gh _ _ (g3 _ _ r4')
   have hlv:n<vs1'.length:=by rw[<- hl5];exact hlt3
   refine .inr ⟨⟨_,vs1'[n],SqL.of hq3,zD hlv⟩,λσ4 H4=>∃G4 x4,Own X.K G0 H0 G4 [some (W.sh (.lst (ts.map D.int))),↥(.lst (es.map YH)),none,none,x4.map W.sh] σ4 H4/\YO G G4/\σ4[2]?=some (some (.ref p))/\Tab G4 H0 H4 p ts ls ((es.take (n+1)).foldl (Y1 ts) (ts.map λ_=>[])) /\
    (∀xs∈(es.take (n+1)).foldl (Y1 ts) (ts.map λ_=>[]),xs.length<=2*(n+1)),
    λσ4 H4 ⟨G4,x4,b1,b2,b4,b5,b6⟩=>⟨es.length-(n+1),∅,G4,x4,b1,b2,b4,b5,b6,hlt3,rfl⟩,λy H4 hy=>?_⟩
   obtain⟨rfl,hy⟩:=hy;have hy:=hy _ (SqL.of hq3);rw[zD hlv]at hy;cases hy;have hd:(es.map YH)[n]?=some (YH es[n]):=by rw[za,zD hlt3];rfl
   obtain⟨v,hv1,hv2⟩:=r5'.get hd;rw[zD hlv]at hv1;cases hv1;have hl3:σ3.length=5:=o3.len.symm;have o4:Own X.K G0 H0 G3 [some (W.sh (.lst (ts.map D.int))),↥(.lst (es.map YH)),none,none,↥(YH es[n])] (σ3.set 4 (some vs1'[n])) H4:=o3.setSh (i:=4) (hv2.mono g3);have no4:Y9 [some (W.sh (.lst (ts.map D.int))),↥(.lst (es.map YH)),none,none,↥(YH es[n])]:=zAr (x:=some (YH es[n]));have s42:(σ3.set 4 (some vs1'[n]))[2]?=some (some (.ref p)):=by rw[zS (by decide)];exact s32
   obtain⟨in1,in2⟩:=cd2 es[n] (ym hlt3);refine qei k2 k4 o4 no4 s42 T3 (hg0 _ es[n] rfl) (hg1 _ es[n] rfl) in1 (λxs hx=>by have:=b3 xs hx;omega) λG5 H5 o5 g5 T5=>?_;have b5:=q9y (2*n) ts _ es[n].1 es[n].2 b3;refine qei k4' k2' o5 no4 s42 T5 (hg1 _ es[n] rfl) (hg0 _ es[n] rfl) in2 (λxs hx=>by have:=b5 xs hx;omega) λG6 H6 o6 g6 T6=>?_;have b6:=q9y (2*n+1) ts _ es[n].2 es[n].1 b5;have et:es.take (n+1)=es.take n++[es[n]]:=(wY hlt3).symm;refine⟨G6,some (YH es[n]),o6,(g3.trans g5).trans g6,s42,?_,?_⟩
   ·rw[et,Zc];exact T6
   ·rw[et,Zc]
    intro xs hx;have:=b6 xs hx;omega
  ·have en3:n=es.length:=∅
   subst en3;rw[wH]at T3;refine .inl ⟨⟨_,SqL.of (o3.gh _ _ (g3 _ _ r4')),by rw[hl5];exact zQ _⟩,?_⟩;have no3:Y9 [some (W.sh (.lst (ts.map D.int))),↥(.lst (es.map YH)),none,none,x4.map W.sh]:=zAr;refine⟨p,_,s32,T3.dict,λob=>?_⟩;obtain⟨G',g',o',rp⟩:=T3.told o3 no3 ob;generalize upd H3 p (.frz ob _)=H4 at o' ⊢;refine⟨.ref p,s32,?_⟩;have oF:Own X.K G0 H0 G' [some (W.sh (.lst (ts.map D.int))),↥(.lst (es.map YH)),none,none,none] σ3 H4:=by
    refine⟨o'.ext,o'.len,λi d h=>?_,λi ds h=>vK h (no.ow i ds),λi j ds es l h=>vK h (no.ow i ds),λi ks ds h=>vK h (no.od i ks ds),Yq.no no.pw⟩
    match i,h with
    | 0,h=>exact o'.sh 0 d h
    | 1,h=>exact o'.sh 1 d h
    | 2,h=>cases h
    | 3,h=>cases h
    | 4,h=>cases h
    | i+5,h=>simp at h
   exact kk G' σ3 H4 oF (g3.trans g') (.ref p) rp
end
theorem qh5{ω:WSt}{e:Int×Int}(h:ω[4]?=some ↥(YH e)):dOf (Z0 oIx (vOf (Zy 4)) (fC (.int 0))) ω=some (.int e.1):=by
 unfold dOf Z0 vOf Zy fC;rw[h];rfl
theorem qhl{ω:WSt}{e:Int×Int}(h:ω[4]?=some ↥(YH e)):dOf (Z0 oIx (vOf (Zy 4)) (fC (.int 1))) ω=some (.int e.2):=by
 unfold dOf Z0 vOf Zy fC;rw[h];rfl
noncomputable def zAi(i:Nat)(ω:WSt)(c d:Option D):Option (Out×WSt):=c.bind λc=>d.bind λd=>match c with
 | .int k=>some (.nx,ω.set i (some (.od [k] [d])))
 | _=>none
noncomputable def dsetS(i:Nat)(ω:WSt)(v c:Option D)(w:Option (Option W)):Option (Out×WSt):=v.bind λd=>c.bind λc=>match c,w with
 | .int k,some (some (.od ks ds))=>if ks.length<1000000 then some (.nx,ω.set i (some (.od (Y8 ks k) (putA ks ds k d))))else none
 | _,_=>none
noncomputable def dgetR(o:Option (List Int×List D))(c:Option D):Option R:=o.bind λp=>c.bind λc=>match c with
 | .int k=>(YZ p.1 p.2 k).map R.sh
 | _=>none
noncomputable def dhasT(neg:Bool)(c:Option D)(o:Option (List Int×List D)):Option Bool:=c.bind λc=>o.bind λp=>match c with
 | .int k=>some (if neg then !(YZ p.1 p.2 k).isSome else (YZ p.1 p.2 k).isSome)
 | _=>none
noncomputable def zAh(o:Option (List Int×List D)):Option R:=o.bind λp=>if p.1.length<64 then some (.fr ((YN p.1).map D.int))else none
noncomputable def pop0(i:Nat)(ω:WSt)(w:Option (Option W)):Option (D×WSt):=match w with
 | some (some (.ow ds))=>(ds[ds.length-1]?).map λd=>(d,ω.set i (some (.ow ds.dropLast)))
 | _=>none
noncomputable def zAv(j i:Nat)(ω:WSt)(w:Option (Option W)):Option (Out×WSt):=(pop0 i ω w).map λp=>(.nx,p.2.set j (some (.sh p.1)))
section
variable{ω:WSt}{fk fv:FD}{i j:Nat}{ks:List Int}{ds:List D}{k:Int}{d:D}{neg:Bool}
theorem q3q:zAR i ω=some (.nx,ω.set i (some (.od [] []))):=rfl
theorem q2l:Wa i fk fv ω=zAi i ω (fk ω) (fv ω):=rfl
theorem q4K:zAi i ω (some (.int k)) (some d)=some (.nx,ω.set i (some (.od [k] [d]))):=rfl
theorem q34:WZ i fk fv ω=dsetS i ω (fv ω) (fk ω) ω[i]?:=rfl
theorem q3t:Wi i fk ω=dgetR (XZ ω[i]?) (fk ω):=rfl
theorem q4B:dgetR (some (ks,ds)) (some (.int k))=(YZ ks ds k).map R.sh:=rfl
theorem q4Y:XZ (some (some (.od ks ds)))=some (ks,ds):=rfl
theorem q4u:XZ (some ↥(.dic ks ds))=some (ks,ds):=rfl
theorem q3i:Wo neg i fk ω=dhasT neg (fk ω) (XZ ω[i]?):=rfl
theorem q4t:dhasT true (some (.int k)) (some (ks,ds))=some (!(YZ ks ds k).isSome):=rfl
theorem q2j:WU i ω=zAh (XZ ω[i]?):=rfl
theorem q2d:zAQ j (zAL i) ω=zAv j i ω ω[i]?:=rfl
theorem q4I:shrS i ω (some (some (.od ks ds)))=ω.set i ↥(.dic ks ds):=rfl
end
theorem q9l{i:Nat}{ω:WSt}{ks:List Int}{ds:List D}{k:Int}{d:D}(h:ks.length<1000000):dsetS i ω (some d) (some (.int k)) (some (some (.od ks ds)))=some (.nx,ω.set i (some (.od (Y8 ks k) (putA ks ds k d)))):=vM h
theorem qfr{ks:List Int}{ds:List D}(h:ks.length<64):zAh (some (ks,ds))=some (.fr ((YN ks).map D.int)):=vM h
theorem qgA{j i:Nat}{ω:WSt}{ds:List D}{d:D}:zAv j i ω (some (some (.ow (ds++[d]))))=some (.nx,(ω.set i (some (.ow ds))).set j ↥d):=by
 unfold zAv pop0;have e1:(ds++[d])[(ds++[d]).length-1]?=some d:=by
  rw[zC,zH,ZQ,zf (zQ _),Nat.sub_self];rfl
 have e2:(ds++[d]).dropLast=ds:=by simp
 show Option.map _ (((ds++[d])[(ds++[d]).length-1]?).map _)=_;rw[e1,e2];rfl
section
variable{X:Cx}{o k e:vQ}{pos pos':Pos}{i:Nat}{fk fv:FD}
end
section
variable{X:Cx}{e:vQ}{pos pos':Pos}{i:Nat}{fe:FD}
noncomputable def sAug(g:Int->Int->Int)(i:Nat)(fe:FD):FS:=λω=>(fe ω).bind λd=>match d,ω[i]? with
 | .int b,some ↥(.int a)=>some (.nx,ω.set i ↥(.int (g a b)))
 | _,_=>none
theorem qhv{x:Str}{op:tO}{g:Int->Int->Int}(hop:PIp X op (ipI g))(hN:X.N.Nodup)(hi:X.N[i]?=some x)(hx:Loc X.env.scope x)(he:XV X e fe)(hf:X.fn x=true\/X.env.scope.names.lookup x=some .local:=by first|exact .inl rfl|exact .inr rfl|assumption):
  XS X (.AugAssign (.Name x pos') op e pos) (sAug g i fe):=by
 obtain⟨t,h1,h2⟩:=he;refine⟨_,qh2 hN hi hx h1 hop hf,λG0 H0 G ω σ H out ω' E ow e kk=>?_⟩;obtain⟨d,q1,e⟩:=bnd e;cases d with
 | int b=>
  split at e
  ·rename_i _ _ _ b' a ek q3
   cases ek;cases e;obtain⟨v,r1,r2⟩:=ow.sh i _ q3;cases (show v=.int a from r2);refine⟨.int a,r1,h2 G0 H0 G ω σ H _ _ ow q1 λu G1 H1 x1 y1=>?_⟩;cases y1.int;exact⟨a,b,rfl,rfl,kk G1 _ H1 ((ow.keep x1).setSh (d:=.int (g a b)) (v:=.int (g a b)) rfl) x1.gg⟩
  ·cases e
 | _=>cases e
end
section
open PySem.Spec PyProof.Rows
variable{X:Cx}
end
end Hk
namespace L2
open PySem PySem.Spec PyProof.Rows
noncomputable def Itv(K:zB)(a:vC)(n:Nat):It :=
 ⟨λi H=>∃xs x,SqL K H a xs/\xs.length=n/\xs.reverse[i]?=some x,λi H x H'=>H'=H/\∀xs,SqL K H a xs->xs.reverse[i]?=some x,λi H=>∃xs,SqL K H a xs/\xs.length=n/\i=n⟩
theorem qeu{P:vO}{w:vU}{K:zB}{tg:vQ}(a it:vC)(n:Nat)(hne:a≠it):Turn P w K tg (Itv K a n) [it] it (λi h=>i<=n/\h.IsRevIter it a ((n:Int)-1-(i:Int))) where
 mem:=by simp
 obj:=λi h st b hb=>by
  have e:b=it:=by simpa using hb
  subst e;obtain⟨_,o,e,c,d⟩:=st;exact⟨o,e,λv z=>by rw[d]at z;cases z⟩
 keep:=λi h h' st k=>⟨st.1,st.2.at λo e=>k it (by simp) o e⟩
 item:=by
  intro X hP hw hK hc i pins s σ H E I hf st hg;subst hP hw hK;obtain⟨xs,x,hq,hn,hx⟩:=hg;obtain⟨its,rv,p,hz⟩:=I.list hq;obtain⟨u,hu,ru⟩:=rv.reverse.get hx;obtain⟨f0,f1,f2,f3,f4,f5⟩:=hf it (by simp);have hsz:its.toArray.size=n:=by rw[zO,<- rv.length];exact hn
  have hi:i<n:=by
   have:=(zh.mp hx).1;rw[yc]at this;omega
  have W:=Walks.listRev (prog:=X.prog) (w:=X.w) (A:=X.A) (I.ok.hd hc) it a hne its.toArray;rw[hsz]at W;refine W.item i s _ _ hi ⟨st.1,st.2,p.isList⟩ λv h' tk hv st' kk=>?_;have hl:its.length=n:=by rw[<- zO];exact hsz
  have ev:v=u:=by
   rw[List.getElem?_reverse (by rw[hl];exact hi),hl]at hu;have hv':its[n-1-i]?=some v:=by simpa using hv
   rw[hu]at hv';exact(zo hv').symm
  subst ev;have I1:Inv X pins σ H { s with heap:=h',toks:=tk }:=I.turned (λb o hb e=>kk b o ⇑hb e) f0 f1 f3 f4 f5;obtain⟨o,e,c,d⟩:=id st'.2.1;exact⟨v,rfl,qat (s:={ s with heap:=h',toks:=tk }) e c d (by decide) ⟨x,H,I1,ru,⟨rfl,λys hy=>by rw[I.list_inj hy hq];exact hx⟩,⟨st'.1,st'.2.1⟩,λb hb=>(hf b hb).1⟩⟩
 done:=by
  intro X hP hw hK hc i pins s σ H E I hf st hg;subst hP hw hK;obtain⟨xs,hq,hn,rfl⟩:=hg;obtain⟨its,rv,p,hz⟩:=I.list hq;obtain⟨f0,f1,f2,f3,f4,f5⟩:=hf it (by simp);have hsz:its.toArray.size=i:=by rw[zO,<- rv.length];exact hn
  have W:=Walks.listRev (prog:=X.prog) (w:=X.w) (A:=X.A) (I.ok.hd hc) it a hne its.toArray;rw[hsz]at W;exact W.done s _ _ ⟨st.1,st.2,p.isList⟩ λh' tk kk=>⟨rfl,I.turned (λb o hb e=>kk b o ⇑hb e) f0 f1 f3 f4 f5⟩
 self:=λ_ _ _ _ _ st h=>uc st.2 h
noncomputable def iRev(K:zB)(ta:TA):TI:=λσ H R=>ta σ H λvs H1=>∃a xs,vs=[.ref a]/\SqL K H1 a xs/\R (Itv K a xs.length) H1
theorem qhU{X:Cx}{tg a:vQ}{ta:TA}{p pos:Pos}(hg:Gl X "reversed")(hm:X.mg "reversed" = none)(ha:PA X [a] ta)(hs:vJ [a] X.env=[(false,eval a X.env)]:=by rfl):PI X tg (.Call (.Name "reversed" p) [a] [] pos) (iRev X.K ta):=by
 intro pins s σ H R I h;refine Call_ (q1S I hg hm PyProof.Rows.boot_reversed (PyProof.Rows.callWith_type1 (thn (ha pos pins s σ H _ I h) λus s1 ⟨vs,H1,I1,r1,q1⟩=>?_) hs rfl));obtain⟨l,xs,e,hq,q⟩:=q1;subst e;cases r1 with
 | cons r rr=>
  cases rr;cases r;obtain⟨its,rv,p1,hz⟩:=I1.list hq;have hsz:its.toArray.size=xs.length:=by rw[zO,<- rv.length]
  have hlt:l<s1.heap.objs.size:=by obtain⟨_,_,e,_⟩:=p1;exact zM e
  refine tM p1.isList ?_;have it0:(s1.heap.push (tU l ((its.toArray.size:Int)-1))).IsRevIter s1.heap.objs.size l ((xs.length:Int)-1-((0:Nat):Int)):=⟨_,zR _ rfl,rfl,by rw[hsz];simp[tU]⟩;refine uc it0 ?_;refine⟨s1.heap.objs.size,[s1.heap.objs.size],_,_,H1,rfl,I1.kept (t':=s1.toks) λb o e=>zF _ e,qeu l _ xs.length (ze hlt),⟨zu _,it0⟩,λb hb=>?_,q⟩;have e:b=s1.heap.objs.size:=by simpa using hb
  subst e;exact I1.fpOk (zQ _) (I1.hok.fresh (zQ _))
end L2
namespace Hk
open PySem L2
theorem qf1{K:zB}{G:Hp}{a:vC}{ds:List D}{vs:List V}(h1:G a=some (.lst vs))(h2:YA K G ds vs):IterOf K (Itv K a vs.length) G ds.reverse:=by
 have hl:=h2.len;have h2r:=h2.rev;refine⟨λH i s hi=>?_,λG2 H i x H' d s0 s1 hd hy=>?_,λH s=>⟨vs,SqL.of (s _ _ h1),rfl,by rw[yc];exact hl⟩⟩
 ·have:i<vs.reverse.length:=by rw[yc]at hi ⊢;omega
  exact⟨vs,vs.reverse[i],SqL.of (s _ _ h1),rfl,zD this⟩
 ·obtain⟨e,y⟩:=hy
  obtain⟨v,q1,q2⟩:=h2r.get hd;have:=y vs (SqL.of (s1 _ _ (s0 _ _ h1)));rw[q1]at this;cases this;subst e;exact⟨G2,Ext.refl s1,q2.mono s0⟩
noncomputable def iRv(g:FA):FI:=λω=>(g ω).bind λds=>match ds with
 | [.lst a]=>some a.reverse
 | _=>none
theorem qhg{X:Cx}{tg a:vQ}{g:FA}{p pos:Pos}(hg:Gl X "reversed")(hm:X.mg "reversed" = none)(ha:XA X [a] g)(hs:vJ [a] X.env=[(false,eval a X.env)]:=by rfl):XI X tg (.Call (.Name "reversed" p) [a] [] pos) (iRv g):=by
 obtain⟨⟨t,h1,h2⟩,_⟩:=ha;refine⟨_,qhU hg hm h1 hs,λG0 H0 G ω σ H ds R o e k=>?_⟩;obtain⟨vs,q,e⟩:=bnd e;refine h2 G0 H0 G ω σ H vs _ o q λus G1 H1 x1 y1=>?_
 match vs,e with
 | [.lst as],e=>
  cases e;obtain⟨v1,r1,rfl,z1,z2⟩:=y1;cases (show r1=[]from z2);obtain⟨a1,ws1,rfl,f1,f2⟩:=z1;exact⟨a1,ws1,rfl,SqL.of (x1.gh _ _ f1),k _ G1 H1 x1 (qf1 f1 f2)⟩
noncomputable def augS(g:Int->Int->Int)(i:Nat)(ω:WSt)(v:Option D)(w:Option (Option W)):Option (Out×WSt):=v.bind λd=>match d,w with
 | .int b,some ↥(.int a)=>some (.nx,ω.set i ↥(.int (g a b)))
 | _,_=>none
noncomputable def rvI(o:Option (List D)):Option (List D):=o.bind λds=>match ds with
 | [.lst a]=>some a.reverse
 | _=>none
section
variable{ω:WSt}{fk fv:FD}{fa:FA}{i j:Nat}{ds:List D}{a b c:Int}{d:D}{g:Int->Int->Int}
theorem q4X:sAug g i fv ω=augS g i ω (fv ω) ω[i]?:=rfl
theorem q3D:augS g i ω (some (.int b)) (some ↥(.int a))=some (.nx,ω.set i ↥(.int (g a b))):=rfl
theorem q4U:iRv fa ω=rvI (fa ω):=rfl
theorem q52:rvI (some [.lst ds])=some ds.reverse:=rfl
end
end Hk
namespace L2
open PySem PySem.Spec PyProof.Rows
noncomputable def Ite(K:zB)(a:vC):It :=
 ⟨λi H=>∃xs x,SqL K H a xs/\xs[i]?=some x,
  λi H x H'=>∃t x1,H t=none/\x=.ref t/\H'=upd H t (.tup [.int i,x1])/\∀xs,SqL K H a xs->xs[i]?=some x1,
  λi H=>∃xs,SqL K H a xs/\xs[i]?=none⟩
theorem qdq{P:vO}{w:vU}{K:zB}{elts:List vQ}{kx}{tpos:Pos}(a e it:vC)(hne:e≠it)(hae:a≠e)(hai:a≠it):
  Turn P w K (.Tuple elts kx tpos) (Ite K a) [e,it] e (λi h=>(∃old,IsEnum h e it (i:Int) old)/\h.IsListIter it a i) where
 mem:=by simp
 obj:=λi h st c hc=>by
  obtain⟨⟨old,s1⟩,⟨o4,e4,c4,d4⟩⟩:=st;simp only[zE,zI,or_false]at hc;rcases hc with rfl|rfl
  ·exact⟨_,s1,λv y=>by cases (show Data.fields _=Data.cell v from y)⟩
  ·exact⟨_,e4,λv y=>by rw[d4]at y;cases y⟩
 keep:=λi h h' st k=>by
  obtain⟨⟨old,s1⟩,s4⟩:=st;exact⟨⟨old,k _ (by simp) _ s1⟩,s4.at λo e=>k _ (by simp) o e⟩
 item:=by
  intro X hP hw hK hc i pins s σ H E I hf st hg;subst hP hw hK;obtain⟨xs,x,hq,hx⟩:=hg;obtain⟨its,rv,p,hz⟩:=I.list hq;obtain⟨u,hu,ru⟩:=rv.get hx;obtain⟨⟨old,s1⟩,s4⟩:=st;have ex:∀c∈[e,it],∃o,s.heap.get? c=some o:=λc hc=>by
   simp only[zE,zI,or_false]at hc;rcases hc with rfl|rfl
   ·exact⟨_,s1⟩
   ·obtain⟨o,e,_⟩:=s4;exact⟨o,e⟩
  have nt:∀c∈[e,it],c≠s.heap.objs.size:=λc hc=>by
   obtain⟨o,e⟩:=ex c hc;exact ze (zM e)
  refine wpAny_pyNext_enum_item s1 s4 p.isList (x:=u) (by simpa using hu) hne λh' a1 a2 a3 a4 hk=>?_;have hn:H s.heap.objs.size=none:=I.hok.fresh (zQ _);have I1:Inv X pins σ (upd H s.heap.objs.size (.tup [.int i,x])) { s with heap:=s.heap.push { cls:=.type "tuple", data:=.seq #[.int i s.toks,u] },toks:=s.toks+1 } :=
   I.laid (λb o e=>zF _ e) (zQ _) (show YQ X.prog X.w _ _ _ (.tup [.int i,x])from ⟨by show 2<=sizeLine;decide,[.int i s.toks,u],.cons ⟨_,rfl⟩ (.cons ru .nil),⟨_,zR _ rfl,rfl,_,rfl⟩⟩)
  have hf':∀c∈[e,it],Wm X pins (upd H s.heap.objs.size (.tup [.int i,x])) c:=λc hc=>by
   obtain⟨f0,f⟩:=hf c hc;exact⟨by rw[qf (nt c hc)];exact f0,f⟩
  have I2:Inv X pins σ (upd H s.heap.objs.size (.tup [.int i,x])) { s with heap:=h',toks:=s.toks+1 }:=I1.turnedL (λb o hb e=>by
   simp only[zE,zI,or_false,not_or]at hb
   by_cases q:b=s.heap.objs.size
   ·subst q
    rw[zR _ rfl]at e;cases e;exact a3
   ·have e':s.heap.get? b=some o:=by
     rcases yC b s.heap.objs.size with l|l
     ·obtain⟨z1,z2⟩:=xw.mp e
      refine xw.mpr ⟨?_,z2⟩;rw[<- z1];show s.heap.objs[b]?=(s.heap.objs.push _)[b]?;rw[ZJ,vN q]
     ·have:=zM e
      rw[yO]at this;exact vK (by simp only[vC]at *;omega) q
    exact hk b o hb.1 hb.2 e') hf'
  refine⟨_,rfl,wpAny_letOwnedTupleGo_enum a1 λh2 b1 sb=>?_⟩;have I3:Inv X pins σ (upd H s.heap.objs.size (.tup [.int i,x])) { s with heap:=h2,toks:=s.toks+1 }:=I2.turnedL (λb o hb e=>(sb.2 b (λq=>hb (by simp[q]))).trans e) hf';have hi:((i+1:Nat):Int)=(i:Int)+1:=by push_cast;rfl
  refine⟨.ref s.heap.objs.size,_,I3,rfl,⟨_,x,hn,rfl,rfl,λxs' q1=>by rw[I.list_inj q1 hq];exact hx⟩,⟨⟨u,by rw[hi];exact b1⟩,a2.extBut sb.extBut (Ne.symm hne)⟩,λc hc=>(hf' c hc).1⟩
 done:=by
  intro X hP hw hK hc i pins s σ H E I hf st hg;subst hP hw hK;obtain⟨xs,hq,hx⟩:=hg;obtain⟨its,rv,p,hz⟩:=I.list hq;obtain⟨⟨old,s1⟩,s4⟩:=st;have l1:=rv.length;refine wpAny_pyNext_enum_end (I.ok.hd hc) s1 s4 p.isList ?_ λh' hk=>⟨rfl,I.turnedL (t':=s.toks) (λb o hb e=>?_) hf⟩
  ·rw[xo]at hx;simp;omega
  ·simp only[zE,zI,or_false,not_or]at hb
   exact hk b o hb.2 e
 self:=λ_ _ _ _ _ st h=>by
  obtain⟨⟨old,s1⟩,s4⟩:=st;exact wpAny_pyIter_enum s1 h
noncomputable def iEnum(K:zB)(ta:TA):TI:=λσ H R=>ta σ H λvs H1=>∃a xs,vs=[.ref a]/\SqL K H1 a xs/\R (Ite K a) H1
theorem qgy{X:Cx}{a:vQ}{ta:TA}{p pos tpos:Pos}{elts:List vQ}{kx}(hg:Gl X "enumerate")(hm:X.mg "enumerate" = none)(ha:PA X [a] ta)(hs:vJ [a] X.env=[(false,eval a X.env)]:=by rfl):
  PI X (.Tuple elts kx tpos) (.Call (.Name "enumerate" p) [a] [] pos) (iEnum X.K ta):=by
 intro pins s σ H R I h;refine Call_ (q1S I hg hm PyProof.Rows.boot_enumerate (PyProof.Rows.callWith_type1 (thn (ha pos pins s σ H _ I h) λus s1 ⟨vs,H1,I1,r1,q1⟩=>?_) hs rfl));obtain⟨l,xs,e,hq,q⟩:=q1;subst e;cases r1 with
 | cons r rr=>
  cases rr;cases r;obtain⟨its,rv,p1,hz⟩:=I1.list hq;have hlt:l<s1.heap.objs.size:=by obtain⟨_,_,e,_⟩:=p1;exact zM e
  refine call_enumerate_list p1.isList λh' a1 a2 a3 hk=>?_;refine wpAny_pyIter_enum a1 ?_;refine⟨s1.heap.objs.size+1,[s1.heap.objs.size+1,s1.heap.objs.size],_,_,H1,rfl,I1.kept (t':=s1.toks) hk,qdq l _ _ (Nat.succ_ne_self _) (ze (yJ hlt)) (ze hlt),⟨⟨_,a1⟩,a2⟩,λc hc=>?_,q⟩;have hle:s1.heap.objs.size<=c:=by
   simp only[zE,zI,or_false]at hc;simp only[vC]at *;omega
  exact I1.fpOk hle (I1.hok.fresh hle)
end L2
namespace Hk
open PySem L2
noncomputable def Xc:Nat->List D->List D
 | i,a::as=>.tup [.int i,a]::Xc (i+1) as
 | _,[]=>[]
theorem q74:∀(i:Nat)(as:List D),(Xc i as).length=as.length
 | i,a::as=>by show (Xc (i+1) as).length+1=_;rw[q74];rfl
 | i,[]=>rfl
theorem q9E:∀(k:Nat)(as:List D)(i:Nat)(d:D),(Xc k as)[i]?=some d->∃a,as[i]?=some a/\d=.tup [.int ((k+i:Nat):Int),a]
 | k,a::as,0,d,h=>by cases h;exact⟨a,rfl,rfl⟩
 | k,a::as,i+1,d,h=>by
  obtain⟨b,h1,h2⟩:=q9E (k+1) as i d h;exact⟨b,h1,by rw[h2];congr 4;omega⟩
 | k,[],i,d,h=>by cases h
theorem qec{K:zB}{G:Hp}{a:vC}{ds:List D}{vs:List V}(h1:G a=some (.lst vs))(h2:YA K G ds vs):IterOf K (Ite K a) G (Xc 0 ds):=by
 have l1:=h2.len;refine⟨λH i s hi=>?_,λG2 H i x H' d s0 s1 hd hy=>?_,λH s=>⟨vs,SqL.of (s _ _ h1),?_⟩⟩
 ·rw[q74]at hi
  exact⟨vs,vs[i]'∅,SqL.of (s _ _ h1),zD _⟩
 ·obtain⟨t,x1,ht,rfl,rfl,y⟩:=hy
  have e1:=y vs (SqL.of (s1 _ _ (s0 _ _ h1)));obtain⟨p,f1,rfl⟩:=q9E 0 ds i d hd;obtain⟨v,q1,q2⟩:=h2.get f1;rw[e1]at q1;cases q1;have x2:=Ext.lay s1 ht (.tup [.int i,x1]);exact⟨_,x2,⟨t,_,rfl,qm,YA.cons (by show (.int i:V)=.int ((0+i:Nat):Int);rw[xE]) (YA.cons (q2.mono (s0.trans x2.gg)) YA.nil)⟩⟩
 ·rw[q74];exact zt ∅
noncomputable def iEn(g:FA):FI:=λω=>(g ω).bind λds=>match ds with
 | [.lst a]=>some (Xc 0 a)
 | _=>none
theorem qg0{X:Cx}{a:vQ}{g:FA}{p pos tpos:Pos}{elts:List vQ}{kx}(hg:Gl X "enumerate")(hm:X.mg "enumerate" = none)(ha:XA X [a] g)(hs:vJ [a] X.env=[(false,eval a X.env)]:=by rfl):
  XI X (.Tuple elts kx tpos) (.Call (.Name "enumerate" p) [a] [] pos) (iEn g):=by
 obtain⟨⟨t,h1,h2⟩,_⟩:=ha;refine⟨_,qgy hg hm h1 hs,λG0 H0 G ω σ H ds R o e k=>?_⟩;obtain⟨vs,q,e⟩:=bnd e;refine h2 G0 H0 G ω σ H vs _ o q λus G1 H1 x1 y1=>?_
 match vs,e with
 | [.lst as],e=>
  cases e;obtain⟨v1,r1,rfl,z1,z2⟩:=y1;cases (show r1=[]from z2);obtain⟨a1,ws1,rfl,f1,f2⟩:=z1;exact⟨a1,ws1,rfl,SqL.of (x1.gh _ _ f1),k _ G1 H1 x1 (qec f1 f2)⟩
noncomputable def enI(o:Option (List D)):Option (List D):=o.bind λds=>match ds with
 | [.lst a]=>some (Xc 0 a)
 | _=>none
theorem q4H{fa:FA}{ω:WSt}:iEn fa ω=enI (fa ω):=rfl
theorem q55{ds:List D}:enI (some [.lst ds])=some (Xc 0 ds):=rfl
section
open PyProof.Rows PySem.Spec
variable{prog:vO}{w:vU}{A:vY}{E:vB->vF->Prop}{s:vF}{l:vC}{xs:Array (Int×Tok)}
end
section
variable{X:Cx}
open PyProof.Rows PySem.Spec
end
end Hk
namespace Hk
open PySem PySem.Spec PyProof.Rows L2
section
variable{prog:vO}{w:vU}{A:vY}{E:vB->vF->Prop}{s:vF}
end
end Hk
namespace L2
open PySem PySem.Spec PyProof.Rows Hk
end L2
namespace Hk
open PySem L2
end Hk
namespace L2
open PySem PySem.Spec PyProof.Rows
end L2
namespace Hk
open PySem L2
noncomputable def zAu:Option (Option W)->Option (List D)
 | some ↥(.dic ks _)=>some (ks.map D.int)
 | _=>none
noncomputable def iDk(i:Nat):FI:=λω=>zAu ω[i]?
end Hk
namespace Hk
open PySem PySem.Spec L2 PyProof.Rows
section
variable{P:vO}{w:vU}{H:Hp}{h:vX}{a:vC}{o:HO}
theorem qbP(x:YQ P w H h a o):∃u,h.get? a=some u:=by
 cases o with
 | lst xs=>obtain⟨_,_,_,_,e⟩:=x;exact⟨_,e⟩
 | tup xs=>obtain⟨_,_,_,ob,e,_⟩:=x;exact⟨_,e⟩
 | dK kvs=>obtain⟨_,_,_,_,o,_,_,e,_⟩:=x;exact⟨_,e⟩
 | dT kvs=>obtain⟨_,_,_,_,o,_,_,e,_⟩:=x;exact⟨_,e⟩
 | set S n=>obtain⟨o,_,_,_,e,_⟩:=x;exact⟨_,e⟩
 | ins C dx fs=>obtain⟨_,_,_,e,_⟩:=x;exact⟨_,e⟩
 | own y=>exact x
 | xd fs=>obtain⟨_,⟨_,_,_,e,_⟩,_⟩:=x;exact⟨_,e⟩
 | rng lo hi=>obtain⟨_,_,_,e⟩:=x;exact⟨_,e⟩
 | frz ob u=>obtain⟨e,_⟩:=x;exact⟨_,e⟩
 | tbl ps=>exact⟨_,(show h.get? a=some _ from x)⟩
 | met f y=>exact⟨_,(show h.get? a=some _ from x)⟩
 | ext φ=>obtain⟨_,e,_⟩:=x;exact e
end
def Fly(l:List Env)(H0:Hp)(s0:vF)(H:Hp)(ea:vC)(cls:vB)(h:vX):Prop :=
 ∃B t,Zd B l ea cls (.ref t) h/\(∀b o,H b=some o->∃u,B.get? b=some u)/\∀b o,s0.heap.get? b=some o->b∉frs l->∃u,B.get? b=some u/\(H0 b=none->u=o)
noncomputable def CXe(P:vO)(w:vU):CXT:=λouter H s E e s'=>∃ea cls H',e=.ref ea/\s'.os=s.os/\uf s'.gens/\Un (frs outer) [] H H' s.heap s'.heap/\HOk P w H' s'.heap/\Fly outer H s H' ea cls s'.heap/\H' ea=none/\s.heap.get? ea=none/\E cls none H'
section
variable{X:Cx}{pins:List (vC×Obj)}{σ:L2.St}{H:Hp}{s:vF}{h':vX}
theorem qcC(I:L2.Inv X pins σ H s){b:vC}{o:Obj}(e:X.s₀.heap.get? b=some o)(n:b∉X.fs):b∉frs X.stack:=λz=>by
 rcases zE.mp (I.stkSub b z)with y|y
 ·rw[y]at e;exact vK (zd (zM e) I.ok.above) (yv _)
 ·exact n y
theorem qce(I:L2.Inv X pins σ H s)(hex:X.ex=[])(big:∀b o,X.s₀.heap.get? b=some o->b∉X.fs->∃u,h'.get? b=some u/\(X.H₀ b=none->u=o))(sl:s.heap.UpToSlots h'):Un X.fs [] X.H₀ H X.s₀.heap h':=by
 have no:∀b:vC,b∉X.ex:=λb z=>by rw[hex]at z;cases z
 have frame:∀b o,b∈X.fs->s.heap.get? b=some o->∃sl,h'.get? b=some { o with slots:=sl }:=λb o hb e=>by
  have hs:b∈frs X.stack:=by
   rcases I.ok.stk with q|⟨q,_⟩
   ·rw[q];exact hb
   ·rw[q]
    unfold frs;rw[y0]
    split
    ·exact hb
    ·exact zJ _ hb
  obtain⟨_,o',ho',hd⟩:=I.stack.mem hs;rw[e]at ho';cases ho';exact sl b o e hd
 refine⟨λb o e n hb _=>?_,λb o e n hb _=>?_,λb o e n _=>I.base.free b o e n (no b),λb o e _=>?_,I.base.tups,I.base.frzs,I.base.tbls⟩
 ·obtain⟨u,e1,e2⟩:=big b o e hb
  rw[e1,e2 n]
 ·obtain⟨sl1,e1⟩:=I.base.slot b o e n hb (no b)
  obtain⟨sl2,e2⟩:=frame b _ hb e1;exact⟨sl2,e2⟩
 ·by_cases hb:b∈X.fs
  ·obtain⟨o',e1⟩:=I.base.there b o e (no b)
   obtain⟨sl2,e2⟩:=frame b _ hb e1;exact⟨_,e2⟩
  ·obtain⟨u,e1,_⟩:=big b o e hb
   exact⟨u,e1⟩
theorem qbh(I:L2.Inv X pins σ H s)(big:∀b o,H b=some o->∃u,s.heap.get? b=some u/\h'.get? b=some u):HOk X.prog X.w H h':=λb o e=>by
 refine(I.hok b o e).stay (λc u hc q=>?_) (λ_ q=>q) λ_ _ q=>q;have:∃o',H c=some o':=by
  rcases hc with rfl|hc
  ·exact⟨o,e⟩
  ·exact⟨_,hc⟩
 obtain⟨o',e'⟩:=this;obtain⟨u',q1,q2⟩:=big c o' e';rw[q]at q1;cases q1;exact q2
theorem qcU{E:XK}{cls:vB}{vs:List vB}{ea L:vC}{A:vY}{h:vX}{Er:vB->vF->Prop}(hst:X.stack=X.env::X.outer)(hf:X.env.frame=some L)(hex:X.ex=[])(I:L2.Inv X pins σ H { s with heap:=h })(hx:Zp h s.heap ea cls vs)(hfr:A.frames=some X.stack)(hE:E cls none H):
  vL (model X.prog X.w) A (leaving X.env (.ref ea)) (λ_ s'=>CXe X.prog X.w X.outer X.H₀ X.s₀ E (.ref ea) s') Er s:=by
 have hin:∀env∈X.stack,∀b,env.frame=some b->b∈frs X.stack:=λenv he b hb=>wQ.mpr ⟨env,he,hb⟩;have hl:=PySem.W.funFrames_hide I.stack hin;rw[hst]at hl hfr;refine wpAny_leaves_madeW hfr hf (λb o q=>ZL _ q) hl hx λh' t x1 x2 x3 x4=>?_;have keep:∀b o,h.get? b=some o->b∉frs X.stack->h'.get? b=some o:=λb o e n=>x1.1 b o (xp _ e (by rw[<- hst];exact n));have up:Heap.UpToSlots h h':=λb o e d=>x4 b o (hx.keeps b o e) d;have big:∀b o,X.s₀.heap.get? b=some o->b∉X.fs->∃u,h.get? b=some u/\b∉frs X.stack/\(X.H₀ b=none->u=o):=λb o e n=>by
  obtain⟨u,e1⟩:=I.base.there b o e (by rw[hex];simp);refine⟨u,e1,qcC I e n,λz=>?_⟩;have:=I.base.keep b o e z n (by rw[hex];simp);rw[e1]at this;exact zo this
 have trk:∀b o,H b=some o->∃u,h.get? b=some u/\b∉frs X.stack:=λb o e=>by
  obtain⟨u,e1⟩:=qbP (I.hok b o e);exact⟨u,e1,λz=>by rw[I.stkFree b z]at e;cases e⟩
 have ne:H ea=none:=by
  cases q:H ea with
  | none=>rfl
  | some o=>obtain⟨u,e1,_⟩:=trk ea o q;rw[hx.new]at e1;cases e1
 have n0:X.s₀.heap.get? ea=none:=by
  cases q:X.s₀.heap.get? ea with
  | none=>rfl
  | some o=>obtain⟨u,e1⟩:=I.base.there ea o q (by rw[hex];simp);rw[show h.get? ea=none from hx.new]at e1;cases e1
 refine⟨ea,cls,H,rfl,I.os,I.bare,qce I hex (λb o e n=>?_) up,qbh I λb o e=>?_,⟨_,t,x1,λb o e=>?_,λb o e n=>?_⟩,ne,n0,hE⟩
 ·obtain⟨u,e1,e2,e3⟩:=big b o e n
  exact⟨u,keep b u e1 e2,e3⟩
 ·obtain⟨u,e1,e2⟩:=trk b o e
  exact⟨u,e1,keep b u e1 e2⟩
 ·obtain⟨u,e1,e2⟩:=trk b o e
  exact⟨u,xp _ e1 (by rw[<- hst];exact e2)⟩
 ·obtain⟨u,e1,e2,e3⟩:=big b o e n
  exact⟨u,xp _ e1 (by rw[<- hst];exact e2),e3⟩
theorem qcN{E:XK}{e:vB}{s':vF}(I:L2.Inv X pins σ H s)(c:CXe X.prog X.w X.stack H s E e s'):∃ea cls H',e=.ref ea/\L2.Inv X pins σ H' s'/\Fly X.stack H s H' ea cls s'.heap/\H' ea=none/\s.heap.get? ea=none/\E cls none H':=by
 obtain⟨ea,cls,H',he,os,bare,un,hok,fl,ne,n0,q⟩:=c;exact⟨ea,cls,H',he,I.call' (ch:=[]) os un hok bare (λb z=>vK z (by simp)),fl,ne,n0,q⟩
theorem qdW{E E':XK}{e:vB}{s':vF}{L:vC}{A:vY}{Er:vB->vF->Prop}(hst:X.stack=X.env::X.outer)(hf:X.env.frame=some L)(hex:X.ex=[])(I:L2.Inv X pins σ H s)(c:CXe X.prog X.w X.stack H s E e s')(hfr:A.frames=some X.stack)(hE:∀cls H',E cls none H'->E' cls none H'):
  vL (model X.prog X.w) A (leaving X.env e) (λ_ s''=>CXe X.prog X.w X.outer X.H₀ X.s₀ E' e s'') Er s':=by
 obtain⟨ea,cls,H',rfl,I',⟨B,t,fl,b1,b2⟩,ne,n0,q⟩:=qcN I c;rw[hst]at hfr fl;refine wpAny_leaves_onW hfr hf fl λh' x1 x4=>?_;have no:∀b:vC,b∉X.ex:=λb z=>by rw[hex]at z;cases z
 have big:∀b o,X.s₀.heap.get? b=some o->b∉X.fs->∃u,B.get? b=some u/\(X.H₀ b=none->u=o):=λb o e n=>by
  obtain⟨o1,e1⟩:=I.base.there b o e (no b);obtain⟨u,e2,e3⟩:=b2 b o1 e1 (qcC I e n);refine⟨u,e2,λz=>?_⟩;have k:=I.base.keep b o e z n (no b);rw[e1]at k;cases k;exact e3 (I.base.free b o e z (no b))
 have n00:X.s₀.heap.get? ea=none:=by
  cases q:X.s₀.heap.get? ea with
  | none=>rfl
  | some o=>obtain⟨u,e1⟩:=I.base.there ea o q (no ea);rw[n0]at e1;cases e1
 refine⟨ea,cls,H',rfl,I'.os,I'.bare,qce I' hex (λb o e n=>?_) x4,qbh I' λb o e=>?_,⟨B,t,x1,b1,λb o e n=>big b o e n⟩,ne,n00,hE _ _ q⟩
 ·obtain⟨u,e1,e2⟩:=big b o e n
  exact⟨u,x1.1 b u e1,e2⟩
 ·obtain⟨u,e1⟩:=b1 b o e
  exact⟨u,fl.1 b u e1,x1.1 b u e1⟩
end
abbrev vErr:List vB:=[.type "ValueError", .type "Exception", .type "BaseException", .type "object"]
structure ECls (K:zB) (x:Str) (C:vC):Prop where
 nm:zw K vS x=some (some (.ref C))
 cl:xi K C vErr "ValueError.__new__" = true
theorem q87{K:zB}{h:vX}{C:vC}{bmB:List vB}{newId:String}(KI:K.In h)(q:xi K C bmB newId=true):
  ∃tl N nm qn bs hdct sn sub ab col dd k0 k1 k2 k3 k5,∃mN:Str->Option vB,h.get? C=some (u8 nm qn C N bs tl hdct sn sub ab col dd k0 k1 k2 k3 k5 newId)/\h.Ns N mN/\mN "__init__" = none/\OwnTail h bmB tl:=by
 unfold xi at q
 split at q
 case h_2=>cases q
 case h_1 dd cd sl look=>
  split at q
  case h_2=>cases q
  case h_1 C1 bm j0 j1 j2 j3 n1 j5 em es=>
   obtain⟨nm,bs,mro,N,qn,hd,sn,sub,ab,col,del⟩:=cd;obtain⟨sll⟩:=sl;simp only[zV,beq_iff_eq,Bool.not_eq_true']at q em es;obtain⟨⟨⟨⟨⟨c1,c2⟩,c3⟩,c4⟩,c5⟩,c6⟩:=q;subst em es c1 c2 c3;exact⟨bm,N,nm,qn,bs,hd,sn,sub,ab,col,dd,j0,j1,j2,j3,j5,_,KI _ _ look,.of_isNs (PySem.W.isNs_of_in KI c5),PySem.W.nsMap_none_of_in KI c5 c6,PySem.W.tail_of_in KI c4⟩
section
variable{X:Cx}{E:XK}
def Y5(X:Cx)(C:vC)(E:XK):Prop:=∀(pins:List (vC×Obj))(σ:L2.St)(H:Hp)(h:vX)(ea:vC)(vs:List vB)(s':vF),L2.Inv X pins σ H { s' with heap:=h }->Zp h s'.heap ea (.ref C) vs->E (.ref C) none H->X.xe (.ref ea) s'
noncomputable def tRaise(t:TA)(C:vC)(E:XK):TS:=λ_ σ H=>t σ H λvs H1=>vs.length<=sizeLine/\E (.ref C) none H1
theorem qfh{x:Str}{C:vC}{e0:vQ}{t:TA}{np cpos pos:Pos}(hg:Gl X x)(hm:X.mg x=some (.ref C))(hc:X.calm=true)(ec:ECls X.K x C)(ha:PA X [e0] t)(hx:Y5 X C E)(hdb:(x==("__debug__" : Str))=false:=by decide)(he:vJ [e0] X.env=[(false,eval e0 X.env)]:=by rfl):PS X (.Raise (some (.Call (.Name x np) [e0] [] cpos)) none pos) (tRaise t C E):=by
 intro pins s σ H D I h;obtain⟨tl,N,nm,qn,bs,hdct,sn,sub,ab,col,dd,k0,k1,k2,k3,k5,mN,hC,hN,hni,T⟩:=q87 I.ok.mod.kin ec.cl;have FB:=PySem.F.excBase_ValueError;refine wpAny_Raise_call_subT (C:=C) (nm:=nm) (q:=qn) (N:=N) (bs:=bs) (bm:=tl) (hdct:=hdct) (sn:=sn) (sub:=sub) (ab:=ab) (col:=col) (dd:=dd) (k0:=k0) (k1:=k1) (k2:=k2) (k3:=k3) (k5:=k5)
  FB (mN:=mN) (T.hasType FB.hasBase) (I.ok.hd hc) (by rw[he];rfl) hni (q7B I hg hm ⟨rfl,?_⟩ hdb)
 have ha':=ha cpos pins s σ H _ I h;rw[he]at ha' ⊢;refine Calls.evalArgs_plain (vc ha' (λvs s2 h2=>?_) λ_ _ y=>y);obtain⟨ws,H2,I2,r,hz,hE⟩:=h2;exact⟨rfl,by rw[<- r.length];exact hz,I2.bk _ _ hC,hN.keeps I2.bk,T.keeps I2.bk,λh' ea hm'=>hx pins σ H2 s2.heap ea vs { s2 with heap:=h' } I2 hm' hE⟩
end
noncomputable abbrev FX:=WSt->Option Str
def clsIn(K:zB)(c:Str)(C:vC):Prop:=zw K vS c=some (some (.ref C))
def SimXE(K:zB)(E:XK)(t:TE)(g:FX):Prop:=∀G0 H0 G ω σ H(Q:VK)c C,Own K G0 H0 G ω σ H->g ω=some c->clsIn K c C->(∀G' H',Ext G0 H0 G' H'->E (.ref C) none H')->t σ H Q
def SimXS(K:zB)(E:XK)(t:TS)(g:FX):Prop:=∀G0 H0 G ω σ H(D:Ends)c C,Own K G0 H0 G ω σ H->g ω=some c->clsIn K c C->(∀G' H',Ext G0 H0 G' H'->E (.ref C) none H')->t D σ H
def YE(X:Cx)(E:XK)(e:vQ)(g:FX):Prop:=∃t,PE X e t/\SimXE X.K E t g
def YS(X:Cx)(E:XK)(st:vf)(g:FX):Prop:=∃t,PS X st t/\SimXS X.K E t g
def YSs(X:Cx)(E:XK)(st:List vf)(g:FX):Prop:=∃t,PSs X st t/\SimXS X.K E t g
noncomputable def spX(K:zB)(n:Nat)(g:List D->Option Str):Sp:=λvs H _ E=>∃G ds c C,g ds=some c/\clsIn K c C/\ds.length=n/\YO G H/\YA K G ds vs/\∀G' H',Ext G H G' H'->E (.ref C) none H'
noncomputable def yNo:FX:=λ_=>none
noncomputable def WG(x:Str):FX:=λ_=>some x
noncomputable def Yt(g:List D->Option Str)(ga:FA):FX:=λω=>(ga ω).bind g
noncomputable def yIf(c:FT)(g g':FX):FX:=λω=>(c ω).bind λb=>if b=true then g ω else g' ω
noncomputable def zAj(g:FX)(f:FS)(g':FX):FX:=λω=>match g ω with
 | some c=>some c
 | none=>(f ω).bind λp=>match p.1 with
  | .nx=>g' p.2
  | _=>none
section
variable{X:Cx}{E:XK}{st:vf}{rest:List vf}{e:vQ}{es:List vQ}{pos:Pos}{g g':FX}
theorem PS.lift{t:TS}(h:PS X.nox st t):PS X st t:=λpins s σ H D I k=>vc (h pins s σ H D (I.wish _) k) (λ_ _ q=>q.unwish) λ_ _ z=>False.elim z
theorem XS.lift{f:FS}(h:XS X.nox st f):XS X st f:=let ⟨t,h1,h2⟩:=h;⟨t,PS.lift h1,h2⟩
theorem PA.lift{t:TA}(h:PA X.nox es t):PA X es t:=λpos pins s σ H Q I hw=>
 vc (h pos pins s σ H Q (I.wish _) hw) (λ_ _ ⟨v,H',I',r,q⟩=>⟨v,H',I'.unwish,r,q⟩) λ_ _ z=>False.elim z
theorem XA.lift{f:FA}(h:XA X.nox es f):XA X es f:=let ⟨⟨t,h1,h2⟩,h3⟩:=h;⟨⟨t,PA.lift h1,h2⟩,h3⟩
theorem q8s:YS X E st yNo:=⟨_,qbp,λG0 H0 G ω σ H D c C o e=>by cases e⟩
theorem q46{f:FS}(h:YS X E st g)(hn:XS X st f)(h':YSs X E rest g'):YSs X E (st::rest) (zAj g f g'):=by
 obtain⟨t1,a1,a2⟩:=h;obtain⟨t2,b1,b2⟩:=hn;obtain⟨t3,c1,c2⟩:=h';refine⟨tSeq (λD σ H=>t1 D σ H\/t2 D σ H) t3,q2O (λpins s σ H D I q=>?_) c1,λG0 H0 G ω σ H D c C o e hc hw=>?_⟩
 ·rcases q with q|q
  ·exact a1 pins s σ H D I q
  ·exact b1 pins s σ H D I q
 ·unfold zAj at e
  cases q:g ω with
  | some c'=>rw[q]at e;cases e;exact .inl (a2 G0 H0 G ω σ H _ c C o q hc hw)
  | none=>
   rw[q]at e;obtain⟨⟨out,ω1⟩,q2,e⟩:=bnd e;cases out with
   | nx=>exact .inr (b2 G0 H0 G ω σ H .nx ω1 _ o q2 λG1 σ1 H1 o1 s1=>c2 G0 H0 G1 ω1 σ1 H1 D c C o1 e hc hw)
   | _=>cases e
theorem qba{x:Str}{C:vC}{e0:vQ}{np cpos:Pos}{ga:FA}(hg:Gl X x)(hm:X.mg x=some (.ref C))(hc:X.calm=true)(ec:ECls X.K x C)(ha:XA X [e0] ga)(hga:∀ω,∃ds,ga ω=some ds)(hx:Y5 X C E)(hdb:(x==("__debug__" : Str))=false:=by decide)(he:vJ [e0] X.env=[(false,eval e0 X.env)]:=by rfl):YS X E (.Raise (some (.Call (.Name x np) [e0] [] cpos)) none pos) (WG x):=by
 obtain⟨⟨t,h1,h2⟩,h5⟩:=ha;refine⟨_,qfh hg hm hc ec h1 hx hdb he,λG0 H0 G ω σ H D c C' o e hcl hw=>?_⟩;cases e;have:C'=C:=by
  have q:=ec.nm;unfold clsIn at hcl;rw[hcl]at q;cases q;rfl
 subst this;obtain⟨ds,q⟩:=hga ω;refine h2 G0 H0 G ω σ H ds _ o q λvs G1 H1 x1 y1=>⟨?_,hw G1 H1 (o.ext.trans x1)⟩;rw[<- y1.len,h5 ω ds q];exact X3 (show 1<=1000 by decide)
theorem q0Q{k:Nat}{f:vC}{fd:vH}{ps:List Str}{m:List D->Option Str}{x:Str}{p:Pos}{ga:FA}(F:FnOk X.prog X.w X.K X.mg X.base (CXe X.prog X.w) k f fd ps (spX X.K (e::es).length m))(hr:Room k X.A)(hg:Gl X x)(hm:X.mg x=some (.ref f))(hk:xS X.K (.ref f)=true)(hb:Binds X.K fd ps [])(hx:Xg (CXe X.prog X.w) X E)(ha:XA X (e::es) ga)(hdb:(x==("__debug__" : Str))=false:=by decide)(he:vJ (e::es) X.env=(false,eval e X.env)::vJ es X.env:=by rfl)(hpl:(vk pos (vJ es X.env)).any (·.1)=false:=by rfl):
  YE X E (.Call (.Name x p) (e::es) [] pos) (Yt m ga):=by
 obtain⟨⟨t,h1,h2⟩,h5⟩:=ha;refine⟨_,qcD F hr hg hm hk hb .nil hx h1 hdb he hpl,λG0 H0 G ω σ H Q c C o e hcl hw=>?_⟩;obtain⟨ds,q,e⟩:=bnd e;refine h2 G0 H0 G ω σ H ds _ o q λvs G1 H1 x1 y1=>?_;exact⟨G1,ds,c,C,e,hcl,h5 ω ds q,x1.gh,by rw[zi];exact y1,λG' H' x2=>hw G' H' (o.ext.trans (x1.trans x2))⟩
theorem q60{i:Nat}{x:Str}{pos':Pos}(hN:X.N.Nodup)(hi:X.N[i]?=some x)(hx:Loc X.env.scope x)(he:YE X E e g)(hs:vm e (some (.Name x pos')) pos.line X.env=pure false:=by rfl)(hf:X.fn x=true\/X.env.scope.names.lookup x=some .local:=by first|exact .inl rfl|exact .inr rfl|assumption):
  YS X E (.Assign [.Name x pos'] e pos) g:=by
 obtain⟨t,h1,h2⟩:=he;exact⟨_,q61 hN hi hx h1 hs hf,λG0 H0 G ω σ H D c C o e hcl hw=>h2 G0 H0 G ω σ H _ c C o e hcl hw⟩
theorem q8n(he:YE X E e g):YS X E (.Return (some e) pos) g:=by
 obtain⟨t,h1,h2⟩:=he;exact⟨_,q8z h1,λG0 H0 G ω σ H D c C o e hcl hw=>h2 G0 H0 G ω σ H _ c C o e hcl hw⟩
theorem qcl(he:YE X E e g)(hs:vm e none pos.line X.env=pure false:=by rfl):YS X E (.Expr e pos) g:=by
 obtain⟨t,h1,h2⟩:=he;exact⟨_,q5a h1 hs,λG0 H0 G ω σ H D c C o e hcl hw=>h2 G0 H0 G ω σ H _ c C o e hcl hw⟩
theorem qfH{c:vQ}{a b:List vf}{fc:FT}(hc:XT X c fc)(ha:YSs X E a g)(hb:YSs X E b g'):YS X E (.If c a b pos) (yIf fc g g'):=by
 obtain⟨t,h1,h2⟩:=hc;obtain⟨u,h3,h4⟩:=ha;obtain⟨w,h5,h6⟩:=hb;refine⟨_,qfI h1 h3 h5,λG0 H0 G ω σ H D c C o e hcl hw=>?_⟩;obtain⟨z,q,e⟩:=bnd e;refine h2 G0 H0 G ω σ H z _ o q λG1 H1 x1=>?_;cases z with
 | true=>rw[vM rfl]at e ⊢;exact h4 G0 H0 G1 ω σ H1 D c C (o.keep x1) e hcl hw
 | false=>exact h6 G0 H0 G1 ω σ H1 D c C (o.keep x1) e hcl hw
theorem q7t{N:List Str}{M:Nat}{frees:List Nat}{scope:uN}{tg iter elt:vQ}{ifs:List vQ}(hc:X.calm=true)(B:BlkOk X N M frees scope)(hi:YE X E iter g)(hs:∀x,vn iter X.env x=pure x:=by intro _;rfl):YE X E (.ListComp elt [⟨tg,iter,ifs,0⟩] scope pos) g:=by
 obtain⟨t,h1,h2⟩:=hi;refine⟨zAT M frees (zAz X.K t) (λ_ _ _ _=>False) (λ_ _ _=>False) (λ_ _ _=>False),qci hc B (q7G h1) (λC s H fp=>⟨λ_ _ _ _ _ _ _ _ _ h=>h.elim,λ_ _ _ _ _ _ h=>h.elim,λ_ _ _ _ _ _ h=>h.elim⟩) hs,λG0 H0 G ω σ H Q c C o e hcl hw=>?_⟩;exact h2 G0 H0 G ω σ H _ c C o e hcl hw
theorem fnX{P:vO}{w:vU}{K:zB}{mg:Str->Option vB}{base:vX}{x qual:Str}{st:vf}{f:vC}{fd:vH}{N ps:List Str}{k:Nat}{gb:FX}(F:Fun K x qual st f fd)(S:FnScope N ps (Z1 st))(hb:∀(cdv:vB)(A:vY)(outer:List Env)(s:vF)(H:Hp)(E:XK),Room k (A.deeper (PyProof.Rows.envOfC qual (Z1 st) s.heap.objs.size f cdv))->YSs (WQ (CXe P w) P w K mg base N qual (Z1 st) f cdv A outer s H E) E (Yk st) gb):
  FnOk P w K mg base (CXe P w) (k+1) f fd ps (spX K ps.length λds=>gb (entry N.length ds)):=by
 obtain⟨_,_,_,_,_,_,cdv,_,_,rfl,lk,hcd⟩:=F.ex;refine qfA lk hcd S (λvs H Q E h=>?_) λA outer s H vs Q E hr hsp=>?_
 ·obtain⟨G,ds,c,C,_,_,h2,_,h4,_⟩:=h
  rw[<- h4.len];exact h2
 ·obtain⟨G,ds,c,C,h1,hcl,h2,h3,h4,h5⟩:=hsp
  obtain⟨t,p1,p2⟩:=hb cdv A outer s H E hr;refine⟨t,p1,?_⟩;have hl:=h4.len;have short:ps.length<=N.length:=by
   have z:=uE xy S.pre;rw[zy]at z;omega
  have o0:Own K G (fr H) G (entry N.length ds) (L2.start N vs) H:=by
   refine⟨Ext.refl h3,?_,λi d e=>q8O h4 i d e,λi es e=>vK e (q0T.ow i es),λi j es fs l e=>vK e (q0T.ow i es),λi ks es e=>vK e (q0T.od i ks es),Yq.no q0T.pw⟩;unfold entry L2.start;simp only[zC,zA,ye];omega
  exact p2 G (fr H) G _ _ H _ c C o0 h1 hcl h5
theorem XC{P:vO}{w:vU}{K:zB}{mg:Str->Option vB}{base:vX}{N:List Str}{qual:Str}{scope:uN}{f:vC}{cdv:vB}{A:vY}{outer:List Env}{s:vF}{H:Hp}:
  Xg (CXe P w) (WQ (CXe P w) P w K mg base N qual scope f cdv A outer s H E) E:=λpins σ H1 s1 e s' I c=>
 qdW (X:=WQ (CXe P w) P w K mg base N qual scope f cdv A outer s H E) rfl rfl rfl I c I.ok.frames (λ_ _ q=>q)
theorem X8{P:vO}{w:vU}{K:zB}{mg:Str->Option vB}{base:vX}{N:List Str}{qual:Str}{scope:uN}{f:vC}{cdv:vB}{A:vY}{outer:List Env}{s:vF}{H:Hp}{C:vC}:
  Y5 (WQ (CXe P w) P w K mg base N qual scope f cdv A outer s H E) C E:=λpins σ H1 h ea vs s' I hm hE=>
 qcU (X:=WQ (CXe P w) P w K mg base N qual scope f cdv A outer s H E) (s:=s') rfl rfl rfl I hm I.ok.frames hE
end
end Hk
namespace PySem
section
variable{M:Model}{A:vY}{E:vB->vF->Prop}{nm q:Str}{C N:vC}{bs bm:List vB}{hdct:Bool}{sn:List Str}{sub:List vB}{ab:Bool}{col:Option Bool}{dd:Option vC}{k0 k1 k2 k3 k5:Option vB}{newId:String}
variable{nm' q':Str}{C' N':vC}{bs' bm':List vB}{hdct':Bool}{sn':List Str}{sub':List vB}{ab':Bool}{col':Option Bool}{dd':Option vC}{j0 j1 j2 j3 j5:Option vB}{newId':String}
theorem Yu{h:vX}{g:Array ut}{d:tN}{t:Nat}{os:OsState}{e:vC}{oe:Obj}{Q:Bool->vF->Prop}(hC:h.get? C=some (u8 nm q C N bs bm hdct sn sub ab col dd k0 k1 k2 k3 k5 newId))(hC':h.get? C'=some (u8 nm' q' C' N' bs' bm' hdct' sn' sub' ab' col' dd' j0 j1 j2 j3 j5 newId'))(he:h.get? e=some oe)(hcls:oe.cls=.ref C)(hb':bm'.contains (.type "BaseException")=true)(hq:Q ((Value.ref C::bm).contains (.ref C')) ⟨h,g,d,t,os⟩):vL M A (excMatches (.ref e) (.ref C')) Q E ⟨h,g,d,t,os⟩:=by
 have cB:(Value.ref C'::bm').contains (.type "BaseException")=true:=by rw[List.contains_cons,hb',xF]
 have f:=tc_notTuple;generalize hz:(Value.ref C::bm).contains (.ref C')=z at hq;unfold excMatches
 repeat (first|(with_reducible refine wpAny_loadPart_at he ?_;rw[hcls])|with_reducible refine wpAny_loadPart_at hC' ?_|(with_reducible refine tH hC' ?_;rw[cB])|(with_reducible refine tH hC ?_;rw[hz])|wp_step)
 cases z <;> (wp_walk;exact hq)
end
end PySem
namespace Hk
open PySem PySem.Spec L2 PyProof.Rows
section
variable{X:Cx}{pins:List (vC×Obj)}{σ:L2.St}{H:Hp}{s:vF}
theorem qcO{E:XK}{e:vB}{s':vF}(I:L2.Inv X pins σ H s)(c:CXe X.prog X.w X.stack H s E e s'):
  ∃ea cls H' B t,e=.ref ea/\Zd B X.stack ea cls (.ref t) s'.heap/\H' ea=none/\E cls none H' /\
   ∀(C:vC)(h':vX),cls=.ref C->Zd B X.stack ea cls (.ref t) h'->s'.heap.UpToSlots h'->L2.Inv X pins σ (upd H' ea (.ext (excP ea C))) { s' with heap:=h' }:=by
 obtain⟨ea,cls,H',he,os,bare,un,hok,⟨B,t,fl,b1,b2⟩,ne,n0,q⟩:=c;refine⟨ea,cls,H',B,t,he,fl,ne,q,λC h' hc fl' up=>?_⟩;have frame:∀b o,b∈frs X.stack->s'.heap.get? b=some o->∃sl,h'.get? b=some { o with slots:=sl }:=λb o hb e=>by
  obtain⟨_,o',ho',hd⟩:=fl.2.2.1.mem hb;rw[e]at ho';cases ho';exact up b o e hd
 have nea:∀b o,s.heap.get? b=some o->b≠ea:=λb o e z=>by rw[z,n0]at e;cases e
 refine I.call' (s':={ s' with heap:=h' }) (ch:=[]) os ⟨λb o e n hb _=>?_,λb o e n hb _=>?_,λb o e n hx=>?_,λb o e hx=>?_,λb xs e=>?_,λb o u e=>?_,λb ps e=>?_⟩ (λb o e=>?_) bare λb z=>vK z (by simp)
 ·obtain⟨u,e1,e2⟩:=b2 b o e hb
  rw[e2 n]at e1;exact fl'.1 b o e1
 ·obtain⟨sl,e1⟩:=un.slot b o e n hb (by simp)
  obtain⟨sl2,e2⟩:=frame b _ hb e1;exact⟨sl2,e2⟩
 ·rw[qf (nea b o e)];exact un.free b o e n (by simp)
 ·by_cases hb:b∈frs X.stack
  ·obtain⟨o',e1⟩:=un.there b o e (by simp)
   obtain⟨sl2,e2⟩:=frame b _ hb e1;exact⟨_,e2⟩
  ·obtain⟨u,e1,_⟩:=b2 b o e hb
   exact⟨u,fl'.1 b u e1⟩
 ·have:=un.tups b xs e
  rw[qf (λz=>by rw[z,ne]at this;cases this)];exact this
 ·have:=un.frzs b o u e
  rw[qf (λz=>by rw[z,ne]at this;cases this)];exact this
 ·obtain⟨more,this⟩:=un.tbls b ps e
  exact⟨more,by rw[qf (λz=>by rw[z,ne]at this;cases this)];exact this⟩
 ·by_cases hb:b=ea
  ·subst hb
   rw[qm]at e;cases e;obtain⟨ob,e1,e2⟩:=fl'.there;refine⟨⟨ob,e1,by rw[e2,hc]⟩,⟨ob,e1⟩,λh1 h2 ⟨o1,p1,p2⟩ k=>⟨o1,k o1 p1,p2⟩⟩
  ·rw[qf hb]at e
   have ne2:∀c o',H' c=some o'->c≠ea:=λc o' z y=>by rw[y,ne]at z;cases z
   refine(hok b o e).stay (λc u hc q=>?_) (λc q=>by rw[qf (ne2 c _ q)];exact q) λc xs q=>by rw[qf (ne2 c _ q)];exact q
   have:∃o',H' c=some o':=by
    rcases hc with rfl|hc
    ·exact⟨o,e⟩
    ·exact⟨_,hc⟩
   obtain⟨o',e'⟩:=this;obtain⟨u',q1⟩:=b1 c o' e';have q2:=fl.1 c u' q1;rw[q]at q2;cases q2;exact fl'.1 c u q1
end
theorem qhd{K:zB}{h:vX}{nm q:Str}{C N:vC}{bs tl:List vB}{hdct:Bool}{sn:List Str}{sub:List vB}{ab:Bool}{col:Option Bool}{dd:Option vC}{k0 k1 k2 k3 k5:Option vB}{newId:String}{b:vB}{r:Bool}(KI:K.In h)(e:xr K C b=some r)(hC:h.get? C=some (u8 nm q C N bs tl hdct sn sub ab col dd k0 k1 k2 k3 k5 newId)):(Value.ref C::tl).contains b=r:=by
 unfold xr at e;obtain⟨cd,a,e⟩:=bnd e;unfold PySem.W.clsIn at a
 split at a
 ·rename_i look
  cases a;have:=KI _ _ look;rw[hC]at this;cases this
  split at e
  ·cases e
  ·cases e;rfl
 ·cases a
def ZC(X:Cx)(xx:vB->vF->Prop)(pins:List (vC×Obj))(σ:L2.St)(E':XK):Prop:=∀H1 s1 e s',L2.Inv (X.wish xx) pins σ H1 s1->CXe X.prog X.w X.stack H1 s1 E' e s'->xx e s'
def ZE(X:Cx)(e:vQ)(g:FX):Prop:=∀(xx:vB->vF->Prop)(pins:List (vC×Obj))(σ:L2.St)(ω:WSt)G0 H0 G H s c C(E':XK),L2.Inv (X.wish xx) pins σ H s->Own X.K G0 H0 G ω σ H->g ω=some c->clsIn X.K c C ->
 (∀G' H',Ext G H G' H'->E' (.ref C) none H')->ZC X xx pins σ E'->vL (model X.prog X.w) X.A (eval e X.env) (λ_ _=>False) xx s
def ZS(X:Cx)(st:vf)(g:FX):Prop:=∀(xx:vB->vF->Prop)(pins:List (vC×Obj))(σ:L2.St)(ω:WSt)G0 H0 G H s c C(E':XK),L2.Inv (X.wish xx) pins σ H s->Own X.K G0 H0 G ω σ H->g ω=some c->clsIn X.K c C ->
 (∀G' H',Ext G H G' H'->E' (.ref C) none H')->ZC X xx pins σ E'->vL (model X.prog X.w) X.A (exec st X.env) (λ_ _=>False) xx s
def ZSs(X:Cx)(st:List vf)(g:FX):Prop:=∀(xx:vB->vF->Prop)(pins:List (vC×Obj))(σ:L2.St)(ω:WSt)G0 H0 G H s c C(E':XK),L2.Inv (X.wish xx) pins σ H s->Own X.K G0 H0 G ω σ H->g ω=some c->clsIn X.K c C ->
 (∀G' H',Ext G H G' H'->E' (.ref C) none H')->ZC X xx pins σ E'->vL (model X.prog X.w) X.A (execs st X.env) (λ_ _=>False) xx s
section
variable{X:Cx}{st:vf}{rest:List vf}{e:vQ}{es:List vQ}{pos:Pos}{g g':FX}
theorem qgn{k:Nat}{f:vC}{fd:vH}{ps:List Str}{m:List D->Option Str}{x:Str}{p:Pos}{ga:FA}(F:FnOk X.prog X.w X.K X.mg X.base (CXe X.prog X.w) k f fd ps (spX X.K (e::es).length m))(hr:Room k X.A)(hg:Gl X x)(hm:X.mg x=some (.ref f))(hk:xS X.K (.ref f)=true)(hb:Binds X.K fd ps [])(ha:XA X.nox (e::es) ga)(hdb:(x==("__debug__" : Str))=false:=by decide)(he:vJ (e::es) X.env=(false,eval e X.env)::vJ es X.env:=by rfl)(hpl:(vk pos (vJ es X.env)).any (·.1)=false:=by rfl):
  ZE X (.Call (.Name x p) (e::es) [] pos) (Yt m ga):=by
 intro xx pins σ ω G0 H0 G H s c C E' I o ge hcl hw hz;obtain⟨⟨t,h1,h2⟩,h5⟩:=XA.lift (X:=X.wish xx) ha;obtain⟨ds,q,ge⟩:=bnd ge;refine vp (q7B (X:=X.wish xx) I hg hm ?_ hdb);refine ZM (h₀:=X.base) I.ok.mod.kin hk (thn (h1 pos pins s σ H (λvs H1=>spX X.K (e::es).length m vs H1 (λ_ _=>False) E') I (h2 G0 H0 G ω σ H ds _ o q λvs G1 H1 x1 y1=>
  ⟨G1,ds,c,C,ge,hcl,h5 ω ds q,x1.gh,y1,λG' H' x2=>hw G' H' (x1.trans x2)⟩)) λus s1 ⟨vs,H1,I1,r,qq⟩=>⟨I1.kIn,?_⟩) he hpl
 have hl:us.length=ps.length:=by rw[<- r.length];exact F.len _ _ _ _ qq
 have hb':=hb s1 us I1.kIn (by rw[zi];exact hl);rw[zi]at hb';refine wpAny_call (uK (F.run X.A X.stack s1 H1 ⟨us,[]⟩ us vs (λ_ _=>False) E' hr I1.env0 hb' r qq) λres s' hq=>?_);cases res with
 | error er=>exact hz H1 s1 er s' I1 hq
 | ok fl=>
  cases fl with
  | ret u=>obtain⟨_,_,_,_,_,_,_,z⟩:=hq;exact z.elim
  | next=>exact False.elim hq
  | brk=>exact False.elim hq
  | cont=>exact False.elim hq
theorem qgv(h:ZE X e g)(hs:vm e none pos.line X.env=pure false:=by rfl):ZS X (.Expr e pos) g:=λxx pins σ ω G0 H0 G H s c C E' I o ge hcl hw hz=>
 wpAny_Expr_any (thn (h xx pins σ ω G0 H0 G H s c C E' I o ge hcl hw hz) λ_ _ z=>z.elim) I.quiet hs
end
noncomputable abbrev Cx.marked(X:Cx)(v:vB):Cx:={ X with A:=X.A.mark (some v),calm:=false }
section
variable{X:Cx}{pins:List (vC×Obj)}{σ:L2.St}{H:Hp}{s:vF}
theorem qaI(I:L2.Inv X pins σ H s)(v:vB):L2.Inv (Cx.marked X v) pins σ H s :=
 ⟨⟨I.ok.mod,I.ok.kind,I.ok.glob,I.ok.blt,I.ok.above,I.ok.inj,I.ok.has,I.ok.cab,(λz=>Bool.noConfusion (show false=true from z)),I.ok.frames,I.ok.stk,I.ok.exf,I.ok.bs,I.ok.bsz,I.ok.noex,I.ok.exfs,I.ok.funs,I.ok.frf⟩,I.os,I.bare,I.base,I.loc,I.cell,I.free,I.freeC,I.pin,I.hok,I.len⟩
theorem q4W{v:vB}(hd:X.calm=true->X.A.handled=none)(I:L2.Inv (Cx.marked X v) pins σ H s):L2.Inv X pins σ H s :=
 ⟨⟨I.ok.mod,I.ok.kind,I.ok.glob,I.ok.blt,I.ok.above,I.ok.inj,I.ok.has,I.ok.cab,hd,I.ok.frames,I.ok.stk,I.ok.exf,I.ok.bs,I.ok.bsz,I.ok.noex,I.ok.exfs,I.ok.funs,I.ok.frf⟩,I.os,I.bare,I.base,I.loc,I.cell,I.free,I.freeC,I.pin,I.hok,I.len⟩
end
section
variable{K:zB}{G0:Hp}{H0:Fr}{G:Hp}{ω:WSt}{σ:L2.St}{H:Hp}
end
def Xy(K:zB)(CR:vC)(cs:List Str):Prop:=∀c∈cs,∃C,clsIn K c C/\xi K C vErr "ValueError.__new__" = true/\xr K C (.ref CR)=some true
theorem qdL{K:zB}{CR:vC}:Xy K CR []:=λ_ h=>by cases h
theorem qcZ{K:zB}{CR C:vC}{c:Str}{cs:List Str}(h1:clsIn K c C)(h2:xi K C vErr "ValueError.__new__" = true)(h3:xr K C (.ref CR)=some true)(h:Xy K CR cs):Xy K CR (c::cs):=λd hd=>by
 cases hd with
 | head=>exact⟨C,h1,h2,h3⟩
 | tail _ hd=>exact h d hd
section
variable{X:Cx}
noncomputable def tCan(K:zB)(f:FS):TS:=λD σ H=>∃G0 H0 G ω out ω',Own K G0 H0 G ω σ H/\f ω=some (out,ω')/\∀G' σ' H',Own K G0 H0 G' ω' σ' H'->YO G G'->Post K H0 G' D out σ' H'
end
end Hk
namespace PySem.W
open PySem PySem.Calls PyProof.Rows
open Builtin Builtin.ObjectAttr Builtin.Getset_descriptor
section
variable{prog:vO}{w:vU}{A:vY}{E:vB->vF->Prop}{K:Frag}{x C:vC}{h:vX}{g:Array ut}{d:tN}{t:Nat}{os:OsState}{ob:Obj}
end
end PySem.W
namespace Hk
open PySem PySem.Spec L2 PyProof.Rows
section
variable{X:Cx}{a:vQ}{f:FD}
end
section
variable{X:Cx}{E:XK}{st:vf}{rest:List vf}{g:FX}
theorem qdm:YSs X E rest yNo:=⟨_,q9D,λG0 H0 G ω σ H D c C o e=>by cases e⟩
theorem q0l(h:YS X E st g):YSs X E (st::rest) g:=by
 obtain⟨t,h1,h2⟩:=h;exact⟨_,q2O h1 q9D,λG0 H0 G ω σ H D c C o e hc hw=>h2 G0 H0 G ω σ H _ c C o e hc hw⟩
theorem qf8(h:ZS X st g):ZSs X (st::rest) g:=λxx pins σ ω G0 H0 G H s c C E' I o ge hcl hw hz=>
 uu (thn (h xx pins σ ω G0 H0 G H s c C E' I o ge hcl hw hz) λ_ _ z=>z.elim)
end
noncomputable def ifX(o:Option Bool)(g g':FX)(ω:WSt):Option Str:=o.bind λb=>if b=true then g ω else g' ω
noncomputable def callX(m:List D->Option Str)(o:Option (List D)):Option Str:=o.bind m
section
variable{f fh:FS}{g g':FX}{cs:List Str}{i:Nat}{ω w:WSt}{c:Str}{ft:FT}{fa:FA}{ds:List D}{fd:FD}{fe:FE}{o:Out}{r:R}
theorem q6w:yIf ft g g' ω=ifX (ft ω) g g' ω:=rfl
theorem q42:ifX (some true) g g' ω=g ω:=rfl
theorem q45:ifX (some false) g g' ω=g' ω:=rfl
theorem q6F:yNo ω=none:=rfl
theorem q2Q:WG c ω=some c:=rfl
theorem q48{m}:Yt m fa ω=callX m (fa ω):=rfl
theorem zAt{m}:callX m (some ds)=m ds:=rfl
end
noncomputable def Wl(f:FS)(g:FX)(cs:List Str)(fh:FS):FS:=λω=>match g ω with
 | some c=>if c∈cs then fh ω else none
 | none=>f ω
noncomputable def X5(g:FX)(cs:List Str)(fh:FS):FS:=λω=>(g ω).bind λc=>if c∈cs then fh ω else none
section
variable{X:Cx}
theorem qe7{x:Str}{CR:vC}{cs:List Str}{body suite:List vf}{b₀:vf}{np hp pos:Pos}{fh:FS}{g:FX}(hst:X.stack=X.env::X.outer)(hf:X.env.frame=some X.env.locals)(hg:Gl X x)(hm:X.mg x=some (.ref CR))(er:ECls X.K x CR)(hcs:Xy X.K CR cs)(hd:X.calm=true->X.A.handled=none)(hz:ZSs X body g)(hh:∀e,XSs (Cx.marked X e).nox (b₀::suite) fh)(hdb:(x==("__debug__" : Str))=false:=by decide):
  PS X (.Try body [.ExceptHandler (some (.Name x np)) none (b₀::suite) hp] [] [] pos) (tCan X.K (X5 g cs fh)):=by
 intro pins s σ H D I h;obtain⟨G0,H0,G,ω,out,ω',o,e,k⟩:=h;obtain⟨c,gq,e⟩:=bnd e
 by_cases hc:c∈cs
 case neg=>rw[vN hc]at e;cases e
 rw[vM hc]at e;obtain⟨C,hcl,hex,hmr⟩:=hcs c hc;cases qh:fh ω with
 | none=>rw[qh]at e;cases e
 | some pr=>
 obtain⟨out1,ω1⟩:=pr;rw[qh]at e;cases e;refine wpAny_Try_except ?_;refine vc (hz _ pins σ ω G0 H0 G H s c C (λcls _ H'=>cls=.ref C/\∃G',Ext G H G' H') (I.wish _) o gq hcl (λG' H' x1=>⟨rfl,G',x1⟩) λH1 s1 e s' I1 cx=>?_) (λ_ _ z=>z.elim) λ_ _ z=>z;obtain⟨ea,cls,H',B,t,rfl,fl,ne,⟨rfl,G',x1⟩,mk⟩:=qcO I1.unwish cx;have hfr:X.A.frames=some (X.env::X.outer):=hst▸I.ok.frames;have mk':=mk C;clear mk cx;obtain⟨h0,g',d',tk,os⟩:=s';rw[hst]at fl mk';refine wpAny_looks_onW hfr hf fl λh1 held up1=>?_;refine wpAny_landsW held λh2 fl2 up2=>?_;have I2:=qaI (mk' h2 rfl fl2 (up1.trans up2)) (.ref ea);have KI:=I2.kIn;obtain⟨tl,N1,nm1,qn1,bs1,hdct1,sn1,sub1,ab1,col1,dd1,k01,k11,k21,k31,k51,mN1,hC1,_,_,T1⟩:=q87 KI hex;obtain⟨tl2,N2,nm2,qn2,bs2,hdct2,sn2,sub2,ab2,col2,dd2,k02,k12,k22,k32,k52,mN2,hC2,_,_,T2⟩:=q87 KI er.cl;obtain⟨oe,he,hoc⟩:=fl2.there;have FB:=PySem.F.excBase_ValueError;refine wpAny_handleBy_cons (codeAny_handlers_test (q7B (X:=Cx.marked X (.ref ea)) I2 hg hm ?_ hdb)) (λq=>by cases q);refine Yu hC1 hC2 he hoc (T2.hasType FB.hasBase) ?_;rw[qhd KI hmr hC1];refine codeAny_handlers_suite (lands_againW fl2 λh3 fl3 up3=>?_);have I3:=qaI (mk' h3 rfl fl3 ((up1.trans up2).trans up3)) (.ref ea);obtain⟨th,p1,p2⟩:=hh (.ref ea);have o1:=(o.keep x1).keep (Ext.lay x1.gh ne (.ext (excP ea C)));refine vc (p1 pins _ _ _ D (I3.wish _) (p2 G0 H0 _ _ _ _ out ω' _ o1 qh λG2 σ2 H2 o2 g2=>?_)) (λfl s5 q=>?_) λ_ _ z=>z.elim
 ·have:=k G2 σ2 H2 o2 ((x1.gg.trans (Yi (x1.gh.free ne) _)).trans g2)
  exact this
 ·cases fl with
  | next=>obtain⟨σ',H5,I5,q⟩:=q;exact⟨_,H5,q4W hd I5.unwish,q⟩
  | brk=>obtain⟨σ',H5,I5,q⟩:=q;exact⟨_,H5,q4W hd I5.unwish,q⟩
  | cont=>obtain⟨σ',H5,I5,q⟩:=q;exact⟨_,H5,q4W hd I5.unwish,q⟩
  | ret u=>obtain⟨v,σ',H5,I5,r,q⟩:=q;exact⟨v,_,H5,q4W hd I5.unwish,r,q⟩
theorem qgo{x:Str}{CR:vC}{cs:List Str}{body suite:List vf}{b₀:vf}{np hp pos:Pos}{f fh:FS}{g:FX}(hst:X.stack=X.env::X.outer)(hf:X.env.frame=some X.env.locals)(hg:Gl X x)(hm:X.mg x=some (.ref CR))(er:ECls X.K x CR)(hcs:Xy X.K CR cs)(hb:XSs X.nox body f)(hz:ZSs X body g)(hh:∀e,XSs (Cx.marked X e).nox (b₀::suite) fh)(hdb:(x==("__debug__" : Str))=false:=by decide):
  XS X (.Try body [.ExceptHandler (some (.Name x np)) none (b₀::suite) hp] [] [] pos) (Wl f g cs fh):=by
 obtain⟨t,h1,h2⟩:=hb;refine⟨λD σ H=>t D σ H\/tCan X.K (X5 g cs fh) D σ H,λpins s σ H D I q=>?_,λG0 H0 G ω σ H out ω' E o e k=>?_⟩
 ·rcases q with q|q
  ·refine wpAny_Try_except (vc (h1 pins s σ H D (I.wish _) q) (λfl s1 z=>?_) λ_ _ z=>z.elim)
   have z':=z.unwish;cases fl with
   | next=>exact uQ z'
   | brk=>exact z'
   | cont=>exact z'
   | ret u=>exact z'
  ·exact qe7 hst hf hg hm er hcs I.ok.hd hz hh hdb pins s σ H D I q
 ·unfold Wl at e
  cases q:g ω with
  | none=>rw[q]at e;exact .inl (h2 G0 H0 G ω σ H out ω' E o e k)
  | some c=>
   rw[q]at e;exact .inr ⟨G0,H0,G,ω,out,ω',o,by unfold X5;rw[q];exact e,k⟩
end
noncomputable def zA2(o:Option Str)(f:FS)(cs:List Str)(fh:FS)(ω:WSt):Option (Out×WSt):=match o with
 | some c=>if c∈cs then fh ω else none
 | none=>f ω
section
variable{f fh:FS}{g:FX}{cs:List Str}{ω:WSt}{c:Str}
theorem q4z:Wl f g cs fh ω=zA2 (g ω) f cs fh ω:=rfl
theorem q2Y:zA2 none f cs fh ω=f ω:=rfl
theorem q2Z(h:c∈cs):zA2 (some c) f cs fh ω=fh ω:=vM h
end
section
variable{X:Cx}{a:vQ}{f:FD}
end
end Hk
namespace Hk
open PySem L2
abbrev Cal(P:vO)(w:vU)(K:zB)(mg:Str->Option vB)(base:vX)(k:Nat)(f:vC)(d:vH)(x:Str)(ps:List Str)(n:Nat)(m:List D->Option O):Prop :=
 FnOk P w K mg base CX0 k f d ps (spD K n m)/\mg x=some (.ref f)/\xS K (.ref f)=true/\Binds K d ps []
section
variable{X:Cx}{x:Str}{pos:Pos}
theorem xc{e:vQ}{es:List vQ}{k k0:Nat}{f:vC}{fd:vH}{ps:List Str}{m:List D->Option O}{p:Pos}{g:FA}(c:Cal X.prog X.w X.K X.mg X.base k f fd x ps (e::es).length m)(hr:Room k0 X.A)(ha:XA X (e::es) g)(hk:k<=k0:=by decide)(hg:Gl X x:=by exact rfl)(hdb:(x==("__debug__" : Str))=false:=by decide)(he:vJ (e::es) X.env=(false,eval e X.env)::vJ es X.env:=by rfl)(hpl:(vk pos (vJ es X.env)).any (·.1)=false:=by rfl):
  XE X (.Call (.Name x p) (e::es) [] pos) (Z6 m g):=zAp c.1 (hr.mono hk) hg c.2.1 c.2.2.1 c.2.2.2 pass0 ha hdb he hpl
theorem vE(i:Nat)(hN:X.N[i]?=some x:=by rfl)(hv:Vis X.env.scope x:=by first|exact Or.inl rfl|exact Or.inr (Or.inl rfl)|exact Or.inr (Or.inr rfl))(hd:(x==("__debug__" : Str))=false:=by decide)(hcd:(x==("__classdict__" : Str))=false:=by decide):XE X (.Name x pos) (Zy i):=WY i (pv i hN hv hd hcd)
theorem vV(i:Nat)(hN:X.N[i]?=some x:=by rfl)(hv:Vis X.env.scope x:=by first|exact Or.inl rfl|exact Or.inr (Or.inl rfl)|exact Or.inr (Or.inr rfl))(hd:(x==("__debug__" : Str))=false:=by decide)(hcd:(x==("__classdict__" : Str))=false:=by decide):XV X (.Name x pos) (vOf (Zy i)):=XE.toV (WY i (pv i hN hv hd hcd))
theorem vD(i:Nat)(hN:X.N[i]?=some x:=by rfl)(hv:Vis X.env.scope x:=by first|exact Or.inl rfl|exact Or.inr (Or.inl rfl)|exact Or.inr (Or.inr rfl))(hd:(x==("__debug__" : Str))=false:=by decide)(hcd:(x==("__classdict__" : Str))=false:=by decide):XD X (.Name x pos) (dOf (Zy i)):=XE.toD (WY i (pv i hN hv hd hcd))
end
def Fd(K:zB)(x:Str)(st:vf)(f:vC):Prop:=zw K vS x=some (some (.ref f))/\∃fd,Fun K x x st f fd
section
variable{P:vO}{w:vU}{K:zB}{mg:Str->Option vB}{base h:vX}{x:Str}{st:vf}{f:vC}{fd:vH}
theorem qib{oc:vB}{od an:Option vC}{osl:Array (Option vB)}{kV doc pm cdv ct:vB}(a:zw K vS x=some (some (.ref f)))(l:K.lookup f=some ⟨oc,od,.func (xV x x (Yz st) (Yk st) (Z1 st) .none kV doc pm an cdv ct),osl⟩)(c:wS K cdv x=true)(k:xS K (.ref f)=true):Fd K x st f:=⟨a,_,qgJ l c k⟩
theorem qr(P:vO)(w:vU)(base:vX)(X:K.In h)(G:h.Ns vS mg){x:Str}{st:vf}{f:vC}{fd:vH}{k n:Nat}{ps:List Str}{m:List D->Option O}(D:Fd K x st f)(F:Fun K x x st f fd)(o:FnOk P w K mg base CX0 k f fd ps (spD K n m))(b:∀(kV doc pm:vB)(an:Option vC)(cdv ct:vB)(us:List vB),us.length=ps.length->bindArgs (xV x x (Yz st) (Yk st) (Z1 st) .none kV doc pm an cdv ct) ⟨us,[]⟩=pure (ps.zip us)):Cal P w K mg base k f fd x ps n m :=
 ⟨o,wK X G D.1,F.kp,F.binds b⟩
end
end Hk
namespace Hk
open PySem PyProof.Rows
section
variable{prog:vO}{w:vU}{A:vY}{E:vB->vF->Prop}{s:vF}{a₀:Array Keyed}
end
section
variable{α β:Type}
end
end Hk
namespace Hk
open PySem PySem.Spec PyProof.Rows L2
section
variable{X:Cx}{pins:List (vC×Obj)}{σ:L2.St}{H:Hp}{s:vF}
end
section
variable{X:Cx}{pins:List (vC×Obj)}{σ:L2.St}{G H:Hp}{s:vF}{a kS:vC}{xs:List V}{vs:List vB}{ds:List D}{kf:D->Int}
end
section
variable{X:Cx}{pins:List (vC×Obj)}{σ:L2.St}{G H:Hp}{s:vF}{a:vC}{xs:List V}{vs:List vB}{ds:List D}{kf:D->Int}{k:Nat}{f:vC}{fd:vH}{ps:List Str}{m:List D->Option O}
end
end Hk
namespace Hk
open PySem L2
section
variable{m:List D->Option O}{f:FD}{ω:WSt}{d:D}{i:Nat}{ks:List Int}{ds:List D}
theorem q3H:iDk i ω=zAu ω[i]?:=rfl
theorem q3I:zAu (some ↥(.dic ks ds))=some (ks.map D.int):=rfl
end
end Hk
set_option maxHeartbeats 4000000
namespace Kx
open PySem L2 Hk
noncomputable def top(i:Nat):vf:=PySem.Challenge.pw_hookrail_k40_what_is_a_reason.main.body.getD i (.Pass ⟨0,0,0,0⟩)
section
variable{P:vO}{w:vU}{K:zB}{mg:Str->Option vB}{base:vX}{f:vC}{fd:vH}
noncomputable def q8L:FS:=(YR (eOf (Xd (dOf (XQ .int (vOf (Zy 0)))) (vNot (dOf (XQ .bl (vOf (Zy 0))))))))
noncomputable def q0c:List D->Option O:=mir 1 q8L
noncomputable abbrev q6k:vf:=top 5
theorem qdf:FnScope ["thing"] ["thing"] (Z1 q6k):=⟨rfl,rfl,rfl,⋯,rfl,⋯,⋯⟩
theorem qbU (F:Fun K "is_whole" "is_whole" q6k f fd)(z_isinstance:mg "isinstance" = none)(z_bool:mg "bool" = none)(z_int:mg "int" = none)(i_int:IsT K .int)(i_bool:IsT K .bl):
  FnOk P w K mg base CX0 1 f fd ["thing"] (spD K 1 q0c):=by
 have h:=fnD (P:=P) (w:=w) (mg:=mg) (base:=base) (k:=0) (body:=q8L) F qdf (λcdv A outer s H E hr=>
   (qa (qb (XD.toE (q0K (XE.toD (qI (vV 0) i_int rfl z_isinstance rfl z_int qds)) (q3y (qem (XE.toD (qI (vV 0) i_bool rfl z_isinstance rfl z_bool q9n)))))))))
 exact h
noncomputable def q82:FS:=(YR (eOf (Xd (dOf (XQ .tup (vOf (Zy 0)))) (Xd (dOf (Z0 (oEq false) (vOf (Yg Y7 (Zw (vOf (Zy 0)) Z3))) (fC (.int 2)))) (Xd (dOf (Z6 q0c (Zw (dOf (Z0 oIx (vOf (Zy 0)) (fC (.int 0)))) Z3))) (dOf (Z6 q0c (Zw (dOf (Z0 oIx (vOf (Zy 0)) (fC (.int 1)))) Z3))))))))
noncomputable def q5w:List D->Option O:=mir 1 q82
noncomputable abbrev q8j:vf:=top 6
theorem qfk:FnScope ["thing"] ["thing"] (Z1 q8j):=⟨rfl,rfl,rfl,⋯,rfl,⋯,⋯⟩
theorem qdy{f_is_whole:vC}{d_is_whole:vH}(F:Fun K "is_box" "is_box" q8j f fd)(c_is_whole:Cal P w K mg base 1 f_is_whole d_is_whole "is_whole" ["thing"] 1 q0c)(z_len:mg "len" = none)(z_isinstance:mg "isinstance" = none)(z_tuple:mg "tuple" = none)(i_tuple:IsT K .tup):
  FnOk P w K mg base CX0 2 f fd ["thing"] (spD K 1 q5w):=by
 have h:=fnD (P:=P) (w:=w) (mg:=mg) (base:=base) (k:=1) (body:=q82) F qfk (λcdv A outer s H E hr=>
   (qa (qb (XD.toE (q0K (XE.toD (qI (vV 0) i_tuple rfl z_isinstance rfl z_tuple qK)) (q0K (XE.toD (Xe hr.units (XE.toV (qL qw q0d rfl z_len q0e (qi (vV 0) qo))) (XD.toV Zx))) (q0K (XE.toD (xc c_is_whole hr (Zv (XE.toD (Z2 (vV 0) (XD.toV Zx))) Zz))) (q3y (XE.toD (xc c_is_whole hr (Zv (XE.toD (Z2 (vV 0) (XD.toV Zx))) Zz)))))))))))
 exact h
noncomputable def q7f:FD:=(dOf (Z6 q5w (Zw (dOf (Zy 0)) Z3)))
noncomputable def q5U:FS:=(Z8 (sIf (WD (Yb (Yv (vOf (Z6 q0c (Zw (dOf (Zy 0)) Z3))))) (WD (Yb (Yv (vOf (Z6 q0c (Zw (dOf (Zy 1)) Z3))))) (Yb (Yv (vOf (XQ .lst (vOf (Zy 2)))))))) (YR (eOf (fC (.bl false)))) Yc)
  (YR (Yg XB (Zw (vOf (YY 1 [] (Ys (dOf (Zy 2))) (gN 0) YX q7f)) Z3))))
noncomputable def q0F:List D->Option O:=mir 3 q5U
noncomputable abbrev q5X:vf:=top 7
theorem qbF:FnScope ["home", "last", "boxes"] ["home", "last", "boxes"] (Z1 q5X):=⟨rfl,rfl,rfl,⋯,rfl,⋯,⋯⟩
theorem qaA{f_is_whole:vC}{d_is_whole:vH}{f_is_box:vC}{d_is_box:vH}(F:Fun K "is_errand" "is_errand" q5X f fd)(c_is_whole:Cal P w K mg base 1 f_is_whole d_is_whole "is_whole" ["thing"] 1 q0c)(c_is_box:Cal P w K mg base 2 f_is_box d_is_box "is_box" ["thing"] 1 q5w)(z_isinstance:mg "isinstance" = none)(z_list:mg "list" = none)(z_all:mg "all" = none)(i_list:IsT K .lst):
  FnOk P w K mg base CX0 3 f fd ["home", "last", "boxes"] (spD K 3 q0F):=by
 have h:=fnD (P:=P) (w:=w) (mg:=mg) (base:=base) (k:=2) (body:=q5U) F qbF (λcdv A outer s H E hr=>
   (q0 (qt (XW.toT (q3f (qZ (qx (XE.toV (xc c_is_whole hr (Zv (vD 0) Zz))))) (q3f (qZ (qx (XE.toV (xc c_is_whole hr (Zv (vD 1) Zz))))) (q3r (qZ (qx (XE.toV (qI (vV 2) i_list rfl z_isinstance rfl z_list qQ)))))))) (qa (qb (XD.toE Ya))) qe)
   (qa (qb (qL (q1P rfl) q5e rfl z_all q5r (qi (XE.toV (qG rfl (blk ["box"] [] [] rfl ⋯ ⋯ rfl trivial) (qv (vD 2)) (qz 0) (λ_ _ _ _=>⟨(qd (i:=0) (show ((["box"]:List Str)++([]:List Str):List Str).Nodup from by decide +kernel) rfl (Or.inl rfl)),qE,(XE.toD (xc c_is_box hr (Zv (vD 0) Zz)))⟩))) qo))))))
 exact h
noncomputable def q3O:FS:=(sIf (Yb (Yv (vOf (Z6 q0F (Zw (dOf (Zy 0)) (Zw (dOf (Zy 1)) (Zw (dOf (Zy 2)) Z3))))))) sNo Yc)
noncomputable def q0b:List D->Option O:=mir 3 q3O
noncomputable abbrev q2i:vf:=top 8
theorem q6i:FnScope ["home", "last", "boxes"] ["home", "last", "boxes"] (Z1 q2i):=⟨rfl,rfl,rfl,⋯,rfl,⋯,⋯⟩
theorem q8W{f_is_errand:vC}{d_is_errand:vH}{A_NoErrand:vC}(F:Fun K "check_errand" "check_errand" q2i f fd)(c_is_errand:Cal P w K mg base 3 f_is_errand d_is_errand "is_errand" ["home", "last", "boxes"] 3 q0F)(e_NoErrand:mg "NoErrand" = some (.ref A_NoErrand))(x_NoErrand:ECls K "NoErrand" A_NoErrand):
  FnOk P w K mg base CX0 4 f fd ["home", "last", "boxes"] (spD K 3 q0b):=by
 have h:=fnD (P:=P) (w:=w) (mg:=mg) (base:=base) (k:=3) (body:=q3O) F q6i (λcdv A outer s H E hr=>
   (qa (qt (qZ (qx (XE.toV (xc c_is_errand hr (Zv (vD 0) (Zv (vD 1) (Zv (vD 2) Zz))))))) (qa qfK) qe)))
 exact h
noncomputable def q6g:FX:=(yIf (Yb (Yv (vOf (Z6 q0F (Zw (dOf (Zy 0)) (Zw (dOf (Zy 1)) (Zw (dOf (Zy 2)) Z3))))))) (WG "NoErrand") yNo)
noncomputable def q0q:List D->Option Str:=λds=>q6g (entry 3 ds)
theorem q86{f_is_errand:vC}{d_is_errand:vH}{A_NoErrand:vC}(F:Fun K "check_errand" "check_errand" q2i f fd)(c_is_errand:Cal P w K mg base 3 f_is_errand d_is_errand "is_errand" ["home", "last", "boxes"] 3 q0F)(e_NoErrand:mg "NoErrand" = some (.ref A_NoErrand))(x_NoErrand:ECls K "NoErrand" A_NoErrand):
  FnOk P w K mg base (CXe P w) 4 f fd ["home", "last", "boxes"] (spX K 3 q0q):=by
 have h:=fnX (P:=P) (w:=w) (mg:=mg) (base:=base) (k:=3) (gb:=q6g) F q6i (λcdv A outer s H E hr=>
   (q0l (qfH (qZ (qx (XE.toV (xc c_is_errand hr (Zv (vD 0) (Zv (vD 1) (Zv (vD 2) Zz))))))) (q0l (qba rfl e_NoErrand rfl x_NoErrand (Zv Xs Zz) (λ_=>⟨_,rfl⟩) X8)) qdm)))
 exact h
noncomputable def q7Z:FS:=(zA3 3 (dOf (Zy 4)))
noncomputable def q9d:FS:=(Z8 (Wp (Z6 q0b (Zw (dOf (Zy 0)) (Zw (dOf (Zy 1)) (Zw (dOf (Zy 2)) Z3)))))
  (Z8 (YM 3 (Yj (Zw (dOf (Zy 0)) (Zw (dOf (Zy 1)) Z3))))
  (Z8 (Xu (Ys (dOf (Zy 2))) (gN 4) q7Z)
  (YR (Xo (vOf (Zy 3)))))))
noncomputable def q0r:List D->Option O:=mir 5 q9d
noncomputable abbrev q7w:vf:=top 9
theorem q7E:FnScope ["home", "last", "boxes", "places", "box"] ["home", "last", "boxes"] (Z1 q7w):=⟨rfl,rfl,rfl,⋯,rfl,⋯,⋯⟩
theorem qeQ{f_check_errand:vC}{d_check_errand:vH}(F:Fun K "stops" "stops" q7w f fd)(c_check_errand:Cal P w K mg base 4 f_check_errand d_check_errand "check_errand" ["home", "last", "boxes"] 3 q0b)(Gx_check_errand:FnOk P w K mg base (CXe P w) 4 f_check_errand d_check_errand ["home", "last", "boxes"] (spX K 3 q0q))(z_sorted:mg "sorted" = none)(z_set:mg "set" = none):
  FnOk P w K mg base CX0 5 f fd ["home", "last", "boxes"] (spD K 3 q0r):=by
 have h:=fnD (P:=P) (w:=w) (mg:=mg) (base:=base) (k:=4) (body:=q9d) F q7E (λcdv A outer s H E hr=>
   (q0 (q98 (xc c_check_errand hr (Zv (vD 0) (Zv (vD 1) (Zv (vD 2) Zz)))))
   (q0 (qg (i:=3) q7E.nd rfl (Or.inl rfl) (Z9 (Zv (vD 0) (Zv (vD 1) Zz))))
   (q0 (q0S PassesOwn.never rfl (qv (vD 2)) (qd (i:=4) q7E.nd rfl (Or.inl rfl)) (qa (qdw (pv 3) (vD 4))))
   (qa (qb (qd4 rfl z_sorted rfl z_set (vV 3))))))))
 exact h
noncomputable def qc1:FX:=(Yt q0q (Zw (dOf (Zy 0)) (Zw (dOf (Zy 1)) (Zw (dOf (Zy 2)) Z3))))
noncomputable def q0v:List D->Option Str:=λds=>qc1 (entry 5 ds)
theorem qdM{f_check_errand:vC}{d_check_errand:vH}(F:Fun K "stops" "stops" q7w f fd)(c_check_errand:Cal P w K mg base 4 f_check_errand d_check_errand "check_errand" ["home", "last", "boxes"] 3 q0b)(Gx_check_errand:FnOk P w K mg base (CXe P w) 4 f_check_errand d_check_errand ["home", "last", "boxes"] (spX K 3 q0q))(z_sorted:mg "sorted" = none)(z_set:mg "set" = none):
  FnOk P w K mg base (CXe P w) 5 f fd ["home", "last", "boxes"] (spX K 3 q0v):=by
 have h:=fnX (P:=P) (w:=w) (mg:=mg) (base:=base) (k:=4) (gb:=qc1) F q7E (λcdv A outer s H E hr=>
   (q0l (qcl (q0Q Gx_check_errand (hr.mono (by decide)) rfl c_check_errand.2.1 c_check_errand.2.2.1 c_check_errand.2.2.2 XC (Zv (vD 0) (Zv (vD 1) (Zv (vD 2) Zz)))))))
 exact h
noncomputable def qbm:FS:=(Z8 (YM 3 (eOf (dOf (Z6 q0r (Zw (dOf (Zy 0)) (Zw (dOf (Zy 1)) (Zw (dOf (Zy 2)) Z3)))))))
  (YR (Yg XF (Zw (vOf (Zy 3)) (Zw (vOf (fSl (vOf (Zy 3)) (pAt (fC (.int 1))) pNo)) Z3)))))
noncomputable def q07:List D->Option O:=mir 4 qbm
noncomputable abbrev q92:vf:=top 10
theorem q8E:FnScope ["home", "last", "boxes", "places"] ["home", "last", "boxes"] (Z1 q92):=⟨rfl,rfl,rfl,⋯,rfl,⋯,⋯⟩
theorem qgi{f_stops:vC}{d_stops:vH}(F:Fun K "gaps" "gaps" q92 f fd)(c_stops:Cal P w K mg base 5 f_stops d_stops "stops" ["home", "last", "boxes"] 3 q0r)(Gx_stops:FnOk P w K mg base (CXe P w) 5 f_stops d_stops ["home", "last", "boxes"] (spX K 3 q0v))(z_list:mg "list" = none)(z_zip:mg "zip" = none):
  FnOk P w K mg base CX0 6 f fd ["home", "last", "boxes"] (spD K 3 q07):=by
 have h:=fnD (P:=P) (w:=w) (mg:=mg) (base:=base) (k:=5) (body:=qbm) F q8E (λcdv A outer s H E hr=>
   (q0 (qg (i:=3) q8E.nd rfl (Or.inl rfl) (XD.toE (XE.toD (xc c_stops hr (Zv (vD 0) (Zv (vD 1) (Zv (vD 2) Zz)))))))
   (qa (qb (qd7 rfl z_list rfl z_zip (qi (vV 3) (qi (XE.toV (Z7 (vV 3) (YC (XD.toV Zx)) YG)) qo)))))))
 exact h
noncomputable def qdA:FX:=(Yt q0v (Zw (dOf (Zy 0)) (Zw (dOf (Zy 1)) (Zw (dOf (Zy 2)) Z3))))
noncomputable def q0J:List D->Option Str:=λds=>qdA (entry 4 ds)
theorem qeC{f_stops:vC}{d_stops:vH}(F:Fun K "gaps" "gaps" q92 f fd)(c_stops:Cal P w K mg base 5 f_stops d_stops "stops" ["home", "last", "boxes"] 3 q0r)(Gx_stops:FnOk P w K mg base (CXe P w) 5 f_stops d_stops ["home", "last", "boxes"] (spX K 3 q0v))(z_list:mg "list" = none)(z_zip:mg "zip" = none):
  FnOk P w K mg base (CXe P w) 6 f fd ["home", "last", "boxes"] (spX K 3 q0J):=by
 have h:=fnX (P:=P) (w:=w) (mg:=mg) (base:=base) (k:=5) (gb:=qdA) F q8E (λcdv A outer s H E hr=>
   (q0l (q60 (i:=3) q8E.nd rfl (Or.inl rfl) (q0Q Gx_stops (hr.mono (by decide)) rfl c_stops.2.1 c_stops.2.2.1 c_stops.2.2.2 XC (Zv (vD 0) (Zv (vD 1) (Zv (vD 2) Zz)))))))
 exact h
noncomputable def q5u:FD:=(Yp (Zw (dOf (Z0 oIx (vOf (Zy 0)) (fC (.int 0)))) (Zw (dOf (Z0 oIx (vOf (Zy 0)) (fC (.int 1)))) (Zw (dOf (Z0 X0 (vOf (Z0 oIx (vOf (Zy 0)) (fC (.int 1)))) (vOf (Z0 oIx (vOf (Zy 0)) (fC (.int 0)))))) Z3))))
noncomputable def q5R:FS:=(YR (YY 1 [] (Ys (dOf (Z6 q07 (Zw (dOf (Zy 0)) (Zw (dOf (Zy 1)) (Zw (dOf (Zy 2)) Z3)))))) (gN 0) YX q5u))
noncomputable def q1C:List D->Option O:=mir 3 q5R
noncomputable abbrev q4c:vf:=top 11
theorem q7U:FnScope ["home", "last", "boxes"] ["home", "last", "boxes"] (Z1 q4c):=⟨rfl,rfl,rfl,⋯,rfl,⋯,⋯⟩
theorem qaQ{f_gaps:vC}{d_gaps:vH}(F:Fun K "gap_edges" "gap_edges" q4c f fd)(c_gaps:Cal P w K mg base 6 f_gaps d_gaps "gaps" ["home", "last", "boxes"] 3 q07)(Gx_gaps:FnOk P w K mg base (CXe P w) 6 f_gaps d_gaps ["home", "last", "boxes"] (spX K 3 q0J)):
  FnOk P w K mg base CX0 7 f fd ["home", "last", "boxes"] (spD K 3 q1C):=by
 have h:=fnD (P:=P) (w:=w) (mg:=mg) (base:=base) (k:=6) (body:=q5R) F q7U (λcdv A outer s H E hr=>
   (qa (qb (qG rfl (blk ["gap"] [] [] rfl ⋯ ⋯ rfl trivial) (qv (XE.toD (xc c_gaps hr (Zv (vD 0) (Zv (vD 1) (Zv (vD 2) Zz)))))) (qz 0) (λ_ _ _ _=>⟨(qd (i:=0) (show ((["gap"]:List Str)++([]:List Str):List Str).Nodup from by decide +kernel) rfl (Or.inl rfl)),qE,(YF (Zv (XE.toD (Z2 (vV 0) (XD.toV Zx))) (Zv (XE.toD (Z2 (vV 0) (XD.toV Zx))) (Zv (XE.toD (q16 (XE.toV (Z2 (vV 0) (XD.toV Zx))) (XE.toV (Z2 (vV 0) (XD.toV Zx))))) Zz))))⟩)))))
 exact h
noncomputable def q7N:FX:=(Yt q0J (Zw (dOf (Zy 0)) (Zw (dOf (Zy 1)) (Zw (dOf (Zy 2)) Z3))))
noncomputable def q3u:List D->Option Str:=λds=>q7N (entry 3 ds)
theorem qak{f_gaps:vC}{d_gaps:vH}(F:Fun K "gap_edges" "gap_edges" q4c f fd)(c_gaps:Cal P w K mg base 6 f_gaps d_gaps "gaps" ["home", "last", "boxes"] 3 q07)(Gx_gaps:FnOk P w K mg base (CXe P w) 6 f_gaps d_gaps ["home", "last", "boxes"] (spX K 3 q0J)):
  FnOk P w K mg base (CXe P w) 7 f fd ["home", "last", "boxes"] (spX K 3 q3u):=by
 have h:=fnX (P:=P) (w:=w) (mg:=mg) (base:=base) (k:=6) (gb:=q7N) F q7U (λcdv A outer s H E hr=>
   (q0l (q8n (q7t rfl (blk ["gap"] [] [] rfl ⋯ ⋯ rfl trivial) (q0Q Gx_gaps (hr.mono (by decide)) rfl c_gaps.2.1 c_gaps.2.2.1 c_gaps.2.2.2 XC (Zv (vD 0) (Zv (vD 1) (Zv (vD 2) Zz))))))))
 exact h
noncomputable def q5l:FS:=(YR (eOf (Xd (dOf (Z0 oLe (vOf (Zy 0)) (vOf (Z0 oIx (vOf (Zy 2)) (fC (.int 0)))))) (dOf (Z0 oLe (vOf (Z0 oIx (vOf (Zy 2)) (fC (.int 1)))) (vOf (Zy 1)))))))
noncomputable def q1f:List D->Option O:=mir 3 q5l
noncomputable abbrev q5n:vf:=top 13
theorem qb3:FnScope ["start", "goal", "gap"] ["start", "goal", "gap"] (Z1 q5n):=⟨rfl,rfl,rfl,⋯,rfl,⋯,⋯⟩
theorem qab (F:Fun K "leads_over" "leads_over" q5n f fd):
  FnOk P w K mg base CX0 1 f fd ["start", "goal", "gap"] (spD K 3 q1f):=by
 have h:=fnD (P:=P) (w:=w) (mg:=mg) (base:=base) (k:=0) (body:=q5l) F qb3 (λcdv A outer s H E hr=>
   (qa (qb (XD.toE (q0K (XE.toD (qfz (vV 0) (XE.toV (Z2 (vV 2) (XD.toV Zx))))) (q3y (XE.toD (qfz (XE.toV (Z2 (vV 2) (XD.toV Zx))) (vV 1)))))))))
 exact h
noncomputable def q6v:FT:=(Yv (vOf (Z6 q1f (Zw (dOf (Z0 oIx (vOf (Zy 0)) (fC (.int 0)))) (Zw (dOf (Z0 oIx (vOf (Zy 0)) (fC (.int 1)))) (Zw (dOf (Zy 1)) Z3))))))
noncomputable def q6l:FD:=(dOf (Zy 0))
noncomputable def q6C:FT:=(Yv (vOf (Z6 q1f (Zw (dOf (Z0 oIx (vOf (Zy 0)) (fC (.int 1)))) (Zw (dOf (Z0 oIx (vOf (Zy 0)) (fC (.int 0)))) (Zw (dOf (Zy 1)) Z3))))))
noncomputable def q6y:FD:=(dOf (Zy 0))
noncomputable def q7i:FS:=(Z8 (YM 2 (YY 1 [1] (Ys (dOf (Zy 0))) (gN 0) q6v q6l))
  (Yf 2 (Z8 (YM 3 (YY 1 [1] (Ys (dOf (Zy 0))) (gN 0) q6C q6y))
  (Yf 3 (YR (eOf (Yp (Zw (dOf (Yg Y7 (Zw (vOf (Zy 2)) Z3))) (Zw (dOf (Yg Y7 (Zw (vOf (Zy 3)) Z3))) Z3)))))))))
noncomputable def q0t:List D->Option O:=mir 4 q7i
noncomputable abbrev q6U:vf:=top 14
theorem q7l:FnScope ["boxes", "gap", "rights", "lefts"] ["boxes", "gap"] (Z1 q6U):=⟨rfl,rfl,rfl,⋯,rfl,⋯,⋯⟩
theorem qda{f_leads_over:vC}{d_leads_over:vH}(F:Fun K "crossed" "crossed" q6U f fd)(c_leads_over:Cal P w K mg base 1 f_leads_over d_leads_over "leads_over" ["start", "goal", "gap"] 3 q1f)(z_len:mg "len" = none):
  FnOk P w K mg base CX0 2 f fd ["boxes", "gap"] (spD K 2 q0t):=by
 have h:=fnD (P:=P) (w:=w) (mg:=mg) (base:=base) (k:=1) (body:=q7i) F q7l (λcdv A outer s H E hr=>
   (q0 (q1E (i:=2) rfl q7l.nd rfl rfl (blk ["box"] ["gap"] [1] rfl ⋯ ⋯ rfl ⟨⟨rfl,(by first|exact Or.inl rfl|exact Or.inr rfl),rfl⟩,trivial⟩) (qv (vD 0)) (qz 0) (λ_ _ _ _=>⟨(qd (i:=0) (show ((["box"]:List Str)++(["gap"]:List Str):List Str).Nodup from by decide +kernel) rfl (Or.inl rfl)),(q32 (qx (XE.toV (xc c_leads_over hr (Zv (XE.toD (Z2 (vV 0) (XD.toV Zx))) (Zv (XE.toD (Z2 (vV 0) (XD.toV Zx))) (Zv (vD 1) Zz))))))),(vD 0)⟩))
   (q0m 2 (q0 (q1E (i:=3) rfl q7l.nd rfl rfl (blk ["box"] ["gap"] [1] rfl ⋯ ⋯ rfl ⟨⟨rfl,(by first|exact Or.inl rfl|exact Or.inr rfl),rfl⟩,trivial⟩) (qv (vD 0)) (qz 0) (λ_ _ _ _=>⟨(qd (i:=0) (show ((["box"]:List Str)++(["gap"]:List Str):List Str).Nodup from by decide +kernel) rfl (Or.inl rfl)),(q32 (qx (XE.toV (xc c_leads_over hr (Zv (XE.toD (Z2 (vV 0) (XD.toV Zx))) (Zv (XE.toD (Z2 (vV 0) (XD.toV Zx))) (Zv (vD 1) Zz))))))),(vD 0)⟩))
   (q0m 3 (qa (qb (XD.toE (YF (Zv (XE.toD (qL qw q0d rfl z_len q0e (qi (vV 2) qo))) (Zv (XE.toD (qL qw q0d rfl z_len q0e (qi (vV 3) qo))) Zz)))))))))))
 exact h
noncomputable def qb1:FS:=(Z8 (YM 4 (eOf (dOf (Z6 q0t (Zw (dOf (Yj (Zw (Yp (Zw (dOf (Zy 0)) (Zw (dOf (Zy 1)) Z3))) Z3))) (Zw (dOf (Zy 3)) Z3))))))
  (Z8 (YM 5 (eOf (dOf (Z6 q0t (Zw (dOf (Zy 2)) (Zw (dOf (Zy 3)) Z3))))))
  (YR (Z0 YL (vOf (Z0 X0 (vOf (Z0 X0 (vOf (Z0 oIx (vOf (Zy 4)) (fC (.int 0)))) (vOf (Z0 oIx (vOf (Zy 4)) (fC (.int 1)))))) (vOf (Z0 oIx (vOf (Zy 5)) (fC (.int 0)))))) (vOf (Z0 oIx (vOf (Zy 5)) (fC (.int 1))))))))
noncomputable def q64:List D->Option O:=mir 6 qb1
noncomputable abbrev qbd:vf:=top 15
theorem qaS:FnScope ["home", "last", "boxes", "gap", "own", "carried"] ["home", "last", "boxes", "gap"] (Z1 qbd):=⟨rfl,rfl,rfl,⋯,rfl,⋯,⋯⟩
theorem qga{f_crossed:vC}{d_crossed:vH}(F:Fun K "lack" "lack" qbd f fd)(c_crossed:Cal P w K mg base 2 f_crossed d_crossed "crossed" ["boxes", "gap"] 2 q0t):
  FnOk P w K mg base CX0 3 f fd ["home", "last", "boxes", "gap"] (spD K 4 q64):=by
 have h:=fnD (P:=P) (w:=w) (mg:=mg) (base:=base) (k:=2) (body:=qb1) F qaS (λcdv A outer s H E hr=>
   (q0 (qg (i:=4) qaS.nd rfl (Or.inl rfl) (XD.toE (XE.toD (xc c_crossed hr (Zv (XE.toD (Z9 (Zv (YF (Zv (vD 0) (Zv (vD 1) Zz))) Zz))) (Zv (vD 3) Zz))))))
   (q0 (qg (i:=5) qaS.nd rfl (Or.inl rfl) (XD.toE (XE.toD (xc c_crossed hr (Zv (vD 2) (Zv (vD 3) Zz))))))
   (qa (qb (qp (XE.toV (q16 (XE.toV (q16 (XE.toV (Z2 (vV 4) (XD.toV Zx))) (XE.toV (Z2 (vV 4) (XD.toV Zx))))) (XE.toV (Z2 (vV 5) (XD.toV Zx))))) (XE.toV (Z2 (vV 5) (XD.toV Zx)))))))))
 exact h
noncomputable def qbj:FD:=(dOf (Z6 q64 (Zw (dOf (Zy 1)) (Zw (dOf (Zy 2)) (Zw (dOf (Zy 3)) (Zw (dOf (Zy 0)) Z3))))))
noncomputable def q9z:FS:=(YR (YY 1 [0,1,2] (Ys (dOf (Z6 q07 (Zw (dOf (Zy 0)) (Zw (dOf (Zy 1)) (Zw (dOf (Zy 2)) Z3)))))) (gN 0) YX qbj))
noncomputable def q30:List D->Option O:=mir 3 q9z
noncomputable abbrev q7y:vf:=top 16
theorem qc0:FnScope ["home", "last", "boxes"] ["home", "last", "boxes"] (Z1 q7y):=⟨rfl,rfl,rfl,⋯,rfl,⋯,⋯⟩
theorem qfa{f_gaps:vC}{d_gaps:vH}{f_lack:vC}{d_lack:vH}(F:Fun K "lacks" "lacks" q7y f fd)(c_gaps:Cal P w K mg base 6 f_gaps d_gaps "gaps" ["home", "last", "boxes"] 3 q07)(Gx_gaps:FnOk P w K mg base (CXe P w) 6 f_gaps d_gaps ["home", "last", "boxes"] (spX K 3 q0J))(c_lack:Cal P w K mg base 3 f_lack d_lack "lack" ["home", "last", "boxes", "gap"] 4 q64):
  FnOk P w K mg base CX0 7 f fd ["home", "last", "boxes"] (spD K 3 q30):=by
 have h:=fnD (P:=P) (w:=w) (mg:=mg) (base:=base) (k:=6) (body:=q9z) F qc0 (λcdv A outer s H E hr=>
   (qa (qb (qG rfl (blk ["gap"] ["home", "last", "boxes"] [0,1,2] rfl ⋯ ⋯ rfl ⟨⟨rfl,(by first|exact Or.inl rfl|exact Or.inr rfl),rfl⟩,⟨⟨rfl,(by first|exact Or.inl rfl|exact Or.inr rfl),rfl⟩,⟨⟨rfl,(by first|exact Or.inl rfl|exact Or.inr rfl),rfl⟩,trivial⟩⟩⟩) (qv (XE.toD (xc c_gaps hr (Zv (vD 0) (Zv (vD 1) (Zv (vD 2) Zz)))))) (qz 0) (λ_ _ _ _=>⟨(qd (i:=0) (show ((["gap"]:List Str)++(["home", "last", "boxes"]:List Str):List Str).Nodup from by decide +kernel) rfl (Or.inl rfl)),qE,(XE.toD (xc c_lack hr (Zv (vD 1) (Zv (vD 2) (Zv (vD 3) (Zv (vD 0) Zz))))))⟩)))))
 exact h
noncomputable def qch:FX:=(Yt q0J (Zw (dOf (Zy 0)) (Zw (dOf (Zy 1)) (Zw (dOf (Zy 2)) Z3))))
noncomputable def qeZ:List D->Option Str:=λds=>qch (entry 3 ds)
theorem qdC{f_gaps:vC}{d_gaps:vH}{f_lack:vC}{d_lack:vH}(F:Fun K "lacks" "lacks" q7y f fd)(c_gaps:Cal P w K mg base 6 f_gaps d_gaps "gaps" ["home", "last", "boxes"] 3 q07)(Gx_gaps:FnOk P w K mg base (CXe P w) 6 f_gaps d_gaps ["home", "last", "boxes"] (spX K 3 q0J))(c_lack:Cal P w K mg base 3 f_lack d_lack "lack" ["home", "last", "boxes", "gap"] 4 q64):
  FnOk P w K mg base (CXe P w) 7 f fd ["home", "last", "boxes"] (spX K 3 qeZ):=by
 have h:=fnX (P:=P) (w:=w) (mg:=mg) (base:=base) (k:=6) (gb:=qch) F qc0 (λcdv A outer s H E hr=>
   (q0l (q8n (q7t rfl (blk ["gap"] ["home", "last", "boxes"] [0,1,2] rfl ⋯ ⋯ rfl ⟨⟨rfl,(by first|exact Or.inl rfl|exact Or.inr rfl),rfl⟩,⟨⟨rfl,(by first|exact Or.inl rfl|exact Or.inr rfl),rfl⟩,⟨⟨rfl,(by first|exact Or.inl rfl|exact Or.inr rfl),rfl⟩,trivial⟩⟩⟩) (q0Q Gx_gaps (hr.mono (by decide)) rfl c_gaps.2.1 c_gaps.2.2.1 c_gaps.2.2.2 XC (Zv (vD 0) (Zv (vD 1) (Zv (vD 2) Zz))))))))
 exact h
noncomputable def q77:FS:=sNb
noncomputable def q3v:List D->Option O:=mir 5 q77
noncomputable abbrev q5f:vf:=top 18
theorem q71:FnScope ["things", "ties", "beside", "thing", "tie"] ["things", "ties"] (Z1 q5f):=⟨rfl,rfl,rfl,⋯,rfl,⋯,⋯⟩
theorem qa8 (F:Fun K "neighbours" "neighbours" q5f f fd):
  FnOk P w K mg base CX0 1 f fd ["things", "ties"] (spD K 2 q3v):=by
 have h:=fnD (P:=P) (w:=w) (mg:=mg) (base:=base) (k:=0) (body:=q77) F q71 (λcdv A outer s H E hr=>
   (qhf hr.units PassesOwn.never rfl q71.nd rfl rfl rfl (by first|exact Or.inl rfl|exact Or.inr rfl) (by first|exact Or.inl rfl|exact Or.inr rfl) (by first|exact Or.inl rfl|exact Or.inr rfl) (by first|exact .inl rfl|exact .inr rfl) (by first|exact .inl rfl|exact .inr rfl) (by first|exact .inl rfl|exact .inr rfl) (pv 0) (pv 1) (pv 2) (pv 2) (pv 2) (pv 3) (pv 2) (XE.toD (Z2 (vV 4) (XD.toV Zx))) (XE.toD (Z2 (vV 4) (XD.toV Zx))) (XE.toD (Z2 (vV 4) (XD.toV Zx))) (XE.toD (Z2 (vV 4) (XD.toV Zx))) (λω e h=>qh5 h) (λω e h=>qhl h)))
 exact h
noncomputable def q5V:FS:=(sIf (Wo true 2 (dOf (Zy 5))) (Z8 (WZ 2 (dOf (Zy 5)) (fC (.bl true)))
  (zA1 3 (dOf (Zy 5)))) Yc)
noncomputable def q49:FT:=(Yv (vOf (Zy 3)))
noncomputable def q5Y:FS:=(Z8 (zAQ 4 (zAL 3))
  (Xu (Ys (dOf (Wi 1 (dOf (Zy 4))))) (gN 5) q5V))
noncomputable def q6p:FS:=(Z8 (Wa 2 (dOf (Zy 0)) (fC (.bl true)))
  (Z8 (YM 3 (Yj (Zw (dOf (Zy 0)) Z3)))
  (Z8 (sWh 1000000 q49 q5Y)
  (YR (WU 2)))))
noncomputable def q3G:List D->Option O:=mir 6 q6p
noncomputable abbrev q6m:vf:=top 19
theorem q35:FnScope ["thing", "beside", "found", "waiting", "here", "other"] ["thing", "beside"] (Z1 q6m):=⟨rfl,rfl,rfl,⋯,rfl,⋯,⋯⟩
theorem qbz (F:Fun K "group_of" "group_of" q6m f fd)(z_sorted:mg "sorted" = none):
  FnOk P w K mg base CX0 1 f fd ["thing", "beside"] (spD K 2 q3G):=by
 have h:=fnD (P:=P) (w:=w) (mg:=mg) (base:=base) (k:=0) (body:=q6p) F q35 (λcdv A outer s H E hr=>
   (q0 (qeY (i:=2) q35.nd rfl (Or.inl rfl) (vD 0) Ya)
   (q0 (qg (i:=3) q35.nd rfl (Or.inl rfl) (Z9 (Zv (vD 0) Zz)))
   (q0 (qff PassesOwn.never (qx (vV 3)) (q0 (qgr (i:=4) q35.nd rfl (Or.inl rfl) (qgf (pv 3)))
   (qa (q0S PassesOwn.never rfl (qv (XE.toD (q9h hr.units (pv 1) (vD 4)))) (qd (i:=5) q35.nd rfl (Or.inl rfl)) (qa (qt (q9N hr.units (vD 5) (pv 2)) (q0 (q9c hr.units (pv 2) (vD 5) Ya)
   (qa (q72 (pv 3) (vD 5)))) qe))))))
   (qa (qb (qfx rfl rfl z_sorted (pv 2))))))))
 exact h
noncomputable def q7n:FS:=(WZ 3 (dOf (Zy 7)) (fC (.bl true)))
noncomputable def q6V:FS:=(sIf (Wo true 3 (dOf (Zy 5))) (Z8 (YM 6 (eOf (dOf (Z6 q3G (Zw (dOf (Zy 5)) (Zw (dOf (Zy 2)) Z3))))))
  (Z8 (zA1 4 (dOf (Zy 6)))
  (Xu (Ys (dOf (Zy 6))) (gN 7) q7n))) Yc)
noncomputable def q8c:FS:=(Z8 (YM 2 (eOf (dOf (Z6 q3v (Zw (dOf (Zy 0)) (Zw (dOf (Zy 1)) Z3))))))
  (Z8 (zAR 3)
  (Z8 (YM 4 (Yj Z3))
  (Z8 (Xu (Ys (dOf (X6 (vOf (Zy 0))))) (gN 5) q6V)
  (WT 4)))))
noncomputable def q2S:List D->Option O:=mir 8 q8c
noncomputable abbrev q80:vf:=top 20
theorem q2U:FnScope ["things", "ties", "beside", "grouped", "told", "thing", "group", "member"] ["things", "ties"] (Z1 q80):=⟨rfl,rfl,rfl,⋯,rfl,⋯,⋯⟩
theorem qdp{f_neighbours:vC}{d_neighbours:vH}{f_group_of:vC}{d_group_of:vH}(F:Fun K "groups" "groups" q80 f fd)(c_neighbours:Cal P w K mg base 1 f_neighbours d_neighbours "neighbours" ["things", "ties"] 2 q3v)(c_group_of:Cal P w K mg base 1 f_group_of d_group_of "group_of" ["thing", "beside"] 2 q3G)(z_sorted:mg "sorted" = none):
  FnOk P w K mg base CX0 2 f fd ["things", "ties"] (spD K 2 q2S):=by
 have h:=fnD (P:=P) (w:=w) (mg:=mg) (base:=base) (k:=1) (body:=q8c) F q2U (λcdv A outer s H E hr=>
   (q0 (qg (i:=2) q2U.nd rfl (Or.inl rfl) (XD.toE (XE.toD (xc c_neighbours hr (Zv (vD 0) (Zv (vD 1) Zz))))))
   (q0 (qcu (i:=3) q2U.nd rfl (Or.inl rfl))
   (q0 (qg (i:=4) q2U.nd rfl (Or.inl rfl) (Z9 Zz))
   (q0 (q0S PassesOwn.never rfl (qv (XE.toD (qcd rfl z_sorted (vV 0)))) (qd (i:=5) q2U.nd rfl (Or.inl rfl)) (qa (qt (q9N hr.units (vD 5) (pv 3)) (q0 (qg (i:=6) q2U.nd rfl (Or.inl rfl) (XD.toE (XE.toD (xc c_group_of hr (Zv (vD 5) (Zv (vD 2) Zz))))))
   (q0 (q72 (pv 4) (vD 6))
   (qa (q0S PassesOwn.never rfl (qv (vD 6)) (qd (i:=7) q2U.nd rfl (Or.inl rfl)) (qa (q9c hr.units (pv 3) (vD 7) Ya)))))) qe)))
   (qa (qcB (pv 4))))))))
 exact h
noncomputable def q6B:FT:=(tOf (Z0 (oEq true) (vOf (Zy 1)) (fC (.int 0))))
noncomputable def q8f:FD:=(dOf (Zy 0))
noncomputable def q9q:FS:=(Z8 (YM 3 (YY 2 [] (iZp (Zw (dOf (Z6 q07 (Zw (dOf (Zy 0)) (Zw (dOf (Zy 1)) (Zw (dOf (Zy 2)) Z3))))) (Zw (dOf (Z6 q30 (Zw (dOf (Zy 0)) (Zw (dOf (Zy 1)) (Zw (dOf (Zy 2)) Z3))))) Z3))) (gT 2 (YD (gN 0) (YD (gN 1) Ym))) q6B q8f))
  (Yf 3 (YR (Z0 YL (vOf (Z0 YL (vOf (Yg Xb (Zw (vOf (Zy 2)) Z3))) (vOf (Yj (Zw (Yp (Zw (dOf (Zy 0)) (Zw (dOf (Zy 1)) Z3))) Z3))))) (vOf (Zy 3))))))
noncomputable def q0H:List D->Option O:=mir 4 q9q
noncomputable abbrev q97:vf:=top 21
theorem qcs:FnScope ["home", "last", "boxes", "lacking"] ["home", "last", "boxes"] (Z1 q97):=⟨rfl,rfl,rfl,⋯,rfl,⋯,⋯⟩
theorem qex{f_lacks:vC}{d_lacks:vH}{f_gaps:vC}{d_gaps:vH}(F:Fun K "knots" "knots" q97 f fd)(c_lacks:Cal P w K mg base 7 f_lacks d_lacks "lacks" ["home", "last", "boxes"] 3 q30)(c_gaps:Cal P w K mg base 6 f_gaps d_gaps "gaps" ["home", "last", "boxes"] 3 q07)(z_zip:mg "zip" = none)(z_list:mg "list" = none):
  FnOk P w K mg base CX0 8 f fd ["home", "last", "boxes"] (spD K 3 q0H):=by
 have h:=fnD (P:=P) (w:=w) (mg:=mg) (base:=base) (k:=7) (body:=q9q) F qcs (λcdv A outer s H E hr=>
   (q0 (q1E (i:=3) rfl qcs.nd rfl rfl (blk ["gap", "lack"] [] [] rfl ⋯ ⋯ rfl trivial) (qbn rfl z_zip (Zv (XE.toD (xc c_gaps hr (Zv (vD 0) (Zv (vD 1) (Zv (vD 2) Zz))))) (Zv (XE.toD (xc c_lacks hr (Zv (vD 0) (Zv (vD 1) (Zv (vD 2) Zz))))) Zz))) (qbb (q2a (qz 0) (q2a (qz 1) q7c))) (λ_ _ _ _=>⟨(q4h rfl (q06 (qd (i:=0) (show ((["gap", "lack"]:List Str)++([]:List Str):List Str).Nodup from by decide +kernel) rfl (Or.inl rfl)) (q06 (qd (i:=1) (show ((["gap", "lack"]:List Str)++([]:List Str):List Str).Nodup from by decide +kernel) rfl (Or.inl rfl)) q31))),(q32 (Xn hr.units (vV 1) (XD.toV Zx))),(vD 0)⟩))
   (q0m 3 (qa (qb (qp (XE.toV (qp (XE.toV (q1c q1T q63 rfl z_list qQ (qi (vV 2) qo))) (XE.toV (Z9 (Zv (YF (Zv (vD 0) (Zv (vD 1) Zz))) Zz))))) (vV 3)))))))
 exact h
noncomputable def qaH:FS:=(YR (Z0 oIx (vOf (Zy 0)) (fC (.int 2))))
noncomputable def q7e:List D->Option O:=mir 1 qaH
noncomputable abbrev qbe:vf:=top 23
theorem qgK:FnScope ["edge"] ["edge"] (Z1 qbe):=⟨rfl,rfl,rfl,⋯,rfl,⋯,⋯⟩
theorem qge (F:Fun K "cost" "cost" qbe f fd):
  FnOk P w K mg base CX0 1 f fd ["edge"] (spD K 1 q7e):=by
 have h:=fnD (P:=P) (w:=w) (mg:=mg) (base:=base) (k:=0) (body:=qaH) F qgK (λcdv A outer s H E hr=>
   (qa (qb (Z2 (vV 0) (XD.toV Zx)))))
 exact h
noncomputable def q2R:FS:=(WZ 1 (dOf (Zy 4)) (dOf (Zy 2)))
noncomputable def q2N:FS:=(Xu (Ys (dOf (Zy 3))) (gN 4) q2R)
noncomputable def q3g:FS:=(Z8 (zAR 1)
  (Z8 (Xu (iEn (Zw (dOf (Zy 0)) Z3)) (gT 2 (YD (gN 2) (YD (gN 3) Ym))) q2N)
  (Yf 1 (YR (Zy 1)))))
noncomputable def q0Z:List D->Option O:=mir 5 q3g
noncomputable abbrev q3s:vf:=top 24
theorem q0V:FnScope ["parts", "numbers", "number", "part", "thing"] ["parts"] (Z1 q3s):=⟨rfl,rfl,rfl,⋯,rfl,⋯,⋯⟩
theorem q83 (F:Fun K "group_numbers" "group_numbers" q3s f fd)(z_enumerate:mg "enumerate" = none):
  FnOk P w K mg base CX0 1 f fd ["parts"] (spD K 1 q0Z):=by
 have h:=fnD (P:=P) (w:=w) (mg:=mg) (base:=base) (k:=0) (body:=q3g) F q0V (λcdv A outer s H E hr=>
   (q0 (qcu (i:=1) q0V.nd rfl (Or.inl rfl))
   (q0 (q0S PassesOwn.never rfl (qg0 rfl z_enumerate (Zv (vD 0) Zz)) (q4h rfl (q06 (qd (i:=2) q0V.nd rfl (Or.inl rfl)) (q06 (qd (i:=3) q0V.nd rfl (Or.inl rfl)) q31))) (qa (q0S PassesOwn.never rfl (qv (vD 3)) (qd (i:=4) q0V.nd rfl (Or.inl rfl)) (qa (q9c hr.units (pv 1) (vD 4) (vD 2))))))
   (q0m 1 (qa (qb (vE 1)))))))
 exact h
noncomputable def q4D:FS:=(Z8 (sAug (λi j=>i+j) 2 (vOf (Z0 X1 (vOf (Z0 X0 (vOf (Zy 4)) (vOf (Zy 3)))) (vOf (Z0 X0 (vOf (Yg Y7 (Zw (vOf (Zy 5)) Z3))) (vOf (Zy 1)))))))
  (YM 3 (eOf (dOf (Zy 4)))))
noncomputable def q75:FS:=(Z8 (YM 2 (eOf (fC (.int 0))))
  (Z8 (YM 3 (eOf (fC (.int 0))))
  (Z8 (Xu (Ys (dOf (Zy 0))) (gT 2 (YD (gN 4) (YD (gN 5) Ym))) q4D)
  (YR (Zy 2)))))
noncomputable def q2X:List D->Option O:=mir 6 q75
noncomputable abbrev q7j:vf:=top 25
theorem q1K:FnScope ["levels", "rest", "total", "ahead", "bound", "parts"] ["levels", "rest"] (Z1 q7j):=⟨rfl,rfl,rfl,⋯,rfl,⋯,⋯⟩
theorem qcP (F:Fun K "weighed" "weighed" q7j f fd)(z_len:mg "len" = none):
  FnOk P w K mg base CX0 1 f fd ["levels", "rest"] (spD K 2 q2X):=by
 have h:=fnD (P:=P) (w:=w) (mg:=mg) (base:=base) (k:=0) (body:=q75) F q1K (λcdv A outer s H E hr=>
   (q0 (qg (i:=2) q1K.nd rfl (Or.inl rfl) (XD.toE Zx))
   (q0 (qg (i:=3) q1K.nd rfl (Or.inl rfl) (XD.toE Zx))
   (q0 (q0S PassesOwn.never rfl (qv (vD 0)) (q4h rfl (q06 (qd (i:=4) q1K.nd rfl (Or.inl rfl)) (q06 (qd (i:=5) q1K.nd rfl (Or.inl rfl)) q31))) (q0 (qhv (i:=2) qhr q1K.nd rfl (Or.inl rfl) (XE.toV (q69 (XE.toV (q16 (vV 4) (vV 3))) (XE.toV (q16 (XE.toV (qL qw q0d rfl z_len q0e (qi (vV 5) qo))) (vV 1))))))
   (qa (qg (i:=3) q1K.nd rfl (Or.inl rfl) (XD.toE (vD 4))))))
   (qa (qb (vE 2)))))))
 exact h
noncomputable def q0M:FD:=(dOf (Z6 q0c (Zw (dOf (Zy 0)) Z3)))
noncomputable def q1F:FS:=(YR (Yg XB (Zw (vOf (YY 1 [] (Ys (dOf (Zy 0))) (gN 0) YX q0M)) Z3)))
noncomputable def qA:List D->Option O:=mir 1 q1F
noncomputable abbrev q5T:vf:=top 27
theorem qbT:FnScope ["parts"] ["parts"] (Z1 q5T):=⟨rfl,rfl,rfl,⋯,rfl,⋯,⋯⟩
theorem qaR{f_is_whole:vC}{d_is_whole:vH}(F:Fun K "all_whole" "all_whole" q5T f fd)(c_is_whole:Cal P w K mg base 1 f_is_whole d_is_whole "is_whole" ["thing"] 1 q0c)(z_all:mg "all" = none):
  FnOk P w K mg base CX0 2 f fd ["parts"] (spD K 1 qA):=by
 have h:=fnD (P:=P) (w:=w) (mg:=mg) (base:=base) (k:=1) (body:=q1F) F qbT (λcdv A outer s H E hr=>
   (qa (qb (qL (q1P rfl) q5e rfl z_all q5r (qi (XE.toV (qG rfl (blk ["part"] [] [] rfl ⋯ ⋯ rfl trivial) (qv (vD 0)) (qz 0) (λ_ _ _ _=>⟨(qd (i:=0) (show ((["part"]:List Str)++([]:List Str):List Str).Nodup from by decide +kernel) rfl (Or.inl rfl)),qE,(XE.toD (xc c_is_whole hr (Zv (vD 0) Zz)))⟩))) qo)))))
 exact h
noncomputable def q5F:FD:=(dOf (Z0 YL (vOf (Zy 0)) (vOf (Z6 q0t (Zw (dOf (Zy 1)) (Zw (dOf (Zy 0)) Z3))))))
noncomputable def q5S:FS:=(YR (YY 1 [2] (Ys (dOf (Z6 q07 (Zw (dOf (Zy 0)) (Zw (dOf (Zy 1)) (Zw (dOf (Zy 2)) Z3)))))) (gN 0) YX q5F))
noncomputable def q1G:List D->Option O:=mir 3 q5S
noncomputable abbrev q4b:vf:=top 28
theorem q7P:FnScope ["home", "last", "boxes"] ["home", "last", "boxes"] (Z1 q4b):=⟨rfl,rfl,rfl,⋯,rfl,⋯,⋯⟩
theorem qbv{f_gaps:vC}{d_gaps:vH}{f_crossed:vC}{d_crossed:vH}(F:Fun K "counts_of" "counts_of" q4b f fd)(c_gaps:Cal P w K mg base 6 f_gaps d_gaps "gaps" ["home", "last", "boxes"] 3 q07)(Gx_gaps:FnOk P w K mg base (CXe P w) 6 f_gaps d_gaps ["home", "last", "boxes"] (spX K 3 q0J))(c_crossed:Cal P w K mg base 2 f_crossed d_crossed "crossed" ["boxes", "gap"] 2 q0t):
  FnOk P w K mg base CX0 7 f fd ["home", "last", "boxes"] (spD K 3 q1G):=by
 have h:=fnD (P:=P) (w:=w) (mg:=mg) (base:=base) (k:=6) (body:=q5S) F q7P (λcdv A outer s H E hr=>
   (qa (qb (qG rfl (blk ["gap"] ["boxes"] [2] rfl ⋯ ⋯ rfl ⟨⟨rfl,(by first|exact Or.inl rfl|exact Or.inr rfl),rfl⟩,trivial⟩) (qv (XE.toD (xc c_gaps hr (Zv (vD 0) (Zv (vD 1) (Zv (vD 2) Zz)))))) (qz 0) (λ_ _ _ _=>⟨(qd (i:=0) (show ((["gap"]:List Str)++(["boxes"]:List Str):List Str).Nodup from by decide +kernel) rfl (Or.inl rfl)),qE,(XE.toD (qp (vV 0) (XE.toV (xc c_crossed hr (Zv (vD 1) (Zv (vD 0) Zz))))))⟩)))))
 exact h
noncomputable def q7V:FX:=(Yt q0J (Zw (dOf (Zy 0)) (Zw (dOf (Zy 1)) (Zw (dOf (Zy 2)) Z3))))
noncomputable def qaX:List D->Option Str:=λds=>q7V (entry 3 ds)
theorem qah{f_gaps:vC}{d_gaps:vH}{f_crossed:vC}{d_crossed:vH}(F:Fun K "counts_of" "counts_of" q4b f fd)(c_gaps:Cal P w K mg base 6 f_gaps d_gaps "gaps" ["home", "last", "boxes"] 3 q07)(Gx_gaps:FnOk P w K mg base (CXe P w) 6 f_gaps d_gaps ["home", "last", "boxes"] (spX K 3 q0J))(c_crossed:Cal P w K mg base 2 f_crossed d_crossed "crossed" ["boxes", "gap"] 2 q0t):
  FnOk P w K mg base (CXe P w) 7 f fd ["home", "last", "boxes"] (spX K 3 qaX):=by
 have h:=fnX (P:=P) (w:=w) (mg:=mg) (base:=base) (k:=6) (gb:=q7V) F q7P (λcdv A outer s H E hr=>
   (q0l (q8n (q7t rfl (blk ["gap"] ["boxes"] [2] rfl ⋯ ⋯ rfl ⟨⟨rfl,(by first|exact Or.inl rfl|exact Or.inr rfl),rfl⟩,trivial⟩) (q0Q Gx_gaps (hr.mono (by decide)) rfl c_gaps.2.1 c_gaps.2.2.1 c_gaps.2.2.2 XC (Zv (vD 0) (Zv (vD 1) (Zv (vD 2) Zz))))))))
 exact h
noncomputable def q1x:FD:=(dOf (Z6 qA (Zw (dOf (Zy 0)) Z3)))
noncomputable def q1M:FS:=(YR (eOf (Xd (dOf (Z0 (oEq false) (vOf (Zy 0)) (vOf (Zy 1)))) (dOf (Yg XB (Zw (vOf (YY 1 [] (Ys (dOf (Zy 0))) (gN 0) YX q1x)) Z3))))))
noncomputable def qO:List D->Option O:=mir 2 q1M
noncomputable abbrev q5B:vf:=top 29
theorem qay:FnScope ["thing", "wanted"] ["thing", "wanted"] (Z1 q5B):=⟨rfl,rfl,rfl,⋯,rfl,⋯,⋯⟩
theorem qad{f_all_whole:vC}{d_all_whole:vH}(F:Fun K "are_counts" "are_counts" q5B f fd)(c_all_whole:Cal P w K mg base 2 f_all_whole d_all_whole "all_whole" ["parts"] 1 qA)(z_all:mg "all" = none):
  FnOk P w K mg base CX0 3 f fd ["thing", "wanted"] (spD K 2 qO):=by
 have h:=fnD (P:=P) (w:=w) (mg:=mg) (base:=base) (k:=2) (body:=q1M) F qay (λcdv A outer s H E hr=>
   (qa (qb (XD.toE (q0K (XE.toD (Xe hr.units (vV 0) (vV 1))) (q3y (XE.toD (qL (q1P rfl) q5e rfl z_all q5r (qi (XE.toV (qG rfl (blk ["count"] [] [] rfl ⋯ ⋯ rfl trivial) (qv (vD 0)) (qz 0) (λ_ _ _ _=>⟨(qd (i:=0) (show ((["count"]:List Str)++([]:List Str):List Str).Nodup from by decide +kernel) rfl (Or.inl rfl)),qE,(XE.toD (xc c_all_whole hr (Zv (vD 0) Zz)))⟩))) qo)))))))))
 exact h
noncomputable def q2c:FS:=(YR (eOf (Xd (dOf (XQ .lst (vOf (Zy 0)))) (Xd (dOf (Z0 oGt (vOf (Yg Y7 (Zw (vOf (Zy 0)) Z3))) (fC (.int 0)))) (dOf (Z6 qA (Zw (dOf (Zy 0)) Z3)))))))
noncomputable def qT:List D->Option O:=mir 1 q2c
noncomputable abbrev q6n:vf:=top 30
theorem qcE:FnScope ["thing"] ["thing"] (Z1 q6n):=⟨rfl,rfl,rfl,⋯,rfl,⋯,⋯⟩
theorem qbH{f_all_whole:vC}{d_all_whole:vH}(F:Fun K "is_group" "is_group" q6n f fd)(c_all_whole:Cal P w K mg base 2 f_all_whole d_all_whole "all_whole" ["parts"] 1 qA)(z_len:mg "len" = none)(z_isinstance:mg "isinstance" = none)(z_list:mg "list" = none)(i_list:IsT K .lst):
  FnOk P w K mg base CX0 3 f fd ["thing"] (spD K 1 qT):=by
 have h:=fnD (P:=P) (w:=w) (mg:=mg) (base:=base) (k:=2) (body:=q2c) F qcE (λcdv A outer s H E hr=>
   (qa (qb (XD.toE (q0K (XE.toD (qI (vV 0) i_list rfl z_isinstance rfl z_list qQ)) (q0K (XE.toD (qhX (XE.toV (qL qw q0d rfl z_len q0e (qi (vV 0) qo))) (XD.toV Zx))) (q3y (XE.toD (xc c_all_whole hr (Zv (vD 0) Zz))))))))))
 exact h
noncomputable def q0B:FD:=(dOf (Z6 qT (Zw (dOf (Zy 0)) Z3)))
noncomputable def q1w:FS:=(zA3 2 (dOf (Zy 3)))
noncomputable def q1e:FS:=(Z8 (sIf (WD (Yb (Yv (vOf (XQ .lst (vOf (Zy 0)))))) (Yb (Yv (vOf (Yg XB (Zw (vOf (YY 1 [] (Ys (dOf (Zy 0))) (gN 0) YX q0B)) Z3)))))) (YR (eOf (fC (.bl false)))) Yc)
  (Z8 (YM 2 (Yj Z3))
  (Z8 (Xu (Ys (dOf (Zy 0))) (gN 3) q1w)
  (YR (Z0 (oEq false) (vOf (X6 (vOf (Zy 2)))) (vOf (Zy 1)))))))
noncomputable def qY:List D->Option O:=mir 4 q1e
noncomputable abbrev q5h:vf:=top 31
theorem q5i:FnScope ["thing", "places", "grouped", "part"] ["thing", "places"] (Z1 q5h):=⟨rfl,rfl,rfl,⋯,rfl,⋯,⋯⟩
theorem qaa{f_is_group:vC}{d_is_group:vH}(F:Fun K "are_groups" "are_groups" q5h f fd)(c_is_group:Cal P w K mg base 3 f_is_group d_is_group "is_group" ["thing"] 1 qT)(z_all:mg "all" = none)(z_isinstance:mg "isinstance" = none)(z_list:mg "list" = none)(z_sorted:mg "sorted" = none)(i_list:IsT K .lst):
  FnOk P w K mg base CX0 4 f fd ["thing", "places"] (spD K 2 qY):=by
 have h:=fnD (P:=P) (w:=w) (mg:=mg) (base:=base) (k:=3) (body:=q1e) F q5i (λcdv A outer s H E hr=>
   (q0 (qt (XW.toT (q3f (qZ (qx (XE.toV (qI (vV 0) i_list rfl z_isinstance rfl z_list qQ)))) (q3r (qZ (qx (XE.toV (qL (q1P rfl) q5e rfl z_all q5r (qi (XE.toV (qG rfl (blk ["part"] [] [] rfl ⋯ ⋯ rfl trivial) (qv (vD 0)) (qz 0) (λ_ _ _ _=>⟨(qd (i:=0) (show ((["part"]:List Str)++([]:List Str):List Str).Nodup from by decide +kernel) rfl (Or.inl rfl)),qE,(XE.toD (xc c_is_group hr (Zv (vD 0) Zz)))⟩))) qo)))))))) (qa (qb (XD.toE Ya))) qe)
   (q0 (qg (i:=2) q5i.nd rfl (Or.inl rfl) (Z9 Zz))
   (q0 (q0S PassesOwn.never rfl (qv (vD 0)) (qd (i:=3) q5i.nd rfl (Or.inl rfl)) (qa (qdw (pv 2) (vD 3))))
   (qa (qb (Xe hr.units (XE.toV (qcd rfl z_sorted (vV 2))) (vV 1))))))))
 exact h
noncomputable def q0C:FD:=(dOf (Z0 (oEq false) (vOf (Wi 1 (dOf (Z0 oIx (vOf (Zy 0)) (fC (.int 0)))))) (vOf (Wi 1 (dOf (Z0 oIx (vOf (Zy 0)) (fC (.int 1))))))))
noncomputable def q1o:FS:=(Z8 (YM 2 (eOf (dOf (Z6 q0Z (Zw (dOf (Zy 0)) Z3)))))
  (YR (Yg XB (Zw (vOf (YY 1 [2] (Ys (dOf (Zy 1))) (gN 0) YX q0C)) Z3))))
noncomputable def q0k:List D->Option O:=mir 3 q1o
noncomputable abbrev q2W:vf:=top 32
theorem q5E:FnScope ["parts", "ties", "numbers"] ["parts", "ties"] (Z1 q2W):=⟨rfl,rfl,rfl,⋯,rfl,⋯,⋯⟩
theorem q7J{f_group_numbers:vC}{d_group_numbers:vH}(F:Fun K "holds_together" "holds_together" q2W f fd)(c_group_numbers:Cal P w K mg base 1 f_group_numbers d_group_numbers "group_numbers" ["parts"] 1 q0Z)(z_all:mg "all" = none):
  FnOk P w K mg base CX0 2 f fd ["parts", "ties"] (spD K 2 q0k):=by
 have h:=fnD (P:=P) (w:=w) (mg:=mg) (base:=base) (k:=1) (body:=q1o) F q5E (λcdv A outer s H E hr=>
   (q0 (qg (i:=2) q5E.nd rfl (Or.inr rfl) (XD.toE (XE.toD (xc c_group_numbers hr (Zv (vD 0) Zz)))))
   (qa (qb (qL (q1P rfl) q5e rfl z_all q5r (qi (XE.toV (qG rfl (blk ["tie"] ["numbers"] [2] rfl ⋯ ⋯ rfl ⟨⟨rfl,(by first|exact Or.inl rfl|exact Or.inr rfl),rfl⟩,trivial⟩) (qv (vD 1)) (qz 0) (λ_ _ _ _=>⟨(qd (i:=0) (show ((["tie"]:List Str)++(["numbers"]:List Str):List Str).Nodup from by decide +kernel) rfl (Or.inl rfl)),qE,(XE.toD (Xe hr.units (XE.toV (q9h hr.units (pv 1) (XE.toD (Z2 (vV 0) (XD.toV Zx))))) (XE.toV (q9h hr.units (pv 1) (XE.toD (Z2 (vV 0) (XD.toV Zx)))))))⟩))) qo))))))
 exact h
noncomputable def q2G:FT:=(tOf (Z0 oLt (vOf (Z6 q7e (Zw (dOf (Zy 0)) Z3))) (vOf (Z0 oIx (vOf (Zy 1)) (fC (.int 0))))))
noncomputable def q2F:FD:=(dOf (Zy 0))
noncomputable def q1s:FS:=(Z8 (sIf (WD (Yb (Yv (vOf (XQ .tup (vOf (Zy 0)))))) (WD (tOf (Z0 (oEq true) (vOf (Yg Y7 (Zw (vOf (Zy 0)) Z3))) (fC (.int 2)))) (Yb (Yv (vOf (Z6 q0c (Zw (dOf (Z0 oIx (vOf (Zy 0)) (fC (.int 0)))) Z3))))))) (YR (eOf (fC (.bl false)))) Yc)
  (Z8 (sIf (Yb (Yv (vOf (Z6 qY (Zw (dOf (Z0 oIx (vOf (Zy 0)) (fC (.int 1)))) (Zw (dOf (Zy 1)) Z3)))))) (YR (eOf (fC (.bl false)))) Yc)
  (Z8 (YM 4 (YY 1 [0] (Ys (dOf (Zy 3))) (gN 0) q2G q2F))
  (Yf 4 (YR (Z6 q0k (Zw (dOf (Z0 oIx (vOf (Zy 0)) (fC (.int 1)))) (Zw (dOf (Z0 YL (vOf (Zy 2)) (vOf (Zy 4)))) Z3))))))))
noncomputable def qF:List D->Option O:=mir 5 q1s
noncomputable abbrev q6E:vf:=top 33
theorem q8R:FnScope ["thing", "places", "ties", "edges", "shorter"] ["thing", "places", "ties", "edges"] (Z1 q6E):=⟨rfl,rfl,rfl,⋯,rfl,⋯,⋯⟩
theorem qby{f_is_whole:vC}{d_is_whole:vH}{f_are_groups:vC}{d_are_groups:vH}{f_cost:vC}{d_cost:vH}{f_holds_together:vC}{d_holds_together:vH}(F:Fun K "is_level" "is_level" q6E f fd)(c_is_whole:Cal P w K mg base 1 f_is_whole d_is_whole "is_whole" ["thing"] 1 q0c)(c_are_groups:Cal P w K mg base 4 f_are_groups d_are_groups "are_groups" ["thing", "places"] 2 qY)(c_cost:Cal P w K mg base 1 f_cost d_cost "cost" ["edge"] 1 q7e)(c_holds_together:Cal P w K mg base 2 f_holds_together d_holds_together "holds_together" ["parts", "ties"] 2 q0k)(z_len:mg "len" = none)(z_isinstance:mg "isinstance" = none)(z_tuple:mg "tuple" = none)(i_tuple:IsT K .tup):
  FnOk P w K mg base CX0 5 f fd ["thing", "places", "ties", "edges"] (spD K 4 qF):=by
 have h:=fnD (P:=P) (w:=w) (mg:=mg) (base:=base) (k:=4) (body:=q1s) F q8R (λcdv A outer s H E hr=>
   (q0 (qt (XW.toT (q3f (qZ (qx (XE.toV (qI (vV 0) i_tuple rfl z_isinstance rfl z_tuple qK)))) (q3f (Xn hr.units (XE.toV (qL qw q0d rfl z_len q0e (qi (vV 0) qo))) (XD.toV Zx)) (q3r (qZ (qx (XE.toV (xc c_is_whole hr (Zv (XE.toD (Z2 (vV 0) (XD.toV Zx))) Zz))))))))) (qa (qb (XD.toE Ya))) qe)
   (q0 (qt (qZ (qx (XE.toV (xc c_are_groups hr (Zv (XE.toD (Z2 (vV 0) (XD.toV Zx))) (Zv (vD 1) Zz)))))) (qa (qb (XD.toE Ya))) qe)
   (q0 (q1E (i:=4) rfl q8R.nd rfl rfl (blk ["edge"] ["thing"] [0] rfl ⋯ ⋯ rfl ⟨⟨rfl,(by first|exact Or.inl rfl|exact Or.inr rfl),rfl⟩,trivial⟩) (qv (vD 3)) (qz 0) (λ_ _ _ _=>⟨(qd (i:=0) (show ((["edge"]:List Str)++(["thing"]:List Str):List Str).Nodup from by decide +kernel) rfl (Or.inl rfl)),(q32 (q5L (XE.toV (xc c_cost hr (Zv (vD 0) Zz))) (XE.toV (Z2 (vV 1) (XD.toV Zx))))),(vD 0)⟩))
   (q0m 4 (qa (qb (xc c_holds_together hr (Zv (XE.toD (Z2 (vV 0) (XD.toV Zx))) (Zv (XE.toD (qp (vV 2) (vV 4))) Zz))))))))))
 exact h
noncomputable def q0O:FD:=(dOf (Z0 oLt (vOf (Zy 0)) (vOf (Zy 1))))
noncomputable def q1I:FS:=(YR (Yg XB (Zw (vOf (YY 2 [] (iZp (Zw (dOf (Z0 YL (vOf (Yj (Zw (fC (.int 0)) Z3))) (vOf (Zy 0)))) (Zw (dOf (Zy 0)) Z3))) (gT 2 (YD (gN 0) (YD (gN 1) Ym))) YX q0O)) Z3)))
noncomputable def q0g:List D->Option O:=mir 1 q1I
noncomputable abbrev q3w:vf:=top 34
theorem q8F:FnScope ["bounds"] ["bounds"] (Z1 q3w):=⟨rfl,rfl,rfl,⋯,rfl,⋯,⋯⟩
theorem q7X (F:Fun K "rise_from_one" "rise_from_one" q3w f fd)(z_zip:mg "zip" = none)(z_all:mg "all" = none):
  FnOk P w K mg base CX0 1 f fd ["bounds"] (spD K 1 q0g):=by
 have h:=fnD (P:=P) (w:=w) (mg:=mg) (base:=base) (k:=0) (body:=q1I) F q8F (λcdv A outer s H E hr=>
   (qa (qb (qL (q1P rfl) q5e rfl z_all q5r (qi (XE.toV (qG rfl (blk ["ahead", "bound"] [] [] rfl ⋯ ⋯ rfl trivial) (qbn rfl z_zip (Zv (XE.toD (qp (XE.toV (Z9 (Zv Zx Zz))) (vV 0))) (Zv (vD 0) Zz))) (qbb (q2a (qz 0) (q2a (qz 1) q7c))) (λ_ _ _ _=>⟨(q4h rfl (q06 (qd (i:=0) (show ((["ahead", "bound"]:List Str)++([]:List Str):List Str).Nodup from by decide +kernel) rfl (Or.inl rfl)) (q06 (qd (i:=1) (show ((["ahead", "bound"]:List Str)++([]:List Str):List Str).Nodup from by decide +kernel) rfl (Or.inl rfl)) q31))),qE,(XE.toD (qid (vV 0) (vV 1)))⟩))) qo)))))
 exact h
noncomputable def q1z:FD:=(dOf (Z6 qF (Zw (dOf (Zy 0)) (Zw (dOf (Zy 1)) (Zw (dOf (Zy 2)) (Zw (dOf (Zy 3)) Z3))))))
noncomputable def q1y:FD:=(dOf (Z0 oIx (vOf (Zy 0)) (fC (.int 0))))
noncomputable def q1g:FS:=(Z8 (sIf (Yb (Yv (vOf (XQ .lst (vOf (Zy 3)))))) (YR (eOf (fC (.bl false)))) Yc)
  (Z8 (YM 4 (eOf (dOf (Z6 q0r (Zw (dOf (Zy 0)) (Zw (dOf (Zy 1)) (Zw (dOf (Zy 2)) Z3)))))))
  (Z8 (YM 5 (eOf (dOf (Z6 q0H (Zw (dOf (Zy 0)) (Zw (dOf (Zy 1)) (Zw (dOf (Zy 2)) Z3)))))))
  (Z8 (YM 6 (eOf (dOf (Z6 q1C (Zw (dOf (Zy 0)) (Zw (dOf (Zy 1)) (Zw (dOf (Zy 2)) Z3)))))))
  (Z8 (sIf (Yb (Yv (vOf (Yg XB (Zw (vOf (YY 1 [4,5,6] (Ys (dOf (Zy 3))) (gN 0) YX q1z)) Z3))))) (YR (eOf (fC (.bl false)))) Yc)
  (YR (Z6 q0g (Zw (dOf (YY 1 [] (Ys (dOf (Zy 3))) (gN 0) YX q1y)) Z3))))))))
noncomputable def qM:List D->Option O:=mir 7 q1g
noncomputable abbrev q3j:vf:=top 35
theorem q0p:FnScope ["home", "last", "boxes", "thing", "places", "ties", "edges"] ["home", "last", "boxes", "thing"] (Z1 q3j):=⟨rfl,rfl,rfl,⋯,rfl,⋯,⋯⟩
theorem qap{f_stops:vC}{d_stops:vH}{f_knots:vC}{d_knots:vH}{f_gap_edges:vC}{d_gap_edges:vH}{f_is_level:vC}{d_is_level:vH}{f_rise_from_one:vC}{d_rise_from_one:vH}(F:Fun K "are_levels" "are_levels" q3j f fd)(c_stops:Cal P w K mg base 5 f_stops d_stops "stops" ["home", "last", "boxes"] 3 q0r)(Gx_stops:FnOk P w K mg base (CXe P w) 5 f_stops d_stops ["home", "last", "boxes"] (spX K 3 q0v))(c_knots:Cal P w K mg base 8 f_knots d_knots "knots" ["home", "last", "boxes"] 3 q0H)(c_gap_edges:Cal P w K mg base 7 f_gap_edges d_gap_edges "gap_edges" ["home", "last", "boxes"] 3 q1C)(Gx_gap_edges:FnOk P w K mg base (CXe P w) 7 f_gap_edges d_gap_edges ["home", "last", "boxes"] (spX K 3 q3u))(c_is_level:Cal P w K mg base 5 f_is_level d_is_level "is_level" ["thing", "places", "ties", "edges"] 4 qF)(c_rise_from_one:Cal P w K mg base 1 f_rise_from_one d_rise_from_one "rise_from_one" ["bounds"] 1 q0g)(z_isinstance:mg "isinstance" = none)(z_list:mg "list" = none)(z_all:mg "all" = none)(i_list:IsT K .lst):
  FnOk P w K mg base CX0 9 f fd ["home", "last", "boxes", "thing"] (spD K 4 qM):=by
 have h:=fnD (P:=P) (w:=w) (mg:=mg) (base:=base) (k:=8) (body:=q1g) F q0p (λcdv A outer s H E hr=>
   (q0 (qt (qZ (qx (XE.toV (qI (vV 3) i_list rfl z_isinstance rfl z_list qQ)))) (qa (qb (XD.toE Ya))) qe)
   (q0 (qg (i:=4) q0p.nd rfl (Or.inr rfl) (XD.toE (XE.toD (xc c_stops hr (Zv (vD 0) (Zv (vD 1) (Zv (vD 2) Zz)))))))
   (q0 (qg (i:=5) q0p.nd rfl (Or.inr rfl) (XD.toE (XE.toD (xc c_knots hr (Zv (vD 0) (Zv (vD 1) (Zv (vD 2) Zz)))))))
   (q0 (qg (i:=6) q0p.nd rfl (Or.inr rfl) (XD.toE (XE.toD (xc c_gap_edges hr (Zv (vD 0) (Zv (vD 1) (Zv (vD 2) Zz)))))))
   (q0 (qt (qZ (qx (XE.toV (qL (q1P rfl) q5e rfl z_all q5r (qi (XE.toV (qG rfl (blk ["level"] ["places", "ties", "edges"] [4,5,6] rfl ⋯ ⋯ rfl ⟨⟨rfl,(by first|exact Or.inl rfl|exact Or.inr rfl),rfl⟩,⟨⟨rfl,(by first|exact Or.inl rfl|exact Or.inr rfl),rfl⟩,⟨⟨rfl,(by first|exact Or.inl rfl|exact Or.inr rfl),rfl⟩,trivial⟩⟩⟩) (qv (vD 3)) (qz 0) (λ_ _ _ _=>⟨(qd (i:=0) (show ((["level"]:List Str)++(["places", "ties", "edges"]:List Str):List Str).Nodup from by decide +kernel) rfl (Or.inl rfl)),qE,(XE.toD (xc c_is_level hr (Zv (vD 0) (Zv (vD 1) (Zv (vD 2) (Zv (vD 3) Zz))))))⟩))) qo))))) (qa (qb (XD.toE Ya))) qe)
   (qa (qb (xc c_rise_from_one hr (Zv (XE.toD (qG rfl (blk ["level"] [] [] rfl ⋯ ⋯ rfl trivial) (qv (vD 3)) (qz 0) (λ_ _ _ _=>⟨(qd (i:=0) (show ((["level"]:List Str)++([]:List Str):List Str).Nodup from by decide +kernel) rfl (Or.inl rfl)),qE,(XE.toD (Z2 (vV 0) (XD.toV Zx)))⟩))) Zz))))))))))
 exact h
noncomputable def q79:FX:=(zAj yNo (sIf (Yb (Yv (vOf (XQ .lst (vOf (Zy 3)))))) (YR (eOf (fC (.bl false)))) Yc) (zAj (Yt q0v (Zw (dOf (Zy 0)) (Zw (dOf (Zy 1)) (Zw (dOf (Zy 2)) Z3)))) (YM 4 (eOf (dOf (Z6 q0r (Zw (dOf (Zy 0)) (Zw (dOf (Zy 1)) (Zw (dOf (Zy 2)) Z3))))))) (zAj yNo (YM 5 (eOf (dOf (Z6 q0H (Zw (dOf (Zy 0)) (Zw (dOf (Zy 1)) (Zw (dOf (Zy 2)) Z3))))))) (Yt q3u (Zw (dOf (Zy 0)) (Zw (dOf (Zy 1)) (Zw (dOf (Zy 2)) Z3)))))))
noncomputable def qan:List D->Option Str:=λds=>q79 (entry 7 ds)
theorem q9p{f_stops:vC}{d_stops:vH}{f_knots:vC}{d_knots:vH}{f_gap_edges:vC}{d_gap_edges:vH}{f_is_level:vC}{d_is_level:vH}{f_rise_from_one:vC}{d_rise_from_one:vH}(F:Fun K "are_levels" "are_levels" q3j f fd)(c_stops:Cal P w K mg base 5 f_stops d_stops "stops" ["home", "last", "boxes"] 3 q0r)(Gx_stops:FnOk P w K mg base (CXe P w) 5 f_stops d_stops ["home", "last", "boxes"] (spX K 3 q0v))(c_knots:Cal P w K mg base 8 f_knots d_knots "knots" ["home", "last", "boxes"] 3 q0H)(c_gap_edges:Cal P w K mg base 7 f_gap_edges d_gap_edges "gap_edges" ["home", "last", "boxes"] 3 q1C)(Gx_gap_edges:FnOk P w K mg base (CXe P w) 7 f_gap_edges d_gap_edges ["home", "last", "boxes"] (spX K 3 q3u))(c_is_level:Cal P w K mg base 5 f_is_level d_is_level "is_level" ["thing", "places", "ties", "edges"] 4 qF)(c_rise_from_one:Cal P w K mg base 1 f_rise_from_one d_rise_from_one "rise_from_one" ["bounds"] 1 q0g)(z_isinstance:mg "isinstance" = none)(z_list:mg "list" = none)(z_all:mg "all" = none)(i_list:IsT K .lst):
  FnOk P w K mg base (CXe P w) 9 f fd ["home", "last", "boxes", "thing"] (spX K 4 qan):=by
 have h:=fnX (P:=P) (w:=w) (mg:=mg) (base:=base) (k:=8) (gb:=q79) F q0p (λcdv A outer s H E hr=>
   (q46 q8s (XS.lift (qt (qZ (qx (XE.toV (qI (vV 3) i_list rfl z_isinstance rfl z_list qQ)))) (qa (qb (XD.toE Ya))) qe)) (q46 (q60 (i:=4) q0p.nd rfl (Or.inr rfl) (q0Q Gx_stops (hr.mono (by decide)) rfl c_stops.2.1 c_stops.2.2.1 c_stops.2.2.2 XC (Zv (vD 0) (Zv (vD 1) (Zv (vD 2) Zz))))) (XS.lift (qg (i:=4) q0p.nd rfl (Or.inr rfl) (XD.toE (XE.toD (xc c_stops hr (Zv (vD 0) (Zv (vD 1) (Zv (vD 2) Zz)))))))) (q46 q8s (XS.lift (qg (i:=5) q0p.nd rfl (Or.inr rfl) (XD.toE (XE.toD (xc c_knots hr (Zv (vD 0) (Zv (vD 1) (Zv (vD 2) Zz)))))))) (q0l (q60 (i:=6) q0p.nd rfl (Or.inr rfl) (q0Q Gx_gap_edges (hr.mono (by decide)) rfl c_gap_edges.2.1 c_gap_edges.2.2.1 c_gap_edges.2.2.2 XC (Zv (vD 0) (Zv (vD 1) (Zv (vD 2) Zz))))))))))
 exact h
noncomputable def q1D:FS:=(Z8 (Wp (Z6 q0b (Zw (dOf (Zy 0)) (Zw (dOf (Zy 1)) (Zw (dOf (Zy 2)) Z3)))))
  (Z8 (sIf (WD (Yb (Yv (vOf (XQ .tup (vOf (Zy 3)))))) (tOf (Z0 (oEq true) (vOf (Yg Y7 (Zw (vOf (Zy 3)) Z3))) (fC (.int 2))))) (YR (eOf (fC (.bl false)))) Yc)
  (YR (eOf (Xd (dOf (Z6 qO (Zw (dOf (Z0 oIx (vOf (Zy 3)) (fC (.int 0)))) (Zw (dOf (Z6 q1G (Zw (dOf (Zy 0)) (Zw (dOf (Zy 1)) (Zw (dOf (Zy 2)) Z3))))) Z3)))) (dOf (Z6 qM (Zw (dOf (Zy 0)) (Zw (dOf (Zy 1)) (Zw (dOf (Zy 2)) (Zw (dOf (Z0 oIx (vOf (Zy 3)) (fC (.int 1)))) Z3)))))))))))
noncomputable def qC:List D->Option O:=mir 4 q1D
noncomputable abbrev q4a:vf:=top 36
theorem q7T:FnScope ["home", "last", "boxes", "thing"] ["home", "last", "boxes", "thing"] (Z1 q4a):=⟨rfl,rfl,rfl,⋯,rfl,⋯,⋯⟩
theorem qbu{f_check_errand:vC}{d_check_errand:vH}{f_are_levels:vC}{d_are_levels:vH}{f_are_counts:vC}{d_are_counts:vH}{f_counts_of:vC}{d_counts_of:vH}(F:Fun K "is_reason" "is_reason" q4a f fd)(c_check_errand:Cal P w K mg base 4 f_check_errand d_check_errand "check_errand" ["home", "last", "boxes"] 3 q0b)(Gx_check_errand:FnOk P w K mg base (CXe P w) 4 f_check_errand d_check_errand ["home", "last", "boxes"] (spX K 3 q0q))(c_are_levels:Cal P w K mg base 9 f_are_levels d_are_levels "are_levels" ["home", "last", "boxes", "thing"] 4 qM)(c_are_counts:Cal P w K mg base 3 f_are_counts d_are_counts "are_counts" ["thing", "wanted"] 2 qO)(c_counts_of:Cal P w K mg base 7 f_counts_of d_counts_of "counts_of" ["home", "last", "boxes"] 3 q1G)(z_len:mg "len" = none)(z_isinstance:mg "isinstance" = none)(z_tuple:mg "tuple" = none)(i_tuple:IsT K .tup):
  FnOk P w K mg base CX0 10 f fd ["home", "last", "boxes", "thing"] (spD K 4 qC):=by
 have h:=fnD (P:=P) (w:=w) (mg:=mg) (base:=base) (k:=9) (body:=q1D) F q7T (λcdv A outer s H E hr=>
   (q0 (q98 (xc c_check_errand hr (Zv (vD 0) (Zv (vD 1) (Zv (vD 2) Zz)))))
   (q0 (qt (XW.toT (q3f (qZ (qx (XE.toV (qI (vV 3) i_tuple rfl z_isinstance rfl z_tuple qK)))) (q3r (Xn hr.units (XE.toV (qL qw q0d rfl z_len q0e (qi (vV 3) qo))) (XD.toV Zx))))) (qa (qb (XD.toE Ya))) qe)
   (qa (qb (XD.toE (q0K (XE.toD (xc c_are_counts hr (Zv (XE.toD (Z2 (vV 3) (XD.toV Zx))) (Zv (XE.toD (xc c_counts_of hr (Zv (vD 0) (Zv (vD 1) (Zv (vD 2) Zz))))) Zz)))) (q3y (XE.toD (xc c_are_levels hr (Zv (vD 0) (Zv (vD 1) (Zv (vD 2) (Zv (XE.toD (Z2 (vV 3) (XD.toV Zx))) Zz))))))))))))))
 exact h
noncomputable def q7S:FX:=(Yt q0q (Zw (dOf (Zy 0)) (Zw (dOf (Zy 1)) (Zw (dOf (Zy 2)) Z3))))
noncomputable def q3a:List D->Option Str:=λds=>q7S (entry 4 ds)
theorem qac{f_check_errand:vC}{d_check_errand:vH}{f_are_levels:vC}{d_are_levels:vH}{f_are_counts:vC}{d_are_counts:vH}{f_counts_of:vC}{d_counts_of:vH}(F:Fun K "is_reason" "is_reason" q4a f fd)(c_check_errand:Cal P w K mg base 4 f_check_errand d_check_errand "check_errand" ["home", "last", "boxes"] 3 q0b)(Gx_check_errand:FnOk P w K mg base (CXe P w) 4 f_check_errand d_check_errand ["home", "last", "boxes"] (spX K 3 q0q))(c_are_levels:Cal P w K mg base 9 f_are_levels d_are_levels "are_levels" ["home", "last", "boxes", "thing"] 4 qM)(c_are_counts:Cal P w K mg base 3 f_are_counts d_are_counts "are_counts" ["thing", "wanted"] 2 qO)(c_counts_of:Cal P w K mg base 7 f_counts_of d_counts_of "counts_of" ["home", "last", "boxes"] 3 q1G)(z_len:mg "len" = none)(z_isinstance:mg "isinstance" = none)(z_tuple:mg "tuple" = none)(i_tuple:IsT K .tup):
  FnOk P w K mg base (CXe P w) 10 f fd ["home", "last", "boxes", "thing"] (spX K 4 q3a):=by
 have h:=fnX (P:=P) (w:=w) (mg:=mg) (base:=base) (k:=9) (gb:=q7S) F q7T (λcdv A outer s H E hr=>
   (q0l (qcl (q0Q Gx_check_errand (hr.mono (by decide)) rfl c_check_errand.2.1 c_check_errand.2.2.1 c_check_errand.2.2.2 XC (Zv (vD 0) (Zv (vD 1) (Zv (vD 2) Zz)))))))
 exact h
noncomputable def q5p:FS:=(YR (Z0 X1 (vOf (Z0 X0 (vOf (Z0 oIx (vOf (Zy 0)) (fC (.int 1)))) (vOf (Z0 oIx (vOf (Zy 0)) (fC (.int 0)))))) (vOf (Z0 YL (vOf (Z0 YL (vOf (Z0 oIx (vOf (Zy 0)) (fC (.int 2)))) (vOf (Z0 oIx (vOf (Zy 0)) (fC (.int 3)))))) (vOf (Yg bAbs (Zw (vOf (Zy 1)) Z3)))))))
noncomputable def q1h:List D->Option O:=mir 2 q5p
noncomputable abbrev q5t:vf:=top 37
theorem qaU:FnScope ["count", "lack"] ["count", "lack"] (Z1 q5t):=⟨rfl,rfl,rfl,⋯,rfl,⋯,⋯⟩
theorem qaf (F:Fun K "gap_weight" "gap_weight" q5t f fd)(z_abs:mg "abs" = none):
  FnOk P w K mg base CX0 1 f fd ["count", "lack"] (spD K 2 q1h):=by
 have h:=fnD (P:=P) (w:=w) (mg:=mg) (base:=base) (k:=0) (body:=q5p) F qaU (λcdv A outer s H E hr=>
   (qa (qb (q69 (XE.toV (q16 (XE.toV (Z2 (vV 0) (XD.toV Zx))) (XE.toV (Z2 (vV 0) (XD.toV Zx))))) (XE.toV (qp (XE.toV (qp (XE.toV (Z2 (vV 0) (XD.toV Zx))) (XE.toV (Z2 (vV 0) (XD.toV Zx))))) (XE.toV (qL qfs qhs rfl z_abs qhx (qi (vV 1) qo)))))))))
 exact h
noncomputable def q7m:FD:=(dOf (Z6 q1h (Zw (dOf (Zy 0)) (Zw (dOf (Zy 1)) Z3))))
noncomputable def q88:FS:=(Z8 (sIf (Yb (Yv (vOf (Z6 qC (Zw (dOf (Zy 0)) (Zw (dOf (Zy 1)) (Zw (dOf (Zy 2)) (Zw (dOf (Zy 3)) Z3)))))))) sNo Yc)
  (Z8 (YM 4 (YY 2 [] (iZp (Zw (dOf (Z0 oIx (vOf (Zy 3)) (fC (.int 0)))) (Zw (dOf (Z6 q30 (Zw (dOf (Zy 0)) (Zw (dOf (Zy 1)) (Zw (dOf (Zy 2)) Z3))))) Z3))) (gT 2 (YD (gN 0) (YD (gN 1) Ym))) YX q7m))
  (Yf 4 (YR (Z0 YL (vOf (Yg bSum (Zw (vOf (Zy 4)) Z3))) (vOf (Z0 X1 (fC (.int 2)) (vOf (Z6 q2X (Zw (dOf (Z0 oIx (vOf (Zy 3)) (fC (.int 1)))) (Zw (fC (.int 1)) Z3)))))))))))
noncomputable def q2V:List D->Option O:=mir 5 q88
noncomputable abbrev q6t:vf:=top 38
theorem q89:FnScope ["home", "last", "boxes", "thing", "crossings"] ["home", "last", "boxes", "thing"] (Z1 q6t):=⟨rfl,rfl,rfl,⋯,rfl,⋯,⋯⟩
theorem qe1{f_is_reason:vC}{d_is_reason:vH}{f_lacks:vC}{d_lacks:vH}{f_gap_weight:vC}{d_gap_weight:vH}{f_weighed:vC}{d_weighed:vH}{A_NoReason:vC}(F:Fun K "weight" "weight" q6t f fd)(c_is_reason:Cal P w K mg base 10 f_is_reason d_is_reason "is_reason" ["home", "last", "boxes", "thing"] 4 qC)(c_lacks:Cal P w K mg base 7 f_lacks d_lacks "lacks" ["home", "last", "boxes"] 3 q30)(c_gap_weight:Cal P w K mg base 1 f_gap_weight d_gap_weight "gap_weight" ["count", "lack"] 2 q1h)(c_weighed:Cal P w K mg base 1 f_weighed d_weighed "weighed" ["levels", "rest"] 2 q2X)(e_NoReason:mg "NoReason" = some (.ref A_NoReason))(x_NoReason:ECls K "NoReason" A_NoReason)(z_zip:mg "zip" = none)(z_sum:mg "sum" = none):
  FnOk P w K mg base CX0 11 f fd ["home", "last", "boxes", "thing"] (spD K 4 q2V):=by
 have h:=fnD (P:=P) (w:=w) (mg:=mg) (base:=base) (k:=10) (body:=q88) F q89 (λcdv A outer s H E hr=>
   (q0 (qt (qZ (qx (XE.toV (xc c_is_reason hr (Zv (vD 0) (Zv (vD 1) (Zv (vD 2) (Zv (vD 3) Zz)))))))) (qa qfK) qe)
   (q0 (q1E (i:=4) rfl q89.nd rfl rfl (blk ["count", "lack"] [] [] rfl ⋯ ⋯ rfl trivial) (qbn rfl z_zip (Zv (XE.toD (Z2 (vV 3) (XD.toV Zx))) (Zv (XE.toD (xc c_lacks hr (Zv (vD 0) (Zv (vD 1) (Zv (vD 2) Zz))))) Zz))) (qbb (q2a (qz 0) (q2a (qz 1) q7c))) (λ_ _ _ _=>⟨(q4h rfl (q06 (qd (i:=0) (show ((["count", "lack"]:List Str)++([]:List Str):List Str).Nodup from by decide +kernel) rfl (Or.inl rfl)) (q06 (qd (i:=1) (show ((["count", "lack"]:List Str)++([]:List Str):List Str).Nodup from by decide +kernel) rfl (Or.inl rfl)) q31))),qE,(XE.toD (xc c_gap_weight hr (Zv (vD 0) (Zv (vD 1) Zz))))⟩))
   (q0m 4 (qa (qb (qp (XE.toV (qL (qea rfl) qhy rfl z_sum qgP (qi (vV 4) qo))) (XE.toV (q69 (XD.toV Zx) (XE.toV (xc c_weighed hr (Zv (XE.toD (Z2 (vV 3) (XD.toV Zx))) (Zv Zx Zz)))))))))))))
 exact h
noncomputable def q6z:FX:=(yIf (Yb (Yv (vOf (Z6 qC (Zw (dOf (Zy 0)) (Zw (dOf (Zy 1)) (Zw (dOf (Zy 2)) (Zw (dOf (Zy 3)) Z3)))))))) (WG "NoReason") yNo)
noncomputable def q4e:List D->Option Str:=λds=>q6z (entry 5 ds)
theorem qdk{f_is_reason:vC}{d_is_reason:vH}{f_lacks:vC}{d_lacks:vH}{f_gap_weight:vC}{d_gap_weight:vH}{f_weighed:vC}{d_weighed:vH}{A_NoReason:vC}(F:Fun K "weight" "weight" q6t f fd)(c_is_reason:Cal P w K mg base 10 f_is_reason d_is_reason "is_reason" ["home", "last", "boxes", "thing"] 4 qC)(c_lacks:Cal P w K mg base 7 f_lacks d_lacks "lacks" ["home", "last", "boxes"] 3 q30)(c_gap_weight:Cal P w K mg base 1 f_gap_weight d_gap_weight "gap_weight" ["count", "lack"] 2 q1h)(c_weighed:Cal P w K mg base 1 f_weighed d_weighed "weighed" ["levels", "rest"] 2 q2X)(e_NoReason:mg "NoReason" = some (.ref A_NoReason))(x_NoReason:ECls K "NoReason" A_NoReason)(z_zip:mg "zip" = none)(z_sum:mg "sum" = none):
  FnOk P w K mg base (CXe P w) 11 f fd ["home", "last", "boxes", "thing"] (spX K 4 q4e):=by
 have h:=fnX (P:=P) (w:=w) (mg:=mg) (base:=base) (k:=10) (gb:=q6z) F q89 (λcdv A outer s H E hr=>
   (q0l (qfH (qZ (qx (XE.toV (xc c_is_reason hr (Zv (vD 0) (Zv (vD 1) (Zv (vD 2) (Zv (vD 3) Zz)))))))) (q0l (qba rfl e_NoReason rfl x_NoReason (Zv Xs Zz) (λ_=>⟨_,rfl⟩) X8)) qdm)))
 exact h
noncomputable def q3R:FS:=(Z8 (sIf (tOf (Z0 oLt (vOf (Zy 1)) (vOf (Yg Y7 (Zw (vOf (Zy 0)) Z3))))) (YR (Z0 oIx (vOf (Zy 0)) (vOf (Zy 1)))) Yc)
  (YR (eOf (fC (.int 0)))))
noncomputable def qH:List D->Option O:=mir 2 q3R
noncomputable abbrev q3U:vf:=top 40
theorem q9s:FnScope ["script", "k"] ["script", "k"] (Z1 q3U):=⟨rfl,rfl,rfl,⋯,rfl,⋯,⋯⟩
theorem q8Q (F:Fun K "_law_cell_at" "_law_cell_at" q3U f fd)(z_len:mg "len" = none):
  FnOk P w K mg base CX0 1 f fd ["script", "k"] (spD K 2 qH):=by
 have h:=fnD (P:=P) (w:=w) (mg:=mg) (base:=base) (k:=0) (body:=q3R) F q9s (λcdv A outer s H E hr=>
   (q0 (qt (q5L (vV 1) (XE.toV (qL qw q0d rfl z_len q0e (qi (vV 0) qo)))) (qa (qb (Z2 (vV 0) (vV 1)))) qe)
   (qa (qb (XD.toE Zx)))))
 exact h
noncomputable def q3h:FS:=(YR (eOf (Xd (dOf (XQ .int (vOf (Zy 0)))) (vNot (dOf (XQ .bl (vOf (Zy 0))))))))
noncomputable def q0h:List D->Option O:=mir 1 q3h
noncomputable abbrev q5k:vf:=top 41
theorem qbi:FnScope ["found"] ["found"] (Z1 q5k):=⟨rfl,rfl,rfl,⋯,rfl,⋯,⋯⟩
theorem qam (F:Fun K "_law_whole" "_law_whole" q5k f fd)(z_isinstance:mg "isinstance" = none)(z_bool:mg "bool" = none)(z_int:mg "int" = none)(i_int:IsT K .int)(i_bool:IsT K .bl):
  FnOk P w K mg base CX0 1 f fd ["found"] (spD K 1 q0h):=by
 have h:=fnD (P:=P) (w:=w) (mg:=mg) (base:=base) (k:=0) (body:=q3h) F qbi (λcdv A outer s H E hr=>
   (qa (qb (XD.toE (q0K (XE.toD (qI (vV 0) i_int rfl z_isinstance rfl z_int qds)) (q3y (qem (XE.toD (qI (vV 0) i_bool rfl z_isinstance rfl z_bool q9n)))))))))
 exact h
noncomputable def q5g:FS:=(Z8 (sIf (tOf (Z0 (oEq false) (vOf (Z0 oMod (vOf (Zy 0)) (fC (.int 3)))) (fC (.int 0)))) (YR (Z0 X0 (vOf (Z0 oMod (vOf (Z0 oDiv (vOf (Zy 0)) (fC (.int 3)))) (fC (.int 19)))) (fC (.int 9)))) Yc)
  (Z8 (sIf (tOf (Z0 (oEq false) (vOf (Z0 oMod (vOf (Zy 0)) (fC (.int 3)))) (fC (.int 1)))) (YR (Z0 X0 (vOf (Z0 oMod (vOf (Z0 oDiv (vOf (Zy 0)) (fC (.int 3)))) (fC (.int 2001)))) (fC (.int 1000)))) Yc)
  (YR (Z0 X0 (vOf (Z0 oMod (vOf (Z0 oDiv (vOf (Zy 0)) (fC (.int 3)))) (vOf (Z0 YL (vOf (Z0 X1 (fC (.int 2)) (vOf (Z0 zAk (fC (.int 10)) (fC (.int 39)))))) (fC (.int 1)))))) (vOf (Z0 zAk (fC (.int 10)) (fC (.int 39))))))))
noncomputable def q0P:List D->Option O:=mir 1 q5g
noncomputable abbrev q5o:vf:=top 42
theorem qaD:FnScope ["cell"] ["cell"] (Z1 q5o):=⟨rfl,rfl,rfl,⋯,rfl,⋯,⋯⟩
theorem qag (F:Fun K "_law_place" "_law_place" q5o f fd):
  FnOk P w K mg base CX0 1 f fd ["cell"] (spD K 1 q0P):=by
 have h:=fnD (P:=P) (w:=w) (mg:=mg) (base:=base) (k:=0) (body:=q5g) F qaD (λcdv A outer s H E hr=>
   (q0 (qt (Ye hr.units (XE.toV (qu (vV 0) (XD.toV Zx))) (XD.toV Zx)) (qa (qb (q16 (XE.toV (qu (XE.toV (qy (vV 0) (XD.toV Zx))) (XD.toV Zx))) (XD.toV Zx)))) qe)
   (q0 (qt (Ye hr.units (XE.toV (qu (vV 0) (XD.toV Zx))) (XD.toV Zx)) (qa (qb (q16 (XE.toV (qu (XE.toV (qy (vV 0) (XD.toV Zx))) (XD.toV Zx))) (XD.toV Zx)))) qe)
   (qa (qb (q16 (XE.toV (qu (XE.toV (qy (vV 0) (XD.toV Zx))) (XE.toV (qp (XE.toV (q69 (XD.toV Zx) (XE.toV (q8w (XD.toV Zx) (XD.toV Zx))))) (XD.toV Zx))))) (XE.toV (q8w (XD.toV Zx) (XD.toV Zx)))))))))
 exact h
noncomputable def q6b:FD:=(dOf (Z6 q0P (Zw (dOf (Z6 qH (Zw (dOf (Zy 1)) (Zw (dOf (Z0 YL (fC (.int 1)) (vOf (Zy 0)))) Z3)))) Z3)))
noncomputable def q3T:FS:=(Z8 (YM 7 (eOf (dOf (Z0 oIx (vOf (Zy 4)) (vOf (Z0 oMod (vOf (Zy 6)) (vOf (Zy 3))))))))
  (Z8 (YM 8 (eOf (dOf (Z0 oIx (vOf (Zy 4)) (vOf (Z0 oMod (vOf (Z0 oDiv (vOf (Zy 6)) (vOf (Zy 3)))) (vOf (Zy 3))))))))
  (Z8 (sIf (tOf (Z0 oLt (vOf (Yg Y7 (Zw (vOf (Zy 5)) Z3))) (vOf (Zy 1)))) (zA1 5 (Yp (Zw (dOf (Zy 7)) (Zw (dOf (Zy 8)) Z3)))) Yc)
  (sIf (XU (tOf (Z0 oLt (vOf (Yg Y7 (Zw (vOf (Zy 5)) Z3))) (vOf (Zy 1)))) (WD (tOf (Z0 (oEq false) (vOf (Z0 oMod (vOf (Z0 oDiv (vOf (Zy 2)) (fC (.int 4096)))) (fC (.int 3)))) (fC (.int 1)))) (XU (tOf (Z0 (oEq false) (vOf (Z0 oMod (vOf (Z0 oDiv (vOf (Zy 2)) (fC (.int 4096)))) (fC (.int 3)))) (fC (.int 2)))) (tOf (Z0 (oEq false) (vOf (Z0 oMod (vOf (Z0 oDiv (vOf (Zy 6)) (fC (.int 64)))) (fC (.int 2)))) (fC (.int 1))))))) (zA1 5 (Yp (Zw (dOf (Zy 8)) (Zw (dOf (Zy 7)) Z3)))) Yc))))
noncomputable def q4p:FS:=(Z8 (YM 2 (eOf (dOf (Z0 oMod (vOf (Z0 X1 (vOf (Z6 qH (Zw (dOf (Zy 0)) (Zw (fC (.int 0)) Z3)))) (fC (.int 48271)))) (fC (.int 65537))))))
  (Z8 (YM 3 (eOf (dOf (Z0 X0 (fC (.int 8)) (vOf (Z0 oMod (vOf (Zy 2)) (fC (.int 8))))))))
  (Z8 (YM 4 (YY 1 [0] (iRg1 (Zw (vOf (Zy 3)) Z3)) (gN 0) YX q6b))
  (Yf 4 (Z8 (YM 5 (Yj Z3))
  (Z8 (Xu (Ys (dOf (fSl (vOf (Zy 0)) (pAt (fC (.int 9))) (pAt (vOf (Z0 YL (fC (.int 9)) (vOf (Z0 oIx (vOf (Yj (Zw (dOf (Zy 1)) (Zw (fC (.int 3)) (Zw (fC (.int 1)) (Zw (fC (.int 5)) (Zw (fC (.int 0)) (Zw (fC (.int 2)) (Zw (dOf (Zy 1)) (Zw (fC (.int 4)) Z3)))))))))) (vOf (Z0 oMod (vOf (Z0 oDiv (vOf (Zy 2)) (fC (.int 512)))) (fC (.int 8)))))))))))) (gN 6) q3T)
  (Z8 (YM 9 (eOf (dOf (Z0 oIx (vOf (Zy 4)) (vOf (Z0 oMod (vOf (Z0 oDiv (vOf (Zy 2)) (fC (.int 8)))) (vOf (Zy 3))))))))
  (Z8 (sIf (tOf (Z0 (oEq false) (vOf (Z0 oMod (vOf (Z0 oDiv (vOf (Zy 2)) (fC (.int 12288)))) (fC (.int 2)))) (fC (.int 0)))) (Yf 5 (YR (eOf (Yp (Zw (dOf (Zy 9)) (Zw (dOf (Zy 9)) (Zw (dOf (Zy 5)) Z3))))))) Yc)
  (Yf 5 (YR (eOf (Yp (Zw (dOf (Zy 9)) (Zw (dOf (Z0 oIx (vOf (Zy 4)) (vOf (Z0 oMod (vOf (Z0 oDiv (vOf (Zy 2)) (fC (.int 64)))) (vOf (Zy 3)))))) (Zw (dOf (Zy 5)) Z3)))))))))))))))
noncomputable def q1v:List D->Option O:=mir 10 q4p
noncomputable abbrev q4l:vf:=top 43
theorem q0j:FnScope ["script", "most", "head", "many", "spots", "boxes", "cell", "one", "other", "home"] ["script", "most"] (Z1 q4l):=⟨rfl,rfl,rfl,⋯,rfl,⋯,⋯⟩
theorem q9A{f__law_cell_at:vC}{d__law_cell_at:vH}{f__law_place:vC}{d__law_place:vH}(F:Fun K "_law_errand" "_law_errand" q4l f fd)(c__law_cell_at:Cal P w K mg base 1 f__law_cell_at d__law_cell_at "_law_cell_at" ["script", "k"] 2 qH)(c__law_place:Cal P w K mg base 1 f__law_place d__law_place "_law_place" ["cell"] 1 q0P)(z_range:mg "range" = none)(z_len:mg "len" = none):
  FnOk P w K mg base CX0 2 f fd ["script", "most"] (spD K 2 q1v):=by
 have h:=fnD (P:=P) (w:=w) (mg:=mg) (base:=base) (k:=1) (body:=q4p) F q0j (λcdv A outer s H E hr=>
   (q0 (qg (i:=2) q0j.nd rfl (Or.inl rfl) (XD.toE (XE.toD (qu (XE.toV (q69 (XE.toV (xc c__law_cell_at hr (Zv (vD 0) (Zv Zx Zz)))) (XD.toV Zx))) (XD.toV Zx)))))
   (q0 (qg (i:=3) q0j.nd rfl (Or.inl rfl) (XD.toE (XE.toD (q16 (XD.toV Zx) (XE.toV (qu (vV 2) (XD.toV Zx)))))))
   (q0 (q1E (i:=4) rfl q0j.nd rfl rfl (blk ["k"] ["script"] [0] rfl ⋯ ⋯ rfl ⟨⟨rfl,(by first|exact Or.inl rfl|exact Or.inr rfl),rfl⟩,trivial⟩) (q9Y rfl z_range (qi (vV 3) qo)) (qz 0) (λ_ _ _ _=>⟨(qd (i:=0) (show ((["k"]:List Str)++(["script"]:List Str):List Str).Nodup from by decide +kernel) rfl (Or.inl rfl)),qE,(XE.toD (xc c__law_place hr (Zv (XE.toD (xc c__law_cell_at hr (Zv (vD 1) (Zv (XE.toD (qp (XD.toV Zx) (vV 0))) Zz)))) Zz)))⟩))
   (q0m 4 (q0 (qg (i:=5) q0j.nd rfl (Or.inl rfl) (Z9 Zz))
   (q0 (q0S PassesOwn.never rfl (qv (XE.toD (Z7 (vV 0) (YC (XD.toV Zx)) (YC (XE.toV (qp (XD.toV Zx) (XE.toV (Z2 (XE.toV (Z9 (Zv (vD 1) (Zv Zx (Zv Zx (Zv Zx (Zv Zx (Zv Zx (Zv (vD 1) (Zv Zx Zz)))))))))) (XE.toV (qu (XE.toV (qy (vV 2) (XD.toV Zx))) (XD.toV Zx))))))))))) (qd (i:=6) q0j.nd rfl (Or.inl rfl)) (q0 (qg (i:=7) q0j.nd rfl (Or.inl rfl) (XD.toE (XE.toD (Z2 (vV 4) (XE.toV (qu (vV 6) (vV 3)))))))
   (q0 (qg (i:=8) q0j.nd rfl (Or.inl rfl) (XD.toE (XE.toD (Z2 (vV 4) (XE.toV (qu (XE.toV (qy (vV 6) (vV 3))) (vV 3)))))))
   (q0 (qt (q5L (XE.toV (qL qw q0d rfl z_len q0e (qi (vV 5) qo))) (vV 1)) (qa (q72 (pv 5) (YF (Zv (vD 7) (Zv (vD 8) Zz))))) qe)
   (qa (qt (XW.toT (q5A (q5L (XE.toV (qL qw q0d rfl z_len q0e (qi (vV 5) qo))) (vV 1)) (q3Z (XW.toT (q3f (Ye hr.units (XE.toV (qu (XE.toV (qy (vV 2) (XD.toV Zx))) (XD.toV Zx))) (XD.toV Zx)) (q3r (XW.toT (q5A (Ye hr.units (XE.toV (qu (XE.toV (qy (vV 2) (XD.toV Zx))) (XD.toV Zx))) (XD.toV Zx)) (q3Z (Ye hr.units (XE.toV (qu (XE.toV (qy (vV 6) (XD.toV Zx))) (XD.toV Zx))) (XD.toV Zx))))))))))) (qa (q72 (pv 5) (YF (Zv (vD 8) (Zv (vD 7) Zz))))) qe))))))
   (q0 (qg (i:=9) q0j.nd rfl (Or.inl rfl) (XD.toE (XE.toD (Z2 (vV 4) (XE.toV (qu (XE.toV (qy (vV 2) (XD.toV Zx))) (vV 3)))))))
   (q0 (qt (Ye hr.units (XE.toV (qu (XE.toV (qy (vV 2) (XD.toV Zx))) (XD.toV Zx))) (XD.toV Zx)) (q0m 5 (qa (qb (XD.toE (YF (Zv (vD 9) (Zv (vD 9) (Zv (vD 5) Zz)))))))) qe)
   (q0m 5 (qa (qb (XD.toE (YF (Zv (vD 9) (Zv (XE.toD (Z2 (vV 4) (XE.toV (qu (XE.toV (qy (vV 2) (XD.toV Zx))) (vV 3))))) (Zv (vD 5) Zz)))))))))))))))))
 exact h
noncomputable def q4M:FS:=(YR (Z0 oIx (vOf (Yj (Zw (fC .non) (Zw (fC (.bl true)) (Zw (fC (.bl false)) (Zw (fC (.str "1")) (Zw (fC (.str "")) (Zw (dOf (Yj Z3)) (Zw (Yp Z3) (Zw (dOf (Yj (Zw (fC (.int 1)) Z3))) (Zw (Yp (Zw (fC (.int 1)) Z3)) (Zw (dOf (Yj (Zw (fC (.int 3)) (Zw (fC (.int 4)) Z3)))) (Zw (Yp (Zw (fC (.int 1)) (Zw (fC (.int 2)) (Zw (fC (.int 3)) Z3)))) Z3))))))))))))) (vOf (Z0 oMod (vOf (Zy 0)) (fC (.int 11))))))
noncomputable def q02:List D->Option O:=mir 1 q4M
noncomputable abbrev q6D:vf:=top 44
theorem qd1:FnScope ["cell"] ["cell"] (Z1 q6D):=⟨rfl,rfl,rfl,⋯,rfl,⋯,⋯⟩
theorem qbI (F:Fun K "_law_odd" "_law_odd" q6D f fd):
  FnOk P w K mg base CX0 1 f fd ["cell"] (spD K 1 q02):=by
 have h:=fnD (P:=P) (w:=w) (mg:=mg) (base:=base) (k:=0) (body:=q4M) F qd1 (λcdv A outer s H E hr=>
   (qa (qb (Z2 (XE.toV (Z9 (Zv Wc (Zv Ya (Zv Ya (Zv Xs (Zv Xs (Zv (XE.toD (Z9 Zz)) (Zv (YF Zz) (Zv (XE.toD (Z9 (Zv Zx Zz))) (Zv (YF (Zv Zx Zz)) (Zv (XE.toD (Z9 (Zv Zx (Zv Zx Zz)))) (Zv (YF (Zv Zx (Zv Zx (Zv Zx Zz)))) Zz))))))))))))) (XE.toV (qu (vV 0) (XD.toV Zx)))))))
 exact h
noncomputable def q44:FD:=(dOf (Z0 YL (vOf (Zy 0)) (vOf (Z6 q0t (Zw (dOf (Zy 1)) (Zw (dOf (Zy 0)) Z3))))))
noncomputable def q4j:FS:=(YR (YY 1 [2] (Ys (dOf (Z6 q07 (Zw (dOf (Zy 0)) (Zw (dOf (Zy 1)) (Zw (dOf (Zy 2)) Z3)))))) (gN 0) YX q44))
noncomputable def q1A:List D->Option O:=mir 3 q4j
noncomputable abbrev q2I:vf:=top 45
theorem q6K:FnScope ["home", "last", "boxes"] ["home", "last", "boxes"] (Z1 q2I):=⟨rfl,rfl,rfl,⋯,rfl,⋯,⋯⟩
theorem q9a{f_gaps:vC}{d_gaps:vH}{f_crossed:vC}{d_crossed:vH}(F:Fun K "_law_counts" "_law_counts" q2I f fd)(c_gaps:Cal P w K mg base 6 f_gaps d_gaps "gaps" ["home", "last", "boxes"] 3 q07)(Gx_gaps:FnOk P w K mg base (CXe P w) 6 f_gaps d_gaps ["home", "last", "boxes"] (spX K 3 q0J))(c_crossed:Cal P w K mg base 2 f_crossed d_crossed "crossed" ["boxes", "gap"] 2 q0t):
  FnOk P w K mg base CX0 7 f fd ["home", "last", "boxes"] (spD K 3 q1A):=by
 have h:=fnD (P:=P) (w:=w) (mg:=mg) (base:=base) (k:=6) (body:=q4j) F q6K (λcdv A outer s H E hr=>
   (qa (qb (qG rfl (blk ["gap"] ["boxes"] [2] rfl ⋯ ⋯ rfl ⟨⟨rfl,(by first|exact Or.inl rfl|exact Or.inr rfl),rfl⟩,trivial⟩) (qv (XE.toD (xc c_gaps hr (Zv (vD 0) (Zv (vD 1) (Zv (vD 2) Zz)))))) (qz 0) (λ_ _ _ _=>⟨(qd (i:=0) (show ((["gap"]:List Str)++(["boxes"]:List Str):List Str).Nodup from by decide +kernel) rfl (Or.inl rfl)),qE,(XE.toD (qp (vV 0) (XE.toV (xc c_crossed hr (Zv (vD 1) (Zv (vD 0) Zz))))))⟩)))))
 exact h
noncomputable def q6J:FX:=(Yt q0J (Zw (dOf (Zy 0)) (Zw (dOf (Zy 1)) (Zw (dOf (Zy 2)) Z3))))
noncomputable def q6d:List D->Option Str:=λds=>q6J (entry 3 ds)
theorem q8B{f_gaps:vC}{d_gaps:vH}{f_crossed:vC}{d_crossed:vH}(F:Fun K "_law_counts" "_law_counts" q2I f fd)(c_gaps:Cal P w K mg base 6 f_gaps d_gaps "gaps" ["home", "last", "boxes"] 3 q07)(Gx_gaps:FnOk P w K mg base (CXe P w) 6 f_gaps d_gaps ["home", "last", "boxes"] (spX K 3 q0J))(c_crossed:Cal P w K mg base 2 f_crossed d_crossed "crossed" ["boxes", "gap"] 2 q0t):
  FnOk P w K mg base (CXe P w) 7 f fd ["home", "last", "boxes"] (spX K 3 q6d):=by
 have h:=fnX (P:=P) (w:=w) (mg:=mg) (base:=base) (k:=6) (gb:=q6J) F q6K (λcdv A outer s H E hr=>
   (q0l (q8n (q7t rfl (blk ["gap"] ["boxes"] [2] rfl ⋯ ⋯ rfl ⟨⟨rfl,(by first|exact Or.inl rfl|exact Or.inr rfl),rfl⟩,trivial⟩) (q0Q Gx_gaps (hr.mono (by decide)) rfl c_gaps.2.1 c_gaps.2.2.1 c_gaps.2.2.2 XC (Zv (vD 0) (Zv (vD 1) (Zv (vD 2) Zz))))))))
 exact h
noncomputable def q41:FT:=(tOf (Z0 oLt (vOf (Z0 X0 (vOf (Z0 oIx (vOf (Zy 0)) (fC (.int 1)))) (vOf (Z0 oIx (vOf (Zy 0)) (fC (.int 0)))))) (vOf (Zy 1))))
noncomputable def q3S:FD:=(dOf (Zy 0))
noncomputable def q3V:FD:=(dOf (fRev (vOf (Zy 0))))
noncomputable def q1j:FS:=(Z8 (YM 6 (eOf (dOf (Z0 YL (vOf (Z0 YL (vOf (Zy 6)) (fC (.int 1)))) (vOf (Z0 oMod (vOf (Z0 oDiv (vOf (Zy 7)) (fC (.int 4)))) (vOf (Z0 oIx (vOf (Yj (Zw (fC (.int 1)) (Zw (fC (.int 20)) (Zw (fC (.int 2000)) (Zw (dOf (Z0 zAk (fC (.int 10)) (fC (.int 39)))) Z3)))))) (vOf (Z0 oMod (vOf (Zy 7)) (fC (.int 4))))))))))))
  (Z8 (YM 8 (eOf (dOf (Z0 YL (vOf (Z6 q0H (Zw (dOf (Zy 1)) (Zw (dOf (Zy 2)) (Zw (dOf (Zy 3)) Z3))))) (vOf (YY 1 [6] (Ys (dOf (Z6 q07 (Zw (dOf (Zy 1)) (Zw (dOf (Zy 2)) (Zw (dOf (Zy 3)) Z3)))))) (gN 0) q41 q3S))))))
  (Z8 (sIf (tOf (Z0 (oEq false) (vOf (Z0 oMod (vOf (Z0 oDiv (vOf (Zy 7)) (fC (.int 7)))) (fC (.int 3)))) (fC (.int 1)))) (YM 8 (eOf (dOf (Z0 YL (vOf (Zy 8)) (vOf (Yj (Zw (Yp (Zw (dOf (Z0 oIx (vOf (Zy 4)) (vOf (Z0 oMod (vOf (Z0 oDiv (vOf (Zy 7)) (fC (.int 21)))) (vOf (Yg Y7 (Zw (vOf (Zy 4)) Z3))))))) (Zw (dOf (Z0 oIx (vOf (Zy 4)) (vOf (Z0 oMod (vOf (Z0 oDiv (vOf (Zy 7)) (fC (.int 168)))) (vOf (Yg Y7 (Zw (vOf (Zy 4)) Z3))))))) Z3))) Z3))))))) Yc)
  (Z8 (YM 9 (eOf (dOf (Z6 q2S (Zw (dOf (Zy 4)) (Zw (dOf (Zy 8)) Z3))))))
  (Z8 (sIf (tOf (Z0 (oEq false) (vOf (Z0 oMod (vOf (Z0 oDiv (vOf (Zy 7)) (fC (.int 5)))) (fC (.int 2)))) (fC (.int 1)))) (Z8 (YM 9 (YY 1 [] (iRv (Zw (dOf (Zy 9)) Z3)) (gN 0) YX q3V)) (Yf 9 Yc)) Yc)
  (zA1 5 (Yp (Zw (dOf (Zy 6)) (Zw (dOf (Zy 9)) Z3)))))))))
noncomputable def q4k:FS:=(Z8 (YM 4 (eOf (dOf (Z6 q0r (Zw (dOf (Zy 1)) (Zw (dOf (Zy 2)) (Zw (dOf (Zy 3)) Z3)))))))
  (Z8 (YM 5 (Yj Z3))
  (Z8 (YM 6 (eOf (fC (.int 0))))
  (Z8 (Xu (Ys (dOf (fSl (vOf (Zy 0)) (pAt (fC (.int 57))) (pAt (vOf (Z0 YL (fC (.int 57)) (vOf (Z0 oIx (vOf (Yj (Zw (fC (.int 6)) (Zw (fC (.int 3)) (Zw (fC (.int 1)) (Zw (fC (.int 0)) (Zw (fC (.int 2)) (Zw (fC (.int 6)) Z3)))))))) (vOf (Z0 oMod (vOf (Z0 oDiv (vOf (Z6 qH (Zw (dOf (Zy 0)) (Zw (fC (.int 0)) Z3)))) (fC (.int 4096)))) (fC (.int 6)))))))))))) (gN 7) q1j)
  (WT 5)))))
noncomputable def q1u:List D->Option O:=mir 10 q4k
noncomputable abbrev q2L:vf:=top 46
theorem qV:FnScope ["script", "home", "last", "boxes", "places", "rows", "t", "cell", "ties", "parts"] ["script", "home", "last", "boxes"] (Z1 q2L):=⟨rfl,rfl,rfl,⋯,rfl,⋯,⋯⟩
theorem q9e{f_stops:vC}{d_stops:vH}{f__law_cell_at:vC}{d__law_cell_at:vH}{f_knots:vC}{d_knots:vH}{f_gaps:vC}{d_gaps:vH}{f_groups:vC}{d_groups:vH}(F:Fun K "_law_levels" "_law_levels" q2L f fd)(c_stops:Cal P w K mg base 5 f_stops d_stops "stops" ["home", "last", "boxes"] 3 q0r)(Gx_stops:FnOk P w K mg base (CXe P w) 5 f_stops d_stops ["home", "last", "boxes"] (spX K 3 q0v))(c__law_cell_at:Cal P w K mg base 1 f__law_cell_at d__law_cell_at "_law_cell_at" ["script", "k"] 2 qH)(c_knots:Cal P w K mg base 8 f_knots d_knots "knots" ["home", "last", "boxes"] 3 q0H)(c_gaps:Cal P w K mg base 6 f_gaps d_gaps "gaps" ["home", "last", "boxes"] 3 q07)(c_groups:Cal P w K mg base 2 f_groups d_groups "groups" ["things", "ties"] 2 q2S)(z_len:mg "len" = none)(z_reversed:mg "reversed" = none)(z_list:mg "list" = none):
  FnOk P w K mg base CX0 9 f fd ["script", "home", "last", "boxes"] (spD K 4 q1u):=by
 have h:=fnD (P:=P) (w:=w) (mg:=mg) (base:=base) (k:=8) (body:=q4k) F qV (λcdv A outer s H E hr=>
   (q0 (qg (i:=4) qV.nd rfl (Or.inl rfl) (XD.toE (XE.toD (xc c_stops hr (Zv (vD 1) (Zv (vD 2) (Zv (vD 3) Zz)))))))
   (q0 (qg (i:=5) qV.nd rfl (Or.inl rfl) (Z9 Zz))
   (q0 (qg (i:=6) qV.nd rfl (Or.inr rfl) (XD.toE Zx))
   (q0 (q0S PassesOwn.never rfl (qv (XE.toD (Z7 (vV 0) (YC (XD.toV Zx)) (YC (XE.toV (qp (XD.toV Zx) (XE.toV (Z2 (XE.toV (Z9 (Zv Zx (Zv Zx (Zv Zx (Zv Zx (Zv Zx (Zv Zx Zz)))))))) (XE.toV (qu (XE.toV (qy (XE.toV (xc c__law_cell_at hr (Zv (vD 0) (Zv Zx Zz)))) (XD.toV Zx))) (XD.toV Zx))))))))))) (qd (i:=7) qV.nd rfl (Or.inl rfl)) (q0 (qg (i:=6) qV.nd rfl (Or.inr rfl) (XD.toE (XE.toD (qp (XE.toV (qp (vV 6) (XD.toV Zx))) (XE.toV (qu (XE.toV (qy (vV 7) (XD.toV Zx))) (XE.toV (Z2 (XE.toV (Z9 (Zv Zx (Zv Zx (Zv Zx (Zv (XE.toD (q8w (XD.toV Zx) (XD.toV Zx))) Zz)))))) (XE.toV (qu (vV 7) (XD.toV Zx)))))))))))
   (q0 (qg (i:=8) qV.nd rfl (Or.inl rfl) (XD.toE (XE.toD (qp (XE.toV (xc c_knots hr (Zv (vD 1) (Zv (vD 2) (Zv (vD 3) Zz))))) (XE.toV (qG rfl (blk ["gap"] ["t"] [6] rfl ⋯ ⋯ rfl ⟨⟨rfl,(by first|exact Or.inl rfl|exact Or.inr rfl),rfl⟩,trivial⟩) (qv (XE.toD (xc c_gaps hr (Zv (vD 1) (Zv (vD 2) (Zv (vD 3) Zz)))))) (qz 0) (λ_ _ _ _=>⟨(qd (i:=0) (show ((["gap"]:List Str)++(["t"]:List Str):List Str).Nodup from by decide +kernel) rfl (Or.inl rfl)),(q32 (q5L (XE.toV (q16 (XE.toV (Z2 (vV 0) (XD.toV Zx))) (XE.toV (Z2 (vV 0) (XD.toV Zx))))) (vV 1))),(vD 0)⟩)))))))
   (q0 (qt (Ye hr.units (XE.toV (qu (XE.toV (qy (vV 7) (XD.toV Zx))) (XD.toV Zx))) (XD.toV Zx)) (qa (qg (i:=8) qV.nd rfl (Or.inl rfl) (XD.toE (XE.toD (qp (vV 8) (XE.toV (Z9 (Zv (YF (Zv (XE.toD (Z2 (vV 4) (XE.toV (qu (XE.toV (qy (vV 7) (XD.toV Zx))) (XE.toV (qL qw q0d rfl z_len q0e (qi (vV 4) qo))))))) (Zv (XE.toD (Z2 (vV 4) (XE.toV (qu (XE.toV (qy (vV 7) (XD.toV Zx))) (XE.toV (qL qw q0d rfl z_len q0e (qi (vV 4) qo))))))) Zz))) Zz)))))))) qe)
   (q0 (qg (i:=9) qV.nd rfl (Or.inl rfl) (XD.toE (XE.toD (xc c_groups hr (Zv (vD 4) (Zv (vD 8) Zz))))))
   (q0 (qt (Ye hr.units (XE.toV (qu (XE.toV (qy (vV 7) (XD.toV Zx))) (XD.toV Zx))) (XD.toV Zx)) (q0 (q1E (i:=9) rfl qV.nd rfl rfl (blk ["part"] [] [] rfl ⋯ ⋯ rfl trivial) (qhg rfl z_reversed (Zv (vD 9) Zz)) (qz 0) (λ_ _ _ _=>⟨(qd (i:=0) (show ((["part"]:List Str)++([]:List Str):List Str).Nodup from by decide +kernel) rfl (Or.inl rfl)),qE,(XE.toD (q8m rfl z_list rfl z_reversed (vV 0)))⟩)) (q0m 9 qe)) qe)
   (qa (q72 (pv 5) (YF (Zv (vD 6) (Zv (vD 9) Zz)))))))))))
   (qa (qcB (pv 5))))))))
 exact h
noncomputable def q6N:FX:=(Yt q0v (Zw (dOf (Zy 1)) (Zw (dOf (Zy 2)) (Zw (dOf (Zy 3)) Z3))))
noncomputable def q6c:List D->Option Str:=λds=>q6N (entry 10 ds)
theorem q8u{f_stops:vC}{d_stops:vH}{f__law_cell_at:vC}{d__law_cell_at:vH}{f_knots:vC}{d_knots:vH}{f_gaps:vC}{d_gaps:vH}{f_groups:vC}{d_groups:vH}(F:Fun K "_law_levels" "_law_levels" q2L f fd)(c_stops:Cal P w K mg base 5 f_stops d_stops "stops" ["home", "last", "boxes"] 3 q0r)(Gx_stops:FnOk P w K mg base (CXe P w) 5 f_stops d_stops ["home", "last", "boxes"] (spX K 3 q0v))(c__law_cell_at:Cal P w K mg base 1 f__law_cell_at d__law_cell_at "_law_cell_at" ["script", "k"] 2 qH)(c_knots:Cal P w K mg base 8 f_knots d_knots "knots" ["home", "last", "boxes"] 3 q0H)(c_gaps:Cal P w K mg base 6 f_gaps d_gaps "gaps" ["home", "last", "boxes"] 3 q07)(c_groups:Cal P w K mg base 2 f_groups d_groups "groups" ["things", "ties"] 2 q2S)(z_len:mg "len" = none)(z_reversed:mg "reversed" = none)(z_list:mg "list" = none):
  FnOk P w K mg base (CXe P w) 9 f fd ["script", "home", "last", "boxes"] (spX K 4 q6c):=by
 have h:=fnX (P:=P) (w:=w) (mg:=mg) (base:=base) (k:=8) (gb:=q6N) F qV (λcdv A outer s H E hr=>
   (q0l (q60 (i:=4) qV.nd rfl (Or.inl rfl) (q0Q Gx_stops (hr.mono (by decide)) rfl c_stops.2.1 c_stops.2.2.1 c_stops.2.2.2 XC (Zv (vD 1) (Zv (vD 2) (Zv (vD 3) Zz)))))))
 exact h
noncomputable def q2p:FT:=(tOf (Z0 (oIn false) (vOf (Zy 1)) (vOf (Z0 oIx (vOf (Zy 2)) (vOf (Zy 0))))))
noncomputable def q20:FD:=(dOf (Zy 0))
noncomputable def q4m:FS:=(Z8 (YM 2 (YY 1 [1,0] (iRg1 (Zw (vOf (Yg Y7 (Zw (vOf (Zy 0)) Z3))) Z3)) (gN 0) q2p q20))
  (Yf 2 (Z8 (sIf (tOf (Z0 (oEq true) (vOf (Yg Y7 (Zw (vOf (Zy 2)) Z3))) (fC (.int 1)))) (YR (fNeg (fC (.int 1)))) Yc)
  (YR (Z0 oIx (vOf (Zy 2)) (fC (.int 0)))))))
noncomputable def q0A:List D->Option O:=mir 3 q4m
noncomputable abbrev q4o:vf:=top 47
theorem q6L:FnScope ["parts", "place", "found"] ["parts", "place"] (Z1 q4o):=⟨rfl,rfl,rfl,⋯,rfl,⋯,⋯⟩
theorem q9x (F:Fun K "_law_number" "_law_number" q4o f fd)(z_len:mg "len" = none)(z_range:mg "range" = none):
  FnOk P w K mg base CX0 1 f fd ["parts", "place"] (spD K 2 q0A):=by
 have h:=fnD (P:=P) (w:=w) (mg:=mg) (base:=base) (k:=0) (body:=q4m) F q6L (λcdv A outer s H E hr=>
   (q0 (q1E (i:=2) rfl q6L.nd rfl rfl (blk ["k"] ["place", "parts"] [1,0] rfl ⋯ ⋯ rfl ⟨⟨rfl,(by first|exact Or.inl rfl|exact Or.inr rfl),rfl⟩,⟨⟨rfl,(by first|exact Or.inl rfl|exact Or.inr rfl),rfl⟩,trivial⟩⟩) (q9Y rfl z_range (qi (XE.toV (qL qw q0d rfl z_len q0e (qi (vV 0) qo))) qo)) (qz 0) (λ_ _ _ _=>⟨(qd (i:=0) (show ((["k"]:List Str)++(["place", "parts"]:List Str):List Str).Nodup from by decide +kernel) rfl (Or.inl rfl)),(q32 (xt_in (vV 1) (XE.toV (Z2 (vV 2) (vV 0))))),(vD 0)⟩))
   (q0m 2 (q0 (qt (Xn hr.units (XE.toV (qL qw q0d rfl z_len q0e (qi (vV 2) qo))) (XD.toV Zx)) (qa (qb (qhJ (XD.toV Zx)))) qe)
   (qa (qb (Z2 (vV 2) (XD.toV Zx))))))))
 exact h
noncomputable def q0s:FS:=(sIf (WD (Yb (Yv (vOf (Z6 q0h (Zw (dOf (Zy 5)) Z3))))) (tOf (Z0 (oIn true) (vOf (Zy 5)) (vOf (Zy 0))))) (YR (eOf (fC (.bl false)))) Yc)
noncomputable def qB:FS:=(Z8 (sIf (WD (Yb (Yv (vOf (XQ .lst (vOf (Zy 4)))))) (tOf (Z0 (oEq false) (vOf (Zy 4)) (vOf (Yj Z3))))) (YR (eOf (fC (.bl false)))) Yc)
  (Z8 (Xu (Ys (dOf (Zy 4))) (gN 5) q0s)
  (YM 3 (eOf (dOf (Z0 YL (vOf (Zy 3)) (vOf (Yg Y7 (Zw (vOf (Zy 4)) Z3)))))))))
noncomputable def q1b:FS:=(sIf (tOf (Z0 (oEq true) (vOf (Z6 q0A (Zw (dOf (Zy 2)) (Zw (dOf (Zy 6)) Z3)))) (vOf (Z6 q0A (Zw (dOf (Zy 2)) (Zw (dOf (Zy 7)) Z3)))))) (YR (eOf (fC (.bl false)))) Yc)
noncomputable def q2C:FT:=(tOf (Z0 oLt (vOf (Z6 q0A (Zw (dOf (Zy 1)) (Zw (dOf (Zy 0)) Z3)))) (fC (.int 0))))
noncomputable def q2B:FD:=(dOf (Zy 0))
noncomputable def q0N:FS:=(Z8 (sIf (Yb (Yv (vOf (XQ .lst (vOf (Zy 2)))))) (YR (eOf (fC (.bl false)))) Yc)
  (Z8 (YM 3 (eOf (fC (.int 0))))
  (Z8 (Xu (Ys (dOf (Zy 2))) (gN 4) qB)
  (Z8 (Xu (Ys (dOf (Zy 1))) (gT 2 (YD (gN 6) (YD (gN 7) Ym))) q1b)
  (Z8 (YM 8 (YY 1 [2] (Ys (dOf (Zy 0))) (gN 0) q2C q2B))
  (Yf 8 (YR (eOf (Xd (dOf (Z0 (oEq false) (vOf (Zy 3)) (vOf (Yg Y7 (Zw (vOf (Zy 0)) Z3))))) (dOf (Z0 (oEq false) (vOf (Zy 8)) (vOf (Yj Z3)))))))))))))
noncomputable def qJ:List D->Option O:=mir 9 q0N
noncomputable abbrev q2P:vf:=top 48
theorem q05:FnScope ["places", "ties", "parts", "many", "part", "place", "one", "other", "lacking"] ["places", "ties", "parts"] (Z1 q2P):=⟨rfl,rfl,rfl,⋯,rfl,⋯,⋯⟩
theorem q7K{f__law_whole:vC}{d__law_whole:vH}{f__law_number:vC}{d__law_number:vH}(F:Fun K "_law_is_parted" "_law_is_parted" q2P f fd)(c__law_whole:Cal P w K mg base 1 f__law_whole d__law_whole "_law_whole" ["found"] 1 q0h)(c__law_number:Cal P w K mg base 1 f__law_number d__law_number "_law_number" ["parts", "place"] 2 q0A)(z_isinstance:mg "isinstance" = none)(z_list:mg "list" = none)(z_len:mg "len" = none)(i_list:IsT K .lst):
  FnOk P w K mg base CX0 2 f fd ["places", "ties", "parts"] (spD K 3 qJ):=by
 have h:=fnD (P:=P) (w:=w) (mg:=mg) (base:=base) (k:=1) (body:=q0N) F q05 (λcdv A outer s H E hr=>
   (q0 (qt (qZ (qx (XE.toV (qI (vV 2) i_list rfl z_isinstance rfl z_list qQ)))) (qa (qb (XD.toE Ya))) qe)
   (q0 (qg (i:=3) q05.nd rfl (Or.inl rfl) (XD.toE Zx))
   (q0 (q0S PassesOwn.never rfl (qv (vD 2)) (qd (i:=4) q05.nd rfl (Or.inl rfl)) (q0 (qt (XW.toT (q3f (qZ (qx (XE.toV (qI (vV 4) i_list rfl z_isinstance rfl z_list qQ)))) (q3r (Ye hr.units (vV 4) (XE.toV (Z9 Zz)))))) (qa (qb (XD.toE Ya))) qe)
   (q0 (q0S PassesOwn.never rfl (qv (vD 4)) (qd (i:=5) q05.nd rfl (Or.inl rfl)) (qa (qt (XW.toT (q3f (qZ (qx (XE.toV (xc c__law_whole hr (Zv (vD 5) Zz))))) (q3r (zAM (vV 5) (vV 0))))) (qa (qb (XD.toE Ya))) qe)))
   (qa (qg (i:=3) q05.nd rfl (Or.inl rfl) (XD.toE (XE.toD (qp (vV 3) (XE.toV (qL qw q0d rfl z_len q0e (qi (vV 4) qo)))))))))))
   (q0 (q0S PassesOwn.never rfl (qv (vD 1)) (q4h rfl (q06 (qd (i:=6) q05.nd rfl (Or.inl rfl)) (q06 (qd (i:=7) q05.nd rfl (Or.inl rfl)) q31))) (qa (qt (Xn hr.units (XE.toV (xc c__law_number hr (Zv (vD 2) (Zv (vD 6) Zz)))) (XE.toV (xc c__law_number hr (Zv (vD 2) (Zv (vD 7) Zz))))) (qa (qb (XD.toE Ya))) qe)))
   (q0 (q1E (i:=8) rfl q05.nd rfl rfl (blk ["place"] ["parts"] [2] rfl ⋯ ⋯ rfl ⟨⟨rfl,(by first|exact Or.inl rfl|exact Or.inr rfl),rfl⟩,trivial⟩) (qv (vD 0)) (qz 0) (λ_ _ _ _=>⟨(qd (i:=0) (show ((["place"]:List Str)++(["parts"]:List Str):List Str).Nodup from by decide +kernel) rfl (Or.inl rfl)),(q32 (q5L (XE.toV (xc c__law_number hr (Zv (vD 1) (Zv (vD 0) Zz)))) (XD.toV Zx))),(vD 0)⟩))
   (q0m 8 (qa (qb (XD.toE (q0K (XE.toD (Xe hr.units (vV 3) (XE.toV (qL qw q0d rfl z_len q0e (qi (vV 0) qo))))) (q3y (XE.toD (Xe hr.units (vV 8) (XE.toV (Z9 Zz))))))))))))))))
 exact h
noncomputable def q1U:FT:=(tOf (Z0 oLt (vOf (Z0 X0 (vOf (Z0 oIx (vOf (Zy 0)) (fC (.int 1)))) (vOf (Z0 oIx (vOf (Zy 0)) (fC (.int 0)))))) (vOf (Zy 1))))
noncomputable def q1Q:FD:=(dOf (Zy 0))
noncomputable def qk:FS:=(Z8 (sIf (WD (Yb (Yv (vOf (XQ .tup (vOf (Zy 6)))))) (tOf (Z0 (oEq true) (vOf (Yg Y7 (Zw (vOf (Zy 6)) Z3))) (fC (.int 2))))) (YR (eOf (fC (.bl false)))) Yc)
  (Z8 (sIf (WD (Yb (Yv (vOf (Z6 q0h (Zw (dOf (Z0 oIx (vOf (Zy 6)) (fC (.int 0)))) Z3))))) (tOf (Z0 oLe (vOf (Z0 oIx (vOf (Zy 6)) (fC (.int 0)))) (vOf (Zy 5))))) (YR (eOf (fC (.bl false)))) Yc)
  (Z8 (YM 5 (eOf (dOf (Z0 oIx (vOf (Zy 6)) (fC (.int 0))))))
  (Z8 (YM 7 (YY 1 [5] (Ys (dOf (Z6 q07 (Zw (dOf (Zy 0)) (Zw (dOf (Zy 1)) (Zw (dOf (Zy 2)) Z3)))))) (gN 0) q1U q1Q))
  (Yf 7 (Z8 (YM 8 (eOf (dOf (Z0 YL (vOf (Z6 q0H (Zw (dOf (Zy 0)) (Zw (dOf (Zy 1)) (Zw (dOf (Zy 2)) Z3))))) (vOf (Zy 7))))))
  (sIf (Yb (Yv (vOf (Z6 qJ (Zw (dOf (Zy 4)) (Zw (dOf (Zy 8)) (Zw (dOf (Z0 oIx (vOf (Zy 6)) (fC (.int 1)))) Z3))))))) (YR (eOf (fC (.bl false)))) Yc)))))))
noncomputable def q1a:FS:=(Z8 (sIf (Yb (Yv (vOf (XQ .lst (vOf (Zy 3)))))) (YR (eOf (fC (.bl false)))) Yc)
  (Z8 (YM 4 (eOf (dOf (Z6 q0r (Zw (dOf (Zy 0)) (Zw (dOf (Zy 1)) (Zw (dOf (Zy 2)) Z3)))))))
  (Z8 (YM 5 (eOf (fC (.int 0))))
  (Z8 (Xu (Ys (dOf (Zy 3))) (gN 6) qk)
  (YR (eOf (fC (.bl true))))))))
noncomputable def qS:List D->Option O:=mir 9 q1a
noncomputable abbrev q1d:vf:=top 49
theorem qR:FnScope ["home", "last", "boxes", "rows", "places", "ahead", "row", "short", "ties"] ["home", "last", "boxes", "rows"] (Z1 q1d):=⟨rfl,rfl,rfl,⋯,rfl,⋯,⋯⟩
theorem q6W{f_stops:vC}{d_stops:vH}{f__law_whole:vC}{d__law_whole:vH}{f_gaps:vC}{d_gaps:vH}{f_knots:vC}{d_knots:vH}{f__law_is_parted:vC}{d__law_is_parted:vH}(F:Fun K "_law_are_levels" "_law_are_levels" q1d f fd)(c_stops:Cal P w K mg base 5 f_stops d_stops "stops" ["home", "last", "boxes"] 3 q0r)(Gx_stops:FnOk P w K mg base (CXe P w) 5 f_stops d_stops ["home", "last", "boxes"] (spX K 3 q0v))(c__law_whole:Cal P w K mg base 1 f__law_whole d__law_whole "_law_whole" ["found"] 1 q0h)(c_gaps:Cal P w K mg base 6 f_gaps d_gaps "gaps" ["home", "last", "boxes"] 3 q07)(c_knots:Cal P w K mg base 8 f_knots d_knots "knots" ["home", "last", "boxes"] 3 q0H)(c__law_is_parted:Cal P w K mg base 2 f__law_is_parted d__law_is_parted "_law_is_parted" ["places", "ties", "parts"] 3 qJ)(z_isinstance:mg "isinstance" = none)(z_list:mg "list" = none)(z_len:mg "len" = none)(z_tuple:mg "tuple" = none)(i_list:IsT K .lst)(i_tuple:IsT K .tup):
  FnOk P w K mg base CX0 9 f fd ["home", "last", "boxes", "rows"] (spD K 4 qS):=by
 have h:=fnD (P:=P) (w:=w) (mg:=mg) (base:=base) (k:=8) (body:=q1a) F qR (λcdv A outer s H E hr=>
   (q0 (qt (qZ (qx (XE.toV (qI (vV 3) i_list rfl z_isinstance rfl z_list qQ)))) (qa (qb (XD.toE Ya))) qe)
   (q0 (qg (i:=4) qR.nd rfl (Or.inl rfl) (XD.toE (XE.toD (xc c_stops hr (Zv (vD 0) (Zv (vD 1) (Zv (vD 2) Zz)))))))
   (q0 (qg (i:=5) qR.nd rfl (Or.inr rfl) (XD.toE Zx))
   (q0 (q0S PassesOwn.never rfl (qv (vD 3)) (qd (i:=6) qR.nd rfl (Or.inl rfl)) (q0 (qt (XW.toT (q3f (qZ (qx (XE.toV (qI (vV 6) i_tuple rfl z_isinstance rfl z_tuple qK)))) (q3r (Xn hr.units (XE.toV (qL qw q0d rfl z_len q0e (qi (vV 6) qo))) (XD.toV Zx))))) (qa (qb (XD.toE Ya))) qe)
   (q0 (qt (XW.toT (q3f (qZ (qx (XE.toV (xc c__law_whole hr (Zv (XE.toD (Z2 (vV 6) (XD.toV Zx))) Zz))))) (q3r (qhY (XE.toV (Z2 (vV 6) (XD.toV Zx))) (vV 5))))) (qa (qb (XD.toE Ya))) qe)
   (q0 (qg (i:=5) qR.nd rfl (Or.inr rfl) (XD.toE (XE.toD (Z2 (vV 6) (XD.toV Zx)))))
   (q0 (q1E (i:=7) rfl qR.nd rfl rfl (blk ["gap"] ["ahead"] [5] rfl ⋯ ⋯ rfl ⟨⟨rfl,(by first|exact Or.inl rfl|exact Or.inr rfl),rfl⟩,trivial⟩) (qv (XE.toD (xc c_gaps hr (Zv (vD 0) (Zv (vD 1) (Zv (vD 2) Zz)))))) (qz 0) (λ_ _ _ _=>⟨(qd (i:=0) (show ((["gap"]:List Str)++(["ahead"]:List Str):List Str).Nodup from by decide +kernel) rfl (Or.inl rfl)),(q32 (q5L (XE.toV (q16 (XE.toV (Z2 (vV 0) (XD.toV Zx))) (XE.toV (Z2 (vV 0) (XD.toV Zx))))) (vV 1))),(vD 0)⟩))
   (q0m 7 (q0 (qg (i:=8) qR.nd rfl (Or.inl rfl) (XD.toE (XE.toD (qp (XE.toV (xc c_knots hr (Zv (vD 0) (Zv (vD 1) (Zv (vD 2) Zz))))) (vV 7)))))
   (qa (qt (qZ (qx (XE.toV (xc c__law_is_parted hr (Zv (vD 4) (Zv (vD 8) (Zv (XE.toD (Z2 (vV 6) (XD.toV Zx))) Zz))))))) (qa (qb (XD.toE Ya))) qe)))))))))
   (qa (qb (XD.toE Ya))))))))
 exact h
noncomputable def q4q:FX:=(zAj yNo (sIf (Yb (Yv (vOf (XQ .lst (vOf (Zy 3)))))) (YR (eOf (fC (.bl false)))) Yc) (Yt q0v (Zw (dOf (Zy 0)) (Zw (dOf (Zy 1)) (Zw (dOf (Zy 2)) Z3)))))
noncomputable def q6T:List D->Option Str:=λds=>q4q (entry 9 ds)
theorem q6R{f_stops:vC}{d_stops:vH}{f__law_whole:vC}{d__law_whole:vH}{f_gaps:vC}{d_gaps:vH}{f_knots:vC}{d_knots:vH}{f__law_is_parted:vC}{d__law_is_parted:vH}(F:Fun K "_law_are_levels" "_law_are_levels" q1d f fd)(c_stops:Cal P w K mg base 5 f_stops d_stops "stops" ["home", "last", "boxes"] 3 q0r)(Gx_stops:FnOk P w K mg base (CXe P w) 5 f_stops d_stops ["home", "last", "boxes"] (spX K 3 q0v))(c__law_whole:Cal P w K mg base 1 f__law_whole d__law_whole "_law_whole" ["found"] 1 q0h)(c_gaps:Cal P w K mg base 6 f_gaps d_gaps "gaps" ["home", "last", "boxes"] 3 q07)(c_knots:Cal P w K mg base 8 f_knots d_knots "knots" ["home", "last", "boxes"] 3 q0H)(c__law_is_parted:Cal P w K mg base 2 f__law_is_parted d__law_is_parted "_law_is_parted" ["places", "ties", "parts"] 3 qJ)(z_isinstance:mg "isinstance" = none)(z_list:mg "list" = none)(z_len:mg "len" = none)(z_tuple:mg "tuple" = none)(i_list:IsT K .lst)(i_tuple:IsT K .tup):
  FnOk P w K mg base (CXe P w) 9 f fd ["home", "last", "boxes", "rows"] (spX K 4 q6T):=by
 have h:=fnX (P:=P) (w:=w) (mg:=mg) (base:=base) (k:=8) (gb:=q4q) F qR (λcdv A outer s H E hr=>
   (q46 q8s (XS.lift (qt (qZ (qx (XE.toV (qI (vV 3) i_list rfl z_isinstance rfl z_list qQ)))) (qa (qb (XD.toE Ya))) qe)) (q0l (q60 (i:=4) qR.nd rfl (Or.inl rfl) (q0Q Gx_stops (hr.mono (by decide)) rfl c_stops.2.1 c_stops.2.2.1 c_stops.2.2.2 XC (Zv (vD 0) (Zv (vD 1) (Zv (vD 2) Zz))))))))
 exact h
noncomputable def q2D:FS:=(Z8 (YM 2 (eOf (dOf (Z0 oMod (vOf (Z0 oDiv (vOf (Zy 1)) (fC (.int 7)))) (vOf (Yg Y7 (Zw (vOf (Zy 0)) Z3)))))))
  (Z8 (YM 3 (eOf (dOf (Z0 oIx (vOf (Zy 0)) (vOf (Zy 2))))))
  (Z8 (sIf (tOf (Z0 (oEq false) (vOf (Z0 oMod (vOf (Zy 1)) (fC (.int 7)))) (fC (.int 0)))) (YM 3 (eOf (dOf (fSl (vOf (Zy 3)) (pAt (fC (.int 1))) pNo)))) Yc)
  (Z8 (sIf (tOf (Z0 (oEq false) (vOf (Z0 oMod (vOf (Zy 1)) (fC (.int 7)))) (fC (.int 1)))) (YM 3 (eOf (dOf (Z0 YL (vOf (Zy 3)) (vOf (Yj (Zw (dOf (Z0 oIx (vOf (Zy 3)) (fC (.int 0)))) Z3))))))) Yc)
  (Z8 (sIf (tOf (Z0 (oEq false) (vOf (Z0 oMod (vOf (Zy 1)) (fC (.int 7)))) (fC (.int 2)))) (YM 3 (eOf (dOf (Z0 YL (vOf (Zy 3)) (vOf (Yj (Zw (dOf (Z6 q0P (Zw (dOf (Z0 oDiv (vOf (Zy 1)) (fC (.int 7)))) Z3))) Z3))))))) Yc)
  (Z8 (sIf (tOf (Z0 (oEq false) (vOf (Z0 oMod (vOf (Zy 1)) (fC (.int 7)))) (fC (.int 3)))) (YM 3 (eOf (dOf (Z0 YL (vOf (Yj (Zw (dOf (Z6 q02 (Zw (dOf (Z0 oDiv (vOf (Zy 1)) (fC (.int 7)))) Z3))) Z3))) (vOf (fSl (vOf (Zy 3)) (pAt (fC (.int 1))) pNo)))))) Yc)
  (Z8 (sIf (tOf (Z0 (oEq false) (vOf (Z0 oMod (vOf (Zy 1)) (fC (.int 7)))) (fC (.int 4)))) (YR (Z0 YL (vOf (Z0 YL (vOf (fSl (vOf (Zy 0)) pNo (pAt (vOf (Zy 2))))) (vOf (Yj (Zw (dOf (Z6 q02 (Zw (dOf (Z0 oDiv (vOf (Zy 1)) (fC (.int 7)))) Z3))) Z3))))) (vOf (fSl (vOf (Zy 0)) (pAt (vOf (Z0 YL (vOf (Zy 2)) (fC (.int 1))))) pNo)))) Yc)
  (Z8 (sIf (tOf (Z0 (oEq false) (vOf (Z0 oMod (vOf (Zy 1)) (fC (.int 7)))) (fC (.int 5)))) (YR (Z0 YL (vOf (Z0 YL (vOf (fSl (vOf (Zy 0)) pNo (pAt (vOf (Zy 2))))) (vOf (Yj (Zw (dOf (fSl (vOf (Zy 3)) pNo (pAt (fC (.int 1))))) (Zw (dOf (fSl (vOf (Zy 3)) (pAt (fC (.int 1))) pNo)) Z3)))))) (vOf (fSl (vOf (Zy 0)) (pAt (vOf (Z0 YL (vOf (Zy 2)) (fC (.int 1))))) pNo)))) Yc)
  (Z8 (sIf (tOf (Z0 (oEq false) (vOf (Z0 oMod (vOf (Zy 1)) (fC (.int 7)))) (fC (.int 6)))) (YR (Z0 YL (vOf (Z0 YL (vOf (fSl (vOf (Zy 0)) pNo (pAt (vOf (Zy 2))))) (vOf (Yj (Zw (dOf (Yj Z3)) Z3))))) (vOf (fSl (vOf (Zy 0)) (pAt (vOf (Zy 2))) pNo)))) Yc)
  (YR (Z0 YL (vOf (Z0 YL (vOf (fSl (vOf (Zy 0)) pNo (pAt (vOf (Zy 2))))) (vOf (Yj (Zw (dOf (Zy 3)) Z3))))) (vOf (fSl (vOf (Zy 0)) (pAt (vOf (Z0 YL (vOf (Zy 2)) (fC (.int 1))))) pNo)))))))))))))
noncomputable def q0D:List D->Option O:=mir 4 q2D
noncomputable abbrev q2A:vf:=top 50
theorem q0f:FnScope ["parts", "cell", "k", "part"] ["parts", "cell"] (Z1 q2A):=⟨rfl,rfl,rfl,⋯,rfl,⋯,⋯⟩
theorem q6S{f__law_place:vC}{d__law_place:vH}{f__law_odd:vC}{d__law_odd:vH}(F:Fun K "_law_bent_parts" "_law_bent_parts" q2A f fd)(c__law_place:Cal P w K mg base 1 f__law_place d__law_place "_law_place" ["cell"] 1 q0P)(c__law_odd:Cal P w K mg base 1 f__law_odd d__law_odd "_law_odd" ["cell"] 1 q02)(z_len:mg "len" = none):
  FnOk P w K mg base CX0 2 f fd ["parts", "cell"] (spD K 2 q0D):=by
 have h:=fnD (P:=P) (w:=w) (mg:=mg) (base:=base) (k:=1) (body:=q2D) F q0f (λcdv A outer s H E hr=>
   (q0 (qg (i:=2) q0f.nd rfl (Or.inl rfl) (XD.toE (XE.toD (qu (XE.toV (qy (vV 1) (XD.toV Zx))) (XE.toV (qL qw q0d rfl z_len q0e (qi (vV 0) qo)))))))
   (q0 (qg (i:=3) q0f.nd rfl (Or.inl rfl) (XD.toE (XE.toD (Z2 (vV 0) (vV 2)))))
   (q0 (qt (Ye hr.units (XE.toV (qu (vV 1) (XD.toV Zx))) (XD.toV Zx)) (qa (qg (i:=3) q0f.nd rfl (Or.inl rfl) (XD.toE (XE.toD (Z7 (vV 3) (YC (XD.toV Zx)) YG))))) qe)
   (q0 (qt (Ye hr.units (XE.toV (qu (vV 1) (XD.toV Zx))) (XD.toV Zx)) (qa (qg (i:=3) q0f.nd rfl (Or.inl rfl) (XD.toE (XE.toD (qp (vV 3) (XE.toV (Z9 (Zv (XE.toD (Z2 (vV 3) (XD.toV Zx))) Zz)))))))) qe)
   (q0 (qt (Ye hr.units (XE.toV (qu (vV 1) (XD.toV Zx))) (XD.toV Zx)) (qa (qg (i:=3) q0f.nd rfl (Or.inl rfl) (XD.toE (XE.toD (qp (vV 3) (XE.toV (Z9 (Zv (XE.toD (xc c__law_place hr (Zv (XE.toD (qy (vV 1) (XD.toV Zx))) Zz))) Zz)))))))) qe)
   (q0 (qt (Ye hr.units (XE.toV (qu (vV 1) (XD.toV Zx))) (XD.toV Zx)) (qa (qg (i:=3) q0f.nd rfl (Or.inl rfl) (XD.toE (XE.toD (qp (XE.toV (Z9 (Zv (XE.toD (xc c__law_odd hr (Zv (XE.toD (qy (vV 1) (XD.toV Zx))) Zz))) Zz))) (XE.toV (Z7 (vV 3) (YC (XD.toV Zx)) YG))))))) qe)
   (q0 (qt (Ye hr.units (XE.toV (qu (vV 1) (XD.toV Zx))) (XD.toV Zx)) (qa (qb (qp (XE.toV (qp (XE.toV (Z7 (vV 0) YG (YC (vV 2)))) (XE.toV (Z9 (Zv (XE.toD (xc c__law_odd hr (Zv (XE.toD (qy (vV 1) (XD.toV Zx))) Zz))) Zz))))) (XE.toV (Z7 (vV 0) (YC (XE.toV (qp (vV 2) (XD.toV Zx)))) YG))))) qe)
   (q0 (qt (Ye hr.units (XE.toV (qu (vV 1) (XD.toV Zx))) (XD.toV Zx)) (qa (qb (qp (XE.toV (qp (XE.toV (Z7 (vV 0) YG (YC (vV 2)))) (XE.toV (Z9 (Zv (XE.toD (Z7 (vV 3) YG (YC (XD.toV Zx)))) (Zv (XE.toD (Z7 (vV 3) (YC (XD.toV Zx)) YG)) Zz)))))) (XE.toV (Z7 (vV 0) (YC (XE.toV (qp (vV 2) (XD.toV Zx)))) YG))))) qe)
   (q0 (qt (Ye hr.units (XE.toV (qu (vV 1) (XD.toV Zx))) (XD.toV Zx)) (qa (qb (qp (XE.toV (qp (XE.toV (Z7 (vV 0) YG (YC (vV 2)))) (XE.toV (Z9 (Zv (XE.toD (Z9 Zz)) Zz))))) (XE.toV (Z7 (vV 0) (YC (vV 2)) YG))))) qe)
   (qa (qb (qp (XE.toV (qp (XE.toV (Z7 (vV 0) YG (YC (vV 2)))) (XE.toV (Z9 (Zv (vD 3) Zz))))) (XE.toV (Z7 (vV 0) (YC (XE.toV (qp (vV 2) (XD.toV Zx)))) YG)))))))))))))))
 exact h
noncomputable def q1J:FS:=(Z8 (YM 2 (eOf (dOf (Z0 oMod (vOf (Z0 oDiv (vOf (Zy 1)) (fC (.int 5)))) (vOf (Yg Y7 (Zw (vOf (Zy 0)) Z3)))))))
  (Z8 (sAsg (dOf (Z0 oIx (vOf (Zy 0)) (vOf (Zy 2)))) (gT 2 (YD (gN 3) (YD (gN 4) Ym))))
  (Z8 (YM 5 (eOf (Yp (Zw (dOf (Zy 3)) (Zw (dOf (Z6 q0D (Zw (dOf (Zy 4)) (Zw (dOf (Z0 oDiv (vOf (Zy 1)) (fC (.int 30)))) Z3)))) Z3)))))
  (Z8 (sIf (tOf (Z0 (oEq false) (vOf (Z0 oMod (vOf (Zy 1)) (fC (.int 5)))) (fC (.int 0)))) (YM 5 (eOf (Yp (Zw (dOf (Z6 q02 (Zw (dOf (Z0 oDiv (vOf (Zy 1)) (fC (.int 30)))) Z3))) (Zw (dOf (Zy 4)) Z3))))) Yc)
  (Z8 (sIf (tOf (Z0 (oEq false) (vOf (Z0 oMod (vOf (Zy 1)) (fC (.int 5)))) (fC (.int 1)))) (YM 5 (eOf (Yp (Zw (dOf (Z0 YL (vOf (Zy 3)) (vOf (Z0 oMod (vOf (Z0 oDiv (vOf (Zy 1)) (fC (.int 30)))) (vOf (Z0 oIx (vOf (Yj (Zw (fC (.int 20)) (Zw (fC (.int 2000)) (Zw (dOf (Z0 zAk (fC (.int 10)) (fC (.int 39)))) Z3))))) (vOf (Z0 oMod (vOf (Z0 oDiv (vOf (Zy 1)) (fC (.int 10)))) (fC (.int 3)))))))))) (Zw (dOf (Zy 4)) Z3))))) Yc)
  (Z8 (sIf (tOf (Z0 (oEq false) (vOf (Z0 oMod (vOf (Zy 1)) (fC (.int 5)))) (fC (.int 2)))) (YM 5 (eOf (dOf (Z0 oIx (vOf (Yj (Zw (Yp (Zw (dOf (Zy 3)) (Zw (dOf (Zy 4)) (Zw (fC (.int 0)) Z3)))) (Zw (dOf (Yj (Zw (dOf (Zy 3)) (Zw (dOf (Zy 4)) Z3)))) (Zw (Yp (Zw (dOf (Zy 3)) Z3)) (Zw (Yp (Zw (dOf (Z0 X0 (fC (.int 0)) (vOf (Zy 3)))) (Zw (dOf (Zy 4)) Z3))) (Zw (Yp (Zw (fC (.int 0)) (Zw (dOf (Zy 4)) Z3))) (Zw (Yp (Zw (dOf (Zy 3)) (Zw (dOf (Yg Y2 (Zw (vOf (Zy 4)) Z3))) Z3))) Z3)))))))) (vOf (Z0 oMod (vOf (Z0 oDiv (vOf (Zy 1)) (fC (.int 30)))) (fC (.int 6)))))))) Yc)
  (Z8 (sIf (tOf (Z0 (oEq false) (vOf (Z0 oMod (vOf (Zy 1)) (fC (.int 5)))) (fC (.int 3)))) (YM 5 (eOf (dOf (Z0 oIx (vOf (Yj (Zw (Yp (Zw (dOf (Zy 3)) (Zw (dOf (Z6 q02 (Zw (dOf (Z0 oDiv (vOf (Zy 1)) (fC (.int 60)))) Z3))) Z3))) (Zw (dOf (Z6 q02 (Zw (dOf (Z0 oDiv (vOf (Zy 1)) (fC (.int 60)))) Z3))) Z3)))) (vOf (Z0 oMod (vOf (Z0 oDiv (vOf (Zy 1)) (fC (.int 30)))) (fC (.int 2)))))))) Yc)
  (YR (Z0 YL (vOf (Z0 YL (vOf (fSl (vOf (Zy 0)) pNo (pAt (vOf (Zy 2))))) (vOf (Yj (Zw (dOf (Zy 5)) Z3))))) (vOf (fSl (vOf (Zy 0)) (pAt (vOf (Z0 YL (vOf (Zy 2)) (fC (.int 1))))) pNo)))))))))))
noncomputable def q0y:List D->Option O:=mir 6 q1J
noncomputable abbrev q1N:vf:=top 51
theorem qP:FnScope ["rows", "cell", "at", "t", "parts", "row"] ["rows", "cell"] (Z1 q1N):=⟨rfl,rfl,rfl,⋯,rfl,⋯,⋯⟩
theorem q6P{f__law_bent_parts:vC}{d__law_bent_parts:vH}{f__law_odd:vC}{d__law_odd:vH}(F:Fun K "_law_bent_levels" "_law_bent_levels" q1N f fd)(c__law_bent_parts:Cal P w K mg base 2 f__law_bent_parts d__law_bent_parts "_law_bent_parts" ["parts", "cell"] 2 q0D)(c__law_odd:Cal P w K mg base 1 f__law_odd d__law_odd "_law_odd" ["cell"] 1 q02)(z_len:mg "len" = none)(z_tuple:mg "tuple" = none):
  FnOk P w K mg base CX0 3 f fd ["rows", "cell"] (spD K 2 q0y):=by
 have h:=fnD (P:=P) (w:=w) (mg:=mg) (base:=base) (k:=2) (body:=q1J) F qP (λcdv A outer s H E hr=>
   (q0 (qg (i:=2) qP.nd rfl (Or.inl rfl) (XD.toE (XE.toD (qu (XE.toV (qy (vV 1) (XD.toV Zx))) (XE.toV (qL qw q0d rfl z_len q0e (qi (vV 0) qo)))))))
   (q0 (qer (XE.toD (Z2 (vV 0) (vV 2))) (q4h rfl (q06 (qd (i:=3) qP.nd rfl (Or.inl rfl)) (q06 (qd (i:=4) qP.nd rfl (Or.inl rfl)) q31))))
   (q0 (qg (i:=5) qP.nd rfl (Or.inl rfl) (XD.toE (YF (Zv (vD 3) (Zv (XE.toD (xc c__law_bent_parts hr (Zv (vD 4) (Zv (XE.toD (qy (vV 1) (XD.toV Zx))) Zz)))) Zz)))))
   (q0 (qt (Ye hr.units (XE.toV (qu (vV 1) (XD.toV Zx))) (XD.toV Zx)) (qa (qg (i:=5) qP.nd rfl (Or.inl rfl) (XD.toE (YF (Zv (XE.toD (xc c__law_odd hr (Zv (XE.toD (qy (vV 1) (XD.toV Zx))) Zz))) (Zv (vD 4) Zz)))))) qe)
   (q0 (qt (Ye hr.units (XE.toV (qu (vV 1) (XD.toV Zx))) (XD.toV Zx)) (qa (qg (i:=5) qP.nd rfl (Or.inl rfl) (XD.toE (YF (Zv (XE.toD (qp (vV 3) (XE.toV (qu (XE.toV (qy (vV 1) (XD.toV Zx))) (XE.toV (Z2 (XE.toV (Z9 (Zv Zx (Zv Zx (Zv (XE.toD (q8w (XD.toV Zx) (XD.toV Zx))) Zz))))) (XE.toV (qu (XE.toV (qy (vV 1) (XD.toV Zx))) (XD.toV Zx))))))))) (Zv (vD 4) Zz)))))) qe)
   (q0 (qt (Ye hr.units (XE.toV (qu (vV 1) (XD.toV Zx))) (XD.toV Zx)) (qa (qg (i:=5) qP.nd rfl (Or.inl rfl) (XD.toE (XE.toD (Z2 (XE.toV (Z9 (Zv (YF (Zv (vD 3) (Zv (vD 4) (Zv Zx Zz)))) (Zv (XE.toD (Z9 (Zv (vD 3) (Zv (vD 4) Zz)))) (Zv (YF (Zv (vD 3) Zz)) (Zv (YF (Zv (XE.toD (q16 (XD.toV Zx) (vV 3))) (Zv (vD 4) Zz))) (Zv (YF (Zv Zx (Zv (vD 4) Zz))) (Zv (YF (Zv (vD 3) (Zv (XE.toD (q1c q01 q0L rfl z_tuple qK (qi (vV 4) qo))) Zz))) Zz)))))))) (XE.toV (qu (XE.toV (qy (vV 1) (XD.toV Zx))) (XD.toV Zx)))))))) qe)
   (q0 (qt (Ye hr.units (XE.toV (qu (vV 1) (XD.toV Zx))) (XD.toV Zx)) (qa (qg (i:=5) qP.nd rfl (Or.inl rfl) (XD.toE (XE.toD (Z2 (XE.toV (Z9 (Zv (YF (Zv (vD 3) (Zv (XE.toD (xc c__law_odd hr (Zv (XE.toD (qy (vV 1) (XD.toV Zx))) Zz))) Zz))) (Zv (XE.toD (xc c__law_odd hr (Zv (XE.toD (qy (vV 1) (XD.toV Zx))) Zz))) Zz)))) (XE.toV (qu (XE.toV (qy (vV 1) (XD.toV Zx))) (XD.toV Zx)))))))) qe)
   (qa (qb (qp (XE.toV (qp (XE.toV (Z7 (vV 0) YG (YC (vV 2)))) (XE.toV (Z9 (Zv (vD 5) Zz))))) (XE.toV (Z7 (vV 0) (YC (XE.toV (qp (vV 2) (XD.toV Zx)))) YG)))))))))))))
 exact h
noncomputable def q1V:FS:=(Z8 (YM 3 (eOf (dOf (Z0 oIx (vOf (Zy 0)) (vOf (Zy 1))))))
  (Z8 (YM 4 (eOf (dOf (Z0 oMod (vOf (Z0 oDiv (vOf (Zy 2)) (fC (.int 5)))) (fC (.int 4))))))
  (Z8 (YM 5 (eOf (dOf (Z0 YL (vOf (Z0 YL (vOf (fSl (vOf (Zy 3)) pNo (pAt (vOf (Zy 4))))) (Yp (Zw (dOf (Z0 X0 (vOf (Z0 YL (vOf (Z0 oIx (vOf (Zy 3)) (vOf (Zy 4)))) (fC (.int 1)))) (vOf (Z0 X1 (vOf (Z0 oMod (vOf (Z0 oDiv (vOf (Zy 2)) (fC (.int 20)))) (fC (.int 2)))) (fC (.int 2)))))) Z3)))) (vOf (fSl (vOf (Zy 3)) (pAt (vOf (Z0 YL (vOf (Zy 4)) (fC (.int 1))))) pNo))))))
  (Z8 (sIf (XU (tOf (Z0 (oEq false) (vOf (Z0 oMod (vOf (Z0 oDiv (vOf (Zy 2)) (fC (.int 160)))) (fC (.int 2)))) (fC (.int 1)))) (tOf (Z0 (oIn false) (vOf (Z0 oIx (vOf (Zy 3)) (vOf (Zy 4)))) (Yp (Zw (fC (.int 0)) (Zw (fC (.int 1)) Z3)))))) (YM 5 (eOf (dOf (Z0 YL (vOf (Z0 YL (vOf (fSl (vOf (Zy 3)) pNo (pAt (vOf (Zy 4))))) (Yp (Zw (dOf (Z0 (oEq false) (vOf (Z0 oIx (vOf (Zy 3)) (vOf (Zy 4)))) (fC (.int 1)))) Z3)))) (vOf (fSl (vOf (Zy 3)) (pAt (vOf (Z0 YL (vOf (Zy 4)) (fC (.int 1))))) pNo)))))) Yc)
  (Z8 (YM 6 (eOf (dOf (Z0 oMod (vOf (Z0 oDiv (vOf (Zy 2)) (fC (.int 40)))) (vOf (Yg Y7 (Zw (vOf (Zy 0)) Z3)))))))
  (Z8 (sIf (XU (tOf (Z0 (oEq false) (vOf (Z0 oMod (vOf (Zy 2)) (fC (.int 5)))) (fC (.int 3)))) (tOf (Z0 (oEq true) (vOf (Zy 6)) (vOf (Zy 1))))) (YR (Z0 YL (vOf (Z0 YL (vOf (fSl (vOf (Zy 0)) pNo (pAt (vOf (Zy 1))))) (vOf (Yj (Zw (dOf (Z0 oIx (vOf (Zy 0)) (vOf (Zy 6)))) Z3))))) (vOf (fSl (vOf (Zy 0)) (pAt (vOf (Z0 YL (vOf (Zy 1)) (fC (.int 1))))) pNo)))) Yc)
  (Z8 (sIf (XU (tOf (Z0 (oEq false) (vOf (Z0 oMod (vOf (Zy 2)) (fC (.int 5)))) (fC (.int 4)))) (tOf (Z0 oGt (vOf (Yg Y7 (Zw (vOf (Zy 0)) Z3))) (fC (.int 1))))) (YR (fRev (vOf (Zy 0)))) Yc)
  (Z8 (YM 7 (eOf (dOf (Z0 oIx (vOf (Yj (Zw (dOf (Zy 5)) (Zw (dOf (Z0 oIx (vOf (Yj (Zw (dOf (fSl (vOf (Zy 3)) pNo (pAt (fC (.int 3))))) (Zw (dOf (Z0 YL (vOf (Zy 3)) (Yp (Zw (fC (.int 0)) Z3)))) (Zw (dOf (Yg Xb (Zw (vOf (Zy 3)) Z3))) Z3))))) (vOf (Z0 oMod (vOf (Zy 4)) (fC (.int 3)))))) (Zw (dOf (Z6 q02 (Zw (dOf (Z0 oDiv (vOf (Zy 2)) (fC (.int 40)))) Z3))) (Zw (dOf (Zy 5)) (Zw (dOf (Zy 5)) Z3))))))) (vOf (Z0 oMod (vOf (Zy 2)) (fC (.int 5))))))))
  (YR (Z0 YL (vOf (Z0 YL (vOf (fSl (vOf (Zy 0)) pNo (pAt (vOf (Zy 1))))) (vOf (Yj (Zw (dOf (Zy 7)) Z3))))) (vOf (fSl (vOf (Zy 0)) (pAt (vOf (Z0 YL (vOf (Zy 1)) (fC (.int 1))))) pNo))))))))))))
noncomputable def q0z:List D->Option O:=mir 8 q1V
noncomputable abbrev q1O:vf:=top 52
theorem q08:FnScope ["counts", "at", "cell", "row", "k", "one", "other", "bent"] ["counts", "at", "cell"] (Z1 q1O):=⟨rfl,rfl,rfl,⋯,rfl,⋯,⋯⟩
theorem q6Q{f__law_odd:vC}{d__law_odd:vH}(F:Fun K "_law_bent_counts" "_law_bent_counts" q1O f fd)(c__law_odd:Cal P w K mg base 1 f__law_odd d__law_odd "_law_odd" ["cell"] 1 q02)(z_len:mg "len" = none)(z_list:mg "list" = none)(z_reversed:mg "reversed" = none):
  FnOk P w K mg base CX0 2 f fd ["counts", "at", "cell"] (spD K 3 q0z):=by
 have h:=fnD (P:=P) (w:=w) (mg:=mg) (base:=base) (k:=1) (body:=q1V) F q08 (λcdv A outer s H E hr=>
   (q0 (qg (i:=3) q08.nd rfl (Or.inl rfl) (XD.toE (XE.toD (Z2 (vV 0) (vV 1)))))
   (q0 (qg (i:=4) q08.nd rfl (Or.inl rfl) (XD.toE (XE.toD (qu (XE.toV (qy (vV 2) (XD.toV Zx))) (XD.toV Zx)))))
   (q0 (qg (i:=5) q08.nd rfl (Or.inl rfl) (XD.toE (XE.toD (qp (XE.toV (qp (XE.toV (Z7 (vV 3) YG (YC (vV 4)))) (XD.toV (YF (Zv (XE.toD (q16 (XE.toV (qp (XE.toV (Z2 (vV 3) (vV 4))) (XD.toV Zx))) (XE.toV (q69 (XE.toV (qu (XE.toV (qy (vV 2) (XD.toV Zx))) (XD.toV Zx))) (XD.toV Zx))))) Zz))))) (XE.toV (Z7 (vV 3) (YC (XE.toV (qp (vV 4) (XD.toV Zx)))) YG))))))
   (q0 (qt (XW.toT (q5A (Ye hr.units (XE.toV (qu (XE.toV (qy (vV 2) (XD.toV Zx))) (XD.toV Zx))) (XD.toV Zx)) (q3Z (xt_in (XE.toV (Z2 (vV 3) (vV 4))) (XD.toV (YF (Zv Zx (Zv Zx Zz)))))))) (qa (qg (i:=5) q08.nd rfl (Or.inl rfl) (XD.toE (XE.toD (qp (XE.toV (qp (XE.toV (Z7 (vV 3) YG (YC (vV 4)))) (XD.toV (YF (Zv (XE.toD (Xe hr.units (XE.toV (Z2 (vV 3) (vV 4))) (XD.toV Zx))) Zz))))) (XE.toV (Z7 (vV 3) (YC (XE.toV (qp (vV 4) (XD.toV Zx)))) YG))))))) qe)
   (q0 (qg (i:=6) q08.nd rfl (Or.inl rfl) (XD.toE (XE.toD (qu (XE.toV (qy (vV 2) (XD.toV Zx))) (XE.toV (qL qw q0d rfl z_len q0e (qi (vV 0) qo)))))))
   (q0 (qt (XW.toT (q5A (Ye hr.units (XE.toV (qu (vV 2) (XD.toV Zx))) (XD.toV Zx)) (q3Z (Xn hr.units (vV 6) (vV 1))))) (qa (qb (qp (XE.toV (qp (XE.toV (Z7 (vV 0) YG (YC (vV 1)))) (XE.toV (Z9 (Zv (XE.toD (Z2 (vV 0) (vV 6))) Zz))))) (XE.toV (Z7 (vV 0) (YC (XE.toV (qp (vV 1) (XD.toV Zx)))) YG))))) qe)
   (q0 (qt (XW.toT (q5A (Ye hr.units (XE.toV (qu (vV 2) (XD.toV Zx))) (XD.toV Zx)) (q3Z (qi9 (XE.toV (qL qw q0d rfl z_len q0e (qi (vV 0) qo))) (XD.toV Zx))))) (qa (qb (q8m rfl z_list rfl z_reversed (vV 0)))) qe)
   (q0 (qg (i:=7) q08.nd rfl (Or.inl rfl) (XD.toE (XE.toD (Z2 (XE.toV (Z9 (Zv (vD 5) (Zv (XE.toD (Z2 (XE.toV (Z9 (Zv (XE.toD (Z7 (vV 3) YG (YC (XD.toV Zx)))) (Zv (XE.toD (qp (vV 3) (XD.toV (YF (Zv Zx Zz))))) (Zv (XE.toD (q1c q1T q63 rfl z_list qQ (qi (vV 3) qo))) Zz))))) (XE.toV (qu (vV 4) (XD.toV Zx))))) (Zv (XE.toD (xc c__law_odd hr (Zv (XE.toD (qy (vV 2) (XD.toV Zx))) Zz))) (Zv (vD 5) (Zv (vD 5) Zz))))))) (XE.toV (qu (vV 2) (XD.toV Zx)))))))
   (qa (qb (qp (XE.toV (qp (XE.toV (Z7 (vV 0) YG (YC (vV 1)))) (XE.toV (Z9 (Zv (vD 7) Zz))))) (XE.toV (Z7 (vV 0) (YC (XE.toV (qp (vV 1) (XD.toV Zx)))) YG))))))))))))))
 exact h
noncomputable def q2r(mc:List D->Option O):FD:=(dOf (Z6 mc (Zw (dOf (Zy 0)) Z3)))
noncomputable def q68(mc:List D->Option O):FD:=(dOf (Z6 mc (Zw (dOf (Zy 0)) Z3)))
noncomputable def q00(mc:List D->Option O):FS:=(Z8 (sIf (Yv (vOf (XQ .lst (vOf (Zy 0))))) (YR (YY 1 [] (Ys (dOf (Zy 0))) (gN 0) YX (q2r mc))) Yc)
  (Z8 (sIf (Yv (vOf (XQ .tup (vOf (Zy 0))))) (YR (Yg Y2 (Zw (vOf (YY 1 [] (Ys (dOf (Zy 0))) (gN 0) YX (q68 mc))) Z3))) Yc)
  (YR (Zy 0))))
noncomputable def qc:Nat->List D->Option O
 | 0=>λ_=>none
 | j+1=>mir 1 (q00 (qc j))
noncomputable abbrev q2M:List D->Option O:=qc 8
noncomputable abbrev q0a:vf:=top 53
theorem q0u:FnScope ["thing"] ["thing"] (Z1 q0a):=⟨rfl,rfl,rfl,⋯,rfl,⋯,⋯⟩
theorem q8y (F:Fun K "_law_copied" "_law_copied" q0a f fd)(c__law_copied:Cal P w K mg base 0 f fd "_law_copied" ["thing"] 1 (qc 0))(z_isinstance:mg "isinstance" = none)(z_list:mg "list" = none)(z_tuple:mg "tuple" = none)(i_list:IsT K .lst)(i_tuple:IsT K .tup):
  FnOk P w K mg base CX0 1 f fd ["thing"] (spD K 1 (qc 1)):=by
 have h:=fnD (P:=P) (w:=w) (mg:=mg) (base:=base) (k:=0) (body:=q00 (qc 0)) F q0u (λcdv A outer s H E hr=>
   (q0 (qt (qx (XE.toV (qI (vV 0) i_list rfl z_isinstance rfl z_list qQ))) (qa (qb (qG rfl (blk ["one"] [] [] rfl ⋯ ⋯ rfl trivial) (qv (vD 0)) (qz 0) (λ_ _ _ _=>⟨(qd (i:=0) (show ((["one"]:List Str)++([]:List Str):List Str).Nodup from by decide +kernel) rfl (Or.inl rfl)),qE,(XE.toD (xc c__law_copied hr (Zv (vD 0) Zz)))⟩)))) qe)
   (q0 (qt (qx (XE.toV (qI (vV 0) i_tuple rfl z_isinstance rfl z_tuple qK))) (qa (qb (q1c q01 q0L rfl z_tuple qK (qi (XE.toV (qG rfl (blk ["one"] [] [] rfl ⋯ ⋯ rfl trivial) (qv (vD 0)) (qz 0) (λ_ _ _ _=>⟨(qd (i:=0) (show ((["one"]:List Str)++([]:List Str):List Str).Nodup from by decide +kernel) rfl (Or.inl rfl)),qE,(XE.toD (xc c__law_copied hr (Zv (vD 0) Zz)))⟩))) qo)))) qe)
   (qa (qb (vE 0))))))
 exact h
theorem q8K (F:Fun K "_law_copied" "_law_copied" q0a f fd)(c__law_copied:Cal P w K mg base 1 f fd "_law_copied" ["thing"] 1 (qc 1))(z_isinstance:mg "isinstance" = none)(z_list:mg "list" = none)(z_tuple:mg "tuple" = none)(i_list:IsT K .lst)(i_tuple:IsT K .tup):
  FnOk P w K mg base CX0 2 f fd ["thing"] (spD K 1 (qc 2)):=by
 have h:=fnD (P:=P) (w:=w) (mg:=mg) (base:=base) (k:=1) (body:=q00 (qc 1)) F q0u (λcdv A outer s H E hr=>
   (q0 (qt (qx (XE.toV (qI (vV 0) i_list rfl z_isinstance rfl z_list qQ))) (qa (qb (qG rfl (blk ["one"] [] [] rfl ⋯ ⋯ rfl trivial) (qv (vD 0)) (qz 0) (λ_ _ _ _=>⟨(qd (i:=0) (show ((["one"]:List Str)++([]:List Str):List Str).Nodup from by decide +kernel) rfl (Or.inl rfl)),qE,(XE.toD (xc c__law_copied hr (Zv (vD 0) Zz)))⟩)))) qe)
   (q0 (qt (qx (XE.toV (qI (vV 0) i_tuple rfl z_isinstance rfl z_tuple qK))) (qa (qb (q1c q01 q0L rfl z_tuple qK (qi (XE.toV (qG rfl (blk ["one"] [] [] rfl ⋯ ⋯ rfl trivial) (qv (vD 0)) (qz 0) (λ_ _ _ _=>⟨(qd (i:=0) (show ((["one"]:List Str)++([]:List Str):List Str).Nodup from by decide +kernel) rfl (Or.inl rfl)),qE,(XE.toD (xc c__law_copied hr (Zv (vD 0) Zz)))⟩))) qo)))) qe)
   (qa (qb (vE 0))))))
 exact h
theorem q8A (F:Fun K "_law_copied" "_law_copied" q0a f fd)(c__law_copied:Cal P w K mg base 2 f fd "_law_copied" ["thing"] 1 (qc 2))(z_isinstance:mg "isinstance" = none)(z_list:mg "list" = none)(z_tuple:mg "tuple" = none)(i_list:IsT K .lst)(i_tuple:IsT K .tup):
  FnOk P w K mg base CX0 3 f fd ["thing"] (spD K 1 (qc 3)):=by
 have h:=fnD (P:=P) (w:=w) (mg:=mg) (base:=base) (k:=2) (body:=q00 (qc 2)) F q0u (λcdv A outer s H E hr=>
   (q0 (qt (qx (XE.toV (qI (vV 0) i_list rfl z_isinstance rfl z_list qQ))) (qa (qb (qG rfl (blk ["one"] [] [] rfl ⋯ ⋯ rfl trivial) (qv (vD 0)) (qz 0) (λ_ _ _ _=>⟨(qd (i:=0) (show ((["one"]:List Str)++([]:List Str):List Str).Nodup from by decide +kernel) rfl (Or.inl rfl)),qE,(XE.toD (xc c__law_copied hr (Zv (vD 0) Zz)))⟩)))) qe)
   (q0 (qt (qx (XE.toV (qI (vV 0) i_tuple rfl z_isinstance rfl z_tuple qK))) (qa (qb (q1c q01 q0L rfl z_tuple qK (qi (XE.toV (qG rfl (blk ["one"] [] [] rfl ⋯ ⋯ rfl trivial) (qv (vD 0)) (qz 0) (λ_ _ _ _=>⟨(qd (i:=0) (show ((["one"]:List Str)++([]:List Str):List Str).Nodup from by decide +kernel) rfl (Or.inl rfl)),qE,(XE.toD (xc c__law_copied hr (Zv (vD 0) Zz)))⟩))) qo)))) qe)
   (qa (qb (vE 0))))))
 exact h
theorem q8P (F:Fun K "_law_copied" "_law_copied" q0a f fd)(c__law_copied:Cal P w K mg base 3 f fd "_law_copied" ["thing"] 1 (qc 3))(z_isinstance:mg "isinstance" = none)(z_list:mg "list" = none)(z_tuple:mg "tuple" = none)(i_list:IsT K .lst)(i_tuple:IsT K .tup):
  FnOk P w K mg base CX0 4 f fd ["thing"] (spD K 1 (qc 4)):=by
 have h:=fnD (P:=P) (w:=w) (mg:=mg) (base:=base) (k:=3) (body:=q00 (qc 3)) F q0u (λcdv A outer s H E hr=>
   (q0 (qt (qx (XE.toV (qI (vV 0) i_list rfl z_isinstance rfl z_list qQ))) (qa (qb (qG rfl (blk ["one"] [] [] rfl ⋯ ⋯ rfl trivial) (qv (vD 0)) (qz 0) (λ_ _ _ _=>⟨(qd (i:=0) (show ((["one"]:List Str)++([]:List Str):List Str).Nodup from by decide +kernel) rfl (Or.inl rfl)),qE,(XE.toD (xc c__law_copied hr (Zv (vD 0) Zz)))⟩)))) qe)
   (q0 (qt (qx (XE.toV (qI (vV 0) i_tuple rfl z_isinstance rfl z_tuple qK))) (qa (qb (q1c q01 q0L rfl z_tuple qK (qi (XE.toV (qG rfl (blk ["one"] [] [] rfl ⋯ ⋯ rfl trivial) (qv (vD 0)) (qz 0) (λ_ _ _ _=>⟨(qd (i:=0) (show ((["one"]:List Str)++([]:List Str):List Str).Nodup from by decide +kernel) rfl (Or.inl rfl)),qE,(XE.toD (xc c__law_copied hr (Zv (vD 0) Zz)))⟩))) qo)))) qe)
   (qa (qb (vE 0))))))
 exact h
theorem q8Z (F:Fun K "_law_copied" "_law_copied" q0a f fd)(c__law_copied:Cal P w K mg base 4 f fd "_law_copied" ["thing"] 1 (qc 4))(z_isinstance:mg "isinstance" = none)(z_list:mg "list" = none)(z_tuple:mg "tuple" = none)(i_list:IsT K .lst)(i_tuple:IsT K .tup):
  FnOk P w K mg base CX0 5 f fd ["thing"] (spD K 1 (qc 5)):=by
 have h:=fnD (P:=P) (w:=w) (mg:=mg) (base:=base) (k:=4) (body:=q00 (qc 4)) F q0u (λcdv A outer s H E hr=>
   (q0 (qt (qx (XE.toV (qI (vV 0) i_list rfl z_isinstance rfl z_list qQ))) (qa (qb (qG rfl (blk ["one"] [] [] rfl ⋯ ⋯ rfl trivial) (qv (vD 0)) (qz 0) (λ_ _ _ _=>⟨(qd (i:=0) (show ((["one"]:List Str)++([]:List Str):List Str).Nodup from by decide +kernel) rfl (Or.inl rfl)),qE,(XE.toD (xc c__law_copied hr (Zv (vD 0) Zz)))⟩)))) qe)
   (q0 (qt (qx (XE.toV (qI (vV 0) i_tuple rfl z_isinstance rfl z_tuple qK))) (qa (qb (q1c q01 q0L rfl z_tuple qK (qi (XE.toV (qG rfl (blk ["one"] [] [] rfl ⋯ ⋯ rfl trivial) (qv (vD 0)) (qz 0) (λ_ _ _ _=>⟨(qd (i:=0) (show ((["one"]:List Str)++([]:List Str):List Str).Nodup from by decide +kernel) rfl (Or.inl rfl)),qE,(XE.toD (xc c__law_copied hr (Zv (vD 0) Zz)))⟩))) qo)))) qe)
   (qa (qb (vE 0))))))
 exact h
theorem q8p (F:Fun K "_law_copied" "_law_copied" q0a f fd)(c__law_copied:Cal P w K mg base 5 f fd "_law_copied" ["thing"] 1 (qc 5))(z_isinstance:mg "isinstance" = none)(z_list:mg "list" = none)(z_tuple:mg "tuple" = none)(i_list:IsT K .lst)(i_tuple:IsT K .tup):
  FnOk P w K mg base CX0 6 f fd ["thing"] (spD K 1 (qc 6)):=by
 have h:=fnD (P:=P) (w:=w) (mg:=mg) (base:=base) (k:=5) (body:=q00 (qc 5)) F q0u (λcdv A outer s H E hr=>
   (q0 (qt (qx (XE.toV (qI (vV 0) i_list rfl z_isinstance rfl z_list qQ))) (qa (qb (qG rfl (blk ["one"] [] [] rfl ⋯ ⋯ rfl trivial) (qv (vD 0)) (qz 0) (λ_ _ _ _=>⟨(qd (i:=0) (show ((["one"]:List Str)++([]:List Str):List Str).Nodup from by decide +kernel) rfl (Or.inl rfl)),qE,(XE.toD (xc c__law_copied hr (Zv (vD 0) Zz)))⟩)))) qe)
   (q0 (qt (qx (XE.toV (qI (vV 0) i_tuple rfl z_isinstance rfl z_tuple qK))) (qa (qb (q1c q01 q0L rfl z_tuple qK (qi (XE.toV (qG rfl (blk ["one"] [] [] rfl ⋯ ⋯ rfl trivial) (qv (vD 0)) (qz 0) (λ_ _ _ _=>⟨(qd (i:=0) (show ((["one"]:List Str)++([]:List Str):List Str).Nodup from by decide +kernel) rfl (Or.inl rfl)),qE,(XE.toD (xc c__law_copied hr (Zv (vD 0) Zz)))⟩))) qo)))) qe)
   (qa (qb (vE 0))))))
 exact h
theorem q8J (F:Fun K "_law_copied" "_law_copied" q0a f fd)(c__law_copied:Cal P w K mg base 6 f fd "_law_copied" ["thing"] 1 (qc 6))(z_isinstance:mg "isinstance" = none)(z_list:mg "list" = none)(z_tuple:mg "tuple" = none)(i_list:IsT K .lst)(i_tuple:IsT K .tup):
  FnOk P w K mg base CX0 7 f fd ["thing"] (spD K 1 (qc 7)):=by
 have h:=fnD (P:=P) (w:=w) (mg:=mg) (base:=base) (k:=6) (body:=q00 (qc 6)) F q0u (λcdv A outer s H E hr=>
   (q0 (qt (qx (XE.toV (qI (vV 0) i_list rfl z_isinstance rfl z_list qQ))) (qa (qb (qG rfl (blk ["one"] [] [] rfl ⋯ ⋯ rfl trivial) (qv (vD 0)) (qz 0) (λ_ _ _ _=>⟨(qd (i:=0) (show ((["one"]:List Str)++([]:List Str):List Str).Nodup from by decide +kernel) rfl (Or.inl rfl)),qE,(XE.toD (xc c__law_copied hr (Zv (vD 0) Zz)))⟩)))) qe)
   (q0 (qt (qx (XE.toV (qI (vV 0) i_tuple rfl z_isinstance rfl z_tuple qK))) (qa (qb (q1c q01 q0L rfl z_tuple qK (qi (XE.toV (qG rfl (blk ["one"] [] [] rfl ⋯ ⋯ rfl trivial) (qv (vD 0)) (qz 0) (λ_ _ _ _=>⟨(qd (i:=0) (show ((["one"]:List Str)++([]:List Str):List Str).Nodup from by decide +kernel) rfl (Or.inl rfl)),qE,(XE.toD (xc c__law_copied hr (Zv (vD 0) Zz)))⟩))) qo)))) qe)
   (qa (qb (vE 0))))))
 exact h
theorem q8r (F:Fun K "_law_copied" "_law_copied" q0a f fd)(c__law_copied:Cal P w K mg base 7 f fd "_law_copied" ["thing"] 1 (qc 7))(z_isinstance:mg "isinstance" = none)(z_list:mg "list" = none)(z_tuple:mg "tuple" = none)(i_list:IsT K .lst)(i_tuple:IsT K .tup):
  FnOk P w K mg base CX0 8 f fd ["thing"] (spD K 1 (qc 8)):=by
 have h:=fnD (P:=P) (w:=w) (mg:=mg) (base:=base) (k:=7) (body:=q00 (qc 7)) F q0u (λcdv A outer s H E hr=>
   (q0 (qt (qx (XE.toV (qI (vV 0) i_list rfl z_isinstance rfl z_list qQ))) (qa (qb (qG rfl (blk ["one"] [] [] rfl ⋯ ⋯ rfl trivial) (qv (vD 0)) (qz 0) (λ_ _ _ _=>⟨(qd (i:=0) (show ((["one"]:List Str)++([]:List Str):List Str).Nodup from by decide +kernel) rfl (Or.inl rfl)),qE,(XE.toD (xc c__law_copied hr (Zv (vD 0) Zz)))⟩)))) qe)
   (q0 (qt (qx (XE.toV (qI (vV 0) i_tuple rfl z_isinstance rfl z_tuple qK))) (qa (qb (q1c q01 q0L rfl z_tuple qK (qi (XE.toV (qG rfl (blk ["one"] [] [] rfl ⋯ ⋯ rfl trivial) (qv (vD 0)) (qz 0) (λ_ _ _ _=>⟨(qd (i:=0) (show ((["one"]:List Str)++([]:List Str):List Str).Nodup from by decide +kernel) rfl (Or.inl rfl)),qE,(XE.toD (xc c__law_copied hr (Zv (vD 0) Zz)))⟩))) qo)))) qe)
   (qa (qb (vE 0))))))
 exact h
noncomputable def q28:FS:=(Wp (Z6 q2V (Zw (dOf (Zy 0)) (Zw (dOf (Zy 1)) (Zw (dOf (Zy 5)) (Zw (dOf (Zy 3)) Z3))))))
noncomputable def q0I:FX:=(Yt q4e (Zw (dOf (Zy 0)) (Zw (dOf (Zy 1)) (Zw (dOf (Zy 5)) (Zw (dOf (Zy 3)) Z3)))))
noncomputable def q22:FS:=(YM 8 (eOf (fC (.bl true))))
noncomputable def q4n:FS:=(Z8 (YM 5 (eOf (dOf (Yg Xb (Zw (vOf (Zy 2)) Z3)))))
  (Z8 (YM 6 (eOf (dOf (Z6 q2M (Zw (dOf (Zy 3)) Z3)))))
  (Z8 (YM 7 (eOf (dOf (Z6 qC (Zw (dOf (Zy 0)) (Zw (dOf (Zy 1)) (Zw (dOf (Zy 5)) (Zw (dOf (Zy 3)) Z3))))))))
  (Z8 (YM 8 (eOf (fC (.bl false))))
  (Z8 (Wl q28 q0I ["NoReason"] q22)
  (YR (eOf (Xd (dOf (XQ .bl (vOf (Zy 7)))) (Xd (dOf (Z0 (oEq false) (vOf (Zy 7)) (vOf (Zy 4)))) (Xd (dOf (Z0 (oEq true) (vOf (Zy 8)) (vOf (Zy 4)))) (Xd (dOf (Z0 (oEq false) (vOf (Zy 5)) (vOf (Zy 2)))) (dOf (Z0 (oEq false) (vOf (Zy 3)) (vOf (Zy 6)))))))))))))))
noncomputable def qU:List D->Option O:=mir 9 q4n
noncomputable abbrev q2J:vf:=top 54
theorem q09:FnScope ["home", "last", "boxes", "thing", "due", "handed", "kept", "found", "refused"] ["home", "last", "boxes", "thing", "due"] (Z1 q2J):=⟨rfl,rfl,rfl,⋯,rfl,⋯,⋯⟩
theorem q9j{f__law_copied:vC}{d__law_copied:vH}{f_is_reason:vC}{d_is_reason:vH}{f_weight:vC}{d_weight:vH}{A_NoReason:vC}(F:Fun K "_law_judged" "_law_judged" q2J f fd)(c__law_copied:Cal P w K mg base 8 f__law_copied d__law_copied "_law_copied" ["thing"] 1 q2M)(c_is_reason:Cal P w K mg base 10 f_is_reason d_is_reason "is_reason" ["home", "last", "boxes", "thing"] 4 qC)(Gx_is_reason:FnOk P w K mg base (CXe P w) 10 f_is_reason d_is_reason ["home", "last", "boxes", "thing"] (spX K 4 q3a))(c_weight:Cal P w K mg base 11 f_weight d_weight "weight" ["home", "last", "boxes", "thing"] 4 q2V)(Gx_weight:FnOk P w K mg base (CXe P w) 11 f_weight d_weight ["home", "last", "boxes", "thing"] (spX K 4 q4e))(e_NoReason:mg "NoReason" = some (.ref A_NoReason))(x_NoReason:ECls K "NoReason" A_NoReason)(w_NoReason:Xy K A_NoReason ["NoReason"])(z_list:mg "list" = none)(z_isinstance:mg "isinstance" = none)(z_bool:mg "bool" = none)(i_bool:IsT K .bl):
  FnOk P w K mg base CX0 12 f fd ["home", "last", "boxes", "thing", "due"] (spD K 5 qU):=by
 have h:=fnD (P:=P) (w:=w) (mg:=mg) (base:=base) (k:=11) (body:=q4n) F q09 (λcdv A outer s H E hr=>
   (q0 (qg (i:=5) q09.nd rfl (Or.inl rfl) (XD.toE (XE.toD (q1c q1T q63 rfl z_list qQ (qi (vV 2) qo)))))
   (q0 (qg (i:=6) q09.nd rfl (Or.inl rfl) (XD.toE (XE.toD (xc c__law_copied hr (Zv (vD 3) Zz)))))
   (q0 (qg (i:=7) q09.nd rfl (Or.inl rfl) (XD.toE (XE.toD (xc c_is_reason hr (Zv (vD 0) (Zv (vD 1) (Zv (vD 5) (Zv (vD 3) Zz))))))))
   (q0 (qg (i:=8) q09.nd rfl (Or.inl rfl) (XD.toE Ya))
   (q0 (qgo (cs:=["NoReason"]) rfl rfl rfl e_NoReason x_NoReason w_NoReason (qa (q98 (xc c_weight hr (Zv (vD 0) (Zv (vD 1) (Zv (vD 5) (Zv (vD 3) Zz))))))) (qf8 (qgv (qgn Gx_weight (hr.mono (by decide)) rfl c_weight.2.1 c_weight.2.2.1 c_weight.2.2.2 (Zv (vD 0) (Zv (vD 1) (Zv (vD 5) (Zv (vD 3) Zz))))))) (λ_=>(qa (qg (i:=8) q09.nd rfl (Or.inl rfl) (XD.toE Ya)))))
   (qa (qb (XD.toE (q0K (XE.toD (qI (vV 7) i_bool rfl z_isinstance rfl z_bool q9n)) (q0K (XE.toD (Xe hr.units (vV 7) (vV 4))) (q0K (XE.toD (xe_ne hr.units (vV 8) (vV 4))) (q0K (XE.toD (Xe hr.units (vV 5) (vV 2))) (q3y (XE.toD (Xe hr.units (vV 3) (vV 6)))))))))))))))))
 exact h
noncomputable def q6H:FX:=(zAj yNo (YM 5 (eOf (dOf (Yg Xb (Zw (vOf (Zy 2)) Z3))))) (zAj yNo (YM 6 (eOf (dOf (Z6 q2M (Zw (dOf (Zy 3)) Z3))))) (Yt q3a (Zw (dOf (Zy 0)) (Zw (dOf (Zy 1)) (Zw (dOf (Zy 5)) (Zw (dOf (Zy 3)) Z3)))))))
noncomputable def q6h:List D->Option Str:=λds=>q6H (entry 9 ds)
theorem q8G{f__law_copied:vC}{d__law_copied:vH}{f_is_reason:vC}{d_is_reason:vH}{f_weight:vC}{d_weight:vH}{A_NoReason:vC}(F:Fun K "_law_judged" "_law_judged" q2J f fd)(c__law_copied:Cal P w K mg base 8 f__law_copied d__law_copied "_law_copied" ["thing"] 1 q2M)(c_is_reason:Cal P w K mg base 10 f_is_reason d_is_reason "is_reason" ["home", "last", "boxes", "thing"] 4 qC)(Gx_is_reason:FnOk P w K mg base (CXe P w) 10 f_is_reason d_is_reason ["home", "last", "boxes", "thing"] (spX K 4 q3a))(c_weight:Cal P w K mg base 11 f_weight d_weight "weight" ["home", "last", "boxes", "thing"] 4 q2V)(Gx_weight:FnOk P w K mg base (CXe P w) 11 f_weight d_weight ["home", "last", "boxes", "thing"] (spX K 4 q4e))(e_NoReason:mg "NoReason" = some (.ref A_NoReason))(x_NoReason:ECls K "NoReason" A_NoReason)(w_NoReason:Xy K A_NoReason ["NoReason"])(z_list:mg "list" = none)(z_isinstance:mg "isinstance" = none)(z_bool:mg "bool" = none)(i_bool:IsT K .bl):
  FnOk P w K mg base (CXe P w) 12 f fd ["home", "last", "boxes", "thing", "due"] (spX K 5 q6h):=by
 have h:=fnX (P:=P) (w:=w) (mg:=mg) (base:=base) (k:=11) (gb:=q6H) F q09 (λcdv A outer s H E hr=>
   (q46 q8s (XS.lift (qg (i:=5) q09.nd rfl (Or.inl rfl) (XD.toE (XE.toD (q1c q1T q63 rfl z_list qQ (qi (vV 2) qo)))))) (q46 q8s (XS.lift (qg (i:=6) q09.nd rfl (Or.inl rfl) (XD.toE (XE.toD (xc c__law_copied hr (Zv (vD 3) Zz)))))) (q0l (q60 (i:=7) q09.nd rfl (Or.inl rfl) (q0Q Gx_is_reason (hr.mono (by decide)) rfl c_is_reason.2.1 c_is_reason.2.2.1 c_is_reason.2.2.2 XC (Zv (vD 0) (Zv (vD 1) (Zv (vD 5) (Zv (vD 3) Zz))))))))))
 exact h
noncomputable def qcV:FS:=(Z8 (sAsg (dOf (Z6 q1v (Zw (dOf (Zy 0)) (Zw (fC (.int 10)) Z3)))) (gT 3 (YD (gN 1) (YD (gN 2) (YD (gN 3) Ym)))))
  (Z8 (YM 4 (eOf (dOf (Z6 q1A (Zw (dOf (Zy 1)) (Zw (dOf (Zy 2)) (Zw (dOf (Zy 3)) Z3)))))))
  (Z8 (YM 5 (eOf (dOf (Z6 q1u (Zw (dOf (Zy 0)) (Zw (dOf (Zy 1)) (Zw (dOf (Zy 2)) (Zw (dOf (Zy 3)) Z3))))))))
  (Z8 (sIf (Yb (Yv (vOf (Z6 qU (Zw (dOf (Zy 1)) (Zw (dOf (Zy 2)) (Zw (dOf (Zy 3)) (Zw (Yp (Zw (dOf (Zy 4)) (Zw (dOf (Zy 5)) Z3))) (Zw (fC (.bl true)) Z3))))))))) (YR (eOf (fC (.bl false)))) Yc)
  (Z8 (YM 6 (eOf (dOf (Z6 qH (Zw (dOf (Zy 0)) (Zw (fC (.int 20)) Z3))))))
  (Z8 (YM 7 (eOf (dOf (Z0 oMod (vOf (Z6 qH (Zw (dOf (Zy 0)) (Zw (fC (.int 19)) Z3)))) (fC (.int 4))))))
  (Z8 (sIf (XU (tOf (Z0 oLt (vOf (Zy 7)) (fC (.int 2)))) (tOf (Z0 (oEq true) (vOf (Zy 5)) (vOf (Yj Z3))))) (Z8 (YM 8 (eOf (dOf (Z6 q0y (Zw (dOf (Zy 5)) (Zw (dOf (Zy 6)) Z3))))))
  (YR (Z6 qU (Zw (dOf (Zy 1)) (Zw (dOf (Zy 2)) (Zw (dOf (Zy 3)) (Zw (Yp (Zw (dOf (Yg Xb (Zw (vOf (Zy 4)) Z3))) (Zw (dOf (Zy 8)) Z3))) (Zw (dOf (Z6 qS (Zw (dOf (Zy 1)) (Zw (dOf (Zy 2)) (Zw (dOf (Zy 3)) (Zw (dOf (Zy 8)) Z3)))))) Z3)))))))) Yc)
  (Z8 (sIf (XU (tOf (Z0 (oEq false) (vOf (Zy 7)) (fC (.int 2)))) (tOf (Z0 (oEq true) (vOf (Zy 4)) (vOf (Yj Z3))))) (Z8 (YM 9 (eOf (dOf (Z0 oMod (vOf (Z0 oDiv (vOf (Zy 6)) (fC (.int 5)))) (vOf (Yg Y7 (Zw (vOf (Zy 4)) Z3)))))))
  (YR (Z6 qU (Zw (dOf (Zy 1)) (Zw (dOf (Zy 2)) (Zw (dOf (Zy 3)) (Zw (Yp (Zw (dOf (Z6 q0z (Zw (dOf (Zy 4)) (Zw (dOf (Zy 9)) (Zw (dOf (Zy 6)) Z3))))) (Zw (dOf (Zy 5)) Z3))) (Zw (fC (.bl false)) Z3)))))))) Yc)
  (Z8 (YM 10 (eOf (dOf (Yj (Zw (Yp (Zw (dOf (Zy 4)) Z3)) (Zw (dOf (Yj (Zw (dOf (Zy 4)) (Zw (dOf (Zy 5)) Z3)))) (Zw (Yp (Zw (dOf (Zy 4)) (Zw (dOf (Yg Y2 (Zw (vOf (Zy 5)) Z3))) Z3))) (Zw (Yp (Zw (dOf (Zy 4)) (Zw (dOf (Zy 5)) (Zw (fC (.int 0)) Z3)))) (Zw (Yp (Zw (dOf (Z0 YL (vOf (Zy 4)) (vOf (Yj (Zw (Yp (Zw (fC (.int 0)) (Zw (fC (.int 1)) (Zw (fC (.int 0)) (Zw (fC (.int 0)) Z3))))) Z3))))) (Zw (dOf (Zy 5)) Z3))) Z3)))))))))
  (Z8 (YM 10 (eOf (dOf (Z0 YL (vOf (Zy 10)) (vOf (Yj (Zw (Yp (Zw (dOf (Zy 5)) (Zw (fC .non) Z3))) (Zw (fC .non) (Zw (fC (.int 7)) (Zw (fC (.str "")) (Zw (Yp (Zw (dOf (Yg Y2 (Zw (vOf (Zy 4)) Z3))) (Zw (dOf (Zy 5)) Z3))) Z3)))))))))))
  (YR (Z6 qU (Zw (dOf (Zy 1)) (Zw (dOf (Zy 2)) (Zw (dOf (Zy 3)) (Zw (dOf (Z0 oIx (vOf (Zy 10)) (vOf (Z0 oMod (vOf (Zy 6)) (fC (.int 10)))))) (Zw (fC (.bl false)) Z3)))))))))))))))))
noncomputable def q7F:List D->Option O:=mir 11 qcV
noncomputable abbrev q7A:vf:=top 55
theorem q2K:FnScope ["script", "home", "last", "boxes", "counts", "rows", "cell", "way", "bent", "at", "odd"] ["script"] (Z1 q7A):=⟨rfl,rfl,rfl,⋯,rfl,⋯,⋯⟩
theorem qhu{f__law_errand:vC}{d__law_errand:vH}{f__law_counts:vC}{d__law_counts:vH}{f__law_levels:vC}{d__law_levels:vH}{f__law_judged:vC}{d__law_judged:vH}{f__law_cell_at:vC}{d__law_cell_at:vH}{f__law_bent_levels:vC}{d__law_bent_levels:vH}{f__law_are_levels:vC}{d__law_are_levels:vH}{f__law_bent_counts:vC}{d__law_bent_counts:vH}(F:Fun K "law" "law" q7A f fd)(c__law_errand:Cal P w K mg base 2 f__law_errand d__law_errand "_law_errand" ["script", "most"] 2 q1v)(c__law_counts:Cal P w K mg base 7 f__law_counts d__law_counts "_law_counts" ["home", "last", "boxes"] 3 q1A)(Gx__law_counts:FnOk P w K mg base (CXe P w) 7 f__law_counts d__law_counts ["home", "last", "boxes"] (spX K 3 q6d))(c__law_levels:Cal P w K mg base 9 f__law_levels d__law_levels "_law_levels" ["script", "home", "last", "boxes"] 4 q1u)(Gx__law_levels:FnOk P w K mg base (CXe P w) 9 f__law_levels d__law_levels ["script", "home", "last", "boxes"] (spX K 4 q6c))(c__law_judged:Cal P w K mg base 12 f__law_judged d__law_judged "_law_judged" ["home", "last", "boxes", "thing", "due"] 5 qU)(Gx__law_judged:FnOk P w K mg base (CXe P w) 12 f__law_judged d__law_judged ["home", "last", "boxes", "thing", "due"] (spX K 5 q6h))(c__law_cell_at:Cal P w K mg base 1 f__law_cell_at d__law_cell_at "_law_cell_at" ["script", "k"] 2 qH)(c__law_bent_levels:Cal P w K mg base 3 f__law_bent_levels d__law_bent_levels "_law_bent_levels" ["rows", "cell"] 2 q0y)(c__law_are_levels:Cal P w K mg base 9 f__law_are_levels d__law_are_levels "_law_are_levels" ["home", "last", "boxes", "rows"] 4 qS)(c__law_bent_counts:Cal P w K mg base 2 f__law_bent_counts d__law_bent_counts "_law_bent_counts" ["counts", "at", "cell"] 3 q0z)(z_list:mg "list" = none)(z_len:mg "len" = none)(z_tuple:mg "tuple" = none):
  FnOk P w K mg base CX0 13 f fd ["script"] (spD K 1 q7F):=by
 have h:=fnD (P:=P) (w:=w) (mg:=mg) (base:=base) (k:=12) (body:=qcV) F q2K (λcdv A outer s H E hr=>
   (q0 (qer (XE.toD (xc c__law_errand hr (Zv (vD 0) (Zv Zx Zz)))) (q4h rfl (q06 (qd (i:=1) q2K.nd rfl (Or.inl rfl)) (q06 (qd (i:=2) q2K.nd rfl (Or.inl rfl)) (q06 (qd (i:=3) q2K.nd rfl (Or.inl rfl)) q31)))))
   (q0 (qg (i:=4) q2K.nd rfl (Or.inl rfl) (XD.toE (XE.toD (xc c__law_counts hr (Zv (vD 1) (Zv (vD 2) (Zv (vD 3) Zz)))))))
   (q0 (qg (i:=5) q2K.nd rfl (Or.inl rfl) (XD.toE (XE.toD (xc c__law_levels hr (Zv (vD 0) (Zv (vD 1) (Zv (vD 2) (Zv (vD 3) Zz))))))))
   (q0 (qt (qZ (qx (XE.toV (xc c__law_judged hr (Zv (vD 1) (Zv (vD 2) (Zv (vD 3) (Zv (YF (Zv (vD 4) (Zv (vD 5) Zz))) (Zv Ya Zz))))))))) (qa (qb (XD.toE Ya))) qe)
   (q0 (qg (i:=6) q2K.nd rfl (Or.inl rfl) (XD.toE (XE.toD (xc c__law_cell_at hr (Zv (vD 0) (Zv Zx Zz))))))
   (q0 (qg (i:=7) q2K.nd rfl (Or.inl rfl) (XD.toE (XE.toD (qu (XE.toV (xc c__law_cell_at hr (Zv (vD 0) (Zv Zx Zz)))) (XD.toV Zx)))))
   (q0 (qt (XW.toT (q5A (q5L (vV 7) (XD.toV Zx)) (q3Z (Xn hr.units (vV 5) (XE.toV (Z9 Zz)))))) (q0 (qg (i:=8) q2K.nd rfl (Or.inl rfl) (XD.toE (XE.toD (xc c__law_bent_levels hr (Zv (vD 5) (Zv (vD 6) Zz))))))
   (qa (qb (xc c__law_judged hr (Zv (vD 1) (Zv (vD 2) (Zv (vD 3) (Zv (YF (Zv (XE.toD (q1c q1T q63 rfl z_list qQ (qi (vV 4) qo))) (Zv (vD 8) Zz))) (Zv (XE.toD (xc c__law_are_levels hr (Zv (vD 1) (Zv (vD 2) (Zv (vD 3) (Zv (vD 8) Zz)))))) Zz))))))))) qe)
   (q0 (qt (XW.toT (q5A (Ye hr.units (vV 7) (XD.toV Zx)) (q3Z (Xn hr.units (vV 4) (XE.toV (Z9 Zz)))))) (q0 (qg (i:=9) q2K.nd rfl (Or.inl rfl) (XD.toE (XE.toD (qu (XE.toV (qy (vV 6) (XD.toV Zx))) (XE.toV (qL qw q0d rfl z_len q0e (qi (vV 4) qo)))))))
   (qa (qb (xc c__law_judged hr (Zv (vD 1) (Zv (vD 2) (Zv (vD 3) (Zv (YF (Zv (XE.toD (xc c__law_bent_counts hr (Zv (vD 4) (Zv (vD 9) (Zv (vD 6) Zz))))) (Zv (vD 5) Zz))) (Zv Ya Zz))))))))) qe)
   (q0 (qg (i:=10) q2K.nd rfl (Or.inl rfl) (XD.toE (XE.toD (Z9 (Zv (YF (Zv (vD 4) Zz)) (Zv (XE.toD (Z9 (Zv (vD 4) (Zv (vD 5) Zz)))) (Zv (YF (Zv (vD 4) (Zv (XE.toD (q1c q01 q0L rfl z_tuple qK (qi (vV 5) qo))) Zz))) (Zv (YF (Zv (vD 4) (Zv (vD 5) (Zv Zx Zz)))) (Zv (YF (Zv (XE.toD (qp (vV 4) (XE.toV (Z9 (Zv (YF (Zv Zx (Zv Zx (Zv Zx (Zv Zx Zz))))) Zz))))) (Zv (vD 5) Zz))) Zz)))))))))
   (q0 (qg (i:=10) q2K.nd rfl (Or.inl rfl) (XD.toE (XE.toD (qp (vV 10) (XE.toV (Z9 (Zv (YF (Zv (vD 5) (Zv Wc Zz))) (Zv Wc (Zv Zx (Zv Xs (Zv (YF (Zv (XE.toD (q1c q01 q0L rfl z_tuple qK (qi (vV 4) qo))) (Zv (vD 5) Zz))) Zz)))))))))))
   (qa (qb (xc c__law_judged hr (Zv (vD 1) (Zv (vD 2) (Zv (vD 3) (Zv (XE.toD (Z2 (vV 10) (XE.toV (qu (vV 6) (XD.toV Zx))))) (Zv Ya Zz)))))))))))))))))))
 exact h
end
set_option compiler.extract_closed false
set_option hygiene false
local macro_rules|`(tactic| simp_arith $c:optConfig [$xs,*])=>`(tactic| simp $c only[q3H,q3I,q27,W2,q3N,zAH,q24,q3q,q2l,q4K,q34,q3t,q4B,q4Y,q4u,q3i,q4t,q2j,q2d,q4I,q4X,q3D,q4U,q52,q4H,q55,q4G,q2x,q1Z,qD,q1X,q2b,q4y,q53,q2v,q2f,zAI,q36,q3p,q4w,q2u,q2h,q3E,q2t,q4Q,Xr,q4r,q2H,q1R,q2k,q26,q4C,zAO,q51,zAN,Wy,Wu,W9,zAE,q4T,q21,q2o,e_c,e_e,W6,e_d,q1W,q2w,e_v,q25,q2g,q2y,Wz,W0,q3l,zAA,q2z,q23,Ww,zAZ,zAX,q4A,q4Z,q4P,zAS,q4V,W5,zAP,W3,Wx,q4s,q0U,q1m,q0W,q0R,q18,q0X,e_t,zAF,q3x,zAK,q4F,q50,W7,q4x,q37,W8,q3J,q1Y,q1q,q33,Wv,q4v,q39,zAC,q3L,q3F,q3o,q4R,q38,Yd,q57,W1,q2e,q2n,q2s,q1p,q29,q3m,q3c,q3A,q2q,q3z,q3C,q3K,q2m,q58,q4N,q4O,at0,at1,at2,q03,q1H,Xi,entry,zZ,yD,zG,zq,zA,zT,yA,yH,yY,yQ,yR,yV,yW,zr,zz,xG,xH,xX,xY,xZ,xI,xJ,xK,xL,xM,xN,yo,xO,yp,↓reduceIte,xP,yi,yF,xQ,yI,xD,yw,xF,yg,yy,xE,beq_self_eq_true,z9,$xs,*])
set_option compiler.extract_closed true
set_option hygiene true
noncomputable def Z5(p:Int×Int):D:=.tup [.int p.1,.int p.2]
theorem q67{ns:List Int}{k:Int}(h:0<=k):qH [.scr ns,.int k]=↥(.int (ns.getD k.toNat 0)):=by
 unfold qH q3R
 by_cases hk:k<ns.length
 ·simp_arith[hk,decide_true,q1B h hk]
  simp[zX,zD (show k.toNat<ns.length by omega)]
 ·simp_arith[hk,decide_false]
  simp[zX,zt (show ns.length<=k.toNat by omega)]
noncomputable def place(c:Int):Int:=if c%3=0 then c/3%19-9 else if c%3=1 then c/3%2001-1000 else c/3%(2*10^39+1)-10^39
theorem qb6{c:Int}:q0P [.int c]=↥(.int (place c)):=by
 unfold q0P q5g;have h8:zAk (.int 10) (.int 39)=↥(.int (10^39)):=rfl;have h9:∀x,X1 (.int 2) (.int x)=↥(.int (2*x)):=λx=>qbw (by decide) (by decide);unfold place
 by_cases a:c%3=0
 ·simp_arith[h8,h9,a]
 ·by_cases b:c%3=1
  ·simp_arith[h8,h9,b]
   rfl
  ·have a':(c%3==0)=false:=by simpa using a
   have b':(c%3==1)=false:=by simpa using b
   simp_arith[h8,h9,a',b',a,b]
theorem qfV{xs:List Int}{i:Int}(h0:0<=i)(h1:i<xs.length):∃y,atI (xs.map D.int) i=some (.int y):=by
 rw[q1B h0 (by rw[zA];exact h1)];exact⟨_,by rw[xb]⟩
theorem q95{xs:List Int}{c m:Int}(hm:0<m)(h1:(xs.length:Int)=m):∃y,atI (xs.map D.int) (c%m)=some (.int y) :=
 qfV (yz _ ∅) (by rw[h1];exact yt _ hm)
theorem q1k{ds:List D}{i:Int}(P:D->Prop)(h0:0<=i)(h1:i<ds.length)(h:∀d∈ds,P d):∃d,atI ds i=some d/\P d :=
 ⟨_,q1B h0 h1,h _ (ym _)⟩
theorem errand{ns:List Int}{most:Int}(h0:0<=most)(h1:most<=1000):∃(home last:Int) (bs:List (Int×Int)),q1v [.scr ns,.int most]=↥(.tup [.int home,.int last,.lst (bs.map Z5)])/\(bs.length:Int)<=most:=by
 obtain⟨head,hh⟩:∃h,ns.getD 0 0*48271%65537=h:=⟨_,rfl⟩;obtain⟨many,hm⟩:∃h,8-head%8=h:=⟨_,rfl⟩;have hm0:0<many:=∅
 have hm8:many<=8:=∅
 have hmul:∀x:Int,X1 (.int x) (.int 48271)=↥(.int (x*48271)):=λx=>q81 (by decide) (by decide);have hdm:∀x:Int,oDiv (.int x) (.int many)=↥(.int (x/many)):=λx=>q1H hm0 ∅;have hmm:∀x:Int,oMod (.int x) (.int many)=↥(.int (x%many)):=λx=>q03 hm0;have hr:rg1I (some [.int many])=some (upTo 0 many.toNat):=qfG ⟨∅,∅⟩;have hl:(upTo 0 many.toNat).length<=1000000:=by rw[qaL];omega
 unfold q1v q4p;have hc0:=q67 (ns:=ns) (k:=0) (by decide);simp_arith[hc0,hmul,hh,hm,hdm,hmm,hr,Yd hl,inW,Yn];rw[q5J (onI λk=>place (ns.getD (1+k).toNat 0))]
 case h=>
  intro d hd;obtain⟨i,hi,rfl⟩:=qeL hd;unfold q6b;simp_arith[q67 (ns:=ns) (k:=1+(0+(i:Int))) ∅,qb6,onI]
 rw[qfd (λk=>place (ns.getD (1+k).toNat 0))];generalize hsp:(Ze (λi:Nat=>place (ns.getD (1+(0+(i:Int))).toNat 0)) (yk many.toNat))=spots;have hsl:(spots.length:Int)=many:=by rw[<- hsp,zA,yU];omega
 simp_arith[qD];have h8:0<=head/512%8/\head/512%8<8:=∅
 obtain⟨top,ht,_⟩:=q1k (ds:=[.int most,.int 3,.int 1,.int 5,.int 0,.int 2,.int most,.int 4]) (i:=head/512%8) (λd=>∃k,d=D.int k) h8.1 h8.2 (by
  intro d hd;simp only[zE,zI,or_false]at hd;rcases hd with rfl|rfl|rfl|rfl|rfl|rfl|rfl|rfl <;> exact⟨_,rfl⟩)
 obtain⟨k,rfl⟩:=‹∃k,top=D.int k›;simp_arith[ht,oSl];generalize cutD ns (some 9) (some (9+k))=cells;obtain⟨ω',e,bs,x6,x7,x8,rfl,hb⟩:=qfb (g:=gN 6) (b:=q3T) (cells.map D.int)
  (λpre ω=>∃(bs:List (Int×Int)) (x6 x7 x8:Option W),ω=[↥(.scr ns),↥(.int most),↥(.int head),↥(.int many),↥(.lst (spots.map D.int)),some (.ow (bs.map Z5)),x6,x7,x8,none]/\(bs.length:Int)<=most)
  (λpre d post ω hd ⟨bs,x6,x7,x8,hω,hb⟩=>by
   obtain⟨c,hc,rfl⟩:∃c,c∈cells/\D.int c=d:=by
    have:d∈cells.map D.int:=by rw[hd];simp
    obtain⟨c,h1,h2⟩:=zN.mp this;exact⟨c,h1,h2⟩
   subst hω;refine⟨_,rfl,?_⟩;obtain⟨one,h1⟩:=q95 (c:=c) hm0 hsl;obtain⟨other,h2⟩:=q95 (c:=c/many) hm0 hsl;unfold q3T;have hlen:(bs.map Z5).length<1000000:=by rw[zA];omega
   simp_arith[hdm,hmm,h1,h2,zA,Xr hlen]
   by_cases hc1:(bs.length:Int)<most
   ·simp_arith[hc1,decide_true,Xr hlen,zC,zA]
    have hlen2:(bs.map Z5++[D.tup [D.int one,D.int other]]).length<1000000:=by rw[zC,zA,zH];omega
    have e1:bs.map Z5++[D.tup [D.int one,D.int other]]=(bs++[(one,other)]).map Z5:=by rw[zW];rfl
    generalize hq:(decide (((bs.length+1:Nat):Int)<most)&&_)=q;cases q with
    | true=>
     have:=(wM.mp hq).1;have:=of_decide_eq_true this;simp_arith[Xr hlen2];refine⟨bs++[(one,other)]++[(other,one)],_,_,_,by rw[zW,<- e1];rfl,?_⟩;rw[zC,zC,zH,zH];omega
    | false=>
     simp_arith[qD];refine⟨bs++[(one,other)],_,_,_,by rw[<- e1],?_⟩;rw[zC,zH];omega
   ·simp_arith[hc1,decide_false,yF]
    exact⟨bs,_,_,_,rfl,hb⟩)
  ⟨[],none,none,none,rfl,by simpa using h0⟩
 obtain⟨home,g1⟩:=q95 (c:=head/8) hm0 hsl;obtain⟨last,g2⟩:=q95 (c:=head/64) hm0 hsl;simp only[yA]at e;simp_arith[e,hdm,hmm,g1,g2]
 by_cases hq:head/12288%2=0
 ·simp_arith[hq]
  exact⟨home,home,bs,rfl,hb⟩
 ·have hq':(head/12288%2==0)=false:=by simpa using hq
  simp_arith[hq',hmm,hdm,g2];exact⟨home,last,bs,rfl,hb⟩
inductive Rch (es:List (Int×Int)) (a:Int):Int->Prop where
 | refl:Rch es a a
 | step {b c:Int}:Rch es a b->((b,c)∈es\/(c,b)∈es)->Rch es a c
theorem Rch.trans{es:List (Int×Int)}{a b c:Int}(h:Rch es a b)(h':Rch es b c):Rch es a c:=by
 induction h' with
 | refl=>exact h
 | step _ e ih=>exact ih.step e
theorem Rch.symm{es:List (Int×Int)}{a b:Int}(h:Rch es a b):Rch es b a:=by
 induction h with
 | refl=>exact .refl
 | step _ e ih=>exact(Rch.refl.step e.symm).trans ih
theorem Rch.inv{es:List (Int×Int)}{a:Int}(P:Int->Prop)(h0:P a)(hs:∀b c,P b->((b,c)∈es\/(c,b)∈es)->P c){c:Int}(h:Rch es a c):P c:=by
 induction h with
 | refl=>exact h0
 | step _ e ih=>exact hs _ _ ih e
theorem q8d{α β:Type}(f:α->β):∀(ks:List Int)(xs:List α)(k:Int),YZ ks (xs.map f) k=(YZ ks xs k).map f
 | [],_,_=>rfl
 | _::_,[],_=>rfl
 | k'::ks,x::xs,k=>by
  show (if k'=k then some (f x)else YZ ks (xs.map f) k)=(if k'=k then some x else YZ ks xs k).map f
  by_cases z:k'=k
  ·rw[vM z,vM z];rfl
  ·rw[vN z,vN z,q8d f ks xs k]
theorem q5I{α:Type}:∀{ks:List Int}{xs:List α}{k:Int},ks.length=xs.length->(YZ ks xs k).isSome=decide (k∈ks)
 | [],[],_,_=>rfl
 | [],_::_,_,h=>by simp at h
 | _::_,[],_,h=>by simp at h
 | k'::ks,x::xs,k,h=>by
  show (if k'=k then some x else YZ ks xs k).isSome=_
  by_cases z:k'=k
  ·rw[vM z];simp[z]
  ·have z':¬k=k':=λy=>z y.symm
   rw[vN z,q5I ⇑h];simp[z']
theorem q7W:∀(ks:List Int)(xss:List (List Int))(a' b a:Int),YZ ks (WM ks xss a' b) a=(YZ ks xss a).map λxs=>if a=a' then xs++[b]else xs
 | [],_,_,_,_=>rfl
 | _::_,[],_,_,_=>rfl
 | k::ks,x::xss,a',b,a=>by
  unfold WM
  by_cases z:k=a'
  ·rw[vM z]
   show (if k=a then some (x++[b])else YZ ks xss a)=(if k=a then some x else YZ ks xss a).map _
   by_cases y:k=a
   ·rw[vM y,vM y,yD,vM (y▸z)]
   ·rw[vN y,vN y]
    have:¬a=a':=λe=>y (z.trans e.symm);cases YZ ks xss a with
    | none=>rfl
    | some v=>rw[yD,vN this]
  ·rw[vN z]
   show (if k=a then some x else YZ ks (WM ks xss a' b) a)=(if k=a then some x else YZ ks xss a).map _
   by_cases y:k=a
   ·have:¬a=a':=λe=>z (y.trans e)
    rw[vM y,vM y,yD,vN this]
   ·rw[vN y,vN y];exact q7W ks xss a' b a
theorem qgm(ts:List Int)(a:Int)(ha:a∈ts):∀(es:List (Int×Int)),∃xs,YZ ts (nbT ts es) a=some xs/\∀c,c∈xs↔((a,c)∈es\/(c,a)∈es):=by
 intro es;have key:∀(post pre:List (Int×Int))(T:List (List Int))(xs:List Int),YZ ts T a=some xs->(∀c,c∈xs↔((a,c)∈pre\/(c,a)∈pre))->∃xs',YZ ts (post.foldl (Y1 ts) T) a=some xs'/\∀c,c∈xs'↔((a,c)∈pre++post\/(c,a)∈pre++post):=by
  intro post
  induction post with
  | nil=>intro pre T xs h1 h2;exact⟨xs,h1,by rw[zi];exact h2⟩
  | cons e post ih=>
   intro pre T xs h1 h2;have h3:YZ ts (Y1 ts T e) a=some (let ys:=if a=e.1 then xs++[e.2]else xs;if a=e.2 then ys++[e.1]else ys):=by
    unfold Y1;rw[q7W,q7W,h1];rfl
   obtain⟨xs',g1,g2⟩:=ih (pre++[e]) (Y1 ts T e) _ h3 (λc=>by
    obtain⟨e1,e2⟩:=e;have m:∀x y:Int,(x,y)∈pre++[(e1,e2)]↔(x,y)∈pre\/(x=e1/\y=e2):=λx y=>by simp
    rw[m,m]
    by_cases y1:a=e1 <;> by_cases y2:a=e2 <;> simp[y1,y2,h2] <;> (try subst y1) <;> (try subst y2) <;> simp_all <;> grind)
   refine⟨xs',g1,λc=>?_⟩;rw[g2,zY];rfl
 have h0:YZ ts (ts.map λ_=>([]:List Int)) a=some []:=by
  have:(YZ ts (ts.map λ_=>([]:List Int)) a).isSome=true:=by rw[q5I (by rw[zA]),vP ha]
  obtain⟨x,hx⟩:=yf.mp this;rw[q8d]at hx ⊢;obtain⟨y,hy,e⟩:=wD.mp hx;rw[hy];rfl
 obtain⟨xs',g1,g2⟩:=key es [] _ [] h0 (by simp);exact⟨xs',g1,by simpa using g2⟩
structure Ok (ts:List Int) (es:List (Int×Int)):Prop where
 nd:ts.Nodup
 inn:∀e∈es,e.1∈ts/\e.2∈ts
 l1:ts.length<64
 l2:es.length<=1000
noncomputable def nbD(ts:List Int)(es:List (Int×Int)):List D:=(nbT ts es).map λxs=>.lst (xs.map D.int)
theorem qaj{ts:List Int}{es:List (Int×Int)}(h:Ok ts es):q3v [.lst (ts.map D.int),.lst (es.map YH)]=↥(.dic ts (nbD ts es)):=by
 have hl:=h.l1;have e:nbM (ts.map D.int) (es.map YH)=some (.dic ts (nbD ts es)):=by
  unfold nbM;rw[q4L,q7M];exact vM ⟨h.nd,h.inn,∅,h.l2⟩
 show outM ((nbM (ts.map D.int) (es.map YH)).map _)=_;rw[e];rfl
theorem Rch.mem{ts:List Int}{es:List (Int×Int)}(h:Ok ts es){a c:Int}(ha:a∈ts)(r:Rch es a c):c∈ts :=
 r.inv (λx=>x∈ts) ha λb c _ e=>by
  rcases e with e|e
  ·exact(h.inn _ e).2
  ·exact(h.inn _ e).1
noncomputable def Y3(F:List Int):List D:=F.map λ_=>.bl true
theorem q9I(F:List Int):F.length=(Y3 F).length:=by unfold Y3;rw[zA]
theorem qcy{F:List Int}{c:Int}(h:c∉F):Y8 F c=F++[c]/\putA F (Y3 F) c (.bl true)=Y3 (F++[c]):=by
 unfold Y8 putA Y3;rw[vN h,vN h,zW];exact⟨rfl,rfl⟩
theorem q43:∀{F ts:List Int},F.Nodup->(∀c∈F,c∈ts)->F.length<=ts.length
 | [],_,_,_=>zu _
 | a::r,ts,hn,hs=>by
  obtain⟨h1,h2⟩:=yj.mp hn;have ha:=hs a zK;have:=q43 (F:=r) (ts:=ts.erase a) h2 λc hc=>(ZG (show c≠a from λz=>h1 (by rw[<- z];exact hc))).mpr (hs c (zJ _ hc));rw[List.length_erase_of_mem ha]at this;have hp:0<ts.length:=List.length_pos_of_mem ha;rw[zG];omega
structure GI (ts:List Int) (es:List (Int×Int)) (a:Int) (F Wt:List Int):Prop where
 nd:F.Nodup
 st:a∈F
 wl:Wt.length<=F.length
 w:∀c∈Wt,c∈F
 r:∀c∈F,Rch es a c
 cl:∀b∈F,b∉Wt->∀c,((b,c)∈es\/(c,b)∈es)->c∈F
theorem qbN{ts:List Int}{es:List (Int×Int)}(h:Ok ts es){a:Int}(ha:a∈ts):
  ∃F:List Int,q3G [.int a,.dic ts (nbD ts es)]=some (.fr ((YN F).map D.int))/\F.Nodup/\∀c,c∈F↔Rch es a c:=by
 unfold q3G q6p;simp_arith[qD];have hl1:=h.l1;obtain⟨ω',e,F,x4,x5,rfl,gi⟩:=qhB (fc:=q49) (fb:=q5Y) (n:=1000000)
  (λω=>∃(F Wt:List Int) (x4 x5:Option W),ω=[↥(.int a),↥(.dic ts (nbD ts es)),some (.od F (Y3 F)),some (.ow (Wt.map D.int)),x4,x5]/\GI ts es a F Wt)
  (λω=>match ω with
   | [_,_,some (.od F _),some (.ow w),_,_]=>(ts.length-F.length)+w.length
   | _=>0)
  (λω=>∃(F:List Int) (x4 x5:Option W),ω=[↥(.int a),↥(.dic ts (nbD ts es)),some (.od F (Y3 F)),some (.ow []),x4,x5]/\GI ts es a F [])
  (λω ⟨F,Wt,x4,x5,hω,gi⟩ hf=>by
   subst hω;unfold q49 at hf;simp -implicitDefEqProofs only[q3H,q3I,q27,W2,q3N,zAH,q24,q3q,q2l,q4K,q34,q3t,q4B,q4Y,q4u,q3i,q4t,q2j,q2d,q4I,q4X,q3D,q4U,q52,q4H,q55,q4G,q2x,q1Z,qD,q1X,q2b,q4y,q53,q2v,q2f,zAI,q36,q3p,q4w,q2u,q2h,q3E,q2t,q4Q,Xr,q4r,q2H,q1R,q2k,q26,q4C,zAO,q51,zAN,Wy,Wu,W9,zAE,q4T,q21,q2o,e_c,e_e,W6,e_d,q1W,q2w,e_v,q25,q2g,q2y,Wz,W0,q3l,zAA,q2z,q23,Ww,zAZ,zAX,q4A,q4Z,q4P,zAS,q4V,W5,zAP,W3,Wx,q4s,q0U,q1m,q0W,q0R,q18,q0X,e_t,zAF,q3x,zAK,q4F,q50,W7,q4x,q37,W8,q3J,q1Y,q1q,q33,Wv,q4v,q39,zAC,q3L,q3F,q3o,q4R,q38,Yd,q57,W1,q2e,q2n,q2s,q1p,q29,q3m,q3c,q3A,q2q,q3z,q3C,q3K,q2m,q58,q4N,q4O,at0,at1,at2,q03,q1H,Xi,entry,zZ,yD,zG,zq,zA,zT,yA,yH,yY,yQ,yR,yV,yW,zr,zz,xG,xH,xX,xY,xZ,xI,xJ,xK,xL,xM,xN,yo,xO,yp,↓reduceIte,xP,yi,yF,xQ,yI,xD,yw,xF,yg,yy,xE,beq_self_eq_true,z9]at hf;cases Wt with
   | nil=>exact⟨F,x4,x5,rfl,gi⟩
   | cons w r=>cases hf)
  (λω ⟨F,Wt,x4,x5,hω,gi⟩=>by
   subst hω;refine⟨!Wt.isEmpty,?_,λhk=>?_⟩
   ·unfold q49
    simp_arith[qD];cases Wt <;> rfl
   ·obtain⟨Wr,here,rfl⟩:∃Wr here,Wt=Wr++[here]:=by
     cases Wt with
     | nil=>cases hk
     | cons w r=>exact⟨(w::r).dropLast,(w::r).getLast (by simp),(List.dropLast_concat_getLast _).symm⟩
    have hF:here∈F:=gi.w here (by simp);have hts:here∈ts:=(gi.r here hF).mem h ha;obtain⟨xs,v1,v2⟩:=qgm ts here hts es;have vd:YZ ts (nbD ts es) here=some (.lst (xs.map D.int)):=by unfold nbD;rw[q8d,v1];rfl
    have ew:(Wr++[here]).map D.int=Wr.map D.int++[D.int here]:=by rw[zW];rfl
    have ffl:=q43 gi.nd λc hc=>(gi.r c hc).mem h ha;unfold q5Y;rw[ew];simp_arith[qgA,vd];obtain⟨ω',e,F',W',x5',rfl,i1,i2,i3,i4,i5,i6,i7,i8⟩:=q1t (g:=gN 5) (b:=q5V) D.int xs
     (λpre ω=>∃(F' W':List Int) (x5:Option W),ω=[↥(.int a),↥(.dic ts (nbD ts es)),some (.od F' (Y3 F')),some (.ow (W'.map D.int)),↥(.int here),x5]/\F'.Nodup/\(∀c∈F,c∈F')/\(∀c∈Wr,c∈W')/\(∀c∈W',c∈F')/\(∀c∈F',Rch es a c)/\(∀c∈F',c∈F\/c∈W')/\(∀c∈pre,c∈F')/\F'.length+Wr.length=F.length+W'.length)
     (λpre c post ω hd ⟨F',W',x5,hω,i1,i2,i3,i4,i5,i6,i7,i8⟩=>by
      subst hω;refine⟨_,rfl,?_⟩;have hcx:c∈xs:=by rw[hd];simp
      have hcr:Rch es a c:=(gi.r here hF).step ((v2 c).mp hcx);have fl:=q43 i1 λc hc=>(i5 c hc).mem h ha;have hs:(YZ F' (Y3 F') c).isSome=decide (c∈F'):=q5I (q9I F');unfold q5V
      by_cases hc:c∈F'
      ·simp_arith[hs,hc,decide_true]
       exact⟨F',W',_,rfl,i1,i2,i3,i4,i5,i6,λx hx=>(by rcases zP.mp hx with y|y;exact i7 x y;cases zL.mp y;exact hc),i8⟩
      ·obtain⟨p1,p2⟩:=qcy hc
       have hwl:(W'.map D.int).length<1000000:=by
        rw[zA];have:=gi.wl;rw[zC,zH]at this;omega
       simp_arith[hs,hc,decide_false,q9l (show F'.length<1000000 by omega),p1,p2,Xr hwl];refine⟨F'++[c],W'++[c],_,by rw[zW];rfl,?_,λx hx=>zb _ (i2 x hx),λx hx=>zb _ (i3 x hx),λx hx=>?_,λx hx=>?_,λx hx=>?_,λx hx=>?_,by rw[zC,zC,zH];omega⟩
       ·rw[yd]
        exact⟨i1,by simp,λx hx y hy z=>by cases zL.mp hy;exact hc (z▸hx)⟩
       ·rcases zP.mp hx with y|y
        ·exact zb _ (i4 x y)
        ·exact zU _ y
       ·rcases zP.mp hx with y|y
        ·exact i5 x y
        ·cases zL.mp y;exact hcr
       ·rcases zP.mp hx with y|y
        ·exact(i6 x y).elim .inl λz=>.inr (zb _ z)
        ·exact .inr (zU _ y)
       ·rcases zP.mp hx with y|y
        ·exact zb _ (i7 x y)
        ·exact zU _ y)
     (ω:=[↥(.int a),↥(.dic ts (nbD ts es)),some (.od F (Y3 F)),some (.ow (Wr.map D.int)),↥(.int here),x5])
     ⟨F,Wr,x5,rfl,gi.nd,λc hc=>hc,λc hc=>hc,λc hc=>gi.w c (zb _ hc),gi.r,λc hc=>.inl hc,λc hc=>(by cases hc),rfl⟩
    have fl':=q43 i1 λc hc=>(i5 c hc).mem h ha;simp_arith[e];have wl0:=gi.wl;rw[zC,zH]at wl0;refine⟨⟨F',W',_,_,rfl,i1,i2 a gi.st,∅,i4,i5,λb hb hw c hc=>?_⟩,?_⟩
    ·rcases i6 b hb with y|y
     ·by_cases z:b=here
      ·subst z
       exact i7 c ((v2 c).mpr hc)
      ·exact i2 c (gi.cl b y (λm=>by rcases zP.mp m with m|m;exact hw (i3 b m);exact z (zL.mp m)) c hc)
     ·exact vK y hw
    ·show (ts.length-F'.length)+(W'.map D.int).length<(ts.length-F.length)+(Wr.map D.int++[D.int here]).length
     rw[zA,zC,zA,zH];omega)
  (ω:=[↥(.int a),↥(.dic ts (nbD ts es)),some (.od [a] [.bl true]),some (.ow [.int a]),none,none])
  ⟨[a],[a],none,none,rfl,by simp,by simp,zQ _,λc hc=>hc,λc hc=>by cases zL.mp hc;exact .refl,λb hb hw=>vK hb hw⟩
  (by show (ts.length-1)+1<1000000;omega)
 have fl:=q43 gi.nd λc hc=>(gi.r c hc).mem h ha;simp_arith[e,qfr (show F.length<64 by omega)];exact⟨F,rfl,gi.nd,λc=>⟨gi.r c,λr=>r.inv (λx=>x∈F) gi.st λb c hb hc=>gi.cl b hb (by simp) c hc⟩⟩
noncomputable def gD(g:List Int):D:=.lst (g.map D.int)
structure Cls (ts:List Int) (es:List (Int×Int)) (g:List Int) (a:Int):Prop where
 inn:a∈ts
 up:g.Pairwise (· < ·)
 mem:∀c,c∈g↔Rch es a c
 hd:g.head?=some a
theorem qfM{F:List Int}(h:F.Nodup):(YN F).Pairwise (· < ·):=by
 have h1:(YN F).Nodup:=(q0i (l:=F)).nodup_iff.mpr h;have h2:=q3Y (l:=F);have:=List.Pairwise.and h2 h1;exact this.imp λ{a b} h=>(by have h1:=h.1;have h2:=h.2;omega)
theorem qgV{ts:List Int}{es:List (Int×Int)}{F:List Int}{a:Int}(ha:a∈ts)(hn:F.Nodup)(hm:∀c,c∈F↔Rch es a c)(least:∀c∈F,a<=c):Cls ts es (YN F) a:=by
 have pm:=q0i (l:=F);have up:=qfM hn;refine⟨ha,up,λc=>by rw[pm.mem_iff,hm],?_⟩;have haF:a∈YN F:=pm.mem_iff.mpr ((hm a).mpr .refl);cases q:YN F with
 | nil=>rw[q]at haF;cases haF
 | cons b r=>
  rw[q]at haF up;have hb:a<=b:=least b (pm.mem_iff.mp (by rw[q];exact zK));rcases zE.mp haF with rfl|hr
  ·rfl
  ·have:=(zg.mp up).1 a hr
   omega
structure GS (ts:List Int) (es:List (Int×Int)) (gs:List (List Int)) (hs:List Int):Prop where
 len:gs.length=hs.length
 cls:∀(j:Nat)g a,gs[j]?=some g->hs[j]?=some a->Cls ts es g a
 up:hs.Pairwise (· < ·)
theorem GS.snoc{ts:List Int}{es:List (Int×Int)}{gs:List (List Int)}{hs:List Int}(h:GS ts es gs hs){g:List Int}{a:Int}(c:Cls ts es g a)(hu:∀b∈hs,b<a):GS ts es (gs++[g]) (hs++[a]):=by
 refine⟨by rw[zC,zC,h.len];rfl,λj g' a' e1 e2=>?_,?_⟩
 ·rcases yC j gs.length with z|z
  ·rw[zj z]at e1
   rw[zj (by rw[<- h.len];exact z)]at e2;exact h.cls j g' a' e1 e2
  ·rw[zf z]at e1
   rw[zf (by rw[<- h.len];exact z),<- h.len]at e2;cases hj:j-gs.length with
   | zero=>rw[hj]at e1 e2;cases e1;cases e2;exact c
   | succ n=>rw[hj]at e1;cases e1
 ·rw[xl]
  exact⟨h.up,by simp,λb hb c hc=>by cases zL.mp hc;exact hu b hb⟩
theorem GS.one{ts:List Int}{es:List (Int×Int)}{gs:List (List Int)}{hs:List Int}(h:GS ts es gs hs){g:List Int}(hg:g∈gs):∃a∈hs,Cls ts es g a:=by
 obtain⟨j,hj,rfl⟩:=zn.mp hg;have hj2:j<hs.length:=by rw[<- h.len];exact hj
 exact⟨hs[j],ym _,h.cls j _ _ (zD hj) (zD hj2)⟩
theorem qdV{ts:List Int}{es:List (Int×Int)}(h:Ok ts es):∃gs hs,q2S [.lst (ts.map D.int),.lst (es.map YH)]=some (.fr (gs.map gD))/\GS ts es gs hs/\(∀t∈ts,∃g∈gs,t∈g)/\gs.length<=ts.length:=by
 unfold q2S q8c;have hl1:=h.l1;have sp:=q0i (l:=ts);have sl:=q3Y (l:=ts);simp_arith[qaj h,q9m hl1];obtain⟨ω',e,gs,hs,Gd,x5,x6,x7,rfl,i1,i2,i3,i4,i5,i6⟩:=q1t (g:=gN 5) (b:=q6V) D.int (YN ts)
  (λpre ω=>∃(gs:List (List Int)) (hs Gd:List Int) (x5 x6 x7:Option W),ω=[↥(.lst (ts.map D.int)),↥(.lst (es.map YH)),↥(.dic ts (nbD ts es)),some (.od Gd (Y3 Gd)),some (.ow (gs.map gD)),x5,x6,x7]/\GS ts es gs hs/\Gd.Nodup/\(∀c,c∈Gd↔∃g∈gs,c∈g)/\(∀t∈pre,t∈Gd)/\(∀a∈hs,a∈pre)/\gs.length<=pre.length)
  (λpre t post ω hd ⟨gs,hs,Gd,x5,x6,x7,hω,i1,i2,i3,i4,i5,i6⟩=>by
   subst hω;refine⟨_,rfl,?_⟩;have ht:t∈ts:=sp.mem_iff.mp (by rw[hd];simp);have hs1:(YZ Gd (Y3 Gd) t).isSome=decide (t∈Gd):=q5I (q9I Gd);have gts:∀c∈Gd,c∈ts:=λc hc=>by
    obtain⟨g,hg,hcg⟩:=(i3 c).mp hc;obtain⟨a,_,cl⟩:=i1.one hg;exact((cl.mem c).mp hcg).mem h cl.inn
   have plen:pre.length<=ts.length:=by rw[<- sp.length_eq,hd,zC];omega
   unfold q6V
   by_cases hc:t∈Gd
   ·simp_arith[hs1,hc,decide_true]
    exact⟨gs,hs,Gd,_,_,_,rfl,i1,i2,i3,λx hx=>(by rcases zP.mp hx with y|y;exact i4 x y;cases zL.mp y;exact hc),λa ha=>zb _ (i5 a ha),by rw[zC];omega⟩
   ·obtain⟨F,f1,f2,f3⟩:=qbN h ht
    have least:∀c∈F,t<=c:=λc hcF=>by
     rcases Int.lt_or_le c t with z|z
     ·exfalso
      have rc:=(f3 c).mp hcF;have hcs:c∈YN ts:=sp.mem_iff.mpr (rc.mem h ht);rw[hd]at hcs sl;have hcp:c∈pre:=by
       rcases zP.mp hcs with y|y
       ·exact y
       ·rcases zE.mp y with rfl|y
        ·omega
        ·have:=(zg.mp (xl.mp sl).2.1).1 c y
         omega
      obtain⟨g,hg,hcg⟩:=(i3 c).mp (i4 c hcp);obtain⟨a,_,cl⟩:=i1.one hg;exact hc ((i3 t).mpr ⟨g,hg,(cl.mem t).mpr (((cl.mem c).mp hcg).trans rc.symm)⟩)
     ·exact z
    have cl:=qgV ht f2 f3 least;have dis:∀c∈YN F,c∉Gd:=λc hcg hcG=>by
     obtain⟨g,hg,hcg'⟩:=(i3 c).mp hcG;obtain⟨a,_,cl'⟩:=i1.one hg;exact hc ((i3 t).mpr ⟨g,hg,(cl'.mem t).mpr (((cl'.mem c).mp hcg').trans ((cl.mem c).mp hcg).symm)⟩)
    have hgl:(gs.map gD).length<1000000:=by rw[zA];omega
    simp_arith[hs1,hc,decide_false,f1,Xr hgl];obtain⟨ω',e,x7',rfl⟩:=q1t (g:=gN 7) (b:=q7n) D.int (YN F)
     (λpre' ω=>∃(x7:Option W),ω=[↥(.lst (ts.map D.int)),↥(.lst (es.map YH)),↥(.dic ts (nbD ts es)),some (.od (Gd++pre') (Y3 (Gd++pre'))),some (.ow (gs.map gD++[.lst ((YN F).map D.int)])),↥(.int t),↥(.lst ((YN F).map D.int)),x7])
     (λpre' c post' ω hd' ⟨x7,hω⟩=>by
      subst hω;refine⟨_,rfl,?_⟩;have ndF:(YN F).Nodup:=(q0i (l:=F)).nodup_iff.mpr f2;have hnew:c∉Gd++pre':=λm=>by
       rcases zP.mp m with y|y
       ·exact dis c (by rw[hd'];simp) y
       ·rw[hd',yd]at ndF
        exact ndF.2.2 c y c zK rfl
      obtain⟨p1,p2⟩:=qcy hnew;have hlen:(Gd++pre').length<1000000:=by
       have z1:=q43 i2 gts;have z2:pre'.length<=ts.length:=by
        have a1:(YN F).length<=ts.length:=by
         rw[(q0i (l:=F)).length_eq];exact q43 f2 λc hc=>((f3 c).mp hc).mem h ht
        rw[hd',zC]at a1;omega
       rw[zC];omega
      unfold q7n;simp_arith[q9l hlen,p1,p2,zY];exact⟨_,rfl⟩)
     (ω:=[↥(.lst (ts.map D.int)),↥(.lst (es.map YH)),↥(.dic ts (nbD ts es)),some (.od Gd (Y3 Gd)),some (.ow (gs.map gD++[.lst ((YN F).map D.int)])),↥(.int t),↥(.lst ((YN F).map D.int)),x7]) ⟨x7,by rw[zi]⟩
    simp_arith[e];refine⟨gs++[YN F],hs++[t],Gd++YN F,_,_,_,by rw[zW];rfl,i1.snoc cl λb hb=>?_,?_,λc=>?_,λx hx=>?_,λa ha=>?_,by rw[zC,zC,zH,zH];omega⟩
    ·have hbp:=i5 b hb
     rw[hd]at sl;have le:b<=t:=(xl.mp sl).2.2 b hbp t zK;have ne:b≠t:=λz=>hc (i4 t (z▸hbp));omega
    ·rw[yd]
     exact⟨i2,(q0i (l:=F)).nodup_iff.mpr f2,λx hx y hy z=>dis y hy (z▸hx)⟩
    ·rw[zP,i3]
     constructor
     ·rintro(⟨g,hg,hcg⟩|hcF)
      ·exact⟨g,zb _ hg,hcg⟩
      ·exact⟨_,zU _ (zL.mpr rfl),hcF⟩
     ·rintro⟨g,hg,hcg⟩
      rcases zP.mp hg with y|y
      ·exact .inl ⟨g,y,hcg⟩
      ·cases zL.mp y;exact .inr hcg
    ·rcases zP.mp hx with y|y
     ·exact zb _ (i4 x y)
     ·cases zL.mp y
      exact zU _ ((cl.mem t).mpr .refl)
    ·rcases zP.mp ha with y|y
     ·exact zb _ (i5 a y)
     ·exact zU _ y)
  (ω:=[↥(.lst (ts.map D.int)),↥(.lst (es.map YH)),↥(.dic ts (nbD ts es)),some (.od [] []),some (.ow []),none,none,none])
  ⟨[],[],[],none,none,none,rfl,⟨rfl,λj g a e=>(by simp at e),.nil⟩,wB,by simp,by simp,by simp,zQ _⟩
 simp_arith[e];refine⟨gs,hs,rfl,i1,λt ht=>?_,by rw[<- sp.length_eq];exact i6⟩;exact(i3 t).mp (i4 t (sp.mem_iff.mpr ht))
noncomputable def YW:D->Bool
 | .int _=>true
 | _=>false
noncomputable def nsD:D->Bool
 | .scr _=>false
 | .exc _=>false
 | .dic _ _=>false
 | _=>true
noncomputable def noScr:D->Bool
 | .scr _=>false
 | .exc _=>false
 | .dic _ _=>false
 | .tup [a,b]=>nsD a&&nsD b
 | _=>true
noncomputable def isBoxL:List D->Bool
 | []=>false
 | [_]=>false
 | [a,b]=>YW a&&YW b
 | _::_::_::_=>false
noncomputable def Wj:D->Bool
 | .tup ds=>isBoxL ds
 | _=>false
theorem q1L{d:D}(h:nsD d=true):q0c [d]=↥(.bl (YW d)):=by
 cases d <;> first|rfl|cases h
theorem qhC{d:D}(h:noScr d=true):q5w [d]=↥(.bl (Wj d)):=by
 unfold q5w q82
 match d,h with
 | .non,_=>rfl
 | .bl _,_=>rfl
 | .int _,_=>rfl
 | .str _,_=>rfl
 | .lst _,_=>rfl
 | .tup [],_=>rfl
 | .tup [_],_=>simp_arith[qD];rfl
 | .tup [a,b],h=>
  have h':=wM.mp (show (_&&_)=true from h);have ha:=q1L h'.1;have hb:=q1L h'.2;simp_arith[ha,hb];simp_arith[show (((0+1+1:Nat):Int)==2)=true from rfl,ha,hb];cases a <;> cases b <;> rfl
 | .tup (a::b::c::r),_=>
  have hn:(((a::b::c::r).length:Int)==2)=false:=by
   simp only[zG,beq_eq_false_iff_ne,ne_eq];omega
  simp only[zG]at hn;simp_arith[hn];rfl
theorem qbt:∀(q:D->Bool)(ds:List D),allB (ds.map λd=>D.bl (q d))=some (ds.all q)
 | _,[]=>rfl
 | q,d::ds=>by
  show (allB (ds.map λd=>D.bl (q d))).map _=_;rw[qbt q ds];rfl
theorem qdQ{h l:D}{ds:List D}(hh:nsD h=true)(hl:nsD l=true)(hd:∀d∈ds,noScr d=true)(hlen:ds.length<=1000000):
  q0F [h,l,.lst ds]=↥(.bl (YW h&&(YW l&&ds.all Wj))):=by
 unfold q0F q5U;have e1:=q1L hh;have e2:=q1L hl;simp_arith[e1,e2,Yd hlen];cases YW h <;> cases YW l <;> simp_arith[e2,Yd hlen] <;> first|rfl|skip
 rw[q5J (λd=>D.bl (Wj d))]
 ·simp_arith[XB,qbt]
 ·intro d hd'
  unfold q7f;simp_arith[inW,qhC (hd d hd')]
noncomputable def flat(bs:List (Int×Int)):List Int:=bs.flatMap λp=>[p.1,p.2]
noncomputable def plc(h l:Int)(bs:List (Int×Int)):List Int:=h::l::flat bs
theorem qfp(bs:List (Int×Int))(p:Int×Int):flat (bs++[p])=flat bs++[p.1,p.2]:=by simp[flat]
theorem q5q(bs:List (Int×Int)):(flat bs).length=2*bs.length:=by
 induction bs with
 | nil=>rfl
 | cons p r ih=>simp[flat]at ih ⊢;omega
theorem qgc(h l:Int)(bs:List (Int×Int))(p:Int×Int):plc h l (bs++[p])=plc h l bs++[p.1,p.2]:=by unfold plc;rw[qfp];rfl
theorem WL(x:Int):nsD (.int x)=true:=rfl
theorem qdl(p:Int×Int):Wj (Z5 p)=true:=rfl
theorem qdn(bs:List (Int×Int)):(bs.map Z5).all Wj=true:=by
 rw[wE];exact yG.mpr λp _=>qdl p
theorem qej{h l:Int}{bs:List (Int×Int)}(hb:bs.length<=1000):q0F [.int h,.int l,.lst (bs.map Z5)]=↥(.bl true):=by
 have:=qdQ (h:=.int h) (l:=.int l) (ds:=bs.map Z5) (WL h) (WL l) (λd hd=>by
  obtain⟨p,_,rfl⟩:=zN.mp hd;rfl) (by rw[zA];omega)
 rw[qdn]at this;exact this
theorem q5x{h l:Int}{bs:List (Int×Int)}(hb:bs.length<=1000):q0b [.int h,.int l,.lst (bs.map Z5)]=some (.sh .non):=by
 unfold q0b q3O;simp_arith[qej hb]
theorem q5m{h l:Int}{bs:List (Int×Int)}(hb:bs.length<=30):q0r [.int h,.int l,.lst (bs.map Z5)]=some (.fr ((YK (plc h l bs)).map D.int)):=by
 unfold q0r q9d;simp_arith[q5x (show bs.length<=1000 by omega)];obtain⟨ω',e,x4,rfl⟩:=q1t (g:=gN 4) (b:=q7Z) Z5 bs
  (λpre ω=>∃x4,ω=[↥(.int h),↥(.int l),↥(.lst (bs.map Z5)),some (.ow ((plc h l pre).map D.int)),x4])
  (λpre p post ω hd ⟨x4,hω⟩=>by
   subst hω;refine⟨_,rfl,?_⟩;unfold q7Z;have hl:(plc h l pre).length<=1000:=by
    have:=uE xy hd;rw[zC,zG]at this;show (flat pre).length+1+1<=1000;rw[q5q];omega
   have e1:=q2H (i:=3) (ω:=[↥(.int h),↥(.int l),↥(.lst (bs.map Z5)),some (.ow ((plc h l pre).map D.int)),↥(Z5 p)]) (ds:=(plc h l pre).map D.int) (ds':=[.int p.1,.int p.2]) (by rw[zA,zG,zH];omega);simp_arith[qD];show Y6 (extS 3 _ (some (Z5 p)) _) _;rw[show Z5 p=D.tup [.int p.1,.int p.2]from rfl]at e1 ⊢;rw[e1,qgc,zW];exact⟨_,rfl⟩)
  (ω:=[↥(.int h),↥(.int l),↥(.lst (bs.map Z5)),some (.ow [.int h,.int l]),none]) ⟨none,rfl⟩
 simp_arith[e];have hlen:(plc h l bs).length<64:=by
  show (flat bs).length+1+1<64;rw[q5q];omega
 have:Xo (vOf (Zy 3)) [↥(.int h),↥(.int l),↥(.lst (bs.map Z5)),some (.ow ((plc h l bs).map D.int)),x4]=some (.fr ((YK (plc h l bs)).map D.int)):=by
  show WA (.lst ((plc h l bs).map D.int))=_;show (intsOf ((plc h l bs).map D.int)).bind _=_;rw[q4L];exact vM (qhD hlen)
 simp_arith[this]
noncomputable def Z4(P:List Int):List (Int×Int):=P.zip (P.drop 1)
theorem q17(P:List Int):(Z4 P).length=P.length-1:=by
 unfold Z4;rw[ZA,yZ];omega
theorem qfw{P:List Int}{i:Nat}(h:i+1<P.length):(Z4 P)[i]?=some (P[i],P[i+1]):=by
 unfold Z4;rw[List.getElem?_zip_eq_some];refine⟨zD ∅,?_⟩;show (P.drop 1)[i]?=some P[i+1];rw[List.getElem?_drop,Nat.add_comm 1 i];exact zD h
theorem qa0:∀(xs ys:List Int),wu pairD (xs.map D.int) (ys.map D.int)=(xs.zip ys).map Z5
 | [],_=>rfl
 | _::_,[]=>rfl
 | x::xs,y::ys=>by
  show _::wu pairD (xs.map D.int) (ys.map D.int)=_::(xs.zip ys).map Z5;rw[qa0 xs ys];rfl
theorem qfl(ds:List D):cutD ds (some 1) none=ds.drop 1:=by
 unfold cutD;have e:HT.sIx ds.length 0 (some 1)=min 1 ds.length:=HT.q6a ds.length 0 1;rw[e,HT.q85];cases ds with
 | nil=>rfl
 | cons d r=>
  have:min 1 (d::r).length=1:=by rw[zG];omega
  rw[this];show List.take _ r=r;rw[zG,ZQ,wH]
theorem q3W{h l:Int}{bs:List (Int×Int)}(hb:bs.length<=30):q07 [.int h,.int l,.lst (bs.map Z5)]=some (.fr ((Z4 (YK (plc h l bs))).map Z5)):=by
 unfold q07 qbm;have hz:XF [.lst ((YK (plc h l bs)).map D.int),.lst (cutD ((YK (plc h l bs)).map D.int) (some 1) none)]=some (.fr ((Z4 (YK (plc h l bs))).map Z5)):=by
  rw[qfl,<- xu];show some (R.fr (wu pairD _ _))=_;rw[qa0];rfl
 simp_arith[q5m hb,q04,hz]
structure Stp (P:List Int):Prop where
 ne:P≠[]
 rise:P.Pairwise (· < ·)
 len:P.length<=1000
theorem stp(h l:Int){bs:List (Int×Int)}(hb:bs.length<=30):Stp (YK (plc h l bs)):=by
 refine⟨λe=>?_,q3d,?_⟩
 ·have:h∈YK (plc h l bs):=q5N.mpr (by simp[plc])
  rw[e]at this;simp at this
 ·have:(YK (plc h l bs)).length<=(plc h l bs).length:=q4f _
  have h2:(plc h l bs).length=2*bs.length+2:=by show (flat bs).length+1+1=_;rw[q5q]
  omega
theorem Stp.pos{P:List Int}(S:Stp P):0<P.length:=xA.mpr S.ne
theorem q6f(a b:Int):Z5 (a,b)=.tup [.int a,.int b]:=rfl
noncomputable def over(s g:Int)(q:Int×Int):Bool:=decide (s<=q.1)&&decide (q.2<=g)
theorem qax(s g a b:Int):q1f [.int s,.int g,.tup [.int a,.int b]]=↥(.bl (over s g (a,b))):=by
 unfold q1f q5l over;simp_arith[qD]
noncomputable def rts(bs:List (Int×Int))(q:Int×Int):Int:=((bs.filter λp=>over p.1 p.2 q).length:Nat)
noncomputable def lfs(bs:List (Int×Int))(q:Int×Int):Int:=((bs.filter λp=>over p.2 p.1 q).length:Nat)
noncomputable def onP(f:Int->Int->Bool):D->Bool
 | .tup [.int a,.int b]=>f a b
 | _=>false
theorem q9O(f:Int->Int->Bool)(bs:List (Int×Int)):((bs.map Z5).filter (onP f)).map (λd=>d)=(bs.filter λp=>f p.1 p.2).map Z5:=by
 rw[xf,Zk];rfl
theorem q4S{bs:List (Int×Int)}{q:Int×Int}(hb:bs.length<=1000):q0t [.lst (bs.map Z5),Z5 q]=↥(.tup [.int (rts bs q),.int (lfs bs q)]):=by
 unfold q0t q7i;have hl:(bs.map Z5).length<=1000000:=by rw[zA];omega
 obtain⟨a,b⟩:=q;have c1:Yh (gN 0) q6v q6l (bs.map Z5) [none,↥(.tup [.int a,.int b])]=some ((bs.filter λp=>over p.1 p.2 (a,b)).map Z5):=by
  rw[<- q9O (λs g=>over s g (a,b))];refine qa4 (onP λs g=>over s g (a,b)) (λd=>d) (bs.map Z5) λd hd=>?_;obtain⟨⟨s,g⟩,_,rfl⟩:=zN.mp hd;unfold q6v q6l;simp_arith[q6f,qax];exact⟨rfl,λ_=>trivial⟩
 have c2:Yh (gN 0) q6C q6y (bs.map Z5) [none,↥(.tup [.int a,.int b])]=some ((bs.filter λp=>over p.2 p.1 (a,b)).map Z5):=by
  rw[<- q9O (λs g=>over g s (a,b))];refine qa4 (onP λs g=>over g s (a,b)) (λd=>d) (bs.map Z5) λd hd=>?_;obtain⟨⟨s,g⟩,_,rfl⟩:=zN.mp hd;unfold q6C q6y;simp_arith[q6f,qax];exact⟨rfl,λ_=>trivial⟩
 simp_arith[q6f,Yd hl,inW,Yn,c1,c2];rfl
noncomputable def YV(h l:Int)(bs:List (Int×Int))(q:Int×Int):Int:=rts [(h,l)] q-lfs [(h,l)] q-rts bs q+lfs bs q
theorem qfY{h l:Int}{bs:List (Int×Int)}{q:Int×Int}(hb:bs.length<=1000):q64 [.int h,.int l,.lst (bs.map Z5),Z5 q]=↥(.int (YV h l bs q)):=by
 unfold q64 qb1;have e1:=q4S (bs:=[(h,l)]) (q:=q) (by show 1<=1000;decide);have e2:=q4S (bs:=bs) (q:=q) hb;rw[zT,yA,q6f]at e1;simp_arith[e1,e2];rfl
theorem qb8{h l:Int}{bs:List (Int×Int)}(hb:bs.length<=30):q30 [.int h,.int l,.lst (bs.map Z5)]=some (.fr (((Z4 (YK (plc h l bs))).map (YV h l bs)).map D.int)):=by
 unfold q30 q9z;have S:=stp h l hb;have hl:((Z4 (YK (plc h l bs))).map Z5).length<=1000000:=by rw[zA,q17];have:=S.len;omega
 simp_arith[q3W hb,Yd hl,inW,Yn];rw[q5J (λd=>match d with|.tup [.int a,.int b]=>D.int (YV h l bs (a,b))|d=>d)]
 case h=>
  intro d hd;obtain⟨⟨a,b⟩,_,rfl⟩:=zN.mp hd;unfold qbj;have e:=qfY (h:=h) (l:=l) (bs:=bs) (q:=(a,b)) ∅;rw[q6f]at e ⊢;simp_arith[e]
 rw[xC,xC];rfl
noncomputable def ov(s g:Int)(q:Int×Int):Int:=if over s g q=true then 1 else if over g s q=true then -1 else 0
theorem qb5(f:Int×Int->Int):∀L:List (Int×Int),Xl (L.map Z5) ((L.map f).map D.int)=L.map λq=>D.tup [Z5 q,.int (f q)]
 | []=>rfl
 | q::r=>by
  show D.tup [Z5 q,.int (f q)]::Xl (r.map Z5) ((r.map f).map D.int)=_;rw[qb5 f r];rfl
noncomputable def snd0:D->Bool
 | .tup [_,.int k]=>!(k==0)
 | _=>false
noncomputable def fst0:D->D
 | .tup [x,_]=>x
 | d=>d
theorem qdg(f:Int×Int->Int)(L:List (Int×Int)):Yh (gT 2 (YD (gN 0) (YD (gN 1) Ym))) q6B q8f (L.map λq=>D.tup [Z5 q,.int (f q)]) [none,none]=some ((L.filter λq=>!(f q==0)).map Z5):=by
 have:=q5O (g:=gT 2 (YD (gN 0) (YD (gN 1) Ym))) (c:=q6B) (f:=q8f) (λw=>∃a b,w=[a,b]) snd0 fst0 (L.map λq=>D.tup [Z5 q,.int (f q)]) (ω:=[none,none]) ⟨_,_,rfl⟩ (λd hd w ⟨a,b,hw⟩=>by
  obtain⟨q,_,rfl⟩:=zN.mp hd;subst hw;refine⟨[↥(Z5 q),↥(.int (f q))],rfl,⟨_,_,rfl⟩,?_,λ_=>rfl⟩;unfold q6B;simp_arith[qD];rfl)
 rw[this,Zk,xC];rfl
theorem q6q{h l:Int}{bs:List (Int×Int)}(hb:bs.length<=30):q0H [.int h,.int l,.lst (bs.map Z5)]=some (.fr ((bs++[(h,l)]++(Z4 (YK (plc h l bs))).filter λq=>!(YV h l bs q==0)).map Z5)):=by
 unfold q0H q9q;have S:=stp h l hb;have hg:=q3W (h:=h) (l:=l) hb;have hk:=qb8 (h:=h) (l:=l) hb;have hL:(Z4 (YK (plc h l bs))).length<=1000:=by rw[q17];have:=S.len;omega
 generalize Z4 (YK (plc h l bs))=L at hg hk hL ⊢;have hl:(L.map λq=>D.tup [Z5 q,.int (YV h l bs q)]).length<=1000000:=by rw[zA];omega
 have hf:=yK (λq=>!(YV h l bs q==0)) L;simp_arith[hg,hk,qb5,Yd hl,inW,qdg (YV h l bs)];have a1:YL (.lst (bs.map Z5)) (.lst [.tup [.int h,.int l]])=some (.fr (bs.map Z5++[.tup [.int h,.int l]])):=qX (by rw[zA,zH];omega);have a2:YL (.lst (bs.map Z5++[.tup [.int h,.int l]])) (.lst ((L.filter λq=>!(YV h l bs q==0)).map Z5))=some (.fr (bs.map Z5++[.tup [.int h,.int l]]++(L.filter λq=>!(YV h l bs q==0)).map Z5)):=qX (by rw[zC,zA,zA,zH];omega);simp_arith[a1,a2];rw[zW,zW];rfl
theorem q3e{α:Type}{g:FG}{c:FT}{f:FD}(P:WSt->Prop)(q:α->Bool)(B F:α->D):∀(xs:List α){ω:WSt},P ω ->
  (∀x∈xs,∀ω,P ω->∃w,g (B x) ω=some w/\P w/\c w=some (q x)/\(q x=true->f w=some (F x)))->Yh g c f (xs.map B) ω=some ((xs.filter q).map F)
 | [],_,_,_=>rfl
 | x::xs,ω,h,t=>by
  obtain⟨w,h1,h2,h3,h4⟩:=t x zK ω h;have ih:=q3e P q B F xs h2 (λe he=>t e (zJ _ he));rw[zT,Yh,h1,zZ,h3,zZ];cases hq:q x with
  | true=>rw[vM rfl,h4 hq,zZ,ih,wf hq];rfl
  | false=>rw[vN (by decide),ih,wj (by rw[hq];decide)]
theorem q1r{α:Type}{i:Nat}{c:FT}{f:FD}(q:α->Bool)(B F:α->D)(xs:List α){ω:WSt}(h:∀x∈xs,c (ω.set i ↥(B x))=some (q x)/\(q x=true->f (ω.set i ↥(B x))=some (F x))):Yh (gN i) c f (xs.map B) ω=some ((xs.filter q).map F) :=
 q3e (g:=gN i) (c:=c) (f:=f) (λw=>∀x,w.set i x=ω.set i x) q B F xs (ω:=ω) (λx=>rfl) λd hd w hw=>
  ⟨w.set i ↥(B d),rfl,λx=>by rw[ZZ,hw],by rw[hw];exact(h d hd).1,λz=>by rw[hw];exact(h d hd).2 z⟩
theorem qN{α:Type}{i:Nat}{f:FD}(B F:α->D)(xs:List α){ω:WSt}(h:∀x∈xs,f (ω.set i ↥(B x))=some (F x)):Yh (gN i) YX f (xs.map B) ω=some (xs.map F):=by
 have:=q1r (c:=YX) (i:=i) (f:=f) (λ_=>true) B F xs (ω:=ω) λx hx=>⟨rfl,λ_=>h x hx⟩;rw[this,xa.mpr (λ_ _=>rfl)]
theorem qel{α:Type}(f:α->Int):∀bs:List α,zA8 (bs.map λp=>D.int (f p))=some (bs.map f).sum
 | []=>rfl
 | b::r=>by
  show (zA8 (r.map λp=>D.int (f p))).map _=_;rw[qel f r];rfl
theorem qhF{α:Type}(f:α->Int)(bs:List α):bSum [.lst (bs.map λp=>D.int (f p))]=↥(.int (bs.map f).sum):=by
 show (zA8 _).map _=_;rw[qel];rfl
theorem q3B{α:Type}(q:α->Bool):∀bs:List α,allB (bs.map λp=>D.bl (q p))=some (bs.all q)
 | []=>rfl
 | b::r=>by
  show (allB (r.map λp=>D.bl (q p))).map _=_;rw[q3B q r];rfl
structure Lev (P:List Int) (kn:List (Int×Int)) (r:Int×List (List Int)):Prop where
 ne:∀g∈r.2,g≠[]
 pm:r.2.flatten.Perm P
 tie:∀e∈kn++(Z4 P).filter (λq=>decide (q.2-q.1<r.1)),∃g∈r.2,e.1∈g/\e.2∈g
noncomputable def wgh(a:Int):List (Int×List (List Int))->Int
 | []=>0
 | r::rs=>(r.1-a)*((r.2.length:Int)-1)+wgh r.1 rs
def XY(a:Int):List (Int×List (List Int))->Prop
 | []=>True
 | r::rs=>a<r.1/\XY r.1 rs
noncomputable def zA0(c:Int):Int:=if c<0 then -c else c
theorem Cls.low{ts:List Int}{es:List (Int×Int)}{g:List Int}{a:Int}(c:Cls ts es g a):∀x∈g,a<=x:=λx hx=>by
 have h:=c.hd;have u:=c.up;cases g with
 | nil=>cases hx
 | cons b r=>
  cases h;rcases zE.mp hx with rfl|hx
  ·exact Int.le_refl _
  ·exact Int.le_of_lt ((zg.mp u).1 x hx)
theorem GS.apart{ts:List Int}{es:List (Int×Int)}{gs:List (List Int)}{hs:List Int}(h:GS ts es gs hs){i j:Nat}{g g':List Int}{c:Int}(e1:gs[i]?=some g)(e2:gs[j]?=some g')(h1:c∈g)(h2:c∈g'):i=j:=by
 have li:=(zh.mp e1).1;have lj:=(zh.mp e2).1;rw[h.len]at li lj;have c1:=h.cls i g _ e1 (zD li);have c2:=h.cls j g' _ e2 (zD lj);have r1:=(c1.mem c).mp h1;have r2:=(c2.mem c).mp h2;have a1:=c1.low _ ((c1.mem _).mpr (r1.trans r2.symm));have a2:=c2.low _ ((c2.mem _).mpr (r2.trans r1.symm));rcases Nat.lt_trichotomy i j with z|z|z
 ·have:=yq.mp h.up i j li lj z;omega
 ·exact z
 ·have:=yq.mp h.up j i lj li z;omega
theorem qck:∀{gs:List (List Int)},(∀g∈gs,g.Nodup)->(∀(i j:Nat)g g' c,gs[i]?=some g->gs[j]?=some g'->c∈g->c∈g'->i=j)->gs.flatten.Nodup
 | [],_,_=>wB
 | g::gs,h1,h2=>by
  rw[yM,yd];refine⟨h1 g zK,qck (λg hg=>h1 g (zJ _ hg)) (λi j a b c e1 e2 m1 m2=>?_),λx hx y hy e=>?_⟩
  ·have:=h2 (i+1) (j+1) a b c e1 e2 m1 m2;omega
  ·subst e
   obtain⟨g',hg',hx'⟩:=yu.mp hy;obtain⟨j,hj,rfl⟩:=zn.mp hg';have:=h2 0 (j+1) g _ x rfl (zD hj) hx hx';omega
theorem GS.flat{ts:List Int}{es:List (Int×Int)}{gs:List (List Int)}{hs:List Int}(ok:Ok ts es)(h:GS ts es gs hs)(all:∀t∈ts,∃g∈gs,t∈g):gs.flatten.Perm ts:=by
 have nd:gs.flatten.Nodup:=qck (λg hg=>by
  obtain⟨a,_,c⟩:=h.one hg;exact c.up.imp λ{a b} h e=>∅) λi j g g' c e1 e2 m1 m2=>h.apart e1 e2 m1 m2
 refine(wU nd ok.nd).mpr λx=>⟨λhx=>?_,λhx=>?_⟩
 ·obtain⟨g,hg,hx⟩:=yu.mp hx
  obtain⟨a,_,c⟩:=h.one hg;exact((c.mem x).mp hx).mem ok c.inn
 ·obtain⟨g,hg,hx⟩:=all x hx
  exact yu.mpr ⟨g,hg,hx⟩
theorem qhS{P:List Int}{es kn:List (Int×Int)}{gs:List (List Int)}{hs:List Int}{t:Int}(ok:Ok P es)(h:GS P es gs hs)(all:∀t∈P,∃g∈gs,t∈g)(sub:∀e∈kn++(Z4 P).filter (λq=>decide (q.2-q.1<t)),e∈es):Lev P kn (t,gs) where
 ne:=λg hg e=>by
  obtain⟨a,_,c⟩:=h.one hg;have:=c.hd;rw[e]at this;cases this
 pm:=h.flat ok all
 tie:=λe he=>by
  have he:=sub e he;obtain⟨g,hg,h1⟩:=all _ (ok.inn e he).1;obtain⟨a,_,c⟩:=h.one hg;exact⟨g,hg,h1,(c.mem _).mpr (((c.mem _).mp h1).step (.inl he))⟩
theorem qco{P:List Int}{kn:List (Int×Int)}{gs:List (List Int)}{t:Int}(L:Lev P kn (t,gs)):Lev P kn (t,gs.reverse.map wP) where
 ne:=λg hg e=>by
  obtain⟨g',h1,rfl⟩:=zN.mp hg;exact L.ne g' (yn.mp h1) (List.reverse_eq_nil_iff.mp e)
 pm:=by
  have e:(gs.reverse.map wP).flatten=gs.flatten.reverse:=by rw[List.reverse_flatten,wJ]
  show (gs.reverse.map wP).flatten.Perm P;rw[e];exact(List.reverse_perm _).trans L.pm
 tie:=λe he=>by
  obtain⟨g,hg,h1,h2⟩:=L.tie e he;exact⟨g.reverse,zN.mpr ⟨g,yn.mpr hg,rfl⟩,yn.mpr h1,yn.mpr h2⟩
noncomputable def nmP:Nat->List (List Int)->List (Nat×List Int)
 | _,[]=>[]
 | k,g::gs=>(k,g)::nmP (k+1) gs
noncomputable def kkP(ps:List (Nat×List Int)):List Int:=ps.flatMap (·.2)
noncomputable def vvP(ps:List (Nat×List Int)):List D:=ps.flatMap λp=>p.2.map λ_=>D.int (p.1:Int)
theorem q9k:∀(k:Nat)(gs:List (List Int)),kkP (nmP k gs)=gs.flatten
 | _,[]=>rfl
 | k,g::gs=>by show g++kkP (nmP (k+1) gs)=_;rw[q9k];rfl
theorem qcb{α:Type}(v:α):∀(g:List Int){x:Int},x∈g->YZ g (g.map λ_=>v) x=some v
 | [],_,h=>by cases h
 | y::g,x,h=>by
  show (if y=x then some v else YZ g (g.map λ_=>v) x)=some v
  by_cases z:y=x
  ·rw[vM z]
  ·rw[vN z]
   rcases zE.mp h with rfl|h
   ·exact vK rfl z
   ·exact qcb v g h
theorem qaC{α:Type}:∀{a:List Int}{c:List α}{b:List Int}{d:List α}{x:Int},a.length=c.length->x∈a->YZ (a++b) (c++d) x=YZ a c x
 | [],_,_,_,_,_,h=>by cases h
 | _::_,[],_,_,_,h,_=>by simp at h
 | y::a,v::c,b,d,x,hl,h=>by
  show (if y=x then some v else YZ (a++b) (c++d) x)=if y=x then some v else YZ a c x
  by_cases z:y=x
  ·rw[vM z,vM z]
  ·rw[vN z,vN z]
   rcases zE.mp h with rfl|h
   ·exact vK rfl z
   ·exact qaC ⇑hl h
theorem q9K{α:Type}:∀{a:List Int}{c:List α}{b:List Int}{d:List α}{x:Int},a.length=c.length->x∉a->YZ (a++b) (c++d) x=YZ b d x
 | [],[],_,_,_,_,_=>rfl
 | [],_::_,_,_,_,h,_=>by simp at h
 | _::_,[],_,_,_,h,_=>by simp at h
 | y::a,v::c,b,d,x,hl,h=>by
  show (if y=x then some v else YZ (a++b) (c++d) x)=_;rw[vN (λz=>h (by rw[z];exact zK))];exact q9K ⇑hl λz=>h (zJ _ z)
theorem q5G:∀{gs:List (List Int)}{k:Nat},gs.flatten.Nodup->∀{j:Nat}{g:List Int}{x:Int},gs[j]?=some g->x∈g->YZ (kkP (nmP k gs)) (vvP (nmP k gs)) x=some (.int ((k+j:Nat):Int))
 | [],k,_,j,g,x,h,_=>by cases h
 | g'::gs,k,hn,j,g,x,h,hx=>by
  rw[yM,yd]at hn;show YZ (g'++kkP (nmP (k+1) gs)) ((g'.map λ_=>D.int (k:Int))++vvP (nmP (k+1) gs)) x=_;cases j with
  | zero=>cases h;rw[qaC (by rw[zA]) hx,qcb _ _ hx];rfl
  | succ j=>
   have hg:gs[j]?=some g:=h;have hf:x∈gs.flatten:=yu.mpr ⟨g,zx hg,hx⟩;rw[q9K (by rw[zA]) (λz=>hn.2.2 x z x hf rfl),q5G hn.2.1 hg hx,show k+1+j=k+(j+1) by omega]
theorem qf9{gs:List (List Int)}(hn:gs.flatten.Nodup){g:List Int}(hg:g∈gs){p q:Int}(hp:p∈g)(hq:q∈g):∃i:Int,YZ (kkP (nmP 0 gs)) (vvP (nmP 0 gs)) p=some (.int i)/\YZ (kkP (nmP 0 gs)) (vvP (nmP 0 gs)) q=some (.int i):=by
 obtain⟨k,hk,rfl⟩:=zn.mp hg;exact⟨_,q5G hn (zD hk) hp,q5G hn (zD hk) hq⟩
theorem qgk{α:Type}{ks:List Int}{xs:List α}{k:Int}(y:α)(h:k∉ks):Y8 ks k=ks++[k]/\putA ks xs k y=xs++[y]:=by
 unfold Y8 putA;rw[vN h,vN h];exact⟨rfl,rfl⟩
noncomputable def YB(r:Int×List (List Int)):D:=.tup [.int r.1,.lst (r.2.map gD)]
noncomputable def YI(bs:List (Int×Int))(q:Int×Int):D:=.tup [.int q.1,.int q.2,.int (rts bs q),.int (lfs bs q)]
noncomputable def edD(q:Int×Int):D:=.tup [.int q.1,.int q.2,.int (q.2-q.1)]
noncomputable def Pz(h l:Int)(bs:List (Int×Int)):List Int:=YK (plc h l bs)
noncomputable def Kn(h l:Int)(bs:List (Int×Int)):List (Int×Int):=bs++[(h,l)]++(Z4 (Pz h l bs)).filter λq=>!(YV h l bs q==0)
theorem q3b{h l:Int}{bs:List (Int×Int)}(hb:bs.length<=30):(Z4 (Pz h l bs)).length<=1000:=by
 rw[q17];have:=(stp h l hb).len;unfold Pz;omega
theorem q6e(h l:Int)(bs:List (Int×Int)):(Pz h l bs).Pairwise (· < ·):=q3d
theorem q3M{h l:Int}{bs:List (Int×Int)}(hb:bs.length<=30):(Pz h l bs).length<64:=by
 have h1:(Pz h l bs).length<=(plc h l bs).length:=q4f _;have h2:(plc h l bs).length=2*bs.length+2:=by show (flat bs).length+1+1=_;rw[q5q]
 omega
theorem q5b{h l:Int}{bs:List (Int×Int)}(hb:bs.length<=30):q1G [.int h,.int l,.lst (bs.map Z5)]=some (.fr ((Z4 (Pz h l bs)).map (YI bs))):=by
 unfold q1G q5S;have hl:((Z4 (Pz h l bs)).map Z5).length<=1000000:=by rw[zA];have:=q3b (h:=h) (l:=l) hb;omega
 have cm:=qN (i:=0) (f:=q5F) Z5 (YI bs) (Z4 (Pz h l bs)) (ω:=[none,↥(.lst (bs.map Z5))]) (λq hq=>by
  have c:=q4S (bs:=bs) (q:=q) ∅;have ha:YL (Z5 q) (.tup [.int (rts bs q),.int (lfs bs q)])=↥(YI bs q):=rfl;unfold q5F;simp_arith[c,ha])
 have g:=q3W (h:=h) (l:=l) hb;rw[show YK (plc h l bs)=Pz h l bs from rfl]at g;simp_arith[g,Yd hl,inW,Yn,cm]
theorem q6j(n:Int):q0c [.int n]=↥(.bl true):=q1L (d:=.int n) rfl
theorem q8v(ns:List Int):Yh (gN 0) YX q0M (ns.map D.int) [none]=some (ns.map λ_=>D.bl true):=qN D.int (λ_=>D.bl true) ns λn _=>by
 unfold q0M;simp_arith[q6j]
theorem q5Q{α:Type}(xs:List α):allB (xs.map λ_=>D.bl true)=some true:=by
 rw[q3B (λ_=>true) xs];simp
theorem qaT{ns:List Int}(h:ns.length<=1000):qA [.tup (ns.map D.int)]=↥(.bl true):=by
 unfold qA q1F;have hl:(ns.map D.int).length<=1000000:=by rw[zA];omega
 simp_arith[Yd hl,inW,Yn,q8v,XB,q5Q]
theorem qeX{ns:List Int}(h:ns.length<=1000):qA [.lst (ns.map D.int)]=↥(.bl true):=by
 unfold qA q1F;have hl:(ns.map D.int).length<=1000000:=by rw[zA];omega
 simp_arith[Yd hl,inW,Yn,q8v,XB,q5Q]
theorem qcm(bs:List (Int×Int))(q:Int×Int):(YI bs q).py.canLay0=true/\(YI bs q).py.depth<=2:=⟨rfl,by show 1<=2;decide⟩
theorem q8h(bs gs:List (Int×Int)):shp (.lst (gs.map (YI bs)))=true:=qcp 2 (by decide) λd hd=>by
 obtain⟨q,_,rfl⟩:=zN.mp hd;exact qcm bs q
theorem q6O{bs gs:List (Int×Int)}(h:gs.length<=1000):qO [.lst (gs.map (YI bs)),.lst (gs.map (YI bs))]=↥(.bl true):=by
 unfold qO q1M;have hl:(gs.map (YI bs)).length<=1000000:=by rw[zA];omega
 have cm:=qN (i:=0) (f:=q1x) (YI bs) (λ_=>D.bl true) gs (ω:=[none]) (λq hq=>by
  have w:=qaT (ns:=[q.1,q.2,rts bs q,lfs bs q]) (by show 4<=1000;decide);rw[show D.tup ([q.1,q.2,rts bs q,lfs bs q].map D.int)=YI bs q from rfl]at w;unfold q1x;simp_arith[w])
 simp_arith[q40 (q8h bs gs),Yd hl,inW,Yn,cm,XB,q5Q]
theorem q2E{g:List Int}(hn:g≠[])(h:g.length<=1000):qT [gD g]=↥(.bl true):=by
 unfold qT q2c gD;have w:=qeX h;have hp:(0:Int)<(g.length:Nat):=by have:=xA.mpr hn;omega
 simp_arith[w,hp,decide_true]
theorem q9Q{P:List Int}{gs:List (List Int)}(hP:P.Pairwise (· < ·))(h:gs.flatten.Perm P):YN gs.flatten=P:=by
 have hn:P.Nodup:=hP.imp λ{a b} z=>ww z;exact q54 q3Y (hP.imp λ{a b} z=>Int.le_of_lt z) ((q0i (l:=gs.flatten)).trans h)
theorem q19(ns:List Int):shp (.lst (ns.map D.int))=true:=qcp 2 (by decide) λd hd=>by
 obtain⟨q,_,rfl⟩:=zN.mp hd;exact⟨rfl,by show 0<=2;decide⟩
theorem q0o:∀{gs:List (List Int)}{g:List Int},g∈gs->g.length<=gs.flatten.length
 | g'::gs,g,h=>by
  rw[yM,zC];rcases zE.mp h with rfl|h
  ·omega
  ·have:=q0o h;omega
theorem q0E:∀{gs:List (List Int)},(∀g∈gs,g≠[])->gs.length<=gs.flatten.length
 | [],_=>zQ _
 | g::gs,h=>by
  rw[yM,zC,zG];have:=q0E (gs:=gs) λg hg=>h g (zJ _ hg);have:=xA.mpr (h g zK);omega
theorem qae{P:List Int}{gs:List (List Int)}(hP:P.Pairwise (· < ·))(hl:P.length<64)(ne:∀g∈gs,g≠[])(pm:gs.flatten.Perm P):qY [.lst (gs.map gD),.lst (P.map D.int)]=↥(.bl true):=by
 unfold qY q1e;have fl:gs.flatten.length<64:=by rw[pm.length_eq];exact hl
 have gl:=q0E ne;have hl2:(gs.map gD).length<=1000000:=by rw[zA];omega
 have cm:=qN (i:=0) (f:=q0B) gD (λ_=>D.bl true) gs (ω:=[none]) (λg hg=>by
  have w:=q2E (ne g hg) (by have:=q0o hg;omega);unfold q0B;simp_arith[w])
 simp_arith[Yd hl2,inW,Yn,cm,XB,q5Q];obtain⟨ω',e,x3,rfl⟩:=q1t (g:=gN 3) (b:=q1w) gD gs
  (λpre ω=>∃x3,ω=[↥(.lst (gs.map gD)),↥(.lst (P.map D.int)),some (.ow (pre.flatten.map D.int)),x3])
  (λpre g post ω hd ⟨x3,hω⟩=>by
   subst hω;refine⟨_,rfl,?_⟩;have hle:(pre.flatten.map D.int).length+(g.map D.int).length<=1000000:=by
    have:=uE (λz=>z.flatten.length) hd;simp only[yS,yM,zC]at this;rw[zA,zA];omega
   have e1:=q1R (i:=2) (ω:=[↥(.lst (gs.map gD)),↥(.lst (P.map D.int)),some (.ow (pre.flatten.map D.int)),↥(.lst (g.map D.int))]) (ds:=pre.flatten.map D.int) (ds':=g.map D.int) hle;unfold q1w;show Y6 (zA3 2 (dOf (Zy 3)) [↥(.lst (gs.map gD)),↥(.lst (P.map D.int)),some (.ow (pre.flatten.map D.int)),↥(.lst (g.map D.int))]) _;simp_arith[e1];have ef:(pre++[g]).flatten=pre.flatten++g:=by rw[yS,yM,xR,zi]
   rw[ef,zW];exact⟨_,rfl⟩)
  (ω:=[↥(.lst (gs.map gD)),↥(.lst (P.map D.int)),some (.ow []),none]) ⟨none,rfl⟩
 simp_arith[e,q9m fl,q9Q hP pm,q40 (q19 P)]
noncomputable def nmD(p:Nat×List Int):D:=.tup [.int (p.1:Int),gD p.2]
theorem qct:∀(k:Nat)(gs:List (List Int)),Xc k (gs.map gD)=(nmP k gs).map nmD
 | _,[]=>rfl
 | k,g::gs=>by show D.tup [.int (k:Int),gD g]::Xc (k+1) (gs.map gD)=_;rw[qct];rfl
theorem qeg(a b:List (Nat×List Int)):kkP (a++b)=kkP a++kkP b:=by unfold kkP;rw[ZK]
theorem qh7(a b:List (Nat×List Int)):vvP (a++b)=vvP a++vvP b:=by unfold vvP;rw[ZK]
theorem q8U{gs:List (List Int)}(nd:gs.flatten.Nodup)(fl:gs.flatten.length<64):q0Z [.lst (gs.map gD)]=↥(.dic (kkP (nmP 0 gs)) (vvP (nmP 0 gs))):=by
 unfold q0Z q3g;simp_arith[qct];have nd':(kkP (nmP 0 gs)).Nodup:=by rw[q9k];exact nd
 have fl':(kkP (nmP 0 gs)).length<64:=by rw[q9k];exact fl
 generalize nmP 0 gs=ps at nd' fl';obtain⟨ω',e,x2,x3,x4,rfl⟩:=q1t (g:=gT 2 (YD (gN 2) (YD (gN 3) Ym))) (b:=q2N) nmD ps
  (λpre ω=>∃x2 x3 x4,ω=[↥(.lst (gs.map gD)),some (.od (kkP pre) (vvP pre)),x2,x3,x4])
  (λpre p post ω hd ⟨x2,x3,x4,hω⟩=>by
   subst hω;refine⟨_,rfl,?_⟩;unfold q2N;obtain⟨k,g⟩:=p;rw[hd,qeg]at nd' fl';show Y6 (Xu _ _ _ [↥(.lst (gs.map gD)),some (.od (kkP pre) (vvP pre)),↥(.int (k:Int)),↥(.lst (g.map D.int)),x4]) _;simp_arith[qD];obtain⟨ω',e,y4,rfl⟩:=q1t (g:=gN 4) (b:=q2R) D.int g
    (λpre' ω=>∃y4,ω=[↥(.lst (gs.map gD)),some (.od (kkP pre++pre') (vvP pre++pre'.map λ_=>D.int (k:Int))),↥(.int (k:Int)),↥(.lst (g.map D.int)),y4])
    (λpre' c post' ω hd' ⟨y4,hω⟩=>by
     subst hω;refine⟨_,rfl,?_⟩;have nd2:(kkP pre++(pre'++c::post')).Nodup:=by
      have:(kkP pre++(g++kkP post)).Nodup:=nd';rw[hd',<- zY]at this;exact(yd.mp this).1
     have hnew:c∉kkP pre++pre':=λm=>by
      rw[<- zY]at nd2;exact(yd.mp nd2).2.2 c m c zK rfl
     have hlen:(kkP pre++pre').length<1000000:=by
      have:(kkP pre++(g++kkP post)).length<64:=fl';rw[hd']at this;simp only[zC,zG]at this ⊢;omega
     obtain⟨p1,p2⟩:=qgk (xs:=vvP pre++pre'.map λ_=>D.int (k:Int)) (D.int (k:Int)) hnew;unfold q2R;simp_arith[q9l hlen,p1,p2,zY];exact⟨_,by rw[zW];rfl⟩)
    (ω:=[↥(.lst (gs.map gD)),some (.od (kkP pre) (vvP pre)),↥(.int (k:Int)),↥(.lst (g.map D.int)),x4]) ⟨x4,by rw[zi,yA,zi]⟩
   simp_arith[e];have ek:kkP (pre++[(k,g)])=kkP pre++g:=by
    rw[qeg];show kkP pre++(g++[])=_;rw[zi]
   have ev:vvP (pre++[(k,g)])=vvP pre++g.map λ_=>D.int (k:Int):=by
    rw[qh7];show vvP pre++((g.map λ_=>D.int (k:Int))++[])=_;rw[zi]
   rw[ek,ev];exact⟨_,_,_,rfl⟩)
  (ω:=[↥(.lst (gs.map gD)),some (.od [] []),none,none,none]) ⟨none,none,none,rfl⟩
 simp_arith[e]
theorem qez{gs:List (List Int)}{ds:List D}(nd:gs.flatten.Nodup)(fl:gs.flatten.length<64)(hl:ds.length<=10000)(h:∀d∈ds,∃a b r,d=.tup (.int a::.int b::r)/\∃g∈gs,a∈g/\b∈g):
  q0k [.lst (gs.map gD),.lst ds]=↥(.bl true):=by
 unfold q0k q1o;have hl2:ds.length<=1000000:=∅
 have cm:=q5J (i:=0) (f:=q0C) (λ_=>D.bl true) ds (ω:=[none,↥(.dic (kkP (nmP 0 gs)) (vvP (nmP 0 gs)))]) (λd hd=>by
  obtain⟨a,b,r,rfl,g,hg,h1,h2⟩:=h d hd;obtain⟨i,v1,v2⟩:=qf9 nd hg h1 h2;unfold q0C;have q:oEq false (.int i) (.int i)=↥(.bl true):=q40 rfl;simp_arith[v1,v2,q])
 simp_arith[q8U nd fl,Yd hl2,inW,Yn,cm,XB,q5Q]
theorem qcv(q:Int×Int):q7e [edD q]=↥(.int (q.2-q.1)):=by
 unfold q7e qaH edD;simp_arith[qD]
theorem qbR{P:List Int}{kn:List (Int×Int)}{r:Int×List (List Int)}(hP:P.Pairwise (· < ·))(hl:P.length<64)(hk:kn.length<=1000)(L:Lev P kn r):
  qF [YB r,.lst (P.map D.int),.lst (kn.map Z5),.lst ((Z4 P).map edD)]=↥(.bl true):=by
 obtain⟨t,gs⟩:=r;have hPn:P.Nodup:=hP.imp λ{a b} z=>ww z;have nd:gs.flatten.Nodup:=L.pm.nodup_iff.mpr hPn;have fl:gs.flatten.length<64:=by rw[L.pm.length_eq];exact hl
 have glen:(Z4 P).length<=64:=by rw[q17];omega
 unfold qF q1s YB;have ag:=qae hP hl L.ne L.pm;have hl2:((Z4 P).map edD).length<=1000000:=by rw[zA];omega
 have cm:=q1r (i:=0) (c:=q2G) (f:=q2F) (λq=>decide (q.2-q.1<t)) edD edD (Z4 P) (ω:=[none,↥(.tup [.int t,.lst (gs.map gD)])]) (λq hq=>by
  unfold q2G q2F;have c:=qcv q;simp_arith[c];exact⟨trivial,λ_=>trivial⟩)
 have fil_len:((Z4 P).filter λq=>decide (q.2-q.1<t)).length<=64:=zm (yK _ _) glen;have ad:YL (.lst (kn.map Z5)) (.lst (((Z4 P).filter λq=>decide (q.2-q.1<t)).map edD))=some (.fr (kn.map Z5++((Z4 P).filter λq=>decide (q.2-q.1<t)).map edD)):=qX (by rw[zA,zA];omega);have ho:=qez (gs:=gs) (ds:=kn.map Z5++((Z4 P).filter λq=>decide (q.2-q.1<t)).map edD) nd fl (by rw[zC,zA,zA];omega) λd hd=>by
  rcases zP.mp hd with z|z
  ·obtain⟨q,hq,rfl⟩:=zN.mp z
   exact⟨q.1,q.2,[],rfl,L.tie q (zb _ hq)⟩
  ·obtain⟨q,hq,rfl⟩:=zN.mp z
   exact⟨q.1,q.2,[.int (q.2-q.1)],rfl,L.tie q (zU _ hq)⟩
 have l2:(((2:Nat):Int)==2)=true:=rfl;simp_arith[l2,q6j,ag,Yd hl2,inW,Yn,cm,ad,ho]
theorem q9u:∀(xs ys:List Int),Xl (xs.map D.int) (ys.map D.int)=(xs.zip ys).map Z5
 | x::xs,y::ys=>by show D.tup [.int x,.int y]::Xl (xs.map D.int) (ys.map D.int)=_;rw[q9u xs ys];rfl
 | [],ys=>by cases ys <;> rfl
 | x::xs,[]=>rfl
theorem qcz:∀{rows:List (Int×List (List Int))}{a:Int},XY a rows->((a::rows.map (·.1)).zip (rows.map (·.1))).all (λp=>decide (p.1<p.2))=true
 | [],a,_=>rfl
 | r::rs,a,⟨h1,h2⟩=>by
  show (decide (a<r.1)&&((r.1::rs.map (·.1)).zip (rs.map (·.1))).all (λp=>decide (p.1<p.2)))=true;rw[vP h1,qcz h2];rfl
theorem qfW{rows:List (Int×List (List Int))}(h:XY 0 rows)(hl:rows.length<=1000):q0g [.lst (rows.map λr=>D.int r.1)]=↥(.bl true):=by
 unfold q0g q1I;have e0:(rows.map λr=>D.int r.1)=(rows.map (·.1)).map D.int:=by rw[xC];rfl
 have ad:YL (.lst [.int 0]) (.lst ((rows.map (·.1)).map D.int))=some (.fr ((0::rows.map (·.1)).map D.int)):=qX (by rw[zA,zA,zH];omega);have hl2:(((0::rows.map (·.1)).zip (rows.map (·.1))).map Z5).length<=1000000:=by rw[zA,ZA,zA];omega
 have cm:=q3e (g:=gT 2 (YD (gN 0) (YD (gN 1) Ym))) (c:=YX) (f:=q0O) (λw=>∃a b,w=[a,b]) (λ_=>true) Z5 (λp=>D.bl (decide (p.1<p.2))) ((0::rows.map (·.1)).zip (rows.map (·.1))) (ω:=[none,none]) ⟨_,_,rfl⟩ (λp _ w ⟨a,b,hw⟩=>by
  subst hw;refine⟨[↥(.int p.1),↥(.int p.2)],rfl,⟨_,_,rfl⟩,rfl,λ_=>?_⟩;unfold q0O;simp_arith[qD])
 rw[xa.mpr (λ_ _=>rfl)]at cm;rw[e0];have tz:Xl (.int 0::(rows.map (·.1)).map D.int) ((rows.map (·.1)).map D.int)=(((0:Int)::rows.map (·.1)).zip (rows.map (·.1))).map Z5:=q9u (0::Ze Prod.fst rows) (Ze Prod.fst rows);simp_arith[ad,tz,Yd hl2,inW,Yn,cm,XB,q3B,qcz h]
theorem qbf{h l:Int}{bs:List (Int×Int)}(hb:bs.length<=30):q1C [.int h,.int l,.lst (bs.map Z5)]=some (.fr ((Z4 (Pz h l bs)).map edD)):=by
 unfold q1C q5R;have hl:((Z4 (Pz h l bs)).map Z5).length<=1000000:=by rw[zA];have:=q3b (h:=h) (l:=l) hb;omega
 have cm:=qN (i:=0) (f:=q5u) Z5 edD (Z4 (Pz h l bs)) (ω:=[none]) (λq hq=>by
  obtain⟨a,b⟩:=q;unfold q5u Z5 edD;simp_arith[qD])
 have g:=q3W (h:=h) (l:=l) hb;rw[show YK (plc h l bs)=Pz h l bs from rfl]at g;simp_arith[g,Yd hl,inW,Yn,cm]
theorem q7h{h l:Int}{bs:List (Int×Int)}(hb:bs.length<=30):(Kn h l bs).length<=1000:=by
 unfold Kn;have h1:=yK (λq=>!(YV h l bs q==0)) (Z4 (Pz h l bs));have h2:(Z4 (Pz h l bs)).length<=64:=by rw[q17];have:=q3M (h:=h) (l:=l) hb;omega
 rw[zC,zC,zH];omega
theorem qal{h l:Int}{bs:List (Int×Int)}{rows:List (Int×List (List Int))}(hb:bs.length<=30)(hr:rows.length<=1000)(ris:XY 0 rows)(L:∀r∈rows,Lev (Pz h l bs) (Kn h l bs) r):
  qM [.int h,.int l,.lst (bs.map Z5),.lst (rows.map YB)]=↥(.bl true):=by
 unfold qM q1g;have s:=q5m (h:=h) (l:=l) hb;have k:=q6q (h:=h) (l:=l) hb;rw[show YK (plc h l bs)=Pz h l bs from rfl]at s k;rw[show (bs++[(h,l)]++(Z4 (Pz h l bs)).filter λq=>!(YV h l bs q==0))=Kn h l bs from rfl]at k;have ed:=qbf (h:=h) (l:=l) hb;have hl:(rows.map YB).length<=1000000:=by rw[zA];omega
 have c1:=qN (i:=0) (f:=q1z) YB (λ_=>D.bl true) rows (ω:=[none,↥(.lst ((Pz h l bs).map D.int)),↥(.lst ((Kn h l bs).map Z5)),↥(.lst ((Z4 (Pz h l bs)).map edD))]) (λr hr=>by
  have il:=qbR (q6e h l bs) (q3M hb) (q7h hb) (L r hr);unfold q1z;simp_arith[il])
 have c2:=qN (i:=0) (f:=q1y) YB (λr=>D.int r.1) rows (ω:=[none]) (λr hr=>by
  unfold q1y YB;simp_arith[qD])
 simp_arith[s,k,ed,Yd hl,inW,Yn,c1,c2,XB,q5Q,qfW ris hr]
theorem q76{h l:Int}{bs:List (Int×Int)}{rows:List (Int×List (List Int))}(hb:bs.length<=30)(hr:rows.length<=1000)(ris:XY 0 rows)(L:∀r∈rows,Lev (Pz h l bs) (Kn h l bs) r):
  qC [.int h,.int l,.lst (bs.map Z5),.tup [.lst ((Z4 (Pz h l bs)).map (YI bs)),.lst (rows.map YB)]]=↥(.bl true):=by
 unfold qC q1D;have c:=q5x (h:=h) (l:=l) (bs:=bs) ∅;have l2:(((2:Nat):Int)==2)=true:=rfl;simp_arith[l2,c,q5b hb,q6O (q3b hb),qal hb hr ris L]
theorem q8q{D0 D1:Option W}:∀(rows:List (Int×List (List Int)))(tot a:Int)(x4 x5:Option W),(∀r∈rows,r.2.length<=1000)->∃a' y4 y5,Yr (gT 2 (YD (gN 4) (YD (gN 5) Ym))) q4D (rows.map YB) [D0,↥(.int 1),↥(.int tot),↥(.int a),x4,x5] =
  some (.nx,[D0,↥(.int 1),↥(.int (tot+wgh a rows)),↥(.int a'),y4,y5])
 | [],tot,a,x4,x5,_=>⟨a,x4,x5,by show some _=_;rw[show tot+wgh a []=tot from Int.add_zero _]⟩
 | r::rs,tot,a,x4,x5,h=>by
  obtain⟨t,gs⟩:=r;have hg:=h (t,gs) zK;obtain⟨a',y4,y5,ih⟩:=q8q (D0:=D0) (D1:=D1) rs (tot+(t-a)*((gs.length:Int)-1)) t ↥(.int t) ↥(.lst (gs.map gD)) λr hr=>h r (zJ _ hr);refine⟨a',y4,y5,?_⟩;have mu:X1 (.int (t-a)) (.int ((gs.length:Int)-1))=↥(.int ((t-a)*((gs.length:Int)-1))):=q81 (by simp only at hg;omega) (by simp only at hg;omega);rw[zT,Yr];show ZH (some [D0,↥(.int 1),↥(.int tot),↥(.int a),↥(.int t),↥(.lst (gs.map gD))]) _=_;rw[zZ];have st:q4D [D0,↥(.int 1),↥(.int tot),↥(.int a),↥(.int t),↥(.lst (gs.map gD))]=some (.nx,[D0,↥(.int 1),↥(.int (tot+(t-a)*((gs.length:Int)-1))),↥(.int t),↥(.int t),↥(.lst (gs.map gD))]):=by
   unfold q4D;simp_arith[mu]
  rw[st];show Yr _ _ _ _=_;rw[ih,show wgh a ((t,gs)::rs)=(t-a)*((gs.length:Int)-1)+wgh t rs from rfl,Int.add_assoc]
theorem qcG{rows:List (Int×List (List Int))}(h:∀r∈rows,r.2.length<=1000):q2X [.lst (rows.map YB),.int 1]=↥(.int (wgh 0 rows)):=by
 unfold q2X q75;obtain⟨a',y4,y5,e⟩:=q8q (D0:=↥(.lst (rows.map YB))) (D1:=none) rows 0 0 none none h;simp_arith[e,Int.zero_add]
theorem q6X{bs:List (Int×Int)}{q:Int×Int}:0<=rts bs q/\rts bs q<=bs.length/\0<=lfs bs q/\lfs bs q<=bs.length:=by
 unfold rts lfs;have h1:=yK (λp:Int×Int=>over p.1 p.2 q) bs;have h2:=yK (λp:Int×Int=>over p.2 p.1 q) bs;omega
theorem qdi{h l:Int}{bs:List (Int×Int)}{q:Int×Int}(hb:bs.length<=30):-100<=YV h l bs q/\YV h l bs q<=100:=by
 unfold YV;have h1:=q6X (bs:=bs) (q:=q);have h2:=q6X (bs:=[(h,l)]) (q:=q);simp only[zH]at h2;omega
noncomputable def gwt(h l:Int)(bs:List (Int×Int))(g:Int×Int):Int:=(g.2-g.1)*(rts bs g+lfs bs g+zA0 (YV h l bs g))
theorem qa9{h l:Int}{bs:List (Int×Int)}{q:Int×Int}(hb:bs.length<=30):q1h [YI bs q,.int (YV h l bs q)]=↥(.int (gwt h l bs q)):=by
 unfold q1h q5p YI gwt;have h1:=q6X (bs:=bs) (q:=q);have h2:=qdi (h:=h) (l:=l) (q:=q) hb;have ha:bAbs [.int (YV h l bs q)]=↥(.int (zA0 (YV h l bs q))):=rfl;have h3:-100<=zA0 (YV h l bs q)/\zA0 (YV h l bs q)<=100:=by unfold zA0;split <;> omega
 have mu:X1 (.int (q.2-q.1)) (.int (rts bs q+lfs bs q+zA0 (YV h l bs q)))=↥(.int ((q.2-q.1)*(rts bs q+lfs bs q+zA0 (YV h l bs q)))):=q81 ∅ ∅;have a3:∀a b c d:D,atI [a,b,c,d] 3=some d:=λ_ _ _ _=>rfl;simp_arith[ha,a3,mu]
theorem qef(f:Int×Int->Int)(B:Int×Int->D):∀L:List (Int×Int),Xl (L.map B) ((L.map f).map D.int)=L.map λq=>D.tup [B q,.int (f q)]
 | []=>rfl
 | q::L=>by show D.tup [B q,.int (f q)]::Xl (L.map B) ((L.map f).map D.int)=_;rw[qef f B L];rfl
theorem q9T{h l:Int}{bs:List (Int×Int)}{rows:List (Int×List (List Int))}(hb:bs.length<=30)(hr:rows.length<=1000)(ris:XY 0 rows)(L:∀r∈rows,Lev (Pz h l bs) (Kn h l bs) r):
  q2V [.int h,.int l,.lst (bs.map Z5),.tup [.lst ((Z4 (Pz h l bs)).map (YI bs)),.lst (rows.map YB)]]=↥(.int (((Z4 (Pz h l bs)).map (gwt h l bs)).sum+2*wgh 0 rows)):=by
 unfold q2V q88;have lk:=qb8 (h:=h) (l:=l) hb;rw[show YK (plc h l bs)=Pz h l bs from rfl]at lk;have hz:Xl ((Z4 (Pz h l bs)).map (YI bs)) (((Z4 (Pz h l bs)).map (YV h l bs)).map D.int)=(Z4 (Pz h l bs)).map λq=>D.tup [YI bs q,.int (YV h l bs q)]:=qef _ _ _;have hl:((Z4 (Pz h l bs)).map λq=>D.tup [YI bs q,.int (YV h l bs q)]).length<=1000000:=by rw[zA];have:=q3b (h:=h) (l:=l) hb;omega
 have cm:=q3e (g:=gT 2 (YD (gN 0) (YD (gN 1) Ym))) (c:=YX) (f:=q7m) (λw=>∃a b,w=[a,b]) (λ_=>true) (λq=>D.tup [YI bs q,.int (YV h l bs q)]) (λq=>D.int (gwt h l bs q)) (Z4 (Pz h l bs)) (ω:=[none,none]) ⟨_,_,rfl⟩ (λq _ w ⟨a,b,hw⟩=>by
  subst hw;refine⟨[↥(YI bs q),↥(.int (YV h l bs q))],rfl,⟨_,_,rfl⟩,rfl,λ_=>?_⟩;have g:=qa9 (h:=h) (l:=l) (q:=q) hb;unfold q7m;simp_arith[g])
 rw[xa.mpr (λ_ _=>rfl)]at cm;have gl:∀r∈rows,r.2.length<=1000:=λr hr=>by
  have h1:=q0E (L r hr).ne;rw[(L r hr).pm.length_eq]at h1;have:=q3M (h:=h) (l:=l) hb;omega
 have wg:=qcG gl;have mu:X1 (.int 2) (.int (wgh 0 rows))=↥(.int (2*wgh 0 rows)):=qbw (by decide) (by decide);simp_arith[q76 hb hr ris L,lk,hz,Yd hl,inW,Yn,cm,qhF,wg,mu]
noncomputable def WJ(a:Int):List (Int×List (List Int))->Int
 | []=>a
 | r::rs=>WJ r.1 rs
theorem qaO:∀{rows:List (Int×List (List Int))}{a:Int}{r:Int×List (List Int)},XY a rows->WJ a rows<r.1->XY a (rows++[r])
 | [],_,_,_,h=>⟨h,trivial⟩
 | _::_,_,_,⟨h1,h2⟩,h=>⟨h1,qaO h2 h⟩
theorem q9L:∀(rows:List (Int×List (List Int)))(a:Int)(r:Int×List (List Int)),WJ a (rows++[r])=r.1
 | [],_,_=>rfl
 | s::rows,_,r=>q9L rows s.1 r
theorem q70{h l:Int}{bs:List (Int×Int)}(p:Int):p∈Pz h l bs↔p=h\/p=l\/∃b∈bs,p=b.1\/p=b.2:=by
 unfold Pz;rw[q5N];unfold plc flat;simp only[zE,List.mem_flatMap,zI,or_false]
theorem qgN{P:List Int}{g:Int×Int}(h:g∈Z4 P):∃(i:Nat) (hi:i+1<P.length),g=(P[i],P[i+1]):=by
 obtain⟨i,hi,rfl⟩:=zn.mp h;have hi':=hi;rw[q17]at hi';have e:=qfw (P:=P) (i:=i) ∅;refine⟨i,∅,?_⟩;rw[zD hi]at e;exact zo e
theorem q7q{P:List Int}{g:Int×Int}(h:g∈Z4 P):g.1∈P/\g.2∈P:=by
 obtain⟨i,hi,rfl⟩:=qgN h;exact⟨ym _,ym _⟩
theorem qcR{h l:Int}{bs:List (Int×Int)}{e:Int×Int}(he:e∈Kn h l bs):e.1∈Pz h l bs/\e.2∈Pz h l bs:=by
 unfold Kn at he;rcases zP.mp he with he|he
 ·rcases zP.mp he with he|he
  ·exact⟨(q70 _).mpr (.inr (.inr ⟨e,he,.inl rfl⟩)),(q70 _).mpr (.inr (.inr ⟨e,he,.inr rfl⟩))⟩
  ·cases zL.mp he
   exact⟨(q70 _).mpr (.inl rfl),(q70 _).mpr (.inr (.inl rfl))⟩
 ·exact q7q (xg.mp he).1
theorem q8C{f:FD}{ω:WSt}:fRev f ω=(f ω).bind oRev:=rfl
theorem q8o{ds:List D}:oRev (.lst ds)=some (.fr ds.reverse):=rfl
theorem qeO{ns:List Int}{h l:Int}{bs:List (Int×Int)}(hb:bs.length<=30){rows:List (Int×List (List Int))}(hr:rows.length<=100)(t c:Int)(x8 x9:Option W):∃(T:Int) (gs:List (List Int)) (y8 y9:Option W),
  q1j [↥(.scr ns),↥(.int h),↥(.int l),↥(.lst (bs.map Z5)),↥(.lst ((Pz h l bs).map D.int)),some (.ow (rows.map YB)),↥(.int t),↥(.int c),x8,x9] =
   some (.nx,[↥(.scr ns),↥(.int h),↥(.int l),↥(.lst (bs.map Z5)),↥(.lst ((Pz h l bs).map D.int)),some (.ow (rows.map YB++[YB (T,gs)])),↥(.int T),↥(.int c),y8,y9])/\t<T/\Lev (Pz h l bs) (Kn h l bs) (T,gs):=by
 have h4:0<=c%4/\c%4<4:=∅
 have p39:zAk (.int 10) (.int 39)=↥(.int (10^39)):=rfl;obtain⟨d,hd,m,rfl,hm,om⟩:=q1k (ds:=[.int 1,.int 20,.int 2000,.int (10^39)]) (i:=c%4) (λd=>∃m:Int,d=D.int m/\0<m/\oMod (.int (c/4)) (.int m)=↥(.int (c/4%m))) h4.1 h4.2 (by
  intro d hd;simp only[zE,zI,or_false]at hd;rcases hd with rfl|rfl|rfl|rfl
  ·exact⟨_,rfl,by decide,q03 (by decide)⟩
  ·exact⟨_,rfl,by decide,q03 (by decide)⟩
  ·exact⟨_,rfl,by decide,q03 (by decide)⟩
  ·exact⟨_,rfl,by decide,q03 (by decide)⟩)
 simp only[yo]at p39 hd;obtain⟨T,hTe⟩:∃T,t+1+c/4%m=T:=⟨_,rfl⟩;have hT:t<T:=by have:=yz (c/4) (show m≠0 by omega);omega
 have ppos:0<(Pz h l bs).length:=(stp h l hb).pos;have plen:=q3M (h:=h) (l:=l) hb;have k:=q6q (h:=h) (l:=l) hb;have g:=q3W (h:=h) (l:=l) hb;rw[show YK (plc h l bs)=Pz h l bs from rfl]at k g;rw[show (bs++[(h,l)]++(Z4 (Pz h l bs)).filter λq=>!(YV h l bs q==0))=Kn h l bs from rfl]at k;have glen:(Z4 (Pz h l bs)).length<=64:=by rw[q17];omega
 have hl2:((Z4 (Pz h l bs)).map Z5).length<=1000000:=by rw[zA];omega
 have cm:=q1r (i:=0) (c:=q41) (f:=q3S) (λq=>decide (q.2-q.1<T)) Z5 Z5 (Z4 (Pz h l bs)) (ω:=[none,↥(.int T)]) (λq hq=>by
  obtain⟨a,b⟩:=q;unfold q41 q3S Z5;simp_arith[qD];exact⟨trivial,λ_=>trivial⟩)
 have sl:((Z4 (Pz h l bs)).filter λq=>decide (q.2-q.1<T)).length<=64:=zm (yK _ _) glen;have sin:∀e∈(Z4 (Pz h l bs)).filter (λq=>decide (q.2-q.1<T)),e.1∈Pz h l bs/\e.2∈Pz h l bs:=λe he=>q7q (xg.mp he).1;have sub0:∀e∈Kn h l bs++(Z4 (Pz h l bs)).filter (λq=>decide (q.2-q.1<T)),e∈Kn h l bs++(Z4 (Pz h l bs)).filter (λq=>decide (q.2-q.1<T)):=λ_ he=>he;have knl:=q7h (h:=h) (l:=l) hb;have kl:(Kn h l bs).length<=200:=by
  unfold Kn;have h1:=yK (λq=>!(YV h l bs q==0)) (Z4 (Pz h l bs));rw[zC,zC,zH];omega
 have ad1:YL (.lst ((Kn h l bs).map Z5)) (.lst (((Z4 (Pz h l bs)).filter λq=>decide (q.2-q.1<T)).map Z5))=some (.fr ((Kn h l bs++(Z4 (Pz h l bs)).filter λq=>decide (q.2-q.1<T)).map Z5)):=by
  rw[qX (by rw[zA,zA];omega),zW]
 generalize hsh:((Z4 (Pz h l bs)).filter λq=>decide (q.2-q.1<T))=sh at cm sl sin ad1 sub0;have core:∀ex:List (Int×Int),ex.length<=1->(∀e∈ex,e.1∈Pz h l bs/\e.2∈Pz h l bs)->∃gs:List (List Int),q2S [.lst ((Pz h l bs).map D.int),.lst ((Kn h l bs++sh++ex).map Z5)]=some (.fr (gs.map gD))/\Lev (Pz h l bs) (Kn h l bs) (T,gs):=λex hex hin=>by
  have ok:Ok (Pz h l bs) (Kn h l bs++sh++ex):=⟨(q6e h l bs).imp λ{a b} z=>ww z,λe he=>by
   rcases zP.mp he with he|he
   ·rcases zP.mp he with he|he
    ·exact qcR he
    ·exact sin e he
   ·exact hin e he,plen,by rw[zC,zC];omega⟩
  obtain⟨gs,hs,e1,e2,e3,_⟩:=qdV ok;exact⟨gs,e1,qhS ok e2 e3 λe he=>by rw[hsh]at he;exact zb _ he⟩
 have rv:∀gs:List (List Int),Yh (gN 0) YX q3V (gs.map gD).reverse [none]=some ((gs.reverse.map wP).map gD):=λgs=>by
  rw[<- wJ,xC];refine qN gD (gD ∘ wP) gs.reverse λg _=>?_;unfold q3V gD;simp_arith[q8C,q8o,Function.comp,wJ]
 have rl:∀{gs:List (List Int)},Lev (Pz h l bs) (Kn h l bs) (T,gs)->(gs.map gD).reverse.length<=1000000:=λ{gs} L=>by
  have h1:=q0E L.ne;rw[L.pm.length_eq]at h1;have h2:gs.length<=(Pz h l bs).length:=h1;rw[yc,zA];omega
 have hrl:(rows.map YB).length<1000000:=by rw[zA];omega
 obtain⟨dp,hp,p,rfl,pin⟩:=q1k (ds:=(Pz h l bs).map D.int) (i:=c/21%((Pz h l bs).length:Int)) (λd=>∃p,d=D.int p/\p∈Pz h l bs) (yz _ ∅) (by rw[zA];exact yt _ ∅) (λd hd=>by obtain⟨p,h1,rfl⟩:=zN.mp hd;exact⟨p,rfl,h1⟩);obtain⟨dq,hq,q,rfl,qin⟩:=q1k (ds:=(Pz h l bs).map D.int) (i:=c/168%((Pz h l bs).length:Int)) (λd=>∃p,d=D.int p/\p∈Pz h l bs) (yz _ ∅) (by rw[zA];exact yt _ ∅) (λd hd=>by obtain⟨p,h1,rfl⟩:=zN.mp hd;exact⟨p,rfl,h1⟩);have om1:∀x:Int,oMod (.int x) (.int ((Pz h l bs).length:Int))=↥(.int (x%((Pz h l bs).length:Int))):=λx=>q03 ∅;have ad2:YL (.lst ((Kn h l bs++sh).map Z5)) (.lst [.tup [.int p,.int q]])=some (.fr ((Kn h l bs++sh++[(p,q)]).map Z5)):=by
  rw[qX (by rw[zA,zC,zH];omega),zW (l₂:=[(p,q)])];rfl
 obtain⟨gs,e1,L1⟩:=core [] (by decide) (λe he=>by cases he);obtain⟨gs',e1',L1'⟩:=core [(p,q)] (zQ 1) (λe he=>by cases zL.mp he;exact⟨pin,qin⟩);rw[zi]at e1;have lev_eq:∀gs:List (List Int),D.tup [.int T,.lst (gs.map gD)]=YB (T,gs):=λ_=>rfl;unfold q1j
 by_cases z1:c/7%3=1 <;> by_cases z2:c/5%2=1
 ·have z1':(c/7%3==1)=true:=by simpa using z1
  have z2':(c/5%2==1)=true:=by simpa using z2
  simp_arith[p39,hd,om,hTe,k,g,Yd hl2,inW,Yn,cm,ad1,z1',z2',om1,hp,hq,ad2,e1',Yd (rl L1'),rv,Xr hrl,lev_eq];exact⟨T,_,_,_,rfl,hT,qco L1'⟩
 ·have z1':(c/7%3==1)=true:=by simpa using z1
  have z2':(c/5%2==1)=false:=by simpa using z2
  simp_arith[p39,hd,om,hTe,k,g,Yd hl2,inW,Yn,cm,ad1,z1',z2',om1,hp,hq,ad2,e1',Xr hrl,lev_eq];exact⟨T,_,_,_,rfl,hT,L1'⟩
 ·have z1':(c/7%3==1)=false:=by simpa using z1
  have z2':(c/5%2==1)=true:=by simpa using z2
  simp_arith[p39,hd,om,hTe,k,g,Yd hl2,inW,Yn,cm,ad1,z1',z2',e1,Yd (rl L1),rv,Xr hrl,lev_eq];exact⟨T,_,_,_,rfl,hT,qco L1⟩
 ·have z1':(c/7%3==1)=false:=by simpa using z1
  have z2':(c/5%2==1)=false:=by simpa using z2
  simp_arith[p39,hd,om,hTe,k,g,Yd hl2,inW,Yn,cm,ad1,z1',z2',e1,Xr hrl,lev_eq];exact⟨T,_,_,_,rfl,hT,L1⟩
theorem qdB{ns:List Int}{h l:Int}{bs:List (Int×Int)}(hb:bs.length<=30):∃rows:List (Int×List (List Int)),q1u [.scr ns,.int h,.int l,.lst (bs.map Z5)]=some (.fr (rows.map YB))/\rows.length<=6/\XY 0 rows/\∀r∈rows,Lev (Pz h l bs) (Kn h l bs) r:=by
 unfold q1u q4k;have hc:=q67 (ns:=ns) (k:=0) (by decide);have s:=q5m (h:=h) (l:=l) hb;rw[show YK (plc h l bs)=Pz h l bs from rfl]at s;have h6:0<=ns.getD 0 0/4096%6/\ns.getD 0 0/4096%6<6:=∅
 obtain⟨d,hd,k,rfl,hk⟩:=q1k (ds:=[.int 6,.int 3,.int 1,.int 0,.int 2,.int 6]) (i:=ns.getD 0 0/4096%6) (λd=>∃k:Nat,d=D.int (k:Int)/\k<=6) h6.1 h6.2 (by
  intro d hd;simp only[zE,zI,or_false]at hd;rcases hd with rfl|rfl|rfl|rfl|rfl|rfl
  ·exact⟨6,rfl,by decide⟩
  ·exact⟨3,rfl,by decide⟩
  ·exact⟨1,rfl,by decide⟩
  ·exact⟨0,rfl,by decide⟩
  ·exact⟨2,rfl,by decide⟩
  ·exact⟨6,rfl,by decide⟩)
 have hcl:(cutD ns (some 57) (some (57+(k:Int)))).length<=6:=by
  have e1:HT.sIx ns.length 0 (some 57)=min 57 ns.length:=HT.q6a ns.length 0 57;have e2:HT.sIx ns.length ns.length (some (57+(k:Int)))=min (57+k) ns.length:=by
   have:=HT.q6a ns.length ns.length (57+k);rw[show ((57+k:Nat):Int)=57+(k:Int) by omega]at this;exact this
  unfold cutD;rw[e1,e2,zy];omega
 simp_arith[s,hc,hd,qhZ];generalize cutD ns (some 57) (some (57+(k:Int)))=cells at hcl;obtain⟨ω',e,rows,x7,x8,x9,rfl,i1,i2,i3⟩:=q1t (g:=gN 7) (b:=q1j) D.int cells
  (λpre ω=>∃(rows:List (Int×List (List Int))) (x7 x8 x9:Option W),ω=[↥(.scr ns),↥(.int h),↥(.int l),↥(.lst (bs.map Z5)),↥(.lst ((Pz h l bs).map D.int)),some (.ow (rows.map YB)),↥(.int (WJ 0 rows)),x7,x8,x9]/\rows.length=pre.length/\XY 0 rows/\∀r∈rows,Lev (Pz h l bs) (Kn h l bs) r)
  (λpre c post ω hd ⟨rows,x7,x8,x9,hω,i1,i2,i3⟩=>by
   subst hω;refine⟨_,rfl,?_⟩;have hlen:rows.length<=100:=by
    have:=uE xy hd;rw[zC,zG]at this;omega
   obtain⟨T,gs,y8,y9,e,hT,L⟩:=qeO (ns:=ns) (h:=h) (l:=l) hb hlen (WJ 0 rows) c x8 x9;show Y6 (q1j [↥(.scr ns),↥(.int h),↥(.int l),↥(.lst (bs.map Z5)),↥(.lst ((Pz h l bs).map D.int)),some (.ow (rows.map YB)),↥(.int (WJ 0 rows)),↥(.int c),x8,x9]) _;rw[e];refine⟨rows++[(T,gs)],_,_,_,by rw[zW,q9L];rfl,by rw[zC,zC,i1];rfl,qaO i2 hT,λr hr=>?_⟩;rcases zP.mp hr with y|y
   ·exact i3 r y
   ·cases zL.mp y;exact L)
  (ω:=[↥(.scr ns),↥(.int h),↥(.int l),↥(.lst (bs.map Z5)),↥(.lst ((Pz h l bs).map D.int)),some (.ow []),↥(.int 0),none,none,none]) ⟨[],none,none,none,rfl,rfl,trivial,by simp⟩
 refine⟨rows,?_,∅,i2,i3⟩;simp_arith[e]
theorem qcT{h l:Int}{bs:List (Int×Int)}(hb:bs.length<=30):q1A [.int h,.int l,.lst (bs.map Z5)]=some (.fr ((Z4 (Pz h l bs)).map (YI bs))):=by
 unfold q1A q4j;have hl:((Z4 (Pz h l bs)).map Z5).length<=1000000:=by rw[zA];have:=q3b (h:=h) (l:=l) hb;omega
 have cm:=qN (i:=0) (f:=q44) Z5 (YI bs) (Z4 (Pz h l bs)) (ω:=[none,↥(.lst (bs.map Z5))]) (λq hq=>by
  have c:=q4S (bs:=bs) (q:=q) ∅;have ha:YL (Z5 q) (.tup [.int (rts bs q),.int (lfs bs q)])=↥(YI bs q):=rfl;unfold q44;simp_arith[c,ha])
 have g:=q3W (h:=h) (l:=l) hb;rw[show YK (plc h l bs)=Pz h l bs from rfl]at g;simp_arith[g,Yd hl,inW,Yn,cm]
def okN(n:Nat)(d:D):Prop:=d.py.canLay0=true/\d.py.depth<=n
theorem qbr{n:Nat}:∀{ds:List D},(∀d∈ds,okN n d)->PyData.canLayAll0 (D.pys ds)=true/\PyData.depthAll (D.pys ds)<=n
 | [],_=>⟨rfl,zu _⟩
 | d::ds,h=>by
  obtain⟨a,b⟩:=qbr λe he=>h e (zJ _ he);obtain⟨a',b'⟩:=h d zK;refine⟨?_,?_⟩
  ·rw[D.pys,PyData.canLayAll0,a,a'];rfl
  ·rw[D.pys,PyData.depthAll];exact Nat.max_le.mpr ⟨b',b⟩
theorem q0w{n:Nat}{ds:List D}(h:∀d∈ds,okN n d):okN (n+1) (.lst ds):=by
 obtain⟨a,b⟩:=qbr h;exact⟨a,by show PyData.depthAll (D.pys ds)+1<=n+1;omega⟩
theorem q1i{n:Nat}{ds:List D}(h:∀d∈ds,okN n d):okN (n+1) (.tup ds):=by
 obtain⟨a,b⟩:=qbr h;exact⟨a,by show PyData.depthAll (D.pys ds)+1<=n+1;omega⟩
theorem q0Y(n:Nat)(x:Int):okN n (.int x):=⟨rfl,zu _⟩
theorem okN.up{n m:Nat}{d:D}(h:okN n d)(hm:n<=m):okN m d:=⟨h.1,zm h.2 hm⟩
theorem q7z(g:List Int):okN 1 (gD g):=q0w λd hd=>by obtain⟨x,_,rfl⟩:=zN.mp hd;exact q0Y 0 x
theorem qbk(r:Int×List (List Int)):okN 3 (YB r):=q1i λd hd=>by
 rcases zE.mp hd with rfl|hd
 ·exact q0Y _ _
 ·cases zL.mp hd
  exact q0w λd hd=>by obtain⟨g,_,rfl⟩:=zN.mp hd;exact q7z g
theorem qhp(p:Int×Int):okN 1 (Z5 p):=q1i λd hd=>by
 rcases zE.mp hd with rfl|hd
 ·exact q0Y _ _
 ·cases zL.mp hd;exact q0Y _ _
theorem q4i(bs:List (Int×Int))(q:Int×Int):okN 1 (YI bs q):=⟨(qcm bs q).1,by show 1<=1;decide⟩
theorem q0x{n:Nat}{d:D}(h:okN n d)(hn:n<65):shp d=true:=by
 unfold shp SeqAt.shaped;rw[h.1,vP (by have:=h.2;omega)];rfl
noncomputable def okC:Nat->D->Bool
 | 0,_=>false
 | j+1,.lst ds=>decide (ds.length<=1000)&&ds.all (okC j)
 | j+1,.tup ds=>decide (ds.length<=1000)&&ds.all (okC j)
 | _+1,.scr _=>false
 | _+1,.exc _=>false
 | _+1,.dic _ _=>false
 | _+1,_=>true
noncomputable def oC:D->O
 | .lst ds=>.fr ds
 | d=>.sh d
theorem qe0:∀(j:Nat)(d:D),okC j d=true->qc j [d]=some (oC d)
 | 0,_,h=>by cases h
 | j+1,d,h=>by
  show mir 1 (q00 (qc j)) [d]=_;have all:∀ds:List D,ds.all (okC j)=true->ds.length<=1000->Yh (gN 0) YX (q2r (qc j)) ds [none]=some ds:=λds ha _=>by
   have:=qN (i:=0) (f:=q2r (qc j)) (λx:D=>x) (λx=>x) ds (ω:=[none]) (λx hx=>by
    have c:=qe0 j x (yG.mp ha x hx);unfold q2r;cases x <;> simp_arith[c,oC])
   rw[xf]at this;exact this
  have all2:∀ds:List D,ds.all (okC j)=true->ds.length<=1000->Yh (gN 0) YX (q68 (qc j)) ds [none]=some ds:=all;unfold q00;cases d with
  | lst ds=>
   have h':ds.length<=1000/\ds.all (okC j)=true:=by
    have:(decide (ds.length<=1000)&&ds.all (okC j))=true:=h;rw[zV,decide_eq_true_eq]at this;exact this
   have k:ds.length<=1000000:=∅
   have c:=all ds h'.2 h'.1;simp_arith[Yd k,inW,Yn,c,oC]
  | tup ds=>
   have h':ds.length<=1000/\ds.all (okC j)=true:=by
    have:(decide (ds.length<=1000)&&ds.all (okC j))=true:=h;rw[zV,decide_eq_true_eq]at this;exact this
   have k:ds.length<=1000000:=∅
   have c:=all2 ds h'.2 h'.1;have bt:Y2 [.lst ds]=↥(.tup ds):=rfl;simp_arith[Yd k,inW,Yn,c,bt,oC]
  | scr _=>cases h
  | exc _=>cases h
  | dic _ _=>cases h
  | _=>simp_arith[oC]
theorem qhn{h l:Int}{B T:D}{R:Bool}(e:qC [.int h,.int l,B,T]=some (.sh (.bl R))):q4e [.int h,.int l,B,T]=if R=true then none else some ("NoReason" : Str):=by
 show q6z (entry 5 [.int h,.int l,B,T])=_;unfold q6z;cases R <;> simp -implicitDefEqProofs only[q3H,q3I,q27,W2,q3N,zAH,q24,q3q,q2l,q4K,q34,q3t,q4B,q4Y,q4u,q3i,q4t,q2j,q2d,q4I,q4X,q3D,q4U,q52,q4H,q55,q4G,q2x,q1Z,qD,q1X,q2b,q4y,q53,q2v,q2f,zAI,q36,q3p,q4w,q2u,q2h,q3E,q2t,q4Q,Xr,q4r,q2H,q1R,q2k,q26,q4C,zAO,q51,zAN,Wy,Wu,W9,zAE,q4T,q21,q2o,e_c,e_e,W6,e_d,q1W,q2w,e_v,q25,q2g,q2y,Wz,W0,q3l,zAA,q2z,q23,Ww,zAZ,zAX,q4A,q4Z,q4P,zAS,q4V,W5,zAP,W3,Wx,q4s,q0U,q1m,q0W,q0R,q18,q0X,e_t,zAF,q3x,zAK,q4F,q50,W7,q4x,q37,W8,q3J,q1Y,q1q,q33,Wv,q4v,q39,zAC,q3L,q3F,q3o,q4R,q38,Yd,q57,W1,q2e,q2n,q2s,q1p,q29,q3m,q3c,q3A,q2q,q3z,q3C,q3K,q2m,q58,q4N,q4O,at0,at1,at2,q03,q1H,Xi,entry,zZ,yD,zG,zq,zA,zT,yA,yH,yY,yQ,yR,yV,yW,zr,zz,xG,xH,xX,xY,xZ,xI,xJ,xK,xL,xM,xN,yo,xO,yp,↓reduceIte,xP,yi,yF,xQ,yI,xD,yw,xF,yg,yy,xE,beq_self_eq_true,z9,q6w,q42,q45,q6F,q2Q,q48,zAt,q4z,q2Y,q2Z,e]
theorem q7o{h l:Int}{bs:List (Int×Int)}{T:D}{R:Bool}(e:qC [.int h,.int l,.lst (bs.map Z5),T]=↥(.bl R))(wm:R=true->∃o,q2V [.int h,.int l,.lst (bs.map Z5),T]=some o)(hc:okC 8 T=true)(ht:shp T=true)(hb:shp (.lst (bs.map Z5))=true):
  qU [.int h,.int l,.lst (bs.map Z5),T,.bl R]=↥(.bl true):=by
 have cp:=qe0 8 T hc;have bl:Xb [.lst (bs.map Z5)]=some (.fr (bs.map Z5)):=rfl;have mw:=qhn e;have q1:=q40 ht;have q2:=q40 hb;have n1:oEq true (.bl false) (.bl true)=some (.sh (.bl true)):=rfl;have n2:oEq true (.bl true) (.bl false)=some (.sh (.bl true)):=rfl;have st:∀k:D,k=T->outM ((Z8 (Wl q28 q0I ["NoReason"] q22)
   (YR (eOf (Xd (dOf (XQ .bl (vOf (Zy 7)))) (Xd (dOf (Z0 (oEq false) (vOf (Zy 7)) (vOf (Zy 4)))) (Xd (dOf (Z0 (oEq true) (vOf (Zy 8)) (vOf (Zy 4)))) (Xd (dOf (Z0 (oEq false) (vOf (Zy 5)) (vOf (Zy 2)))) (dOf (Z0 (oEq false) (vOf (Zy 3)) (vOf (Zy 6))))))))))) [↥(.int h),↥(.int l),↥(.lst (bs.map Z5)),↥T,↥(.bl R),↥(.lst (bs.map Z5)),↥k,↥(.bl R),↥(.bl false)])=↥(.bl true):=λk hk=>by
  subst hk;cases R with
  | true=>
   obtain⟨o,wo⟩:=wm rfl;rw[vM rfl]at mw;have hX:q0I [↥(.int h),↥(.int l),↥(.lst (bs.map Z5)),↥k,↥(.bl true),↥(.lst (bs.map Z5)),↥k,↥(.bl true),↥(.bl false)]=none:=by
    unfold q0I;simp -implicitDefEqProofs only[q3H,q3I,q27,W2,q3N,zAH,q24,q3q,q2l,q4K,q34,q3t,q4B,q4Y,q4u,q3i,q4t,q2j,q2d,q4I,q4X,q3D,q4U,q52,q4H,q55,q4G,q2x,q1Z,qD,q1X,q2b,q4y,q53,q2v,q2f,zAI,q36,q3p,q4w,q2u,q2h,q3E,q2t,q4Q,Xr,q4r,q2H,q1R,q2k,q26,q4C,zAO,q51,zAN,Wy,Wu,W9,zAE,q4T,q21,q2o,e_c,e_e,W6,e_d,q1W,q2w,e_v,q25,q2g,q2y,Wz,W0,q3l,zAA,q2z,q23,Ww,zAZ,zAX,q4A,q4Z,q4P,zAS,q4V,W5,zAP,W3,Wx,q4s,q0U,q1m,q0W,q0R,q18,q0X,e_t,zAF,q3x,zAK,q4F,q50,W7,q4x,q37,W8,q3J,q1Y,q1q,q33,Wv,q4v,q39,zAC,q3L,q3F,q3o,q4R,q38,Yd,q57,W1,q2e,q2n,q2s,q1p,q29,q3m,q3c,q3A,q2q,q3z,q3C,q3K,q2m,q58,q4N,q4O,at0,at1,at2,q03,q1H,Xi,entry,zZ,yD,zG,zq,zA,zT,yA,yH,yY,yQ,yR,yV,yW,zr,zz,xG,xH,xX,xY,xZ,xI,xJ,xK,xL,xM,xN,yo,xO,yp,↓reduceIte,xP,yi,yF,xQ,yI,xD,yw,xF,yg,yy,xE,beq_self_eq_true,z9,q6w,q42,q45,q6F,q2Q,q48,zAt,q4z,q2Y,q2Z,mw]
   have hL:q28 [↥(.int h),↥(.int l),↥(.lst (bs.map Z5)),↥k,↥(.bl true),↥(.lst (bs.map Z5)),↥k,↥(.bl true),↥(.bl false)]=some (.nx,[↥(.int h),↥(.int l),↥(.lst (bs.map Z5)),↥k,↥(.bl true),↥(.lst (bs.map Z5)),↥k,↥(.bl true),↥(.bl false)]):=by
    unfold q28;cases o <;> simp -implicitDefEqProofs only[q3H,q3I,q27,W2,q3N,zAH,q24,q3q,q2l,q4K,q34,q3t,q4B,q4Y,q4u,q3i,q4t,q2j,q2d,q4I,q4X,q3D,q4U,q52,q4H,q55,q4G,q2x,q1Z,qD,q1X,q2b,q4y,q53,q2v,q2f,zAI,q36,q3p,q4w,q2u,q2h,q3E,q2t,q4Q,Xr,q4r,q2H,q1R,q2k,q26,q4C,zAO,q51,zAN,Wy,Wu,W9,zAE,q4T,q21,q2o,e_c,e_e,W6,e_d,q1W,q2w,e_v,q25,q2g,q2y,Wz,W0,q3l,zAA,q2z,q23,Ww,zAZ,zAX,q4A,q4Z,q4P,zAS,q4V,W5,zAP,W3,Wx,q4s,q0U,q1m,q0W,q0R,q18,q0X,e_t,zAF,q3x,zAK,q4F,q50,W7,q4x,q37,W8,q3J,q1Y,q1q,q33,Wv,q4v,q39,zAC,q3L,q3F,q3o,q4R,q38,Yd,q57,W1,q2e,q2n,q2s,q1p,q29,q3m,q3c,q3A,q2q,q3z,q3C,q3K,q2m,q58,q4N,q4O,at0,at1,at2,q03,q1H,Xi,entry,zZ,yD,zG,zq,zA,zT,yA,yH,yY,yQ,yR,yV,yW,zr,zz,xG,xH,xX,xY,xZ,xI,xJ,xK,xL,xM,xN,yo,xO,yp,↓reduceIte,xP,yi,yF,xQ,yI,xD,yw,xF,yg,yy,xE,beq_self_eq_true,z9,q6w,q42,q45,q6F,q2Q,q48,zAt,q4z,q2Y,q2Z,wo]
   simp -implicitDefEqProofs only[q3H,q3I,q27,W2,q3N,zAH,q24,q3q,q2l,q4K,q34,q3t,q4B,q4Y,q4u,q3i,q4t,q2j,q2d,q4I,q4X,q3D,q4U,q52,q4H,q55,q4G,q2x,q1Z,qD,q1X,q2b,q4y,q53,q2v,q2f,zAI,q36,q3p,q4w,q2u,q2h,q3E,q2t,q4Q,Xr,q4r,q2H,q1R,q2k,q26,q4C,zAO,q51,zAN,Wy,Wu,W9,zAE,q4T,q21,q2o,e_c,e_e,W6,e_d,q1W,q2w,e_v,q25,q2g,q2y,Wz,W0,q3l,zAA,q2z,q23,Ww,zAZ,zAX,q4A,q4Z,q4P,zAS,q4V,W5,zAP,W3,Wx,q4s,q0U,q1m,q0W,q0R,q18,q0X,e_t,zAF,q3x,zAK,q4F,q50,W7,q4x,q37,W8,q3J,q1Y,q1q,q33,Wv,q4v,q39,zAC,q3L,q3F,q3o,q4R,q38,Yd,q57,W1,q2e,q2n,q2s,q1p,q29,q3m,q3c,q3A,q2q,q3z,q3C,q3K,q2m,q58,q4N,q4O,at0,at1,at2,q03,q1H,Xi,entry,zZ,yD,zG,zq,zA,zT,yA,yH,yY,yQ,yR,yV,yW,zr,zz,xG,xH,xX,xY,xZ,xI,xJ,xK,xL,xM,xN,yo,xO,yp,↓reduceIte,xP,yi,yF,xQ,yI,xD,yw,xF,yg,yy,xE,beq_self_eq_true,z9,q6w,q42,q45,q6F,q2Q,q48,zAt,q4z,q2Y,q2Z,q4z,hX,q2Y,hL,q1,q2,n1,n2]
  | false=>
   rw[vN (by decide)]at mw;have hX:q0I [some (.sh (.int h)),some (.sh (.int l)),some (.sh (.lst (bs.map Z5))),some (.sh k),some (.sh (.bl false)),some (.sh (.lst (bs.map Z5))),some (.sh k),some (.sh (.bl false)),some (.sh (.bl false))]=some ("NoReason" : Str):=by
    unfold q0I;simp -implicitDefEqProofs only[q3H,q3I,q27,W2,q3N,zAH,q24,q3q,q2l,q4K,q34,q3t,q4B,q4Y,q4u,q3i,q4t,q2j,q2d,q4I,q4X,q3D,q4U,q52,q4H,q55,q4G,q2x,q1Z,qD,q1X,q2b,q4y,q53,q2v,q2f,zAI,q36,q3p,q4w,q2u,q2h,q3E,q2t,q4Q,Xr,q4r,q2H,q1R,q2k,q26,q4C,zAO,q51,zAN,Wy,Wu,W9,zAE,q4T,q21,q2o,e_c,e_e,W6,e_d,q1W,q2w,e_v,q25,q2g,q2y,Wz,W0,q3l,zAA,q2z,q23,Ww,zAZ,zAX,q4A,q4Z,q4P,zAS,q4V,W5,zAP,W3,Wx,q4s,q0U,q1m,q0W,q0R,q18,q0X,e_t,zAF,q3x,zAK,q4F,q50,W7,q4x,q37,W8,q3J,q1Y,q1q,q33,Wv,q4v,q39,zAC,q3L,q3F,q3o,q4R,q38,Yd,q57,W1,q2e,q2n,q2s,q1p,q29,q3m,q3c,q3A,q2q,q3z,q3C,q3K,q2m,q58,q4N,q4O,at0,at1,at2,q03,q1H,Xi,entry,zZ,yD,zG,zq,zA,zT,yA,yH,yY,yQ,yR,yV,yW,zr,zz,xG,xH,xX,xY,xZ,xI,xJ,xK,xL,xM,xN,yo,xO,yp,↓reduceIte,xP,yi,yF,xQ,yI,xD,yw,xF,yg,yy,xE,beq_self_eq_true,z9,q6w,q42,q45,q6F,q2Q,q48,zAt,q4z,q2Y,q2Z,mw]
   have hL:q22 [↥(.int h),↥(.int l),↥(.lst (bs.map Z5)),↥k,↥(.bl false),↥(.lst (bs.map Z5)),↥k,↥(.bl false),↥(.bl false)]=some (.nx,[↥(.int h),↥(.int l),↥(.lst (bs.map Z5)),↥k,↥(.bl false),↥(.lst (bs.map Z5)),↥k,↥(.bl false),↥(.bl true)]):=by
    unfold q22;simp -implicitDefEqProofs only[q3H,q3I,q27,W2,q3N,zAH,q24,q3q,q2l,q4K,q34,q3t,q4B,q4Y,q4u,q3i,q4t,q2j,q2d,q4I,q4X,q3D,q4U,q52,q4H,q55,q4G,q2x,q1Z,qD,q1X,q2b,q4y,q53,q2v,q2f,zAI,q36,q3p,q4w,q2u,q2h,q3E,q2t,q4Q,Xr,q4r,q2H,q1R,q2k,q26,q4C,zAO,q51,zAN,Wy,Wu,W9,zAE,q4T,q21,q2o,e_c,e_e,W6,e_d,q1W,q2w,e_v,q25,q2g,q2y,Wz,W0,q3l,zAA,q2z,q23,Ww,zAZ,zAX,q4A,q4Z,q4P,zAS,q4V,W5,zAP,W3,Wx,q4s,q0U,q1m,q0W,q0R,q18,q0X,e_t,zAF,q3x,zAK,q4F,q50,W7,q4x,q37,W8,q3J,q1Y,q1q,q33,Wv,q4v,q39,zAC,q3L,q3F,q3o,q4R,q38,Yd,q57,W1,q2e,q2n,q2s,q1p,q29,q3m,q3c,q3A,q2q,q3z,q3C,q3K,q2m,q58,q4N,q4O,at0,at1,at2,q03,q1H,Xi,entry,zZ,yD,zG,zq,zA,zT,yA,yH,yY,yQ,yR,yV,yW,zr,zz,xG,xH,xX,xY,xZ,xI,xJ,xK,xL,xM,xN,yo,xO,yp,↓reduceIte,xP,yi,yF,xQ,yI,xD,yw,xF,yg,yy,xE,beq_self_eq_true,z9,q6w,q42,q45,q6F,q2Q,q48,zAt,q4z,q2Y,q2Z]
   simp -implicitDefEqProofs only[q3H,q3I,q27,W2,q3N,zAH,q24,q3q,q2l,q4K,q34,q3t,q4B,q4Y,q4u,q3i,q4t,q2j,q2d,q4I,q4X,q3D,q4U,q52,q4H,q55,q4G,q2x,q1Z,qD,q1X,q2b,q4y,q53,q2v,q2f,zAI,q36,q3p,q4w,q2u,q2h,q3E,q2t,q4Q,Xr,q4r,q2H,q1R,q2k,q26,q4C,zAO,q51,zAN,Wy,Wu,W9,zAE,q4T,q21,q2o,e_c,e_e,W6,e_d,q1W,q2w,e_v,q25,q2g,q2y,Wz,W0,q3l,zAA,q2z,q23,Ww,zAZ,zAX,q4A,q4Z,q4P,zAS,q4V,W5,zAP,W3,Wx,q4s,q0U,q1m,q0W,q0R,q18,q0X,e_t,zAF,q3x,zAK,q4F,q50,W7,q4x,q37,W8,q3J,q1Y,q1q,q33,Wv,q4v,q39,zAC,q3L,q3F,q3o,q4R,q38,Yd,q57,W1,q2e,q2n,q2s,q1p,q29,q3m,q3c,q3A,q2q,q3z,q3C,q3K,q2m,q58,q4N,q4O,at0,at1,at2,q03,q1H,Xi,entry,zZ,yD,zG,zq,zA,zT,yA,yH,yY,yQ,yR,yV,yW,zr,zz,xG,xH,xX,xY,xZ,xI,xJ,xK,xL,xM,xN,yo,xO,yp,↓reduceIte,xP,yi,yF,xQ,yI,xD,yw,xF,yg,yy,xE,beq_self_eq_true,z9,q6w,q42,q45,q6F,q2Q,q48,zAt,q4z,q2Y,q2Z,q4z,hX,q2Z (zL.mpr rfl),hL,q1,q2,n1,n2]
 unfold qU q4n;cases T with
 | lst ds=>simp only[oC]at cp;simp_arith[bl,cp,e];exact st _ rfl
 | _=>simp only[oC]at cp;simp_arith[bl,cp,e];exact st _ rfl
section
variable{h l:Int}{bs:List (Int×Int)}
noncomputable def zAB:D->Bool
 | .tup [_,_]=>false
 | .scr _=>false
 | .exc _=>false
 | .dic _ _=>false
 | _=>true
theorem q66(hb:bs.length<=30):∀{T:D},zAB T=true->qC [.int h,.int l,.lst (bs.map Z5),T]=↥(.bl false):=by
 have c:=q5x (h:=h) (l:=l) (bs:=bs) ∅;intro T hT;unfold qC q1D
 match T,hT with
 | .non,_=>simp_arith[c]
 | .bl _,_=>simp_arith[c]
 | .int _,_=>simp_arith[c]
 | .str _,_=>simp_arith[c]
 | .lst _,_=>simp_arith[c]
 | .tup [],_=>
  have l2:(((0:Nat):Int)==2)=false:=rfl;simp_arith[c,l2]
 | .tup [_],_=>
  have l2:(((0+1:Nat):Int)==2)=false:=rfl;simp_arith[c];simp_arith[l2]
 | .tup (a::b::d::r),_=>
  have l2:(((a::b::d::r).length:Int)==2)=false:=by
   simp only[zG,beq_eq_false_iff_ne,ne_eq];omega
  simp only[zG]at l2;simp_arith[c,l2]
theorem q96(hb:bs.length<=30){X Y:D}(hx:qO [X,.lst ((Z4 (Pz h l bs)).map (YI bs))]=↥(.bl false)):qC [.int h,.int l,.lst (bs.map Z5),.tup [X,Y]]=↥(.bl false):=by
 have c:=q5x (h:=h) (l:=l) (bs:=bs) ∅;have l2:(((2:Nat):Int)==2)=true:=rfl;unfold qC q1D;simp_arith[l2,c,q5b hb,hx]
theorem qbg(hb:bs.length<=30){Y:D}{v:Bool}(hy:qM [.int h,.int l,.lst (bs.map Z5),Y]=↥(.bl v)):qC [.int h,.int l,.lst (bs.map Z5),.tup [.lst ((Z4 (Pz h l bs)).map (YI bs)),Y]]=↥(.bl v):=by
 have c:=q5x (h:=h) (l:=l) (bs:=bs) ∅;have l2:(((2:Nat):Int)==2)=true:=rfl;unfold qC q1D;simp_arith[l2,c,q5b hb,q6O (q3b hb),hy]
theorem qfD:∀{Y:D},(match Y with|.lst _=>false|.scr _=>false|.exc _=>false|.dic _ _=>false|_=>true)=true->qM [.int h,.int l,.lst (bs.map Z5),Y]=↥(.bl false):=by
 intro Y hY;unfold qM q1g;cases Y with
 | lst _=>cases hY
 | scr _=>cases hY
 | exc _=>cases hY
 | dic _ _=>cases hY
 | _=>simp_arith[qD]
theorem q3Q(j:Nat){xs:List Int}(h:xs.length<=1000):okC (j+2) (.lst (xs.map D.int))=true/\okC (j+2) (.tup (xs.map D.int))=true:=by
 have a:(xs.map D.int).all (okC (j+1))=true:=by
  rw[wE];exact yG.mpr λx _=>rfl
 have b:decide ((xs.map D.int).length<=1000)=true:=vP (by rw[zA];exact h);exact⟨by show (decide _&&Zq _ _)=true;rw[a,b];rfl,by show (decide _&&Zq _ _)=true;rw[a,b];rfl⟩
theorem qW(j:Nat){ds:List D}(h:ds.length<=1000)(ha:∀d∈ds,okC j d=true):okC (j+1) (.lst ds)=true/\okC (j+1) (.tup ds)=true:=by
 have a:ds.all (okC j)=true:=yG.mpr ha;have b:decide (ds.length<=1000)=true:=vP h;exact⟨by show (decide _&&Zq _ _)=true;rw[a,b];rfl,by show (decide _&&Zq _ _)=true;rw[a,b];rfl⟩
theorem q7p(j:Nat)(q:Int×Int):okC (j+2) (YI bs q)=true:=(q3Q j (xs:=[q.1,q.2,rts bs q,lfs bs q]) (by show 4<=1000;decide)).2
end
theorem q3P:∀(a b:List D),a.length≠b.length->PyData.eqvAll (D.pys a) (D.pys b)=false
 | [],[],h=>vK rfl h
 | [],_::_,_=>rfl
 | _::_,[],_=>rfl
 | x::a,y::b,h=>by
  show (PyData.eqv x.py y.py&&PyData.eqvAll (D.pys a) (D.pys b))=false;rw[q3P a b ⇑h,yI]
theorem q7D{X W:D}(h:oEq false X W=↥(.bl false)):qO [X,W]=↥(.bl false):=by
 unfold qO q1M;simp_arith[h]
theorem q56{a b:D}(ha:shp a=true)(hb:shp b=true):oEq false a b=↥(.bl (PyData.eqv a.py b.py)):=by
 show (if (shp a&&shp b)=true then _ else none)=_;rw[ha,hb];rfl
section
variable{h l:Int}{bs:List (Int×Int)}{rows:List (Int×List (List Int))}
theorem qc4(j:Nat){r:Int×List (List Int)}(h1:r.2.length<=1000)(h2:∀g∈r.2,g.length<=1000):okC (j+4) (YB r)=true:=by
 have a:okC (j+3) (.lst (r.2.map gD))=true:=(qW (j+2) (by rw[zA];exact h1) λd hd=>by
  obtain⟨g,hg,rfl⟩:=zN.mp hd;exact(q3Q j (h2 g hg)).1).1
 exact(qW (j+3) (ds:=[.int r.1,.lst (r.2.map gD)]) (by show 2<=1000;decide) λd hd=>by
  simp only[zE,zI,or_false]at hd;rcases hd with rfl|rfl
  ·rfl
  ·exact a).2
theorem qc5(hb:bs.length<=30){r:Int×List (List Int)}(L:Lev (Pz h l bs) (Kn h l bs) r):r.2.length<=1000/\∀g∈r.2,g.length<=1000:=by
 have p:=q3M (h:=h) (l:=l) hb;have e:=L.pm.length_eq;have a:=q0E L.ne;exact⟨∅,λg hg=>by have:=q0o hg;omega⟩
end
theorem qdX{h l:Int}{bs:List (Int×Int)}(hb:bs.length<=30):(Z4 (Pz h l bs)).length<64:=by
 have:=q3M (h:=h) (l:=l) hb;have:∀P:List Int,(Z4 P).length<=P.length:=λP=>by unfold Z4;simp
 have:=this (Pz h l bs);omega
section
variable{h l:Int}{bs:List (Int×Int)}{rows:List (Int×List (List Int))}
noncomputable abbrev cnL(h l:Int)(bs:List (Int×Int)):List D:=(Z4 (Pz h l bs)).map (YI bs)
theorem qau:okN 2 (.lst (cnL h l bs)):=q0w λd hd=>by
 obtain⟨q,_,rfl⟩:=zN.mp hd;exact q4i bs q
theorem qar:okN 4 (.lst (rows.map YB)):=q0w λd hd=>by
 obtain⟨r,_,rfl⟩:=zN.mp hd;exact qbk r
theorem qb9(hb:bs.length<=30)(j:Nat):okC (j+3) (.lst (cnL h l bs))=true/\okC (j+3) (.tup (cnL h l bs))=true :=
 qW (j+2) (by rw[zA];exact q3b hb) λd hd=>by
  obtain⟨q,_,rfl⟩:=zN.mp hd;exact q7p j q
theorem qaG(hb:bs.length<=30)(hr:rows.length<=1000)(L:∀r∈rows,Lev (Pz h l bs) (Kn h l bs) r)(j:Nat):okC (j+5) (.lst (rows.map YB))=true/\okC (j+5) (.tup (rows.map YB))=true :=
 qW (j+4) (by rw[zA];exact hr) λd hd=>by
  obtain⟨r,hr',rfl⟩:=zN.mp hd;have f:=qc5 hb (L r hr');exact qc4 j f.1 f.2
theorem qbQ(hb:bs.length<=30)(hr:rows.length<=1000)(ris:XY 0 rows)(L:∀r∈rows,Lev (Pz h l bs) (Kn h l bs) r)(hs:shp (.lst (bs.map Z5))=true):
  qU [.int h,.int l,.lst (bs.map Z5),.tup [.lst (cnL h l bs),.lst (rows.map YB)],.bl true]=↥(.bl true):=by
 refine q7o (q76 hb hr ris L) (λ_=>⟨_,q9T hb hr ris L⟩) ?_ (q0x (n:=5) ?_ (by decide)) hs
 ·exact(qW 7 (ds:=[.lst (cnL h l bs),.lst (rows.map YB)]) (by show 2<=1000;decide) λd hd=>by
   simp only[zE,zI,or_false]at hd;rcases hd with rfl|rfl
   ·exact(qb9 hb 4).1
   ·exact(qaG hb hr L 2).1).2
 ·exact q1i λd hd=>by
   simp only[zE,zI,or_false]at hd;rcases hd with rfl|rfl
   ·exact qau.up (by decide)
   ·exact qar
def No(h l:Int)(bs:List (Int×Int))(T:D):Prop:=qC [.int h,.int l,.lst (bs.map Z5),T]=↥(.bl false)/\okC 8 T=true/\shp T=true
theorem No.judged{T:D}(n:No h l bs T)(hs:shp (.lst (bs.map Z5))=true):qU [.int h,.int l,.lst (bs.map Z5),T,.bl false]=↥(.bl true) :=
 q7o n.1 (λe=>by cases e) n.2.1 n.2.2 hs
theorem qhq(hb:bs.length<=30)(hr:rows.length<=1000)(L:∀r∈rows,Lev (Pz h l bs) (Kn h l bs) r):
  ∀T∈[D.tup [.lst (cnL h l bs)],.lst [.lst (cnL h l bs),.lst (rows.map YB)],.tup [.lst (cnL h l bs),.tup (rows.map YB)],.tup [.lst (cnL h l bs),.lst (rows.map YB),.int 0],.tup [.lst (cnL h l bs++[.tup [.int 0,.int 1,.int 0,.int 0]]),.lst (rows.map YB)],.tup [.lst (rows.map YB),.non],.non,.int 7,.str "", .tup [.tup (cnL h l bs),.lst (rows.map YB)]],No h l bs T:=by
 have kc:=qb9 (h:=h) (l:=l) hb 4;have kr:=qaG hb hr L 2;have oc:okN 4 (.lst (cnL h l bs)):=qau.up (by decide);have or:=qar (rows:=rows);have oct:okN 4 (.tup (cnL h l bs)):=(q1i (n:=1) λd hd=>by
  obtain⟨q,_,rfl⟩:=zN.mp hd;exact q4i bs q).up (by decide)
 have ort:okN 4 (.tup (rows.map YB)):=q1i λd hd=>by
  obtain⟨r,_,rfl⟩:=zN.mp hd;exact qbk r
 have on:okN 4 .non:=⟨rfl,zu _⟩;have mk:∀{ds:List D},(∀d∈ds,okC 7 d=true/\okN 4 d)->ds.length<=1000->(okC 8 (.tup ds)=true/\shp (.tup ds)=true)/\okC 8 (.lst ds)=true/\shp (.lst ds)=true:=λ{ds} ha hl=>
  ⟨⟨(qW 7 hl λd hd=>(ha d hd).1).2,q0x (n:=5) (q1i λd hd=>(ha d hd).2) (by decide)⟩,(qW 7 hl λd hd=>(ha d hd).1).1,q0x (n:=5) (q0w λd hd=>(ha d hd).2) (by decide)⟩
 have c1:okC 7 (.lst (cnL h l bs))=true/\okN 4 (.lst (cnL h l bs)):=⟨kc.1,oc⟩;have r1:okC 7 (.lst (rows.map YB))=true/\okN 4 (.lst (rows.map YB)):=⟨kr.1,or⟩;have p1:∀{a:D},(okC 7 a=true/\okN 4 a)->∀d∈[a],okC 7 d=true/\okN 4 d:=λha d hd=>by rw[zL.mp hd];exact ha
 have p2:∀{a b:D},(okC 7 a=true/\okN 4 a)->(okC 7 b=true/\okN 4 b)->∀d∈[a,b],okC 7 d=true/\okN 4 d:=λha hb d hd=>by
  simp only[zE,zI,or_false]at hd;rcases hd with rfl|rfl
  ·exact ha
  ·exact hb
 have z0:okC 7 (.int 0)=true/\okN 4 (.int 0):=⟨rfl,q0Y 4 0⟩;have d2:∀a b:D,[a,b].length<=1000:=λ_ _=>by show 2<=1000;decide
 intro T hT;simp only[zE,zI,or_false]at hT;rcases hT with rfl|rfl|rfl|rfl|rfl|rfl|rfl|rfl|rfl|rfl
 ·exact⟨q66 hb rfl,(mk (p1 c1) (by show 1<=1000;decide)).1⟩
 ·exact⟨q66 hb rfl,(mk (p2 c1 r1) (d2 _ _)).2⟩
 ·exact⟨qbg hb (qfD rfl),(mk (p2 c1 ⟨kr.2,ort⟩) (d2 _ _)).1⟩
 ·refine⟨q66 hb rfl,(mk (λd hd=>?_) (by show 3<=1000;decide)).1⟩
  simp only[zE,zI,or_false]at hd;rcases hd with rfl|rfl|rfl
  ·exact c1
  ·exact r1
  ·exact z0
 ·have gl:=q3b (h:=h) (l:=l) hb
  have o1:okN 2 (.lst (cnL h l bs++[.tup [.int 0,.int 1,.int 0,.int 0]])):=q0w λd hd=>by
   rcases zP.mp hd with hd|hd
   ·obtain⟨q,_,rfl⟩:=zN.mp hd;exact q4i bs q
   ·rw[zL.mp hd];exact⟨rfl,by show 1<=1;decide⟩
  have k1:okC 7 (.lst (cnL h l bs++[.tup [.int 0,.int 1,.int 0,.int 0]]))=true:=(qW 6 (by rw[zC,zA,zH];have:=qdX (h:=h) (l:=l) hb;omega) λd hd=>by
   rcases zP.mp hd with hd|hd
   ·obtain⟨q,_,rfl⟩:=zN.mp hd;exact q7p 4 q
   ·rw[zL.mp hd];rfl).1
  refine⟨q96 hb (q7D ?_),(mk (p2 ⟨k1,o1.up (by decide)⟩ r1) (d2 _ _)).1⟩;rw[q56 (q0x o1 (by decide)) (q0x oc (by decide))];show some (R.sh (.bl (PyData.eqvAll (D.pys _) (D.pys _))))=_;rw[q3P _ _ (by rw[zC,zH];omega)]
 ·refine⟨?_,(mk (p2 r1 ⟨rfl,on⟩) (d2 _ _)).1⟩
  have ne:∀{a b:List D},a=rows.map YB->b=cnL h l bs->a≠[]\/b≠[]->PyData.eqvAll (D.pys a) (D.pys b)=false:=λ{a b} ea eb hne=>by
   match a,b with
   | [],[]=>exact vK hne (by simp)
   | [],_::_=>rfl
   | _::_,[]=>rfl
   | x::a,y::b=>
    have hx:x∈rows.map YB:=by rw[<- ea];exact zK
    have hy:y∈cnL h l bs:=by rw[<- eb];exact zK
    obtain⟨r,_,rfl⟩:=zN.mp hx;obtain⟨q,_,rfl⟩:=zN.mp hy;show (PyData.eqvAll (D.pys [.int r.1,.lst (r.2.map gD)]) (D.pys [.int q.1,.int q.2,.int (rts bs q),.int (lfs bs q)])&&_)=false;rw[q3P [.int r.1,.lst (r.2.map gD)] [.int q.1,.int q.2,.int (rts bs q),.int (lfs bs q)] (show 2≠4 by decide)];rfl
  by_cases e:rows.map YB=[]/\cnL h l bs=[]
  ·have t:=qbg hb (h:=h) (l:=l) (bs:=bs) (qfD (Y:=.non) rfl)
   rw[e.1];show qC [.int h,.int l,.lst (bs.map Z5),.tup [.lst [],.non]]=_;rw[show (Z4 (Pz h l bs)).map (YI bs)=[]from e.2]at t;exact t
  ·refine q96 hb (q7D ?_)
   rw[q56 (q0x or (by decide)) (q0x oc (by decide))];show some (R.sh (.bl (PyData.eqvAll (D.pys _) (D.pys _))))=_;rw[ne rfl rfl (by
    by_cases z:rows.map YB=[]
    ·exact .inr λy=>e ⟨z,y⟩
    ·exact .inl z)]
 ·exact⟨q66 hb rfl,rfl,⋯⟩
 ·exact⟨q66 hb rfl,rfl,⋯⟩
 ·exact⟨q66 hb rfl,rfl,⋯⟩
 ·refine⟨q96 hb (q7D ?_),(mk (p2 ⟨kc.2,oct⟩ r1) (d2 _ _)).1⟩
  rw[q56 (q0x oct (by decide)) (q0x oc (by decide))];rfl
end
theorem qc6:∀(p a b:List D),PyData.eqvAll (D.pys (p++a)) (D.pys (p++b))=(PyData.eqvAll (D.pys p) (D.pys p)&&PyData.eqvAll (D.pys a) (D.pys b))
 | [],a,b=>by show _=(true&&_);rw[yi];rfl
 | x::p,a,b=>by
  show (PyData.eqv x.py x.py&&PyData.eqvAll (D.pys (p++a)) (D.pys (p++b)))=((PyData.eqv x.py x.py&&PyData.eqvAll (D.pys p) (D.pys p))&&_);rw[qc6 p a b,Bool.and_assoc]
theorem qaZ:∀(p:List (Int×Int))(r:List D),allB ((p.map λ_=>D.bl true)++r)=allB r
 | [],_=>rfl
 | _::p,r=>by
  rw[zT,yH,allB,qaZ p r];cases allB r with
  | none=>rfl
  | some v=>cases v <;> rfl
theorem qas{bs:List (Int×Int)}(q:Int×Int):qA [YI bs q]=↥(.bl true):=by
 have w:=qaT (ns:=[q.1,q.2,rts bs q,lfs bs q]) (by show 4<=1000;decide);exact w
theorem qfQ{bs pre post:List (Int×Int)}{q:Int×Int}{b:D}(hl:pre.length+post.length<=900)(sb:okN 2 b)(hbad:PyData.eqv b.py (YI bs q).py=false\/qA [b]=↥(.bl false)):
  qO [.lst (pre.map (YI bs)++[b]++post.map (YI bs)),.lst ((pre++q::post).map (YI bs))]=↥(.bl false):=by
 have o1:okN 3 (.lst (pre.map (YI bs)++[b]++post.map (YI bs))):=q0w λd hd=>by
  rcases zP.mp hd with hd|hd
  ·rcases zP.mp hd with hd|hd
   ·obtain⟨x,_,rfl⟩:=zN.mp hd;exact(q4i bs x).up (by decide)
   ·rw[zL.mp hd];exact sb
  ·obtain⟨x,_,rfl⟩:=zN.mp hd;exact(q4i bs x).up (by decide)
 have o2:=q8h bs (pre++q::post);have eq:=q56 (q0x o1 (by decide)) o2;rcases hbad with z|z
 ·refine q7D (eq.trans ?_)
  show some (R.sh (.bl (PyData.eqvAll (D.pys _) (D.pys _))))=_;rw[zW,zT,zY,qc6];show some (R.sh (.bl (_&&(PyData.eqv b.py (YI bs q).py&&_))))=_;rw[z,yF,yI]
 ·generalize hv:PyData.eqv (D.lst (pre.map (YI bs)++[b]++post.map (YI bs))).py (D.lst ((pre++q::post).map (YI bs))).py=v at eq
  cases v with
  | false=>exact q7D eq
  | true=>
   have kl:(pre.map (YI bs)++[b]++post.map (YI bs)).length<=1000000:=by
    rw[zC,zC,zA,zA,zH];omega
   have w:∀d∈pre.map (YI bs)++[b]++post.map (YI bs),∃u,qA [d]=↥(.bl u):=λd hd=>by
    rcases zP.mp hd with hd|hd
    ·rcases zP.mp hd with hd|hd
     ·obtain⟨x,_,rfl⟩:=zN.mp hd;exact⟨_,qas x⟩
     ·rw[zL.mp hd];exact⟨_,z⟩
    ·obtain⟨x,_,rfl⟩:=zN.mp hd;exact⟨_,qas x⟩
   let wv:D->Bool:=λd=>match qA [d]with|↥(.bl u)=>u|_=>false
   have cm:=qN (i:=0) (f:=q1x) (λd:D=>d) (λd=>D.bl (wv d)) (pre.map (YI bs)++[b]++post.map (YI bs)) (ω:=[none]) (λd hd=>by
    obtain⟨u,hu⟩:=w d hd;have e:wv d=u:=by show (match qA [d]with|↥(.bl u)=>u|_=>false)=u;rw[hu]
    unfold q1x;simp_arith[hu,e])
   rw[xf]at cm;have wb:wv b=false:=by show (match qA [b]with|↥(.bl u)=>u|_=>false)=false;rw[z]
   have wc:∀x,wv (YI bs x)=true:=λx=>by show (match qA [YI bs x]with|↥(.bl u)=>u|_=>false)=true;rw[qas]
   have e1:(pre.map (YI bs)++[b]++post.map (YI bs)).map (λd=>D.bl (wv d))=(pre.map λ_=>D.bl true)++(D.bl false::post.map λ_=>D.bl true):=by
    have m1:∀ps:List (Int×Int),ps.map ((λd=>D.bl (wv d)) ∘ YI bs)=ps.map λ_=>D.bl true:=λps=>List.map_congr_left λx _=>by show D.bl (wv (YI bs x))=_;rw[wc]
    rw[zW,zW,xC,xC,zY,m1,m1];show _++(D.bl (wv b)::_)=_;rw[wb];rfl
   have ab:XB [.lst ((pre.map λ_=>D.bl true)++(D.bl false::post.map λ_=>D.bl true))]=↥(.bl false):=by
    show (allB _).map _=_;rw[qaZ,allB,q5Q];rfl
   rw[e1]at cm;unfold qO q1M;simp_arith[eq,Yd kl,inW,Yn,cm,ab]
def Xw(bs:List (Int×Int))(q:Int×Int)(b:D):Prop:=okN 2 b/\okC 6 b=true/\(PyData.eqv b.py (YI bs q).py=false\/qA [b]=↥(.bl false))
theorem qgR{ds:List D}(hl:ds.length<=1000)(hn:∀d∈ds,nsD d=true):qA [.tup ds]=↥(.bl (ds.all YW)):=by
 have kl:ds.length<=1000000:=∅
 have cm:=qN (i:=0) (f:=q0M) (λd:D=>d) (λd=>D.bl (YW d)) ds (ω:=[none]) (λd hd=>by
  have e:=q1L (hn d hd);unfold q0M;simp_arith[e])
 rw[xf]at cm;have ab:XB [.lst (ds.map λd=>D.bl (YW d))]=↥(.bl (ds.all YW)):=by
  show (allB _).map _=_;have:∀xs:List D,allB (xs.map λd=>D.bl (YW d))=some (xs.all YW):=λxs=>by
   induction xs with
   | nil=>rfl
   | cons x xs ih=>rw[zT,allB,ih,yh];rfl
  rw[this];rfl
 unfold qA q1F;simp_arith[Yd kl,inW,Yn,cm,ab]
section
variable{bs:List (Int×Int)}{q:Int×Int}
theorem q59{a b c d:Int}(h:¬(a=q.1/\b=q.2/\c=rts bs q/\d=lfs bs q)):Xw bs q (.tup [.int a,.int b,.int c,.int d]):=by
 refine⟨⟨rfl,by show 1<=2;decide⟩,rfl,.inl ?_⟩;show (a==q.1&&(b==q.2&&(c==rts bs q&&(d==lfs bs q&&true))))=false;refine wF.mpr λe=>h ?_;simpa [zV,beq_iff_eq]using e
theorem q6u{x y z w:D}(hx:∀d∈[x,y,z,w],(∃i,d=.int i)\/∃v,d=.bl v)(hb:∃v,D.bl v∈[x,y,z,w]):Xw bs q (.tup [x,y,z,w]):=by
 have ok:∀d∈[x,y,z,w],okN 1 d/\okC 5 d=true/\nsD d=true:=λd hd=>by
  rcases hx d hd with⟨i,rfl⟩|⟨v,rfl⟩
  ·exact⟨q0Y 1 i,rfl,rfl⟩
  ·exact⟨⟨rfl,zu _⟩,rfl,rfl⟩
 refine⟨q1i λd hd=>(ok d hd).1,(qW 5 (by show 4<=1000;decide) λd hd=>(ok d hd).2.1).2,.inr ?_⟩;rw[qgR (by show 4<=1000;decide) λd hd=>(ok d hd).2.2];obtain⟨v,hv⟩:=hb;have:[x,y,z,w].all YW=false:=wF.mpr λh=>by
  have:=yG.mp h _ hv;cases this
 rw[this]
theorem q65{ds:List D}(ho:∀d∈ds,okN 1 d/\okC 5 d=true)(hl:ds.length<=1000)(h4:ds.length≠4):Xw bs q (.tup ds):=by
 refine⟨q1i λd hd=>(ho d hd).1,(qW 5 hl λd hd=>(ho d hd).2).2,.inl ?_⟩;show PyData.eqvAll (D.pys ds) (D.pys [.int q.1,.int q.2,.int (rts bs q),.int (lfs bs q)])=false;exact q3P _ _ h4
theorem q7u{ds:List D}(ho:∀d∈ds,okN 1 d/\okC 5 d=true)(hl:ds.length<=1000):Xw bs q (.lst ds) :=
 ⟨q0w λd hd=>(ho d hd).1,(qW 5 hl λd hd=>(ho d hd).2).1,.inl rfl⟩
theorem qfS(c:Int):∃d,q02 [.int c]=↥d/\Xw bs q d:=by
 have oi:∀i:Int,okN 1 (.int i)/\okC 5 (.int i)=true:=λi=>⟨q0Y 1 i,rfl⟩;have all1:∀{a:D},(okN 1 a/\okC 5 a=true)->∀d∈[a],okN 1 d/\okC 5 d=true:=λha d hd=>by rw[zL.mp hd];exact ha
 have at':∃d,atI [D.non,.bl true,.bl false,.str "1", .str "", .lst [],.tup [],.lst [.int 1],.tup [.int 1],.lst [.int 3,.int 4],.tup [.int 1,.int 2,.int 3]] (c%11)=some d/\Xw bs q d:=by
  have h0:0<=c%11:=∅
  have h1:c%11<11:=∅
  have key:∀d∈[D.non,.bl true,.bl false,.str "1", .str "", .lst [],.tup [],.lst [.int 1],.tup [.int 1],.lst [.int 3,.int 4],.tup [.int 1,.int 2,.int 3]],Xw bs q d:=λd hd=>by
   simp only[zE,zI,or_false]at hd;rcases hd with rfl|rfl|rfl|rfl|rfl|rfl|rfl|rfl|rfl|rfl|rfl
   ·exact⟨⟨rfl,zu _⟩,rfl,.inl rfl⟩
   ·exact⟨⟨rfl,zu _⟩,rfl,.inl rfl⟩
   ·exact⟨⟨rfl,zu _⟩,rfl,.inl rfl⟩
   ·exact⟨⟨⋯,zu _⟩,rfl,.inl rfl⟩
   ·exact⟨⟨⋯,zu _⟩,rfl,.inl rfl⟩
   ·exact q7u (λd hd=>by cases hd) (by show 0<=1000;decide)
   ·exact q65 (λd hd=>by cases hd) (by show 0<=1000;decide) (by show 0≠4;decide)
   ·exact q7u (all1 (oi 1)) (by show 1<=1000;decide)
   ·exact q65 (all1 (oi 1)) (by show 1<=1000;decide) (by show 1≠4;decide)
   ·exact q7u (λd hd=>by
     simp only[zE,zI,or_false]at hd;rcases hd with rfl|rfl <;> exact oi _) (by show 2<=1000;decide)
   ·exact q65 (λd hd=>by
     simp only[zE,zI,or_false]at hd;rcases hd with rfl|rfl|rfl <;> exact oi _) (by show 3<=1000;decide) (by show 3≠4;decide)
  exact q1k (Xw bs q) h0 (show c%11<((11:Nat):Int)from h1) key
 obtain⟨d,e,b⟩:=at';refine⟨d,?_,b⟩;unfold q02 q4M;simp_arith[e]
end
theorem q6o{α:Type}{xs:List α}{k:Int}(h:0<=k):cutD xs none (some k)=xs.take k.toNat:=by
 unfold cutD;have e:HT.sIx xs.length xs.length (some k)=min k.toNat xs.length:=by
  have:=HT.q6a xs.length xs.length k.toNat;rw[show ((k.toNat:Nat):Int)=k by omega]at this;exact this
 rw[HT.q85,e,Nat.sub_zero,List.drop_zero,List.take_eq_take_iff];omega
theorem q5j{α:Type}{xs:List α}{k:Int}(h:0<=k):cutD xs (some k) none=xs.drop k.toNat:=by
 unfold cutD;have e:HT.sIx xs.length 0 (some k)=min k.toNat xs.length:=by
  have:=HT.q6a xs.length 0 k.toNat;rw[show ((k.toNat:Nat):Int)=k by omega]at this;exact this
 rw[HT.q85,e,wp (by rw[yZ];omega)];rcases Za k.toNat xs.length with z|z
 ·rw[Nat.min_eq_left z]
 ·rw[Nat.min_eq_right z,we,List.drop_of_length_le z]
theorem split4{bs:List (Int×Int)}(q:Int×Int){k:Int}(h0:0<=k)(h4:k<4):∃(L R:List D) (x:Int),oSl (YI bs q) none (some k)=↥(.tup L)/\oSl (YI bs q) (some (k+1)) none=↥(.tup R)/\atI [D.int q.1,.int q.2,.int (rts bs q),.int (lfs bs q)] k=some (.int x) /\
  (∀v:D,YL (.tup L) (.tup [v])=↥(.tup (L++[v])))/\(∀v:D,YL (.tup (L++[v])) (.tup R)=↥(.tup (L++[v]++R))) /\
  (∀y:Int,y≠x->Xw bs q (.tup (L++[.int y]++R)))/\∀v:Bool,Xw bs q (.tup (L++[.bl v]++R)):=by
 have ii:∀i:Int,(∃j,D.int i=.int j)\/∃v,D.int i=.bl v:=λi=>.inl ⟨i,rfl⟩;have bb:∀w:Bool,(∃j,D.bl w=.int j)\/∃v,D.bl w=.bl v:=λw=>.inr ⟨w,rfl⟩;have four:∀{x y z w:D},((∃j,x=.int j)\/∃v,x=.bl v)->((∃j,y=.int j)\/∃v,y=.bl v)->((∃j,z=.int j)\/∃v,z=.bl v)->((∃j,w=.int j)\/∃v,w=.bl v)->∀d∈[x,y,z,w],(∃i,d=.int i)\/∃v,d=.bl v:=λa b c e d hd=>by
  simp only[zE,zI,or_false]at hd;rcases hd with rfl|rfl|rfl|rfl <;> assumption
 have k4:k=0\/k=1\/k=2\/k=3:=∅
 rcases k4 with rfl|rfl|rfl|rfl
 ·exact⟨[],[.int q.2,.int (rts bs q),.int (lfs bs q)],q.1,rfl,rfl,rfl,λ_=>rfl,λ_=>rfl,λy hy=>q59 λh=>hy h.1,λv=>q6u (four (bb v) (ii _) (ii _) (ii _)) ⟨v,by simp⟩⟩
 ·exact⟨[.int q.1],[.int (rts bs q),.int (lfs bs q)],q.2,rfl,rfl,rfl,λ_=>rfl,λ_=>rfl,λy hy=>q59 λh=>hy h.2.1,λv=>q6u (four (ii _) (bb v) (ii _) (ii _)) ⟨v,by simp⟩⟩
 ·exact⟨[.int q.1,.int q.2],[.int (lfs bs q)],rts bs q,rfl,rfl,rfl,λ_=>rfl,λ_=>rfl,λy hy=>q59 λh=>hy h.2.2.1,λv=>q6u (four (ii _) (ii _) (bb v) (ii _)) ⟨v,by simp⟩⟩
 ·exact⟨[.int q.1,.int q.2,.int (rts bs q)],[],lfs bs q,rfl,rfl,rfl,λ_=>rfl,λ_=>rfl,λy hy=>q59 λh=>hy h.2.2.2,λv=>q6u (four (ii _) (ii _) (ii _) (bb v)) ⟨v,by simp⟩⟩
theorem shape3{bs:List (Int×Int)}(q:Int×Int){k:Int}(h0:0<=k)(h3:k<3):∃d,atI [D.tup [.int q.1,.int q.2,.int (rts bs q)],.tup [.int q.1,.int q.2,.int (rts bs q),.int (lfs bs q),.int 0],.lst [.int q.1,.int q.2,.int (rts bs q),.int (lfs bs q)]] k=some d/\Xw bs q d :=
 q1k (Xw bs q) h0 (show k<((3:Nat):Int)from h3) λd hd=>by
  have oi:∀i:Int,okN 1 (.int i)/\okC 5 (.int i)=true:=λi=>⟨q0Y 1 i,rfl⟩;have nts:∀xs:List Int,∀d∈xs.map D.int,okN 1 d/\okC 5 d=true:=λxs d hd=>by obtain⟨i,_,rfl⟩:=zN.mp hd;exact oi i
  simp only[zE,zI,or_false]at hd;rcases hd with rfl|rfl|rfl
  ·exact q65 (nts [q.1,q.2,rts bs q]) (by show 3<=1000;decide) (by show 3≠4;decide)
  ·exact q65 (nts [q.1,q.2,rts bs q,lfs bs q,0]) (by show 5<=1000;decide) (by show 5≠4;decide)
  ·exact q7u (nts [q.1,q.2,rts bs q,lfs bs q]) (by show 4<=1000;decide)
theorem qgI{bs gs:List (Int×Int)}(hl:gs.length<=100){i:Nat}(hi:i<gs.length){b:D}(hb:Xw bs gs[i] b):(∀d∈(gs.map (YI bs)).take i++[b]++(gs.map (YI bs)).drop (i+1),okN 2 d/\okC 6 d=true)/\((gs.map (YI bs)).take i++[b]++(gs.map (YI bs)).drop (i+1)).length<=1000/\qO [.lst ((gs.map (YI bs)).take i++[b]++(gs.map (YI bs)).drop (i+1)),.lst (gs.map (YI bs))]=↥(.bl false):=by
 have sp:gs=gs.take i++gs[i]::gs.drop (i+1):=by rw[<- yb hi,xj]
 generalize gs[i]=q at sp hb;have ok1:∀d∈gs.map (YI bs),okN 2 d/\okC 6 d=true:=λd hd=>by obtain⟨g,_,rfl⟩:=zN.mp hd;exact⟨(q4i bs g).up (by decide),q7p 4 g⟩
 refine⟨λd hd=>?_,?_,?_⟩
 ·rcases zP.mp hd with hd|hd
  ·rcases zP.mp hd with hd|hd
   ·exact ok1 d (List.mem_of_mem_take hd)
   ·rw[zL.mp hd];exact⟨hb.1,hb.2.1⟩
  ·exact ok1 d (List.mem_of_mem_drop hd)
 ·rw[zC,zC,zy,yZ,zA,zH];omega
 ·have a:=qfQ (bs:=bs) (pre:=gs.take i) (post:=gs.drop (i+1)) (q:=q) (b:=b) (by rw[zy,yZ];omega) hb.1 hb.2.2
  rw[<- sp,wX,xu]at a;exact a
theorem qgh{bs gs:List (Int×Int)}(rise:gs.Pairwise λa b=>a.1<b.1)(h1:1<gs.length):qO [.lst (gs.map (YI bs)).reverse,.lst (gs.map (YI bs))]=↥(.bl false):=by
 match gs,rise,h1 with
 | a::b::t,rise,_=>
  have o1:okN 2 (.lst ((a::b::t).map (YI bs)).reverse):=q0w λd hd=>by
   obtain⟨g,_,rfl⟩:=zN.mp (yn.mp hd);exact q4i bs g
  refine q7D ((q56 (q0x o1 (by decide)) (q8h bs _)).trans ?_);obtain⟨z,r,e⟩:∃z r,((a::b::t).map (YI bs)).reverse=YI bs z::r/\a.1<z.1:=by
   have:(b::t).reverse≠[]:=by simp
   match hh:(b::t).reverse,this with
   | z::r,_=>
    have mz:z∈b::t:=by rw[<- yn,hh];exact zK
    refine⟨z,r.map (YI bs)++[YI bs a],?_,(zg.mp rise).1 z mz⟩;rw[<- wJ,xk,hh,yH,zT,zW];rfl
  rw[e.1];show some (R.sh (.bl (PyData.eqv (YI bs z).py (YI bs a).py&&_)))=_;rcases (q59 (bs:=bs) (q:=a) (a:=z.1) (b:=z.2) (c:=rts bs z) (d:=lfs bs z) λh=>∅).2.2 with y|y
  ·rw[show PyData.eqv (YI bs z).py (YI bs a).py=false from y];rfl
  ·rw[show qA [D.tup [.int z.1,.int z.2,.int (rts bs z),.int (lfs bs z)]]=_ from qas z]at y
   cases y
theorem qeJ{bs gs:List (Int×Int)}(rise:gs.Pairwise λa b=>a.1<b.1)(hl:gs.length<=100){i:Nat}(hi:i<gs.length)(cell:Int):∃X,q0z [.lst (gs.map (YI bs)),.int (i:Int),.int cell]=some (.fr X)/\(∀d∈X,okN 2 d/\okC 6 d=true)/\X.length<=1000/\qO [.lst X,.lst (gs.map (YI bs))]=↥(.bl false):=by
 have put:=λb hb=>qgI (bs:=bs) hl hi (b:=b) hb;have rev:=λh=>qgh (bs:=bs) rise h;have dis:∀j(hj:j<gs.length),j≠i->Xw bs gs[i] (YI bs gs[j]):=λj hj nj=>q59 λh=>by
  rcases yC j i with z|z
  ·have:=yq.mp rise j i hj hi z;omega
  ·have:=yq.mp rise i j hi hj ∅;omega
 have at':atI (gs.map (YI bs)) (i:Int)=some (YI bs gs[i]):=by
  rw[q1B ∅ (by rw[zA];omega)];simp only[yT,xb]
 have ok1:∀d∈gs.map (YI bs),okN 2 d/\okC 6 d=true:=λd hd=>by obtain⟨g,_,rfl⟩:=zN.mp hd;exact⟨(q4i bs g).up (by decide),q7p 4 g⟩
 have len0:0<(gs.length:Int):=∅
 have mo:oMod (.int (cell/40)) (.int (gs.length:Int))=↥(.int (cell/40%(gs.length:Int))):=q03 len0;have o0:=yz (cell/40) (show (gs.length:Int)≠0 by omega);have o1:=yt (cell/40) len0;generalize cell/40%(gs.length:Int)=oth at mo o0 o1;have ato:atI (gs.map (YI bs)) oth=some (YI bs (gs[oth.toNat]'∅)):=by
  rw[q1B o0 (by rw[zA];omega)];simp only[xb]
 have dso:=λh=>dis oth.toNat ∅ h;generalize gs[oth.toNat]'∅=q' at ato dso;generalize gs[i]=q at at' put dso;obtain⟨L,R,x,s1,s2,ix,ad1,ad2,b1,b2⟩:=split4 (bs:=bs) q (k:=cell/5%4) ∅ ∅;obtain⟨d3,e3,b3⟩:=shape3 (bs:=bs) q (k:=cell/5%4%3) ∅ ∅;obtain⟨od,eo,bo⟩:=qfS (bs:=bs) (q:=q) (cell/40);have t1:=q6o (xs:=gs.map (YI bs)) (k:=(i:Int)) ∅;have t2:=q5j (xs:=gs.map (YI bs)) (k:=(i:Int)+1) ∅;rw[yT]at t1;rw[show ((i:Int)+1).toNat=i+1 by omega]at t2;have lt:∀b:D,((gs.map (YI bs)).take i).length+[b].length<=1000000:=λb=>by rw[zy,zA,zH];omega
 have lt2:∀b:D,((gs.map (YI bs)).take i++[b]).length+((gs.map (YI bs)).drop (i+1)).length<=1000000:=λb=>by rw[zC,zy,yZ,zA,zH];omega
 have w1:=λb=>qX (lt b);have w2:=λb=>qX (lt2 b);have ne:x+1-cell/20%2*2≠x:=∅
 have mu:X1 (.int (cell/20%2)) (.int 2)=↥(.int (cell/20%2*2)):=by
  have:cell/20%2=0\/cell/20%2=1:=∅
  rcases this with z|z <;> rw[z] <;> rfl
 have il:Xb [YI bs q]=some (.fr [.int q.1,.int q.2,.int (rts bs q),.int (lfs bs q)]):=rfl;have i3:oSl (YI bs q) none (some 3)=↥(.tup [.int q.1,.int q.2,.int (rts bs q)]):=rfl;have a5:YL (YI bs q) (.tup [.int 0])=↥(.tup [.int q.1,.int q.2,.int (rts bs q),.int (lfs bs q),.int 0]):=rfl;have ixr:oIx (YI bs q) (.int (cell/5%4))=↥(.int x):=by show (atI _ _).map _=_;rw[ix];rfl
 have ti:oIn false (.int x) (.tup [.int 0,.int 1])=↥(.bl (decide (x∈([0,1]:List Int)))):=by
  have e:=q8a x [0,1];show (if (Yl (.int x)&&([0,1].map D.int).all Yl)=true then some (Hk.R.sh (D.bl (Hk.inD (.int x) ([0,1].map D.int))))else none)=_;rw[vM (show (Yl (.int x)&&([0,1].map D.int).all Yl)=true from rfl),e]
 have five:∀o,Xw bs q o->∃d,atI [o,d3,od,o,o] (cell%5)=some d/\Xw bs q d:=λo ho=>q1k (Xw bs q) ∅ (show cell%5<((5:Nat):Int) by omega) λd hd=>by
  simp only[zE,zI,or_false]at hd;rcases hd with rfl|rfl|rfl|rfl|rfl
  ·exact ho
  ·exact b3
  ·exact bo
  ·exact ho
  ·exact ho
 unfold q0z q1V
 by_cases hb:cell/160%2=1
 ·have hb':(cell/160%2==1)=true:=by rw[hb];rfl
  by_cases hx:x∈([0,1]:List Int)
  ·rw[vP hx]at ti
   by_cases c3:cell%5=3
   ·have c3':(cell%5==3)=true:=by rw[c3];rfl
    by_cases oe:oth=(i:Int)
    ·have oe':(oth==(i:Int))=true:=by rw[oe];exact beq_self_eq_true _
     have c4':(cell%5==4)=false:=by rw[c3];rfl
     obtain⟨d,e5,bd⟩:=five _ (b2 (x==1));simp_arith[at',s1,s2,ixr,ad1,ad2,mu,mo,q04,t1,t2,w1,w2,hb',ti,c3',oe',c4',il,i3,a5,e3,eo,e5,zA];exact⟨_,rfl,put _ bd⟩
    ·have oe':(oth==(i:Int))=false:=by simpa using oe
     simp_arith[at',s1,s2,ixr,ad1,ad2,mu,mo,q04,t1,t2,w1,w2,hb',ti,c3',oe',ato,zA];exact⟨_,rfl,put _ (dso ∅)⟩
   ·have c3':(cell%5==3)=false:=by simpa using c3
    by_cases c4:cell%5=4/\1<gs.length
    ·have c4':(cell%5==4)=true:=by rw[c4.1];rfl
     have gl:decide ((gs.length:Int)>1)=true:=vP ∅;simp_arith[at',s1,s2,ixr,ad1,ad2,mu,mo,q04,t1,t2,w1,w2,hb',ti,c3',c4',gl,q8C,q8o,zA];exact⟨_,rfl,λd hd=>ok1 d (yn.mp hd),by rw[yc,zA];omega,rev c4.2⟩
    ·obtain⟨d,e5,bd⟩:=five _ (b2 (x==1))
     by_cases c5:cell%5=4
     ·have c4':(cell%5==4)=true:=by rw[c5];rfl
      have gl:decide ((gs.length:Int)>1)=false:=vT (λz=>c4 ⟨c5,∅⟩);simp_arith[at',s1,s2,ixr,ad1,ad2,mu,mo,q04,t1,t2,w1,w2,hb',ti,c3',c4',gl,il,i3,a5,e3,eo,e5,zA];exact⟨_,rfl,put _ bd⟩
     ·have c4':(cell%5==4)=false:=by simpa using c5
      simp_arith[at',s1,s2,ixr,ad1,ad2,mu,mo,q04,t1,t2,w1,w2,hb',ti,c3',c4',il,i3,a5,e3,eo,e5,zA];exact⟨_,rfl,put _ bd⟩
  ·rw[vT hx]at ti
   by_cases c3:cell%5=3
   ·have c3':(cell%5==3)=true:=by rw[c3];rfl
    by_cases oe:oth=(i:Int)
    ·have oe':(oth==(i:Int))=true:=by rw[oe];exact beq_self_eq_true _
     have c4':(cell%5==4)=false:=by rw[c3];rfl
     obtain⟨d,e5,bd⟩:=five _ (b1 _ ne);simp_arith[at',s1,s2,ixr,ad1,ad2,mu,mo,q04,t1,t2,w1,w2,hb',ti,c3',oe',c4',il,i3,a5,e3,eo,e5,zA];exact⟨_,rfl,put _ bd⟩
    ·have oe':(oth==(i:Int))=false:=by simpa using oe
     simp_arith[at',s1,s2,ixr,ad1,ad2,mu,mo,q04,t1,t2,w1,w2,hb',ti,c3',oe',ato,zA];exact⟨_,rfl,put _ (dso ∅)⟩
   ·have c3':(cell%5==3)=false:=by simpa using c3
    by_cases c4:cell%5=4/\1<gs.length
    ·have c4':(cell%5==4)=true:=by rw[c4.1];rfl
     have gl:decide ((gs.length:Int)>1)=true:=vP ∅;simp_arith[at',s1,s2,ixr,ad1,ad2,mu,mo,q04,t1,t2,w1,w2,hb',ti,c3',c4',gl,q8C,q8o,zA];exact⟨_,rfl,λd hd=>ok1 d (yn.mp hd),by rw[yc,zA];omega,rev c4.2⟩
    ·obtain⟨d,e5,bd⟩:=five _ (b1 _ ne)
     by_cases c5:cell%5=4
     ·have c4':(cell%5==4)=true:=by rw[c5];rfl
      have gl:decide ((gs.length:Int)>1)=false:=vT (λz=>c4 ⟨c5,∅⟩);simp_arith[at',s1,s2,ixr,ad1,ad2,mu,mo,q04,t1,t2,w1,w2,hb',ti,c3',c4',gl,il,i3,a5,e3,eo,e5,zA];exact⟨_,rfl,put _ bd⟩
     ·have c4':(cell%5==4)=false:=by simpa using c5
      simp_arith[at',s1,s2,ixr,ad1,ad2,mu,mo,q04,t1,t2,w1,w2,hb',ti,c3',c4',il,i3,a5,e3,eo,e5,zA];exact⟨_,rfl,put _ bd⟩
 ·have hb':(cell/160%2==1)=false:=by simpa using hb
  by_cases c3:cell%5=3
  ·have c3':(cell%5==3)=true:=by rw[c3];rfl
   by_cases oe:oth=(i:Int)
   ·have oe':(oth==(i:Int))=true:=by rw[oe];exact beq_self_eq_true _
    have c4':(cell%5==4)=false:=by rw[c3];rfl
    obtain⟨d,e5,bd⟩:=five _ (b1 _ ne);simp_arith[at',s1,s2,ixr,ad1,ad2,mu,mo,q04,t1,t2,w1,w2,hb',c3',oe',c4',il,i3,a5,e3,eo,e5,zA];exact⟨_,rfl,put _ bd⟩
   ·have oe':(oth==(i:Int))=false:=by simpa using oe
    simp_arith[at',s1,s2,ixr,ad1,ad2,mu,mo,q04,t1,t2,w1,w2,hb',c3',oe',ato,zA];exact⟨_,rfl,put _ (dso ∅)⟩
  ·have c3':(cell%5==3)=false:=by simpa using c3
   by_cases c4:cell%5=4/\1<gs.length
   ·have c4':(cell%5==4)=true:=by rw[c4.1];rfl
    have gl:decide ((gs.length:Int)>1)=true:=vP ∅;simp_arith[at',s1,s2,ixr,ad1,ad2,mu,mo,q04,t1,t2,w1,w2,hb',c3',c4',gl,q8C,q8o,zA];exact⟨_,rfl,λd hd=>ok1 d (yn.mp hd),by rw[yc,zA];omega,rev c4.2⟩
   ·obtain⟨d,e5,bd⟩:=five _ (b1 _ ne)
    by_cases c5:cell%5=4
    ·have c4':(cell%5==4)=true:=by rw[c5];rfl
     have gl:decide ((gs.length:Int)>1)=false:=vT (λz=>c4 ⟨c5,∅⟩);simp_arith[at',s1,s2,ixr,ad1,ad2,mu,mo,q04,t1,t2,w1,w2,hb',c3',c4',gl,il,i3,a5,e3,eo,e5,zA];exact⟨_,rfl,put _ bd⟩
    ·have c4':(cell%5==4)=false:=by simpa using c5
     simp_arith[at',s1,s2,ixr,ad1,ad2,mu,mo,q04,t1,t2,w1,w2,hb',c3',c4',il,i3,a5,e3,eo,e5,zA];exact⟨_,rfl,put _ bd⟩
theorem q5C{α:Type}{g:FG}{b:FS}{r:O}(F:α->D)(p:α->Bool)(I:List α->WSt->Prop):∀(xs pre:List α)(ω:WSt),I pre ω ->
  (∀pre x ω,x∈xs->I pre ω->∃w,g (F x) ω=some w/\(p x=true->Y6 (b w) (I (pre++[x])))/\(p x=false->∃w',b w=some (.rt r,w'))) ->
  (xs.all p=true->∃w',Yr g b (xs.map F) ω=some (.nx,w')/\I (pre++xs) w')/\(xs.all p=false->∃w',Yr g b (xs.map F) ω=some (.rt r,w'))
 | [],pre,ω,hi,_=>⟨λ_=>⟨ω,rfl,by rw[zi];exact hi⟩,λh=>by cases h⟩
 | x::xs,pre,ω,hi,t=>by
  obtain⟨w,h1,h2,h3⟩:=t pre x ω zK hi;rw[zT,Yr,h1,zZ,yh];cases z:p x with
  | false=>
   obtain⟨w',e⟩:=h3 z;rw[e];exact⟨λh=>(nomatch h),λ_=>⟨w',rfl⟩⟩
  | true=>
   have h2:=h2 z;rw[yi]
   match hb:b w,h2 with
   | some (.nx,ω2),h2=>
    have:=q5C F p I xs (pre++[x]) ω2 h2 λpre y ω hy=>t pre y ω (zJ _ hy);rw[zY]at this;exact this
   | some (.ct,ω2),h2=>
    have:=q5C F p I xs (pre++[x]) ω2 h2 λpre y ω hy=>t pre y ω (zJ _ hy);rw[zY]at this;exact this
noncomputable def idx(gs:List (List Int))(x:Int):List Nat:=(yk gs.length).filter λk=>decide (x∈gs.getD k [])
noncomputable def Xm(gs:List (List Int))(x:Int):Int:=match idx gs x with
 | [k]=>(k:Int)
 | _=>-1
theorem q9r(x:Int)(ns:List Int):oIn false (.int x) (.lst (ns.map D.int))=↥(.bl (decide (x∈ns)))/\oIn true (.int x) (.lst (ns.map D.int))=↥(.bl (!decide (x∈ns))):=by
 have e:=q8a x ns;have f:(Yl (.int x)&&(ns.map D.int).all Yl)=true:=by
  rw[wE];show (true&&_)=true;rw[yi];exact yG.mpr λ_ _=>rfl
 constructor
 ·show (if (Yl (.int x)&&(ns.map D.int).all Yl)=true then some (Hk.R.sh (D.bl (Hk.inD (.int x) (ns.map D.int))))else none)=_
  rw[vM f,e]
 ·show (if (Yl (.int x)&&(ns.map D.int).all Yl)=true then some (Hk.R.sh (D.bl (!Hk.inD (.int x) (ns.map D.int))))else none)=_
  rw[vM f,e]
theorem qe3{gs:List (List Int)}(hl:gs.length<=1000)(x:Int):q0A [.lst (gs.map gD),.int x]=↥(.int (Xm gs x)):=by
 unfold q0A q4m;have cm:=q1r (i:=0) (c:=q2p) (f:=q20) (λk:Nat=>decide (x∈gs.getD k [])) (λk=>D.int (0+(k:Int))) (λk=>D.int (0+(k:Int))) (yk gs.length) (ω:=[none,↥(.int x),↥(.lst (gs.map gD))]) (λk hk=>by
  have kl:k<gs.length:=wA.mp hk;have at':atI (gs.map gD) (0+(k:Int))=some (.lst ((gs.getD k []).map D.int)):=by
   rw[q1B ∅ (by rw[zA];omega)];have:(0+(k:Int)).toNat=k:=∅
   simp only[this,xb,zX,zD kl,Option.getD_some];rfl
  have i1:=(q9r x (gs.getD k [])).1;unfold q2p q20;simp_arith -implicitDefEqProofs [at',i1];exact⟨trivial,λ_=>trivial⟩)
 have r1:=qfG (a:=(gs.length:Int)) ∅;have ul:(upTo 0 gs.length).length<=1000000:=by rw[qaL];omega
 rw[yT]at r1;have cm':Yh (gN 0) q2p q20 (upTo 0 gs.length) [none,↥(.int x),↥(.lst (gs.map gD))]=some ((idx gs x).map λ(k:Nat)=>D.int (0+(k:Int))):=cm;have ne2:∀n:Nat,n≠1->((n:Int)==1)=false:=λn h=>by simpa using (∅:(n:Int)≠1)
 simp_arith -implicitDefEqProofs [r1,Yd ul,inW,Yn,cm',zA];unfold Xm
 match idx gs x with
 | []=>simp_arith -implicitDefEqProofs [yA,zq,ne2 0 (by decide)]
 | [k]=>
  have l1:(((0+1:Nat):Int)==1)=true:=rfl;simp_arith -implicitDefEqProofs [zT,yA,zG,zq,l1];simp
 | a::b::r=>
  have:=ne2 (r.length+1+1) ∅;simp_arith -implicitDefEqProofs [zG,this]
theorem q5z(n:Int):q0h [.int n]=↥(.bl true):=by
 unfold q0h q3h;simp_arith[qD]
section
variable{P:List Int}{ties:List (Int×Int)}{gs:List (List Int)}
noncomputable def zAG(P:List Int)(ties:List (Int×Int))(gs:List (List Int)):Bool:=gs.all (λg=>g.all λx=>decide (x∈P))&&(ties.all (λe=>Xm gs e.1==Xm gs e.2)&&(((gs.flatten.length:Int)==(P.length:Int))&&(P.filter λx=>decide (Xm gs x<0)).isEmpty))
theorem q9B{X T:D}{g:List Int}(ne:g≠[])(x5 x6 x7 x8:Option W)(m:Int):
  (g.all (λx=>decide (x∈P))=true->∃y5,qB [↥(.lst (P.map D.int)),↥T,↥X,↥(.int m),↥(gD g),x5,x6,x7,x8]=some (.nx,[↥(.lst (P.map D.int)),↥T,↥X,↥(.int (m+g.length)),↥(gD g),y5,x6,x7,x8])) /\
  (g.all (λx=>decide (x∈P))=false->∃w,qB [↥(.lst (P.map D.int)),↥T,↥X,↥(.int m),↥(gD g),x5,x6,x7,x8]=some (.rt (.sh (.bl false)),w)):=by
 have lp:=q5C (r:=.sh (.bl false)) (g:=gN 5) (b:=q0s) D.int (λx=>decide (x∈P)) (λ_ ω=>∃y5,ω=[↥(.lst (P.map D.int)),↥T,↥X,↥(.int m),↥(gD g),y5,x6,x7,x8]) g [] _ ⟨x5,rfl⟩ (λ_ x ω hx ⟨y5,hω⟩=>by
  subst hω;refine⟨_,rfl,λh=>?_,λh=>?_⟩
  ·have i:=(q9r x P).2
   rw[h]at i;unfold q0s;show Y6 (sIf _ _ _ [↥(.lst (P.map D.int)),↥T,↥X,↥(.int m),↥(gD g),↥(.int x),x6,x7,x8]) _;simp_arith[q5z,i];exact⟨_,rfl⟩
  ·have i:=(q9r x P).2
   rw[h]at i;unfold q0s;show ∃w',sIf _ _ _ [↥(.lst (P.map D.int)),↥T,↥X,↥(.int m),↥(gD g),↥(.int x),x6,x7,x8]=_;simp_arith[q5z,i];exact⟨_,rfl⟩)
 have q:oEq false (gD g) (.lst [])=↥(.bl false):=by
  show oEq false (.lst (g.map D.int)) (.lst [])=_;rw[q56 (q19 g) (show shp (.lst [])=true from q19 [])];show some (R.sh (.bl (PyData.eqvAll (D.pys (g.map D.int)) (D.pys []))))=_;rw[q3P _ _ (by rw[zA];exact λe=>ne (xz.mp e))]
 refine⟨λh=>?_,λh=>?_⟩
 ·obtain⟨w',e,y5,rfl⟩:=lp.1 h
  refine⟨y5,?_⟩;unfold gD at e q ⊢;unfold qB;simp_arith[q,e,zA]
 ·obtain⟨w',e⟩:=lp.2 h
  refine⟨w',?_⟩;unfold gD at e q ⊢;unfold qB;simp_arith[q,e]
theorem qed(hp:P.length<64)(hg:gs.length<=1000)(ne:∀g∈gs,g≠[])(ht:ties.length<=5000):qJ [.lst (P.map D.int),.lst (ties.map Z5),.lst (gs.map gD)]=↥(.bl (zAG P ties gs)):=by
 have lp:=q5C (r:=.sh (.bl false)) (g:=gN 4) (b:=qB) gD (λg=>g.all λx=>decide (x∈P)) (λpre ω=>∃x4 x5,ω=[↥(.lst (P.map D.int)),↥(.lst (ties.map Z5)),↥(.lst (gs.map gD)),↥(.int (pre.flatten.length:Int)),x4,x5,none,none,none]) gs [] _ ⟨none,none,rfl⟩ (λpre g ω hx ⟨x4,x5,hω⟩=>by
  subst hω;have st:=q9B (P:=P) (X:=.lst (gs.map gD)) (T:=.lst (ties.map Z5)) (ne g hx) x5 none none none (pre.flatten.length:Int);refine⟨_,rfl,λh=>?_,λh=>st.2 h⟩;obtain⟨y5,e⟩:=st.1 h;show Y6 (qB [↥(.lst (P.map D.int)),↥(.lst (ties.map Z5)),↥(.lst (gs.map gD)),↥(.int (pre.flatten.length:Int)),↥(gD g),x5,none,none,none]) _;rw[e];exact⟨_,_,by rw[yS,yM,xR,zi,zC,Int.natCast_add]⟩)
 unfold qJ q0N zAG;cases a1:gs.all (λg=>g.all λx=>decide (x∈P))with
 | false=>
  obtain⟨w',e⟩:=lp.2 a1;rw[xR,zq,show ((0:Nat):Int)=0 from rfl]at e;simp_arith -implicitDefEqProofs [e]
 | true=>
  obtain⟨w',e,x4,x5,rfl⟩:=lp.1 a1;rw[xR,zq,show ((0:Nat):Int)=0 from rfl]at e;have nb:=λx=>qe3 hg x;have lt:=q5C (r:=.sh (.bl false)) (g:=gT 2 (YD (gN 6) (YD (gN 7) Ym))) (b:=q1b) Z5 (λe=>Xm gs e.1==Xm gs e.2) (λ_ ω=>∃x6 x7,ω=[↥(.lst (P.map D.int)),↥(.lst (ties.map Z5)),↥(.lst (gs.map gD)),↥(.int (gs.flatten.length:Int)),x4,x5,x6,x7,none]) ties [] _ ⟨none,none,rfl⟩ (λpre q ω hx ⟨x6,x7,hω⟩=>by
   subst hω;refine⟨[↥(.lst (P.map D.int)),↥(.lst (ties.map Z5)),↥(.lst (gs.map gD)),↥(.int (gs.flatten.length:Int)),x4,x5,↥(.int q.1),↥(.int q.2),none],rfl,λh=>?_,λh=>?_⟩
   ·unfold q1b
    simp_arith -implicitDefEqProofs [nb,h];exact⟨_,_,rfl⟩
   ·unfold q1b
    simp_arith -implicitDefEqProofs [nb,h];exact⟨_,rfl⟩)
  cases a2:ties.all (λe=>Xm gs e.1==Xm gs e.2)with
  | false=>
   obtain⟨w',e2⟩:=lt.2 a2;simp_arith -implicitDefEqProofs [e,e2,yY]
  | true=>
   obtain⟨w',e2,x6,x7,rfl⟩:=lt.1 a2;have pl:(P.map D.int).length<=1000000:=by rw[zA];omega
   have cm:=q1r (i:=0) (c:=q2C) (f:=q2B) (λx=>decide (Xm gs x<0)) D.int D.int P (ω:=[none,↥(.lst (gs.map gD))]) (λx hx=>by
    unfold q2C q2B;simp_arith -implicitDefEqProofs [nb];exact⟨trivial,λ_=>trivial⟩)
   have q:∀xs:List Int,oEq false (.lst (xs.map D.int)) (.lst [])=↥(.bl xs.isEmpty):=λxs=>by
    cases xs with
    | nil=>rfl
    | cons x xs=>
     rw[q56 (q19 _) (show shp (.lst [])=true from q19 [])];show some (R.sh (.bl (PyData.eqvAll (D.pys ((x::xs).map D.int)) (D.pys []))))=_;rw[q3P _ _ (by rw[zA];simp)];rfl
   simp_arith -implicitDefEqProofs [e,e2,yY,Yd pl,inW,Yn,cm,q,zA]
end
theorem qaM:∀{P F:List Int},P.Nodup->(∀x∈P,x∈F)->F.length=P.length->F.Perm P
 | [],F,_,_,h=>by rw[xz.mp h]
 | x::P,F,nd,s,h=>by
  have nd':=yj.mp nd;have p:=List.perm_cons_erase (s x zK);refine p.trans (List.Perm.cons x (qaM nd'.2 (λy hy=>?_) ?_))
  ·have ne:y≠x:=λe=>nd'.1 (by rw[<- e];exact hy)
   exact(ZG ne).mpr (s y (zJ _ hy))
  ·have:=p.length_eq
   rw[zG]at this h;omega
section
variable{P:List Int}{kn ties:List (Int×Int)}{gs:List (List Int)}
theorem qeU(nd:gs.flatten.Nodup){i j:Nat}{a b:List Int}{x:Int}(h1:gs[i]?=some a)(h2:gs[j]?=some b)(m1:x∈a)(m2:x∈b):i=j:=by
 have u:=q5G (k:=0) nd h1 m1;have v:=q5G (k:=0) nd h2 m2;rw[u]at v;injection v with v;injection v with v;omega
theorem q9i{x:Int}{k:Nat}:k∈idx gs x↔∃g,gs[k]?=some g/\x∈g:=by
 unfold idx;rw[xg,wA,decide_eq_true_eq]
 constructor
 ·intro⟨h1,h2⟩
  rw[zX,zD h1]at h2;exact⟨_,zD h1,h2⟩
 ·intro⟨g,h1,h2⟩
  refine⟨(zh.mp h1).1,?_⟩;rw[zX,h1];exact h2
theorem qgT(x:Int):(idx gs x).Nodup:=List.Pairwise.filter _ List.nodup_range
theorem q3k(nd:gs.flatten.Nodup){j:Nat}{g:List Int}{x:Int}(hj:gs[j]?=some g)(hx:x∈g):Xm gs x=(j:Int):=by
 have m:∀k,k∈idx gs x->k=j:=λk hk=>by
  obtain⟨g',h1,h2⟩:=q9i.mp hk;exact qeU nd h1 hj h2 hx
 have mj:j∈idx gs x:=q9i.mpr ⟨g,hj,hx⟩;have n:=qgT (gs:=gs) x;unfold Xm
 match idx gs x,m,mj,n with
 | [k],m,_,_=>show (k:Int)=j;rw[m k zK]
 | a::b::r,m,_,n=>
  have:=(yj.mp n).1;rw[m a zK,m b (zJ _ zK)]at this;exact vK zK this
theorem qhP{x:Int}(h:¬Xm gs x<0):∃g∈gs,x∈g:=by
 have k:∀{is:List Nat},idx gs x=is->¬(match is with|[k]=>(k:Int)|_=>-1)<0->∃i,i∈idx gs x:=λ{is} e h=>by
  match is with
  | [k]=>exact⟨k,by rw[e];exact zK⟩
  | []=>exact vK (by decide) h
  | _::_::_=>exact vK (show (-1:Int)<0 by decide) h
 obtain⟨i,hi⟩:=k rfl h;obtain⟨g,h1,h2⟩:=q9i.mp hi;exact⟨g,zx h1,h2⟩
theorem q47(pm:gs.flatten.Perm P){x:Int}(hx:x∈P):∃(j:Nat) (g:List Int),gs[j]?=some g/\g∈gs/\x∈g:=by
 obtain⟨g,hg,h⟩:=yu.mp (pm.mem_iff.mpr hx);obtain⟨j,hj,e⟩:=zn.mp hg;exact⟨j,g,by rw[<- e];exact zD hj,hg,h⟩
theorem qgl(hP:P.Nodup)(hk:∀e∈ties,e.1∈P/\e.2∈P):zAG P ties gs=true↔gs.flatten.Perm P/\∀e∈ties,∃g∈gs,e.1∈g/\e.2∈g:=by
 unfold zAG;rw[zV,zV,zV,yG,yG,beq_iff_eq,List.isEmpty_iff,List.filter_eq_nil_iff]
 constructor
 ·intro⟨h1,h2,h3,h4⟩
  have pm:gs.flatten.Perm P:=qaM hP (λx hx=>by
   obtain⟨g,hg,h⟩:=qhP (gs:=gs) (x:=x) (λz=>h4 x hx (vP z));exact yu.mpr ⟨g,hg,h⟩) ∅
  refine⟨pm,λe he=>?_⟩;have nd:gs.flatten.Nodup:=pm.nodup_iff.mpr hP;obtain⟨i,a,a1,a2,a3⟩:=q47 pm (hk e he).1;obtain⟨j,b,b1,b2,b3⟩:=q47 pm (hk e he).2;have:=h2 e he;rw[q3k nd a1 a3,q3k nd b1 b3,beq_iff_eq]at this;have ij:i=j:=∅
  rw[ij,b1]at a1;cases a1;exact⟨_,a2,a3,b3⟩
 ·intro⟨pm,ht⟩
  have nd:gs.flatten.Nodup:=pm.nodup_iff.mpr hP;refine⟨λg hg=>yG.mpr λx hx=>vP (pm.mem_iff.mp (yu.mpr ⟨g,hg,hx⟩)),λe he=>?_,by rw[pm.length_eq],λx hx z=>?_⟩
  ·obtain⟨g,hg,h1,h2⟩:=ht e he
   obtain⟨j,hj,e'⟩:=zn.mp hg;have ej:gs[j]?=some g:=by rw[<- e'];exact zD hj
   rw[q3k nd ej h1,q3k nd ej h2];exact beq_self_eq_true _
  ·obtain⟨i,a,a1,a2,a3⟩:=q47 pm hx
   rw[q3k nd a1 a3,decide_eq_true_eq]at z;omega
end
theorem qaF:∀(a b:List Int),PyData.eqvAll (D.pys (a.map D.int)) (D.pys (b.map D.int))=decide (a=b)
 | [],[]=>rfl
 | [],_::_=>rfl
 | _::_,[]=>rfl
 | x::a,y::b=>by
  show (x==y&&PyData.eqvAll (D.pys (a.map D.int)) (D.pys (b.map D.int)))=_;rw[qaF a b]
  by_cases z:x=y
  ·subst z
   simp
  ·have:(x==y)=false:=by simpa using z
   rw[this];simp[z]
theorem qf7(a b:List Int):oEq false (.lst (a.map D.int)) (.lst (b.map D.int))=↥(.bl (decide (a=b))):=by
 rw[q56 (q19 a) (q19 b)];show some (R.sh (.bl (PyData.eqvAll (D.pys (a.map D.int)) (D.pys (b.map D.int)))))=_;rw[qaF]
section
variable{P:List Int}{kn:List (Int×Int)}{gs:List (List Int)}
theorem qd3(ne:∀g∈gs,g≠[])(fl:gs.flatten.length<64):qY [.lst (gs.map gD),.lst (P.map D.int)]=↥(.bl (decide (YN gs.flatten=P))):=by
 unfold qY q1e;have gl:=q0E ne;have hl2:(gs.map gD).length<=1000000:=by rw[zA];omega
 have cm:=qN (i:=0) (f:=q0B) gD (λ_=>D.bl true) gs (ω:=[none]) (λg hg=>by
  have w:=q2E (ne g hg) (by have:=q0o hg;omega);unfold q0B;simp_arith[w])
 simp_arith[Yd hl2,inW,Yn,cm,XB,q5Q];obtain⟨ω',e,x3,rfl⟩:=q1t (g:=gN 3) (b:=q1w) gD gs
  (λpre ω=>∃x3,ω=[↥(.lst (gs.map gD)),↥(.lst (P.map D.int)),some (.ow (pre.flatten.map D.int)),x3])
  (λpre g post ω hd ⟨x3,hω⟩=>by
   subst hω;refine⟨_,rfl,?_⟩;have hle:(pre.flatten.map D.int).length+(g.map D.int).length<=1000000:=by
    have:=uE (λz=>z.flatten.length) hd;simp only[yS,yM,zC]at this;rw[zA,zA];omega
   have e1:=q1R (i:=2) (ω:=[↥(.lst (gs.map gD)),↥(.lst (P.map D.int)),some (.ow (pre.flatten.map D.int)),↥(.lst (g.map D.int))]) (ds:=pre.flatten.map D.int) (ds':=g.map D.int) hle;unfold q1w;show Y6 (zA3 2 (dOf (Zy 3)) [↥(.lst (gs.map gD)),↥(.lst (P.map D.int)),some (.ow (pre.flatten.map D.int)),↥(.lst (g.map D.int))]) _;simp_arith[e1];have ef:(pre++[g]).flatten=pre.flatten++g:=by rw[yS,yM,xR,zi]
   rw[ef,zW];exact⟨_,rfl⟩)
  (ω:=[↥(.lst (gs.map gD)),↥(.lst (P.map D.int)),some (.ow []),none]) ⟨none,rfl⟩
 simp_arith[e,q9m fl,qf7]
noncomputable def tieB(gs:List (List Int)):D->Bool
 | .tup (.int a::.int b::_)=>Xm gs a==Xm gs b
 | _=>false
theorem qep{ds:List D}(pm:gs.flatten.Perm P)(hP:P.Nodup)(fl:gs.flatten.length<64)(hl:ds.length<=10000)(h:∀d∈ds,∃a b r,d=.tup (.int a::.int b::r)/\a∈P/\b∈P):
  q0k [.lst (gs.map gD),.lst ds]=↥(.bl (ds.all (tieB gs))):=by
 have nd:gs.flatten.Nodup:=pm.nodup_iff.mpr hP;unfold q0k q1o;have hl2:ds.length<=1000000:=∅
 have cm:=qN (i:=0) (f:=q0C) (λd:D=>d) (λd=>D.bl (tieB gs d)) ds (ω:=[none,↥(.dic (kkP (nmP 0 gs)) (vvP (nmP 0 gs)))]) (λd hd=>by
  obtain⟨a,b,r,rfl,ha,hb⟩:=h d hd;obtain⟨i,x,a1,a2,a3⟩:=q47 pm ha;obtain⟨j,y,b1,b2,b3⟩:=q47 pm hb;have v1:=q5G (k:=0) nd a1 a3;have v2:=q5G (k:=0) nd b1 b3;show _=some (D.bl (Xm gs a==Xm gs b));unfold q0C;simp_arith[v1,v2];rw[q3k nd a1 a3,q3k nd b1 b3])
 rw[xf]at cm;simp_arith[q8U nd fl,Yd hl2,inW,Yn,cm,XB,q3B]
theorem q9J(hP:P.Pairwise (· < ·))(hl:P.length<64)(hk:kn.length<=1000)(hkn:∀e∈kn,e.1∈P/\e.2∈P)(ne:∀g∈gs,g≠[])(fl:gs.flatten.length<64)(t:Int):
  ∃v:Bool,qF [.tup [.int t,.lst (gs.map gD)],.lst (P.map D.int),.lst (kn.map Z5),.lst ((Z4 P).map edD)]=↥(.bl v)/\qJ [.lst (P.map D.int),.lst ((kn++(Z4 P).filter λq=>decide (q.2-q.1<t)).map Z5),.lst (gs.map gD)]=↥(.bl v)/\(v=true↔Lev P kn (t,gs)):=by
 have hPn:P.Nodup:=hP.imp λ{a b} z=>ww z;have glen:(Z4 P).length<=64:=by rw[q17];omega
 have fil_len:((Z4 P).filter λq=>decide (q.2-q.1<t)).length<=64:=zm (yK _ _) glen;have hsh:∀e∈(Z4 P).filter (λq=>decide (q.2-q.1<t)),e.1∈P/\e.2∈P:=λe he=>q7q (xg.mp he).1;have cm:=q1r (i:=0) (c:=q2G) (f:=q2F) (λq=>decide (q.2-q.1<t)) edD edD (Z4 P) (ω:=[none,↥(.tup [.int t,.lst (gs.map gD)])]) (λq hq=>by
  unfold q2G q2F;have c:=qcv q;simp_arith[c];exact⟨trivial,λ_=>trivial⟩)
 generalize hs:(Z4 P).filter (λq=>decide (q.2-q.1<t))=sh at fil_len hsh cm;have hin:∀e∈kn++sh,e.1∈P/\e.2∈P:=λe he=>(zP.mp he).elim (hkn e) (hsh e);have gl:=q0E ne;have pa:=qed (P:=P) (ties:=kn++sh) (gs:=gs) hl ∅ ne (by rw[zC];omega);have pi:=qgl (gs:=gs) hPn hin;refine⟨zAG P (kn++sh) gs,?_,pa,pi.trans ⟨λh=>⟨ne,h.1,by rw[hs];exact h.2⟩,λL=>⟨L.pm,by have:=L.tie;rw[hs]at this;exact this⟩⟩⟩;have ag:=qd3 (P:=P) ne fl;have hl2:((Z4 P).map edD).length<=1000000:=by rw[zA];omega
 have l2:(((2:Nat):Int)==2)=true:=rfl;unfold qF q1s
 by_cases z:YN gs.flatten=P
 ·rw[vP z]at ag
  have pm:gs.flatten.Perm P:=by rw[<- z];exact(q0i (l:=gs.flatten)).symm
  have ad:YL (.lst (kn.map Z5)) (.lst (sh.map edD))=some (.fr (kn.map Z5++sh.map edD)):=qX (by rw[zA,zA];omega);have ho:=qep (gs:=gs) (ds:=kn.map Z5++sh.map edD) pm hPn fl (by rw[zC,zA,zA];omega) λd hd=>by
   rcases zP.mp hd with z|z
   ·obtain⟨q,hq,rfl⟩:=zN.mp z
    exact⟨q.1,q.2,[],rfl,hkn q hq⟩
   ·obtain⟨q,hq,rfl⟩:=zN.mp z
    exact⟨q.1,q.2,[.int (q.2-q.1)],rfl,hsh q hq⟩
  have ev:(kn.map Z5++sh.map edD).all (tieB gs)=zAG P (kn++sh) gs:=by
   have e1:(kn.map Z5++sh.map edD).all (tieB gs)=(kn++sh).all λe=>Xm gs e.1==Xm gs e.2:=by
    rw[xv,xv,wE,wE];rfl
   rw[e1];cases y:zAG P (kn++sh) gs with
   | true=>
    unfold zAG at y;rw[zV,zV]at y;exact y.2.1
   | false=>
    refine wF.mpr λh=>?_;have nd:gs.flatten.Nodup:=pm.nodup_iff.mpr hPn;refine vK (pi.mpr ⟨pm,λe he=>?_⟩) (by rw[y];decide);obtain⟨i,a,a1,a2,a3⟩:=q47 pm (hin e he).1;obtain⟨j,b,b1,b2,b3⟩:=q47 pm (hin e he).2;have:=yG.mp h e he;rw[q3k nd a1 a3,q3k nd b1 b3,beq_iff_eq]at this;have ij:i=j:=∅
    rw[ij,b1]at a1;cases a1;exact⟨_,a2,a3,b3⟩
  rw[ev]at ho;simp_arith[l2,q6j,ag,Yd hl2,inW,Yn,cm,ad,ho]
 ·rw[vT z]at ag
  have y:zAG P (kn++sh) gs=false:=wF.mpr λh=>z (q9Q hP (pi.mp h).1);rw[y];simp_arith[l2,q6j,ag]
end
theorem q8l{g:FG}{b:FS}{r:O}{d:D}{ds:List D}{ω w w':WSt}(h1:g d ω=some w)(h2:b w=some (.rt r,w')):Yr g b (d::ds) ω=some (.rt r,w'):=by
 rw[Yr,h1,zZ,h2];rfl
theorem q8e{α:Type}{g:FG}{b:FS}(F:α->D)(I:List α->WSt->Prop)(ds:List D):∀(xs pre:List α)(ω:WSt),I pre ω ->
  (∀pre x ω,x∈xs->I pre ω->∃w,g (F x) ω=some w/\Y6 (b w) (I (pre++[x])))->∃w,I (pre++xs) w/\Yr g b (xs.map F++ds) ω=Yr g b ds w
 | [],pre,ω,hi,_=>⟨ω,by rw[zi];exact hi,rfl⟩
 | x::xs,pre,ω,hi,t=>by
  obtain⟨w,h1,h2⟩:=t pre x ω zK hi;rw[zT,yH,Yr,h1,zZ]
  match hb:b w,h2 with
  | some (.nx,ω2),h2=>
   have:=q8e F I ds xs (pre++[x]) ω2 h2 λpre y ω hy=>t pre y ω (zJ _ hy);rw[zY]at this;exact this
  | some (.ct,ω2),h2=>
   have:=q8e F I ds xs (pre++[x]) ω2 h2 λpre y ω hy=>t pre y ω (zJ _ hy);rw[zY]at this;exact this
noncomputable def WN:List D:=[.non,.bl true,.bl false,.str "1", .str "", .lst [],.tup [],.lst [.int 1],.tup [.int 1],.lst [.int 3,.int 4],.tup [.int 1,.int 2,.int 3]]
theorem q9f(c:Int):∃d,q02 [.int c]=↥d/\d∈WN:=by
 obtain⟨d,e,b⟩:=q1k (ds:=WN) (i:=c%11) (λd=>d∈WN) ∅ (show c%11<((11:Nat):Int) by omega) λd hd=>hd;refine⟨d,?_,b⟩;unfold WN at e;unfold q02 q4M;simp_arith[e]
theorem q4g{d:D}(h:d∈WN):okN 1 d/\okC 2 d=true/\nsD d=true/\YW d=false/\zAB d=true:=by
 have a:∀d∈WN,(d.py.canLay0=true/\d.py.depth<=1)/\okC 2 d=true/\nsD d=true/\YW d=false/\zAB d=true:=⋯
 exact a d h
noncomputable def zAY:D->Bool
 | .lst _=>false
 | .scr _=>false
 | .exc _=>false
 | .dic _ _=>false
 | _=>true
theorem qcj{d:D}(h:d∈WN):zAY d=true\/d=.lst []\/d=.lst [.int 1]\/d=.lst [.int 3,.int 4]:=by
 unfold WN at h;simp only[zE,zI,or_false]at h;rcases h with rfl|rfl|rfl|rfl|rfl|rfl|rfl|rfl|rfl|rfl|rfl
 ·exact .inl rfl
 ·exact .inl rfl
 ·exact .inl rfl
 ·exact .inl rfl
 ·exact .inl rfl
 ·exact .inr (.inl rfl)
 ·exact .inl rfl
 ·exact .inr (.inr (.inl rfl))
 ·exact .inl rfl
 ·exact .inr (.inr (.inr rfl))
 ·exact .inl rfl
theorem qa2{d:D}(h:nsD d=true):q0h [d]=↥(.bl (YW d)):=by
 unfold q0h q3h;cases d with
 | scr _=>cases h
 | exc _=>cases h
 | dic _ _=>cases h
 | _=>simp_arith[YW]
def NoP(P:List Int)(b:D):Prop:=qT [b]=↥(.bl false)/\∀(T X:D)(m:Int)(x5 x6 x7 x8:Option W),∃w,qB [↥(.lst (P.map D.int)),↥T,↥X,↥(.int m),↥b,x5,x6,x7,x8]=some (.rt (.sh (.bl false)),w)
section
variable{P:List Int}
theorem qcH:∀{b:D},zAY b=true->NoP P b:=λ{b} h=>by
 refine⟨?_,λT X m x5 x6 x7 x8=>?_⟩
 ·unfold qT q2c
  cases b with
  | lst _=>cases h
  | scr _=>cases h
  | exc _=>cases h
  | dic _ _=>cases h
  | _=>simp_arith[qD]
 ·unfold qB
  cases b with
  | lst _=>cases h
  | scr _=>cases h
  | exc _=>cases h
  | dic _ _=>cases h
  | _=>simp_arith[qD];exact⟨_,rfl⟩
theorem qaq:NoP P (.lst []):=by
 refine⟨?_,λT X m x5 x6 x7 x8=>?_⟩
 ·have z:decide (((0:Nat):Int)>0)=false:=rfl
  unfold qT q2c;simp_arith[zq,z]
 ·have q:oEq false (.lst []) (.lst [])=↥(.bl true):=q40 (show shp (.lst [])=true from q19 [])
  unfold qB;simp_arith[q];exact⟨_,rfl⟩
theorem qhG{ds:List D}(hl:ds.length<=1000)(hn:∀d∈ds,nsD d=true):qA [.lst ds]=↥(.bl (ds.all YW)):=by
 have kl:ds.length<=1000000:=∅
 have cm:=qN (i:=0) (f:=q0M) (λd:D=>d) (λd=>D.bl (YW d)) ds (ω:=[none]) (λd hd=>by
  have e:=q1L (hn d hd);unfold q0M;simp_arith[e])
 rw[xf]at cm;unfold qA q1F;simp_arith[Yd kl,inW,Yn,cm,XB,q3B]
theorem qi8{o:D}{r:List Int}(h:o∈WN)(hr:r.length<=900):NoP P (.lst (o::r.map D.int)):=by
 obtain⟨k1,k2,k3,k4,k5⟩:=q4g h;have sh:shp (.lst (o::r.map D.int))=true:=q0x (n:=2) (q0w λd hd=>by
  rcases zE.mp hd with rfl|hd
  ·exact k1
  ·obtain⟨x,_,rfl⟩:=zN.mp hd;exact q0Y 1 x) (by decide)
 refine⟨?_,λT X m x5 x6 x7 x8=>?_⟩
 ·have w:=qhG (ds:=o::r.map D.int) (by rw[zG,zA];omega) λd hd=>by
   rcases zE.mp hd with rfl|hd
   ·exact k3
   ·obtain⟨x,_,rfl⟩:=zN.mp hd;rfl
  rw[yh,k4,yF]at w;have z:decide (((r.length+1:Nat):Int)>0)=true:=vP ∅;unfold qT q2c;simp_arith[zG,zA,z,w]
 ·have q:oEq false (.lst (o::r.map D.int)) (.lst [])=↥(.bl false):=by
   rw[q56 sh (show shp (.lst [])=true from q19 [])];rfl
  have lw:=qa2 k3;rw[k4]at lw;have st:∃w',q0s [↥(.lst (P.map D.int)),↥T,↥X,↥(.int m),↥(.lst (o::r.map D.int)),↥o,x6,x7,x8]=some (.rt (.sh (.bl false)),w'):=by
   unfold q0s;simp_arith[lw];exact⟨_,rfl⟩
  obtain⟨w',st⟩:=st;have f:=q8l (g:=gN 5) (d:=o) (ds:=r.map D.int) (ω:=[↥(.lst (P.map D.int)),↥T,↥X,↥(.int m),↥(.lst (o::r.map D.int)),x5,x6,x7,x8]) rfl st;refine⟨w',?_⟩;unfold qB;simp_arith[q,f]
end
def Jd(P:List Int)(kn:List (Int×Int))(X:D):Prop:=okN 4 X/\okC 5 X=true/\∀t:Int,∃v:Bool,qF [.tup [.int t,X],.lst (P.map D.int),.lst (kn.map Z5),.lst ((Z4 P).map edD)]=↥(.bl v)/\qJ [.lst (P.map D.int),.lst ((kn++(Z4 P).filter λq=>decide (q.2-q.1<t)).map Z5),X]=↥(.bl v)/\(v=true->∃gs,X=.lst (gs.map gD)/\Lev P kn (t,gs))
theorem qfF{t:Int}{X P K E:D}(h:qY [X,P]=↥(.bl false)):qF [.tup [.int t,X],P,K,E]=↥(.bl false):=by
 have l2:(((2:Nat):Int)==2)=true:=rfl;unfold qF q1s;simp_arith[l2,q6j,h]
section
variable{P:List Int}{kn:List (Int×Int)}
theorem qcF(hP:P.Pairwise (· < ·))(hl:P.length<64)(hk:kn.length<=1000)(hkn:∀e∈kn,e.1∈P/\e.2∈P){gs:List (List Int)}(ne:∀g∈gs,g≠[])(fl:gs.flatten.length<64):Jd P kn (.lst (gs.map gD)):=by
 have gl:=q0E ne;refine⟨(q0w λd hd=>by obtain⟨g,_,rfl⟩:=zN.mp hd;exact q7z g:okN 2 _).up (by decide),(qW 4 (by rw[zA];omega) λd hd=>?_).1,λt=>?_⟩
 ·obtain⟨g,hg,rfl⟩:=zN.mp hd
  exact(q3Q 2 (by have:=q0o hg;omega)).1
 ·obtain⟨v,h1,h2,h3⟩:=q9J hP hl hk hkn ne fl t
  exact⟨v,h1,h2,λe=>⟨gs,rfl,h3.mp e⟩⟩
theorem qfE{X:D}(h:zAY X=true)(o1:okN 4 X)(o2:okC 5 X=true):Jd P kn X:=by
 have ag:qY [X,.lst (P.map D.int)]=↥(.bl false):=by
  unfold qY q1e;cases X with
  | lst _=>cases h
  | scr _=>cases h
  | exc _=>cases h
  | dic _ _=>cases h
  | _=>simp_arith[qD]
 refine⟨o1,o2,λt=>⟨false,qfF ag,?_,λe=>by cases e⟩⟩;unfold qJ q0N;cases X with
 | lst _=>cases h
 | scr _=>cases h
 | exc _=>cases h
 | dic _ _=>cases h
 | _=>simp_arith[qD]
theorem q8Y{pre:List (List Int)}{b:D}{post:List D}(hpre:∀g∈pre,g≠[]/\∀x∈g,x∈P)(hp:pre.flatten.length<64)(nb:NoP P b)(hq:∀d∈post,∃v,qT [d]=↥(.bl v))(hl:pre.length+post.length<=900)(ok:∀d∈b::post,okN 3 d/\okC 4 d=true):Jd P kn (.lst (pre.map gD++b::post)):=by
 have gg:∀g∈pre,qT [gD g]=↥(.bl true):=λg hg=>q2E (hpre g hg).1 (by have:=q0o hg;omega);have len:(pre.map gD++b::post).length<=1000:=by rw[zC,zA,zG];omega
 have ag:qY [.lst (pre.map gD++b::post),.lst (P.map D.int)]=↥(.bl false):=by
  have kl:(pre.map gD++b::post).length<=1000000:=∅
  have w:∀d∈pre.map gD++b::post,∃u,qT [d]=↥(.bl u):=λd hd=>by
   rcases zP.mp hd with hd|hd
   ·obtain⟨g,hg,rfl⟩:=zN.mp hd;exact⟨_,gg g hg⟩
   ·rcases zE.mp hd with rfl|hd
    ·exact⟨_,nb.1⟩
    ·exact hq d hd
  let wv:D->Bool:=λd=>match qT [d]with|↥(.bl u)=>u|_=>false
  have cm:=qN (i:=0) (f:=q0B) (λd:D=>d) (λd=>D.bl (wv d)) (pre.map gD++b::post) (ω:=[none]) (λd hd=>by
   obtain⟨u,hu⟩:=w d hd;have e:wv d=u:=by show (match qT [d]with|↥(.bl u)=>u|_=>false)=u;rw[hu]
   unfold q0B;simp_arith[hu,e])
  rw[xf]at cm;have wb:wv b=false:=by show (match qT [b]with|↥(.bl u)=>u|_=>false)=false;rw[nb.1]
  have al:(pre.map gD++b::post).all wv=false:=by
   rw[xv,yh,wb,yF,yI]
  unfold qY q1e;simp_arith[Yd kl,inW,Yn,cm,XB,q3B,al]
 refine⟨q0w λd hd=>?_,(qW 4 len λd hd=>?_).1,λt=>⟨false,qfF ag,?_,λe=>by cases e⟩⟩
 ·rcases zP.mp hd with hd|hd
  ·obtain⟨g,_,rfl⟩:=zN.mp hd;exact(q7z g).up (by decide)
  ·exact(ok d hd).1
 ·rcases zP.mp hd with hd|hd
  ·obtain⟨g,hg,rfl⟩:=zN.mp hd;exact(q3Q 2 (by have:=q0o hg;omega)).1
  ·exact(ok d hd).2
 ·generalize D.lst ((kn++(Z4 P).filter λq=>decide (q.2-q.1<t)).map Z5)=T
  obtain⟨w,⟨m,x4,x5,rfl⟩,e⟩:=q8e (g:=gN 4) (b:=qB) gD (λ_ ω=>∃m x4 x5,ω=[↥(.lst (P.map D.int)),↥T,↥(.lst (pre.map gD++b::post)),↥(.int m),x4,x5,none,none,none]) (b::post) pre [] [↥(.lst (P.map D.int)),↥T,↥(.lst (pre.map gD++b::post)),↥(.int 0),none,none,none,none,none] ⟨_,_,_,rfl⟩ (λ_ g ω hg ⟨m,x4,x5,hω⟩=>by
   subst hω;refine⟨_,rfl,?_⟩;obtain⟨y5,e⟩:=(q9B (P:=P) (X:=.lst (pre.map gD++b::post)) (T:=T) (hpre g hg).1 x5 none none none m).1 (yG.mpr λx hx=>vP ((hpre g hg).2 x hx));show Y6 (qB [↥(.lst (P.map D.int)),↥T,↥(.lst (pre.map gD++b::post)),↥(.int m),↥(gD g),x5,none,none,none]) _;rw[e];exact⟨_,_,_,rfl⟩)
  obtain⟨w',st⟩:=nb.2 T (.lst (pre.map gD++b::post)) m x5 none none none;have f:=q8l (g:=gN 4) (d:=b) (ds:=post) (ω:=[↥(.lst (P.map D.int)),↥T,↥(.lst (pre.map gD++b::post)),↥(.int m),x4,x5,none,none,none]) rfl st;rw[f]at e;unfold qJ q0N;simp_arith[e]
end
theorem q7r{d:D}(h:d∈WN):okC 3 d=true/\okC 4 d=true/\okC 5 d=true/\okC 6 d=true:=by
 have a:∀d∈WN,okC 3 d=true/\okC 4 d=true/\okC 5 d=true/\okC 6 d=true:=⋯
 exact a d h
theorem qf0{P:List Int}{kn:List (Int×Int)}(hP:P.Pairwise (· < ·))(hl:P.length<=60)(hk:kn.length<=1000)(hkn:∀e∈kn,e.1∈P/\e.2∈P){gs:List (List Int)}{t0:Int}(L:Lev P kn (t0,gs))(gne:gs≠[])(cell:Int):
  ∃ds,q0D [.lst (gs.map gD),.int cell]=some (.fr ds)/\Jd P kn (.lst ds):=by
 have lp:=xA.mpr gne;have len0:0<(gs.length:Int):=∅
 have gl:gs.length<=60:=by have:=q0E L.ne;have:=L.pm.length_eq;simp only at *;omega
 have mo:oMod (.int (cell/7)) (.int (gs.length:Int))=↥(.int (cell/7%(gs.length:Int))):=q03 len0;have o0:=yz (cell/7) (show (gs.length:Int)≠0 by omega);have o1:=yt (cell/7) len0;generalize cell/7%(gs.length:Int)=k at mo o0 o1;have hi:k.toNat<gs.length:=∅
 have at':atI (gs.map gD) k=some (gD gs[k.toNat]):=by
  rw[q1B o0 (by rw[zA];omega)];simp only[xb]
 have sp:gs=gs.take k.toNat++gs[k.toNat]::gs.drop (k.toNat+1):=by rw[<- yb hi,xj]
 have t1:cutD (gs.map gD) none (some k)=(gs.take k.toNat).map gD:=by rw[q6o o0,wX]
 have t2:cutD (gs.map gD) (some (k+1)) none=(gs.drop (k.toNat+1)).map gD:=by rw[q5j ∅,xu,show (k+1).toNat=k.toNat+1 by omega]
 have t3:cutD (gs.map gD) (some k) none=(gs[k.toNat]::gs.drop (k.toNat+1)).map gD:=by rw[q5j o0,<- xu,yb hi]
 have pl:(gs.take k.toNat).length<=60:=by rw[zy];omega
 have ql:(gs.drop (k.toNat+1)).length<=60:=by rw[yZ];omega
 generalize gs.take k.toNat=pre at sp t1 pl;generalize gs.drop (k.toNat+1)=post at sp t2 t3 ql;generalize gs[k.toNat]=g at sp at' t3;have fl:pre.flatten.length+g.length+post.flatten.length<=60:=by
  have e:=L.pm.length_eq;simp only at e;rw[sp,yS,yM,zC,zC]at e;omega
 have inP:∀a∈gs,∀x∈a,x∈P:=λa ha x hx=>L.pm.mem_iff.mp (yu.mpr ⟨a,ha,hx⟩);have ne:=L.ne;simp only at ne;have mem1:∀a∈pre,a∈gs:=λa ha=>by rw[sp];exact zb _ ha
 have mem2:g∈gs:=by rw[sp];exact zU _ zK
 have mem3:∀a∈post,a∈gs:=λa ha=>by rw[sp];exact zU _ (zJ _ ha)
 have hpre:∀a∈pre,a≠[]/\∀x∈a,x∈P:=λa ha=>⟨ne a (mem1 a ha),inP a (mem1 a ha)⟩;have gpost:∀a∈g::post,qT [gD a]=↥(.bl true):=λa ha=>by
  rcases zE.mp ha with rfl|ha
  ·exact q2E (ne _ mem2) ∅
  ·exact q2E (ne a (mem3 a ha)) (by have:=q0o ha;omega)
 have okp:∀a∈g::post,okN 3 (gD a)/\okC 4 (gD a)=true:=λa ha=>⟨(q7z a).up (by decide),(q3Q 2 (by
  rcases zE.mp ha with rfl|ha
  ·omega
  ·have:=q0o ha;omega)).1⟩
 obtain⟨x,r,rfl⟩:∃x r,g=x::r:=by
  have:=ne g mem2;cases g with
  | nil=>exact vK rfl this
  | cons x r=>exact⟨x,r,rfl⟩
 have rl:r.length<=60:=by rw[zG]at fl;omega
 have mid:∀ms:List (List Int),(∀a∈ms,a≠[])->ms.flatten.length<=r.length+3->Jd P kn (.lst (pre.map gD++ms.map gD++post.map gD)):=λms h1 h2=>by
  rw[<- zW,<- zW];refine qcF hP ∅ hk hkn (λa ha=>?_) ?_
  ·rcases zP.mp ha with ha|ha
   ·rcases zP.mp ha with ha|ha
    ·exact(hpre a ha).1
    ·exact h1 a ha
   ·exact ne a (mem3 a ha)
  ·rw[yS,yS,zC,zC]
   rw[zG]at fl;omega
 have bad:∀b:D,NoP P b->okN 3 b->okC 4 b=true->Jd P kn (.lst (pre.map gD++[b]++post.map gD)):=λb h1 h2 h3=>by
  rw[zY];show Jd P kn (.lst (pre.map gD++b::post.map gD));refine q8Y hpre ∅ h1 (λd hd=>?_) (by rw[zA];omega) λd hd=>?_
  ·obtain⟨a,ha,rfl⟩:=zN.mp hd
   exact⟨_,gpost a (zJ _ ha)⟩
  ·rcases zE.mp hd with rfl|hd
   ·exact⟨h2,h3⟩
   ·obtain⟨a,ha,rfl⟩:=zN.mp hd
    exact okp a (zJ _ ha)
 have okn:okN 3 (.lst [])/\okC 4 (.lst [])=true:=⟨(q7z []).up (by decide),rfl⟩;obtain⟨od,eo,mo'⟩:=q9f (cell/7);have c1:cutD (.int x::r.map D.int) (some 1) none=r.map D.int:=by rw[q5j (by decide)];rfl
 have c2:cutD (.int x::r.map D.int) none (some 1)=[D.int x]:=by rw[q6o (by decide)];rfl
 have w1:∀b:D,YL (.lst (pre.map gD)) (.lst [b])=some (.fr (pre.map gD++[b])):=λb=>qX (by rw[zA,zH];omega);have w2:∀b:D,YL (.lst (pre.map gD++[b])) (.lst (post.map gD))=some (.fr (pre.map gD++[b]++post.map gD)):=λb=>qX (by rw[zC,zA,zH,zA];omega);have w3:∀b:D,YL (.lst (.int x::r.map D.int)) (.lst [b])=some (.fr (.int x::(r.map D.int++[b]))):=λb=>qX (xs:=.int x::r.map D.int) (by rw[zG,zA,zH];omega);have w4:∀b:D,YL (.lst [b]) (.lst (r.map D.int))=some (.fr (b::r.map D.int)):=λb=>qX (by rw[zA,zH];omega);have w5:∀b c:D,YL (.lst (pre.map gD)) (.lst [b,c])=some (.fr (pre.map gD++[b,c])):=λb c=>qX (by rw[zA];show _+2<=_;omega);have w6:∀b c:D,YL (.lst (pre.map gD++[b,c])) (.lst (post.map gD))=some (.fr (pre.map gD++[b,c]++post.map gD)):=λb c=>qX (by rw[zC,zA,zA];show _+2+_<=_;omega);have w7:∀b:D,YL (.lst (pre.map gD++[b])) (.lst (gD (x::r)::post.map gD))=some (.fr (pre.map gD++[b]++(gD (x::r)::post.map gD))):=λb=>qX (by rw[zC,zA,zH,zG,zA];omega);rw[zT]at t3;have a0:atI (.int x::r.map D.int) 0=some (.int x):=by rw[q1B (by decide) (by rw[zG];omega)];rfl
 have at2:atI (gs.map gD) k=some (.lst (.int x::r.map D.int)):=at';unfold q0D q2D;have c7:cell%7=0\/cell%7=1\/cell%7=2\/cell%7=3\/cell%7=4\/cell%7=5\/cell%7=6:=∅
 rcases c7 with z|z|z|z|z|z|z
 ·have d0:(cell%7==0)=true:=by rw[z];rfl
  have d1:(cell%7==1)=false:=by rw[z];rfl
  have d2:(cell%7==2)=false:=by rw[z];rfl
  have d3:(cell%7==3)=false:=by rw[z];rfl
  have d4:(cell%7==4)=false:=by rw[z];rfl
  have d5:(cell%7==5)=false:=by rw[z];rfl
  have d6:(cell%7==6)=false:=by rw[z];rfl
  simp_arith[mo,at2,q04,t1,t2,w1,w2,zA,d0,d1,d2,d3,d4,d5,d6,c1];refine⟨_,rfl,?_⟩
  by_cases q:r=[]
  ·subst q;exact bad _ qaq okn.1 okn.2
  ·exact mid [r] (λa ha=>by rw[zL.mp ha];exact q) (by simp)
 ·have d0:(cell%7==0)=false:=by rw[z];rfl
  have d1:(cell%7==1)=true:=by rw[z];rfl
  have d2:(cell%7==2)=false:=by rw[z];rfl
  have d3:(cell%7==3)=false:=by rw[z];rfl
  have d4:(cell%7==4)=false:=by rw[z];rfl
  have d5:(cell%7==5)=false:=by rw[z];rfl
  have d6:(cell%7==6)=false:=by rw[z];rfl
  simp_arith[mo,at2,q04,t1,t2,w1,w2,zA,d0,d1,d2,d3,d4,d5,d6,a0,w3];refine⟨_,rfl,?_⟩;have:=mid [x::(r++[x])] (λa ha=>by rw[zL.mp ha];simp) (by simp);rw[zT,yA,gD,zT,zW]at this;exact this
 ·have d0:(cell%7==0)=false:=by rw[z];rfl
  have d1:(cell%7==1)=false:=by rw[z];rfl
  have d2:(cell%7==2)=true:=by rw[z];rfl
  have d3:(cell%7==3)=false:=by rw[z];rfl
  have d4:(cell%7==4)=false:=by rw[z];rfl
  have d5:(cell%7==5)=false:=by rw[z];rfl
  have d6:(cell%7==6)=false:=by rw[z];rfl
  simp_arith[mo,at2,q04,t1,t2,w1,w2,zA,d0,d1,d2,d3,d4,d5,d6,qb6,w3];refine⟨_,rfl,?_⟩;have:=mid [x::(r++[place (cell/7)])] (λa ha=>by rw[zL.mp ha];simp) (by simp);rw[zT,yA,gD,zT,zW]at this;exact this
 ·have d0:(cell%7==0)=false:=by rw[z];rfl
  have d1:(cell%7==1)=false:=by rw[z];rfl
  have d2:(cell%7==2)=false:=by rw[z];rfl
  have d3:(cell%7==3)=true:=by rw[z];rfl
  have d4:(cell%7==4)=false:=by rw[z];rfl
  have d5:(cell%7==5)=false:=by rw[z];rfl
  have d6:(cell%7==6)=false:=by rw[z];rfl
  simp_arith[mo,at2,q04,t1,t2,w1,w2,zA,d0,d1,d2,d3,d4,d5,d6,eo,c1,w4];refine⟨_,rfl,?_⟩;refine bad _ (qi8 mo' ∅) (q0w λd hd=>?_) (qW 3 (by rw[zG,zA];omega) λd hd=>?_).1
  ·rcases zE.mp hd with rfl|hd
   ·exact(q4g mo').1.up (by decide)
   ·obtain⟨y,_,rfl⟩:=zN.mp hd;exact q0Y 2 y
  ·rcases zE.mp hd with rfl|hd
   ·exact(q7r mo').1
   ·obtain⟨y,_,rfl⟩:=zN.mp hd;rfl
 ·have d0:(cell%7==0)=false:=by rw[z];rfl
  have d1:(cell%7==1)=false:=by rw[z];rfl
  have d2:(cell%7==2)=false:=by rw[z];rfl
  have d3:(cell%7==3)=false:=by rw[z];rfl
  have d4:(cell%7==4)=true:=by rw[z];rfl
  have d5:(cell%7==5)=false:=by rw[z];rfl
  have d6:(cell%7==6)=false:=by rw[z];rfl
  simp_arith[mo,at2,q04,t1,t2,w1,w2,zA,d0,d1,d2,d3,d4,d5,d6,eo];refine⟨_,rfl,?_⟩;rcases qcj mo' with q|rfl|rfl|rfl
  ·exact bad _ (qcH q) ((q4g mo').1.up (by decide)) (q7r mo').2.1
  ·exact bad _ qaq okn.1 okn.2
  ·exact mid [[1]] (λa ha=>by rw[zL.mp ha];simp) (by simp)
  ·exact mid [[3,4]] (λa ha=>by rw[zL.mp ha];simp) (by simp)
 ·have d0:(cell%7==0)=false:=by rw[z];rfl
  have d1:(cell%7==1)=false:=by rw[z];rfl
  have d2:(cell%7==2)=false:=by rw[z];rfl
  have d3:(cell%7==3)=false:=by rw[z];rfl
  have d4:(cell%7==4)=false:=by rw[z];rfl
  have d5:(cell%7==5)=true:=by rw[z];rfl
  have d6:(cell%7==6)=false:=by rw[z];rfl
  simp_arith[mo,at2,q04,t1,t2,w1,w2,zA,d0,d1,d2,d3,d4,d5,d6,c1,c2,w5,w6];refine⟨_,rfl,?_⟩
  by_cases q:r=[]
  ·subst q
   have:=q8Y (P:=P) (kn:=kn) (pre:=pre++[[x]]) (b:=.lst []) (post:=post.map gD) (λa ha=>by
    rcases zP.mp ha with ha|ha
    ·exact hpre a ha
    ·rw[zL.mp ha];exact⟨ne _ mem2,inP _ mem2⟩) (by rw[yS,zC,yM,xR,zi];rw[zG]at fl ⊢;omega) qaq (λd hd=>by
    obtain⟨a,ha,rfl⟩:=zN.mp hd;exact⟨_,gpost a (zJ _ ha)⟩) (by rw[zC,zH,zA];omega) λd hd=>by
    rcases zE.mp hd with rfl|hd
    ·exact okn
    ·obtain⟨a,ha,rfl⟩:=zN.mp hd
     exact okp a (zJ _ ha)
   rw[zW,zY]at this;rw[zY];exact this
  ·exact mid [[x],r] (λa ha=>by
    simp only[zE,zI,or_false]at ha;rcases ha with rfl|rfl
    ·simp
    ·exact q) (by simp)
 ·have d0:(cell%7==0)=false:=by rw[z];rfl
  have d1:(cell%7==1)=false:=by rw[z];rfl
  have d2:(cell%7==2)=false:=by rw[z];rfl
  have d3:(cell%7==3)=false:=by rw[z];rfl
  have d4:(cell%7==4)=false:=by rw[z];rfl
  have d5:(cell%7==5)=false:=by rw[z];rfl
  have d6:(cell%7==6)=true:=by rw[z];rfl
  simp_arith[mo,at2,q04,t1,t2,w1,w2,zA,d0,d1,d2,d3,d4,d5,d6,t3,w7];refine⟨_,rfl,?_⟩;rw[zY];show Jd P kn (.lst (pre.map gD++.lst []::((x::r)::post).map gD));refine q8Y hpre ∅ qaq (λd hd=>?_) (by rw[zA,zG];omega) λd hd=>?_
  ·obtain⟨a,ha,rfl⟩:=zN.mp hd
   exact⟨_,gpost a ha⟩
  ·rcases zE.mp hd with rfl|hd
   ·exact okn
   ·obtain⟨a,ha,rfl⟩:=zN.mp hd
    exact okp a ha
def zAU(b:D):Prop:=zAB b=true\/∃a X,b=.tup [a,X]/\nsD a=true/\YW a=false
def Rw(P:List Int)(kn:List (Int×Int))(b:D):Prop:=okN 5 b/\okC 6 b=true/\(zAU b\/∃t X,b=.tup [.int t,X]/\Jd P kn X)
section
variable{P:List Int}{kn:List (Int×Int)}
theorem zA5{t:Int}{X:D}(j:Jd P kn X):Rw P kn (.tup [.int t,X]):=by
 refine⟨q1i λd hd=>?_,(qW 5 (by show 2<=1000;decide) λd hd=>?_).2,.inr ⟨t,X,rfl,j⟩⟩
 ·simp only[zE,zI,or_false]at hd
  rcases hd with rfl|rfl
  ·exact q0Y 4 t
  ·exact j.1
 ·simp only[zE,zI,or_false]at hd
  rcases hd with rfl|rfl
  ·rfl
  ·exact j.2.1
theorem rw_n{ds:List D}(hl:ds.length<=1000)(h:∀d∈ds,okN 4 d/\okC 5 d=true):(zAU (.tup ds)->Rw P kn (.tup ds))/\Rw P kn (.lst ds) :=
 ⟨λn=>⟨q1i λd hd=>(h d hd).1,(qW 5 hl λd hd=>(h d hd).2).2,.inl n⟩,q0w λd hd=>(h d hd).1,(qW 5 hl λd hd=>(h d hd).2).1,.inl (.inl rfl)⟩
theorem qfc(hP:P.Pairwise (· < ·))(hl:P.length<=60)(hp:P≠[])(hk:kn.length<=1000)(hkn:∀e∈kn,e.1∈P/\e.2∈P){rows:List (Int×List (List Int))}(hr:rows.length<=100)(hne:rows≠[])(L:∀r∈rows,Lev P kn r)(cell:Int):
  ∃pre r post b,rows=pre++r::post/\q0y [.lst (rows.map YB),.int cell]=some (.fr (pre.map YB++[b]++post.map YB))/\Rw P kn b:=by
 have lp:=xA.mpr hne;have len0:0<(rows.length:Int):=∅
 have mo:oMod (.int (cell/5)) (.int (rows.length:Int))=↥(.int (cell/5%(rows.length:Int))):=q03 len0;have o0:=yz (cell/5) (show (rows.length:Int)≠0 by omega);have o1:=yt (cell/5) len0;generalize cell/5%(rows.length:Int)=k at mo o0 o1;have hi:k.toNat<rows.length:=∅
 have at':atI (rows.map YB) k=some (YB rows[k.toNat]):=by
  rw[q1B o0 (by rw[zA];omega)];simp only[xb]
 have sp:rows=rows.take k.toNat++rows[k.toNat]::rows.drop (k.toNat+1):=by rw[<- yb hi,xj]
 have t1:cutD (rows.map YB) none (some k)=(rows.take k.toNat).map YB:=by rw[q6o o0,wX]
 have t2:cutD (rows.map YB) (some (k+1)) none=(rows.drop (k.toNat+1)).map YB:=by rw[q5j ∅,xu,show (k+1).toNat=k.toNat+1 by omega]
 have pl:(rows.take k.toNat).length<=100:=by rw[zy];omega
 have ql:(rows.drop (k.toNat+1)).length<=100:=by rw[yZ];omega
 generalize rows.take k.toNat=pre at sp t1 pl;generalize rows.drop (k.toNat+1)=post at sp t2 ql;generalize rows[k.toNat]=r at sp at';obtain⟨t,gs⟩:=r;have Lr:Lev P kn (t,gs):=L _ (by rw[sp];exact zU _ zK);have at2:atI (rows.map YB) k=some (.tup [.int t,.lst (gs.map gD)]):=at';have gne:gs≠[]:=λe=>hp (by
  have:=Lr.pm.length_eq;simp only[e,xR,zq]at this;exact xz.mp this.symm)
 have gfl:gs.flatten.length<64:=by have:=Lr.pm.length_eq;simp only at this;omega
 have jg:Jd P kn (.lst (gs.map gD)):=qcF hP ∅ hk hkn Lr.ne gfl;have jt:Jd P kn (.tup (gs.map gD)):=by
  refine qfE rfl ((q1i λd hd=>?_:okN 2 _).up (by decide)) (qW 4 ?_ λd hd=>?_).2
  ·obtain⟨g,_,rfl⟩:=zN.mp hd;exact q7z g
  ·have:=q0E Lr.ne;rw[zA];simp only at this;omega
  ·obtain⟨g,hg,rfl⟩:=zN.mp hd
   exact(q3Q 2 (by have:=q0o hg;omega)).1
 have ji:∀x:Int,okN 4 (.int x)/\okC 5 (.int x)=true:=λx=>⟨q0Y 4 x,rfl⟩;have jgo:okN 4 (.lst (gs.map gD))/\okC 5 (.lst (gs.map gD))=true:=⟨jg.1,jg.2.1⟩;obtain⟨bp,eb,jb⟩:=qf0 hP hl hk hkn Lr gne (cell/30);obtain⟨od,eo,ho⟩:=q9f (cell/30);obtain⟨od6,eo6,ho6⟩:=q9f (cell/60);have oko:∀{d:D},d∈WN->okN 4 d/\okC 5 d=true:=λh=>⟨(q4g h).1.up (by decide),(q7r h).2.2.1⟩;have jo:Jd P kn od6:=by
  have one:∀(x:Int)(post:List D),(∀d∈post,zAY d=true/\okN 3 d/\okC 4 d=true)->post.length<=10->Jd P kn (.lst (.int x::post)):=λx post h1 h2=>q8Y (pre:=[]) (λa ha=>by cases ha) (by decide) (qcH rfl) (λd hd=>⟨_,(qcH (P:=P) (h1 d hd).1).1⟩) (by rw[zq];omega) λd hd=>by
   rcases zE.mp hd with rfl|hd
   ·exact⟨q0Y 3 x,rfl⟩
   ·exact(h1 d hd).2
  rcases qcj ho6 with q|rfl|rfl|rfl
  ·exact qfE q (oko ho6).1 (oko ho6).2
  ·exact qcF hP ∅ hk hkn (gs:=[]) (λa ha=>by cases ha) (by decide)
  ·exact one 1 [] (λd hd=>by cases hd) (by decide)
  ·exact one 3 [.int 4] (λd hd=>by rw[zL.mp hd];exact⟨rfl,q0Y 3 4,rfl⟩) (by show 1<=10;decide)
 have w1:∀b:D,YL (.lst (pre.map YB)) (.lst [b])=some (.fr (pre.map YB++[b])):=λb=>qX (by rw[zA,zH];omega);have w2:∀b:D,YL (.lst (pre.map YB++[b])) (.lst (post.map YB))=some (.fr (pre.map YB++[b]++post.map YB)):=λb=>qX (by rw[zC,zA,zH,zA];omega);have p39:zAk (.int 10) (.int 39)=↥(.int (10^39)):=rfl;obtain⟨dm,hd,m,rfl,hm⟩:=q1k (ds:=[.int 20,.int 2000,.int (10^39)]) (i:=cell/10%3) (λd=>∃m:Int,d=.int m/\0<m) ∅ (show cell/10%3<((3:Nat):Int) by omega) (by
  intro d hd;simp only[zE,zI,or_false]at hd;rcases hd with rfl|rfl|rfl
  ·exact⟨20,rfl,by decide⟩
  ·exact⟨2000,rfl,by decide⟩
  ·exact⟨10^39,rfl,by decide⟩)
 have om:oMod (.int (cell/30)) (.int m)=↥(.int (cell/30%m)):=q03 hm;simp only[yo]at p39 hd;have bt:Y2 [.lst (gs.map gD)]=↥(.tup (gs.map gD)):=rfl;have two:∀{a b:D},(okN 4 a/\okC 5 a=true)->(okN 4 b/\okC 5 b=true)->∀d∈[a,b],okN 4 d/\okC 5 d=true:=λha hb d hd=>by
  simp only[zE,zI,or_false]at hd;rcases hd with rfl|rfl
  ·exact ha
  ·exact hb
 obtain⟨s6,e6,r6⟩:=q1k (ds:=[D.tup [.int t,.lst (gs.map gD),.int 0],.lst [.int t,.lst (gs.map gD)],.tup [.int t],.tup [.int (0-t),.lst (gs.map gD)],.tup [.int 0,.lst (gs.map gD)],.tup [.int t,.tup (gs.map gD)]]) (i:=cell/30%6) (Rw P kn) ∅ (show cell/30%6<((6:Nat):Int) by omega) (by
  intro d hd;simp only[zE,zI,or_false]at hd;rcases hd with rfl|rfl|rfl|rfl|rfl|rfl
  ·exact(rw_n (by show 3<=1000;decide) λd hd=>by
    simp only[zE,zI,or_false]at hd;rcases hd with rfl|rfl|rfl
    ·exact ji t
    ·exact jgo
    ·exact ji 0).1 (.inl rfl)
  ·exact(rw_n (by show 2<=1000;decide) (two (ji t) jgo)).2
  ·exact(rw_n (by show 1<=1000;decide) λd hd=>by rw[zL.mp hd];exact ji t).1 (.inl rfl)
  ·exact zA5 jg
  ·exact zA5 jg
  ·exact zA5 jt)
 obtain⟨s2,e2,r2⟩:=q1k (ds:=[D.tup [.int t,od6],od6]) (i:=cell/30%2) (Rw P kn) ∅ (show cell/30%2<((2:Nat):Int) by omega) (by
  intro d hd;simp only[zE,zI,or_false]at hd;rcases hd with rfl|rfl
  ·exact zA5 jo
  ·exact⟨(q4g ho6).1.up (by decide),(q7r ho6).2.2.2,.inl (.inl (q4g ho6).2.2.2.2)⟩)
 unfold q0y q1J;have c5:cell%5=0\/cell%5=1\/cell%5=2\/cell%5=3\/cell%5=4:=∅
 rcases c5 with z|z|z|z|z
 ·have d0:(cell%5==0)=true:=by rw[z];rfl
  have d1:(cell%5==1)=false:=by rw[z];rfl
  have d2:(cell%5==2)=false:=by rw[z];rfl
  have d3:(cell%5==3)=false:=by rw[z];rfl
  have d4:(cell%5==4)=false:=by rw[z];rfl
  simp_arith[mo,at2,q04,t1,t2,w1,w2,zA,eb,d0,d1,d2,d3,d4,eo];exact⟨pre,(t,gs),post,_,sp,rfl,(rw_n (by show 2<=1000;decide) (two (oko ho) jgo)).1 (.inr ⟨_,_,rfl,(q4g ho).2.2.1,(q4g ho).2.2.2.1⟩)⟩
 ·have d0:(cell%5==0)=false:=by rw[z];rfl
  have d1:(cell%5==1)=true:=by rw[z];rfl
  have d2:(cell%5==2)=false:=by rw[z];rfl
  have d3:(cell%5==3)=false:=by rw[z];rfl
  have d4:(cell%5==4)=false:=by rw[z];rfl
  simp_arith[mo,at2,q04,t1,t2,w1,w2,zA,eb,d0,d1,d2,d3,d4,p39,hd,om];exact⟨pre,(t,gs),post,_,sp,rfl,zA5 jg⟩
 ·have d0:(cell%5==0)=false:=by rw[z];rfl
  have d1:(cell%5==1)=false:=by rw[z];rfl
  have d2:(cell%5==2)=true:=by rw[z];rfl
  have d3:(cell%5==3)=false:=by rw[z];rfl
  have d4:(cell%5==4)=false:=by rw[z];rfl
  simp_arith[mo,at2,q04,t1,t2,w1,w2,zA,eb,d0,d1,d2,d3,d4,bt,e6];exact⟨pre,(t,gs),post,_,sp,rfl,r6⟩
 ·have d0:(cell%5==0)=false:=by rw[z];rfl
  have d1:(cell%5==1)=false:=by rw[z];rfl
  have d2:(cell%5==2)=false:=by rw[z];rfl
  have d3:(cell%5==3)=true:=by rw[z];rfl
  have d4:(cell%5==4)=false:=by rw[z];rfl
  simp_arith[mo,at2,q04,t1,t2,w1,w2,zA,eb,d0,d1,d2,d3,d4,eo6,e2];exact⟨pre,(t,gs),post,_,sp,rfl,r2⟩
 ·have d0:(cell%5==0)=false:=by rw[z];rfl
  have d1:(cell%5==1)=false:=by rw[z];rfl
  have d2:(cell%5==2)=false:=by rw[z];rfl
  have d3:(cell%5==3)=false:=by rw[z];rfl
  have d4:(cell%5==4)=true:=by rw[z];rfl
  simp_arith[mo,at2,q04,t1,t2,w1,w2,zA,eb,d0,d1,d2,d3,d4];exact⟨pre,(t,gs),post,_,sp,rfl,zA5 jb⟩
end
theorem q7x:∀{rows:List (Int×List (List Int))}{a:Int},((a::rows.map (·.1)).zip (rows.map (·.1))).all (λp=>decide (p.1<p.2))=true↔XY a rows
 | [],a=>⟨λ_=>trivial,λ_=>rfl⟩
 | r::rs,a=>by
  show (decide (a<r.1)&&((r.1::rs.map (·.1)).zip (rs.map (·.1))).all (λp=>decide (p.1<p.2)))=true↔a<r.1/\XY r.1 rs;rw[zV,decide_eq_true_eq,q7x]
theorem qet{rows:List (Int×List (List Int))}(hl:rows.length<=1000):q0g [.lst (rows.map λr=>D.int r.1)]=↥(.bl (((0::rows.map (·.1)).zip (rows.map (·.1))).all (λp=>decide (p.1<p.2)))):=by
 unfold q0g q1I;have e0:(rows.map λr=>D.int r.1)=(rows.map (·.1)).map D.int:=by rw[xC];rfl
 have ad:YL (.lst [.int 0]) (.lst ((rows.map (·.1)).map D.int))=some (.fr ((0::rows.map (·.1)).map D.int)):=qX (by rw[zA,zA,zH];omega);have hl2:(((0::rows.map (·.1)).zip (rows.map (·.1))).map Z5).length<=1000000:=by rw[zA,ZA,zA];omega
 have cm:=q3e (g:=gT 2 (YD (gN 0) (YD (gN 1) Ym))) (c:=YX) (f:=q0O) (λw=>∃a b,w=[a,b]) (λ_=>true) Z5 (λp=>D.bl (decide (p.1<p.2))) ((0::rows.map (·.1)).zip (rows.map (·.1))) (ω:=[none,none]) ⟨_,_,rfl⟩ (λp _ w ⟨a,b,hw⟩=>by
  subst hw;refine⟨[↥(.int p.1),↥(.int p.2)],rfl,⟨_,_,rfl⟩,rfl,λ_=>?_⟩;unfold q0O;simp_arith[qD])
 rw[xa.mpr (λ_ _=>rfl)]at cm;rw[e0];have tz:Xl (.int 0::(rows.map (·.1)).map D.int) ((rows.map (·.1)).map D.int)=(((0:Int)::rows.map (·.1)).zip (rows.map (·.1))).map Z5:=q9u (0::Ze Prod.fst rows) (Ze Prod.fst rows);simp_arith[ad,tz,Yd hl2,inW,Yn,cm,XB,q3B]
section
variable{h l:Int}{bs:List (Int×Int)}
theorem qdG(hb:bs.length<=30){ds:List D}{f:D->Bool}(hl:ds.length<=1000)(hf:∀d∈ds,qF [d,.lst ((Pz h l bs).map D.int),.lst ((Kn h l bs).map Z5),.lst ((Z4 (Pz h l bs)).map edD)]=↥(.bl (f d))):
  (ds.all f=false->qM [.int h,.int l,.lst (bs.map Z5),.lst ds]=↥(.bl false))/\(∀rows:List (Int×List (List Int)),ds=rows.map YB->ds.all f=true->qM [.int h,.int l,.lst (bs.map Z5),.lst ds]=↥(.bl (((0::rows.map (·.1)).zip (rows.map (·.1))).all (λp=>decide (p.1<p.2))))):=by
 have s:=q5m (h:=h) (l:=l) hb;have k:=q6q (h:=h) (l:=l) hb;rw[show YK (plc h l bs)=Pz h l bs from rfl]at s k;rw[show (bs++[(h,l)]++(Z4 (Pz h l bs)).filter λq=>!(YV h l bs q==0))=Kn h l bs from rfl]at k;have ed:=qbf (h:=h) (l:=l) hb;have kl:ds.length<=1000000:=∅
 have c1:=qN (i:=0) (f:=q1z) (λd:D=>d) (λd=>D.bl (f d)) ds (ω:=[none,↥(.lst ((Pz h l bs).map D.int)),↥(.lst ((Kn h l bs).map Z5)),↥(.lst ((Z4 (Pz h l bs)).map edD))]) (λd hd=>by
  have il:=hf d hd;unfold q1z;simp_arith[il])
 rw[xf]at c1;refine⟨λa=>?_,λrows er a=>?_⟩
 ·unfold qM q1g
  simp_arith[s,k,ed,Yd kl,inW,Yn,c1,XB,q3B,a]
 ·have c2:=qN (i:=0) (f:=q1y) YB (λr=>D.int r.1) rows (ω:=[none]) (λr hr=>by
   unfold q1y YB;simp_arith[qD])
  rw[<- er]at c2;have rl:rows.length<=1000:=by rw[er,zA]at hl;exact hl
  have rg:=qet rl;unfold qM q1g;simp_arith[s,k,ed,Yd kl,inW,Yn,c1,c2,XB,q3B,a,rg]
theorem qcK(hb:bs.length<=30){R X:D}{t a:Int}{v:Bool}(hv:qJ [.lst ((Pz h l bs).map D.int),.lst ((Kn h l bs++(Z4 (Pz h l bs)).filter λq=>decide (q.2-q.1<t)).map Z5),X]=↥(.bl v))(x7 x8:Option W):
  (a<t->v=true->∃y7 y8,qk [↥(.int h),↥(.int l),↥(.lst (bs.map Z5)),↥R,↥(.lst ((Pz h l bs).map D.int)),↥(.int a),↥(.tup [.int t,X]),x7,x8]=some (.nx,[↥(.int h),↥(.int l),↥(.lst (bs.map Z5)),↥R,↥(.lst ((Pz h l bs).map D.int)),↥(.int t),↥(.tup [.int t,X]),y7,y8]))/\((¬a<t\/v=false)->∃w,qk [↥(.int h),↥(.int l),↥(.lst (bs.map Z5)),↥R,↥(.lst ((Pz h l bs).map D.int)),↥(.int a),↥(.tup [.int t,X]),x7,x8]=some (.rt (.sh (.bl false)),w)):=by
 have k:=q6q (h:=h) (l:=l) hb;have g:=q3W (h:=h) (l:=l) hb;rw[show YK (plc h l bs)=Pz h l bs from rfl]at k g;rw[show (bs++[(h,l)]++(Z4 (Pz h l bs)).filter λq=>!(YV h l bs q==0))=Kn h l bs from rfl]at k;have plen:=q3M (h:=h) (l:=l) hb;have glen:(Z4 (Pz h l bs)).length<=64:=by rw[q17];omega
 have hl2:((Z4 (Pz h l bs)).map Z5).length<=1000000:=by rw[zA];omega
 have cm:=q1r (i:=0) (c:=q1U) (f:=q1Q) (λq=>decide (q.2-q.1<t)) Z5 Z5 (Z4 (Pz h l bs)) (ω:=[none,↥(.int t)]) (λq hq=>by
  obtain⟨a,b⟩:=q;unfold q1U q1Q Z5;simp_arith[qD];exact⟨trivial,λ_=>trivial⟩)
 have sl:((Z4 (Pz h l bs)).filter λq=>decide (q.2-q.1<t)).length<=64:=zm (yK _ _) glen;have knl:=q7h (h:=h) (l:=l) hb;have ad1:YL (.lst ((Kn h l bs).map Z5)) (.lst (((Z4 (Pz h l bs)).filter λq=>decide (q.2-q.1<t)).map Z5))=some (.fr ((Kn h l bs++(Z4 (Pz h l bs)).filter λq=>decide (q.2-q.1<t)).map Z5)):=by
  rw[qX (by rw[zA,zA];omega),zW]
 generalize ((Z4 (Pz h l bs)).filter λq=>decide (q.2-q.1<t))=sh at cm sl ad1 hv;have l2:(((2:Nat):Int)==2)=true:=rfl;refine⟨λh1 h2=>?_,λh1=>?_⟩
 ·subst h2
  have le:decide (t<=a)=false:=vT ∅;unfold qk;simp_arith[l2,q5z,le,g,Yd hl2,inW,Yn,cm,k,ad1,hv];exact⟨_,_,rfl⟩
 ·by_cases z:a<t
  ·have v0:v=false:=h1.resolve_left λy=>y z
   subst v0;have le:decide (t<=a)=false:=vT ∅;unfold qk;simp_arith[l2,q5z,le,g,Yd hl2,inW,Yn,cm,k,ad1,hv];exact⟨_,rfl⟩
  ·have le:decide (t<=a)=true:=vP ∅
   unfold qk;simp_arith[l2,q5z,le];exact⟨_,rfl⟩
theorem qi3{R b:D}{a:Int}(n:zAU b)(x7 x8:Option W):∃w,qk [↥(.int h),↥(.int l),↥(.lst (bs.map Z5)),↥R,↥(.lst ((Pz h l bs).map D.int)),↥(.int a),↥b,x7,x8]=some (.rt (.sh (.bl false)),w):=by
 rcases n with n|⟨c,X,rfl,h1,h2⟩
 ·unfold qk
  match b,n with
  | .non,_=>simp_arith[qD];exact⟨_,rfl⟩
  | .bl _,_=>simp_arith[qD];exact⟨_,rfl⟩
  | .int _,_=>simp_arith[qD];exact⟨_,rfl⟩
  | .str _,_=>simp_arith[qD];exact⟨_,rfl⟩
  | .lst _,_=>simp_arith[qD];exact⟨_,rfl⟩
  | .tup [],_=>
   have l2:(((0:Nat):Int)==2)=false:=rfl;simp_arith[l2];exact⟨_,rfl⟩
  | .tup [_],_=>
   have l2:(((0+1:Nat):Int)==2)=false:=rfl;simp_arith[qD];simp_arith[l2];exact⟨_,rfl⟩
  | .tup (a::b::d::r),_=>
   have l2:(((a::b::d::r).length:Int)==2)=false:=by
    simp only[zG,beq_eq_false_iff_ne,ne_eq];omega
   simp only[zG]at l2;simp_arith[l2];exact⟨_,rfl⟩
 ·have l2:(((2:Nat):Int)==2)=true:=rfl
  have lw:=qa2 h1;rw[h2]at lw;unfold qk;simp_arith[l2,lw];exact⟨_,rfl⟩
theorem il_n{b P K E:D}(n:zAU b):qF [b,P,K,E]=↥(.bl false):=by
 rcases n with n|⟨c,X,rfl,h1,h2⟩
 ·unfold qF q1s
  match b,n with
  | .non,_=>simp_arith[qD]
  | .bl _,_=>simp_arith[qD]
  | .int _,_=>simp_arith[qD]
  | .str _,_=>simp_arith[qD]
  | .lst _,_=>simp_arith[qD]
  | .tup [],_=>
   have l2:(((0:Nat):Int)==2)=false:=rfl;simp_arith[l2]
  | .tup [_],_=>
   have l2:(((0+1:Nat):Int)==2)=false:=rfl;simp_arith[qD];simp_arith[l2]
  | .tup (a::b::d::r),_=>
   have l2:(((a::b::d::r).length:Int)==2)=false:=by
    simp only[zG,beq_eq_false_iff_ne,ne_eq];omega
   simp only[zG]at l2;simp_arith[l2]
 ·have l2:(((2:Nat):Int)==2)=true:=rfl
  have lw:=q1L h1;rw[h2]at lw;unfold qF q1s;simp_arith[l2,lw]
end
section
variable{h l:Int}{bs:List (Int×Int)}
theorem q7H(hb:bs.length<=30){r:Int×List (List Int)}(L:Lev (Pz h l bs) (Kn h l bs) r):qF [YB r,.lst ((Pz h l bs).map D.int),.lst ((Kn h l bs).map Z5),.lst ((Z4 (Pz h l bs)).map edD)]=↥(.bl true)/\qJ [.lst ((Pz h l bs).map D.int),.lst ((Kn h l bs++(Z4 (Pz h l bs)).filter λq=>decide (q.2-q.1<r.1)).map Z5),.lst (r.2.map gD)]=↥(.bl true):=by
 have fl:r.2.flatten.length<64:=by rw[L.pm.length_eq];exact q3M hb
 obtain⟨v,e1,e2,e3⟩:=q9J (q6e h l bs) (q3M hb) (q7h hb) (λe he=>qcR he) L.ne fl r.1;have:v=true:=e3.mpr L;rw[this]at e1 e2;exact⟨e1,e2⟩
theorem qb0(hb:bs.length<=30){R:D}(ds:List D):∀(rows:List (Int×List (List Int)))(a:Int)(x6 x7 x8:Option W),(∀r∈rows,Lev (Pz h l bs) (Kn h l bs) r)->XY a rows ->
  ∃a' y6 y7 y8,Yr (gN 6) qk (rows.map YB++ds) [↥(.int h),↥(.int l),↥(.lst (bs.map Z5)),↥R,↥(.lst ((Pz h l bs).map D.int)),↥(.int a),x6,x7,x8]=Yr (gN 6) qk ds [↥(.int h),↥(.int l),↥(.lst (bs.map Z5)),↥R,↥(.lst ((Pz h l bs).map D.int)),↥(.int a'),y6,y7,y8]
 | [],a,x6,x7,x8,_,_=>⟨a,x6,x7,x8,rfl⟩
 | r::rs,a,x6,x7,x8,L,hr=>by
  obtain⟨y7,y8,e⟩:=(qcK (R:=R) (a:=a) hb (q7H hb (L r zK)).2 x7 x8).1 hr.1 rfl;obtain⟨a',z6,z7,z8,ih⟩:=qb0 (R:=R) hb ds rs r.1 ↥(YB r) y7 y8 (λr hr=>L r (zJ _ hr)) hr.2;refine⟨a',z6,z7,z8,?_⟩;rw[zT,yH,Yr];show ZH (some [↥(.int h),↥(.int l),↥(.lst (bs.map Z5)),↥R,↥(.lst ((Pz h l bs).map D.int)),↥(.int a),↥(.tup [.int r.1,.lst (r.2.map gD)]),x7,x8]) _=_;rw[zZ,e];exact ih
theorem qa5(hb:bs.length<=30){R:D}:∀(rows:List (Int×List (List Int)))(a:Int)(x6 x7 x8:Option W),(∀r∈rows,Lev (Pz h l bs) (Kn h l bs) r) ->
  (XY a rows->∃w,Yr (gN 6) qk (rows.map YB) [↥(.int h),↥(.int l),↥(.lst (bs.map Z5)),↥R,↥(.lst ((Pz h l bs).map D.int)),↥(.int a),x6,x7,x8]=some (.nx,w))/\(¬XY a rows->∃w,Yr (gN 6) qk (rows.map YB) [↥(.int h),↥(.int l),↥(.lst (bs.map Z5)),↥R,↥(.lst ((Pz h l bs).map D.int)),↥(.int a),x6,x7,x8]=some (.rt (.sh (.bl false)),w))
 | [],a,x6,x7,x8,_=>⟨λ_=>⟨_,rfl⟩,λn=>vK trivial n⟩
 | r::rs,a,x6,x7,x8,L=>by
  have st:=qcK (R:=R) (a:=a) hb (q7H hb (L r zK)).2 x7 x8;rw[zT,Yr]
  by_cases z:a<r.1
  ·obtain⟨y7,y8,e⟩:=st.1 z rfl
   have ih:=qa5 (R:=R) hb rs r.1 ↥(YB r) y7 y8 λr hr=>L r (zJ _ hr);have eq:((gN 6 (YB r) [↥(.int h),↥(.int l),↥(.lst (bs.map Z5)),↥R,↥(.lst ((Pz h l bs).map D.int)),↥(.int a),x6,x7,x8]).bind λω'=>(qk ω').bind λp=>match p.1 with
     | .nx=>Yr (gN 6) qk (rs.map YB) p.2
     | .ct=>Yr (gN 6) qk (rs.map YB) p.2
     | .bk=>some (.nx,p.2)
     | .rt r=>some (.rt r,p.2))=Yr (gN 6) qk (rs.map YB) [↥(.int h),↥(.int l),↥(.lst (bs.map Z5)),↥R,↥(.lst ((Pz h l bs).map D.int)),↥(.int r.1),↥(YB r),y7,y8]:=by
    show ZH (some [↥(.int h),↥(.int l),↥(.lst (bs.map Z5)),↥R,↥(.lst ((Pz h l bs).map D.int)),↥(.int a),↥(.tup [.int r.1,.lst (r.2.map gD)]),x7,x8]) _=_;rw[zZ,e];rfl
   exact⟨λhr=>by obtain⟨w,ih⟩:=ih.1 hr.2;exact⟨w,eq.trans ih⟩,λn=>by obtain⟨w,ih⟩:=ih.2 λy=>n ⟨z,y⟩;exact⟨w,eq.trans ih⟩⟩
  ·obtain⟨w,e⟩:=st.2 (.inl z)
   refine⟨λhr=>vK hr.1 z,λ_=>⟨w,?_⟩⟩;show ZH (some [↥(.int h),↥(.int l),↥(.lst (bs.map Z5)),↥R,↥(.lst ((Pz h l bs).map D.int)),↥(.int a),↥(.tup [.int r.1,.lst (r.2.map gD)]),x7,x8]) _=_;rw[zZ,e];rfl
theorem q9t(hb:bs.length<=30){ds:List D}:(∀w,Yr (gN 6) qk ds [↥(.int h),↥(.int l),↥(.lst (bs.map Z5)),↥(.lst ds),↥(.lst ((Pz h l bs).map D.int)),↥(.int 0),none,none,none]=some (.nx,w)->qS [.int h,.int l,.lst (bs.map Z5),.lst ds]=↥(.bl true))/\(∀w,Yr (gN 6) qk ds [↥(.int h),↥(.int l),↥(.lst (bs.map Z5)),↥(.lst ds),↥(.lst ((Pz h l bs).map D.int)),↥(.int 0),none,none,none]=some (.rt (.sh (.bl false)),w)->qS [.int h,.int l,.lst (bs.map Z5),.lst ds]=↥(.bl false)):=by
 have s:=q5m (h:=h) (l:=l) hb;rw[show YK (plc h l bs)=Pz h l bs from rfl]at s
 constructor
 ·intro w e
  unfold qS q1a;simp_arith[s,e]
 ·intro w e
  unfold qS q1a;simp_arith[s,e]
theorem qfU(hb:bs.length<=30){rows:List (Int×List (List Int))}(hr:rows.length<=1000)(L:∀r∈rows,Lev (Pz h l bs) (Kn h l bs) r):∃v:Bool,qM [.int h,.int l,.lst (bs.map Z5),.lst (rows.map YB)]=↥(.bl v)/\qS [.int h,.int l,.lst (bs.map Z5),.lst (rows.map YB)]=↥(.bl v)/\(v=true->XY 0 rows):=by
 have a1:=(qdG (h:=h) (l:=l) hb (ds:=rows.map YB) (f:=λ_=>true) (by rw[zA];exact hr) (λd hd=>by
  obtain⟨r,hr,rfl⟩:=zN.mp hd;exact(q7H hb (L r hr)).1)).2 rows rfl (yG.mpr λ_ _=>rfl)
 have lp:=qa5 hb (R:=.lst (rows.map YB)) rows 0 none none none L;refine⟨_,a1,?_,q7x.mp⟩;cases z:((0::rows.map (·.1)).zip (rows.map (·.1))).all (λp=>decide (p.1<p.2))with
 | true=>
  obtain⟨w,e⟩:=lp.1 (q7x.mp z);exact(q9t hb).1 w e
 | false=>
  obtain⟨w,e⟩:=lp.2 λy=>by rw[q7x.mpr y]at z;cases z
  exact(q9t hb).2 w e
theorem qbX:∀{pre post:List (Int×List (List Int))}{a:Int},XY a (pre++post)->XY a pre
 | [],_,_,_=>trivial
 | _::_,_,_,h=>⟨h.1,qbX h.2⟩
theorem qfm(hb:bs.length<=30){pre post:List (Int×List (List Int))}{r:Int×List (List Int)}{b:D}(hr:pre.length+post.length<=900)(ris:XY 0 (pre++r::post))(L:∀x∈pre++r::post,Lev (Pz h l bs) (Kn h l bs) x)(B:Rw (Pz h l bs) (Kn h l bs) b):
  ∃v:Bool,qM [.int h,.int l,.lst (bs.map Z5),.lst (pre.map YB++[b]++post.map YB)]=↥(.bl v)/\qS [.int h,.int l,.lst (bs.map Z5),.lst (pre.map YB++[b]++post.map YB)]=↥(.bl v)/\(v=true->∃rows:List (Int×List (List Int)),pre.map YB++[b]++post.map YB=rows.map YB/\rows.length<=1000/\XY 0 rows/\∀r∈rows,Lev (Pz h l bs) (Kn h l bs) r):=by
 have L1:∀x∈pre,Lev (Pz h l bs) (Kn h l bs) x:=λx hx=>L x (zb _ hx);have L2:∀x∈post,Lev (Pz h l bs) (Kn h l bs) x:=λx hx=>L x (zU _ (zJ _ hx));have key:(∃t gs,b=YB (t,gs)/\Lev (Pz h l bs) (Kn h l bs) (t,gs))\/(qF [b,.lst ((Pz h l bs).map D.int),.lst ((Kn h l bs).map Z5),.lst ((Z4 (Pz h l bs)).map edD)]=↥(.bl false)/\∀(R:D)(a:Int)(x7 x8:Option W),∃w,qk [↥(.int h),↥(.int l),↥(.lst (bs.map Z5)),↥R,↥(.lst ((Pz h l bs).map D.int)),↥(.int a),↥b,x7,x8]=some (.rt (.sh (.bl false)),w)):=by
  rcases B.2.2 with n|⟨t,X,rfl,j⟩
  ·exact .inr ⟨il_n n,λR a x7 x8=>qi3 n x7 x8⟩
  ·obtain⟨v,e1,e2,e3⟩:=j.2.2 t
   cases v with
   | true=>
    obtain⟨gs,rfl,Lt⟩:=e3 rfl;exact .inl ⟨t,gs,rfl,Lt⟩
   | false=>exact .inr ⟨e1,λR a x7 x8=>(qcK hb e2 x7 x8).2 (.inr rfl)⟩
 rcases key with⟨t,gs,rfl,Lt⟩|⟨e1,e2⟩
 ·have er:pre.map YB++[YB (t,gs)]++post.map YB=(pre++(t,gs)::post).map YB:=by
   rw[zW,zT,zY];rfl
  have rl:(pre++(t,gs)::post).length<=1000:=by rw[zC,zG];omega
  have La:∀x∈pre++(t,gs)::post,Lev (Pz h l bs) (Kn h l bs) x:=λx hx=>by
   rcases zP.mp hx with hx|hx
   ·exact L1 x hx
   ·rcases zE.mp hx with rfl|hx
    ·exact Lt
    ·exact L2 x hx
  obtain⟨v,a1,a2,a3⟩:=qfU hb rl La;rw[er];exact⟨v,a1,a2,λe=>⟨_,rfl,rl,a3 e,La⟩⟩
 ·refine⟨false,?_,?_,λe=>by cases e⟩
  ·let wv:D->Bool:=λd=>match qF [d,.lst ((Pz h l bs).map D.int),.lst ((Kn h l bs).map Z5),.lst ((Z4 (Pz h l bs)).map edD)]with|↥(.bl u)=>u|_=>false
   have wof:∀{d:D}{u:Bool},qF [d,.lst ((Pz h l bs).map D.int),.lst ((Kn h l bs).map Z5),.lst ((Z4 (Pz h l bs)).map edD)]=↥(.bl u)->wv d=u:=λ{d u} e=>by
    show (match qF [d,.lst ((Pz h l bs).map D.int),.lst ((Kn h l bs).map Z5),.lst ((Z4 (Pz h l bs)).map edD)]with|↥(.bl u)=>u|_=>false)=u;rw[e]
   refine(qdG hb (f:=wv) (by rw[zC,zC,zA,zA,zH];omega) λd hd=>?_).1 ?_
   ·have lv:∀x,Lev (Pz h l bs) (Kn h l bs) x->qF [YB x,.lst ((Pz h l bs).map D.int),.lst ((Kn h l bs).map Z5),.lst ((Z4 (Pz h l bs)).map edD)]=↥(.bl (wv (YB x))):=λx Lx=>by
     have:=(q7H hb Lx).1;rw[wof this];exact this
    rcases zP.mp hd with hd|hd
    ·rcases zP.mp hd with hd|hd
     ·obtain⟨x,hx,rfl⟩:=zN.mp hd;exact lv x (L1 x hx)
     ·rw[zL.mp hd,wof e1];exact e1
    ·obtain⟨x,hx,rfl⟩:=zN.mp hd;exact lv x (L2 x hx)
   ·rw[xv,xv,yh,wof e1,yF,yI,yF]
  ·obtain⟨a',y6,y7,y8,e⟩:=qb0 hb (R:=.lst (pre.map YB++[b]++post.map YB)) ([b]++post.map YB) pre 0 none none none L1 (qbX ris)
   obtain⟨w,e3⟩:=e2 (.lst (pre.map YB++[b]++post.map YB)) a' y7 y8;have f:=q8l (g:=gN 6) (d:=b) (ds:=post.map YB) (ω:=[↥(.int h),↥(.int l),↥(.lst (bs.map Z5)),↥(.lst (pre.map YB++[b]++post.map YB)),↥(.lst ((Pz h l bs).map D.int)),↥(.int a'),y6,y7,y8]) rfl e3;refine(q9t hb).2 w ?_;rw[<- zY]at e;exact e.trans f
end
theorem q9S:∀{P:List Int},P.Pairwise (· < ·)->(Z4 P).Pairwise λa b=>a.1<b.1
 | [],_=>xW
 | [_],_=>xW
 | x::y::P,h=>by
  show ((x,y)::Z4 (y::P)).Pairwise λa b=>a.1<b.1;have h':=zg.mp h;exact zg.mpr ⟨λg hg=>h'.1 _ (q7q hg).1,q9S h'.2⟩
theorem qdN{ds:List D}(h:shp (.lst ds)=true):oEq true (.lst ds) (.lst [])=↥(.bl (!ds.isEmpty)):=by
 show (if (shp (.lst ds)&&shp (.lst []))=true then some (R.sh (.bl (!PyData.eqv (D.lst ds).py (D.lst []).py)))else none)=_;rw[h,show shp (.lst [])=true from q19 [],vM (show (true&&true)=true from rfl)];cases ds with
 | nil=>rfl
 | cons x ds=>
  show some (R.sh (.bl (!PyData.eqvAll (D.pys (x::ds)) (D.pys []))))=_;rw[q3P _ _ (by simp)];rfl
theorem qew(ns:List Int)(hl:ns.length<=63):q7F [.scr ns]=↥(.bl true):=by
 obtain⟨h,l,bs,e1,hb⟩:=errand (ns:=ns) (most:=10) (by decide) (by decide);have hb':bs.length<=30:=∅
 obtain⟨rows,e2,r1,r2,r3⟩:=qdB (ns:=ns) (h:=h) (l:=l) hb';have c0:=qcT (h:=h) (l:=l) hb';have hs:shp (.lst (bs.map Z5))=true:=q0x (n:=2) (q0w λd hd=>by obtain⟨x,_,rfl⟩:=zN.mp hd;exact qhp x) (by decide);have jg:=qbQ hb' ∅ r2 r3 hs;have c20:qH [.scr ns,.int 20]=↥(.int (ns.getD 20 0)):=q67 (by decide);have c19:qH [.scr ns,.int 19]=↥(.int (ns.getD 19 0)):=q67 (by decide);generalize ns.getD 20 0=cell at c20;generalize ns.getD 19 0=w at c19;have nr:oEq true (.lst (rows.map YB)) (.lst [])=_:=qdN (q0x (qar (rows:=rows)) (by decide));have nc:oEq true (.lst (cnL h l bs)) (.lst [])=_:=qdN (q0x (qau (h:=h) (l:=l) (bs:=bs)) (by decide));have bl:Xb [.lst (cnL h l bs)]=some (.fr (cnL h l bs)):=rfl;have pl:(Pz h l bs).length<=60:=by
  have h1:(Pz h l bs).length<=(plc h l bs).length:=q4f _;have h2:(plc h l bs).length=2*bs.length+2:=by show (flat bs).length+1+1=_;rw[q5q]
  omega
 have pn:Pz h l bs≠[]:=λe=>by have:=(q70 (h:=h) (l:=l) (bs:=bs) h).mpr (.inl rfl);rw[e]at this;cases this
 have gl:=qdX (h:=h) (l:=l) hb';have cl:=q3b (h:=h) (l:=l) hb';have okc:okC 7 (.lst (cnL h l bs))=true:=(qb9 hb' 4).1;have okr:okC 7 (.lst (rows.map YB))=true:=(qaG hb' ∅ r3 2).1;unfold q7F qcV
 by_cases A:w%4<2/\rows≠[]
 ·have a1:decide (w%4<2)=true:=vP A.1
  have a2:(rows.map YB).isEmpty=false:=by
   cases rows with
   | nil=>exact vK rfl A.2
   | cons _ _=>rfl
  rw[a2]at nr;obtain⟨pre,r,post,b,sp,bl1,B⟩:=qfc (q6e h l bs) pl pn (q7h hb') (λe he=>qcR he) ∅ A.2 r3 cell;have hlen:pre.length+post.length<=900:=by
   have:=uE xy sp;rw[zC,zG]at this;omega
  obtain⟨v,v1,v2,v3⟩:=qfm hb' hlen (by rw[<- sp];exact r2) (by rw[<- sp];exact r3) B;have okx:∀d∈pre.map YB++[b]++post.map YB,okN 5 d/\okC 6 d=true:=λd hd=>by
   have lv:∀x∈rows,okN 5 (YB x)/\okC 6 (YB x)=true:=λx hx=>by
    have f:=qc5 hb' (r3 x hx);exact⟨(qbk x).up (by decide),qc4 2 f.1 f.2⟩
   rcases zP.mp hd with hd|hd
   ·rcases zP.mp hd with hd|hd
    ·obtain⟨x,hx,rfl⟩:=zN.mp hd
     exact lv x (by rw[sp];exact zb _ hx)
    ·rw[zL.mp hd];exact⟨B.1,B.2.1⟩
   ·obtain⟨x,hx,rfl⟩:=zN.mp hd
    exact lv x (by rw[sp];exact zU _ (zJ _ hx))
  have lx:(pre.map YB++[b]++post.map YB).length<=1000:=by
   rw[zC,zC,zA,zA,zH];omega
  generalize pre.map YB++[b]++post.map YB=X at bl1 v1 v2 v3 okx lx;have jd:qU [.int h,.int l,.lst (bs.map Z5),.tup [.lst (cnL h l bs),.lst X],.bl v]=↥(.bl true):=by
   refine q7o (qbg hb' v1) (λe=>?_) ?_ (q0x (n:=7) ?_ (by decide)) hs
   ·obtain⟨rows',rfl,q1,q2,q3⟩:=v3 e
    exact⟨_,q9T hb' q1 q2 q3⟩
   ·exact(qW 7 (ds:=[.lst (cnL h l bs),.lst X]) (by show 2<=1000;decide) λd hd=>by
     simp only[zE,zI,or_false]at hd;rcases hd with rfl|rfl
     ·exact okc
     ·exact(qW 6 lx λd hd=>(okx d hd).2).1).2
   ·exact q1i λd hd=>by
     simp only[zE,zI,or_false]at hd;rcases hd with rfl|rfl
     ·exact qau.up (by decide)
     ·exact q0w λd hd=>(okx d hd).1
  simp_arith -implicitDefEqProofs [e1,c0,e2,jg,c20,c19,a1,nr,bl1,bl,v2,jd]
 ·by_cases B:w%4=2/\Z4 (Pz h l bs)≠[]
  ·have a1:decide (w%4<2)=false:=vT ∅
   have b1:(w%4==2)=true:=by rw[B.1];rfl
   have b2:(cnL h l bs).isEmpty=false:=by
    show ((Z4 (Pz h l bs)).map (YI bs)).isEmpty=false;cases z:Z4 (Pz h l bs)with
    | nil=>exact vK z B.2
    | cons _ _=>rfl
   rw[b2]at nc;have lp:=xA.mpr B.2;have mo:oMod (.int (cell/5)) (.int ((Z4 (Pz h l bs)).length:Int))=↥(.int (cell/5%((Z4 (Pz h l bs)).length:Int))):=q03 ∅;have o0:=yz (cell/5) (show ((Z4 (Pz h l bs)).length:Int)≠0 by omega);have o1:=yt (cell/5) (show 0<((Z4 (Pz h l bs)).length:Int) by omega);generalize cell/5%((Z4 (Pz h l bs)).length:Int)=k at mo o0 o1;obtain⟨X,x1,x2,x3,x4⟩:=qeJ (bs:=bs) (q9S (q6e h l bs)) ∅ (i:=k.toNat) ∅ cell;rw[show ((k.toNat:Nat):Int)=k by omega]at x1;have jd:qU [.int h,.int l,.lst (bs.map Z5),.tup [.lst X,.lst (rows.map YB)],.bl false]=↥(.bl true):=by
    refine No.judged ⟨q96 hb' x4,?_,q0x (n:=5) ?_ (by decide)⟩ hs
    ·exact(qW 7 (ds:=[.lst X,.lst (rows.map YB)]) (by show 2<=1000;decide) λd hd=>by
      simp only[zE,zI,or_false]at hd;rcases hd with rfl|rfl
      ·exact(qW 6 x3 λd hd=>(x2 d hd).2).1
      ·exact okr).2
    ·exact q1i λd hd=>by
      simp only[zE,zI,or_false]at hd;rcases hd with rfl|rfl
      ·exact(q0w λd hd=>(x2 d hd).1:okN 3 _).up (by decide)
      ·exact qar
   simp_arith -implicitDefEqProofs [e1,c0,e2,jg,c20,c19,a1,b1,nc,zA,mo,x1,jd]
  ·have ten:=qhq hb' (show rows.length<=1000 by omega) r3
   obtain⟨T,t1,t2⟩:=q1k (ds:=[D.tup [.lst (cnL h l bs)],.lst [.lst (cnL h l bs),.lst (rows.map YB)],.tup [.lst (cnL h l bs),.tup (rows.map YB)],.tup [.lst (cnL h l bs),.lst (rows.map YB),.int 0],.tup [.lst (cnL h l bs++[.tup [.int 0,.int 1,.int 0,.int 0]]),.lst (rows.map YB)],.tup [.lst (rows.map YB),.non],.non,.int 7,.str "", .tup [.tup (cnL h l bs),.lst (rows.map YB)]]) (i:=cell%10) (No h l bs) ∅ (show cell%10<((10:Nat):Int) by omega) ten;have jd:=t2.judged hs;have bt1:Y2 [.lst (rows.map YB)]=some (.sh (.tup (rows.map YB))):=rfl;have bt2:Y2 [.lst (cnL h l bs)]=some (.sh (.tup (cnL h l bs))):=rfl;have ad1:YL (.lst (cnL h l bs)) (.lst [.tup [.int 0,.int 1,.int 0,.int 0]])=some (.fr (cnL h l bs++[.tup [.int 0,.int 1,.int 0,.int 0]])):=qX (by rw[zA,zH];omega);have ad2:∀a b c d e f g i j k:D,YL (.lst [a,b,c,d,e]) (.lst [f,g,i,j,k])=some (.fr [a,b,c,d,e,f,g,i,j,k]):=λa b c d e f g i j k=>qX (by show 5+5<=1000000;decide)
   by_cases a:w%4<2
   ·have a1:decide (w%4<2)=true:=vP a
    have a2:rows=[]:=Classical.not_not.mp λz=>A ⟨a,z⟩;have b1:(w%4==2)=false:=by simpa using (∅:w%4≠2)
    have nr':(rows.map YB).isEmpty=true:=by rw[a2];rfl
    rw[nr']at nr;simp_arith -implicitDefEqProofs [e1,c0,e2,jg,c20,c19,a1,nr,b1,bt1,bt2,ad1,ad2,t1,jd]
   ·have a1:decide (w%4<2)=false:=vT a
    by_cases b:w%4=2
    ·have b1:(w%4==2)=true:=by rw[b];rfl
     have b2:Z4 (Pz h l bs)=[]:=Classical.not_not.mp λz=>B ⟨b,z⟩;have nc':(cnL h l bs).isEmpty=true:=by show ((Z4 (Pz h l bs)).map (YI bs)).isEmpty=true;rw[b2];rfl
     rw[nc']at nc;simp_arith -implicitDefEqProofs [e1,c0,e2,jg,c20,c19,a1,b1,nc,bt1,bt2,ad1,ad2,t1,jd]
    ·have b1:(w%4==2)=false:=by simpa using b
     simp_arith -implicitDefEqProofs [e1,c0,e2,jg,c20,c19,a1,b1,bt1,bt2,ad1,ad2,t1,jd]
theorem qia{P:vO}{w:vU}{K:zB}{mg:Str->Option vB}{base:vX}{k:Nat}{f:vC}{fd:vH}{ps:List Str}{n:Nat}:FnOk P w K mg base CX0 k f fd ps (spD K n λ_=>none) :=
 ⟨λ_ _ _ _ h=>(by obtain⟨_,_,_,h,_⟩:=h;cases h),λ_ _ _ _ _ _ _ _ _ _ _ _ _ h=>(by obtain⟨_,_,_,h,_⟩:=h;cases h)⟩
theorem qho{l:wz}{w:vU}{K:zB}{h:vX}{mg:Str->Option vB}{fa:vC}(X:K.In h)(G:h.Ns vS mg)(hfa:mg "law" = some (.ref fa)){f0:vC}{f1:vC}{f2:vC}{f3:vC}{f4:vC}{f5:vC}{f6:vC}{f7:vC}{f8:vC}{f9:vC}{f10:vC}{f11:vC}{f12:vC}{f13:vC}{f14:vC}{f15:vC}{f16:vC}{f17:vC}{f18:vC}{f19:vC}{f20:vC}{f21:vC}{f22:vC}{f23:vC}{f24:vC}{f25:vC}{f26:vC}{f27:vC}{f28:vC}{f29:vC}{f30:vC}{f31:vC}{f32:vC}{f33:vC}{f34:vC}{f35:vC}{f36:vC}{f37:vC}{f38:vC}{f39:vC}{f40:vC}{f41:vC}{f42:vC}{f43:vC}{f44:vC}{f45:vC}{A_NoErrand:vC}{A_NoReason:vC}(D0:Fd K "is_whole" q6k f0)(D1:Fd K "is_box" q8j f1)(D2:Fd K "is_errand" q5X f2)(D3:Fd K "check_errand" q2i f3)(D4:Fd K "stops" q7w f4)(D5:Fd K "gaps" q92 f5)(D6:Fd K "gap_edges" q4c f6)(D7:Fd K "leads_over" q5n f7)(D8:Fd K "crossed" q6U f8)(D9:Fd K "lack" qbd f9)(D10:Fd K "lacks" q7y f10)(D11:Fd K "neighbours" q5f f11)(D12:Fd K "group_of" q6m f12)(D13:Fd K "groups" q80 f13)(D14:Fd K "knots" q97 f14)(D15:Fd K "cost" qbe f15)(D16:Fd K "group_numbers" q3s f16)(D17:Fd K "weighed" q7j f17)(D18:Fd K "all_whole" q5T f18)(D19:Fd K "counts_of" q4b f19)(D20:Fd K "are_counts" q5B f20)(D21:Fd K "is_group" q6n f21)(D22:Fd K "are_groups" q5h f22)(D23:Fd K "holds_together" q2W f23)(D24:Fd K "is_level" q6E f24)(D25:Fd K "rise_from_one" q3w f25)(D26:Fd K "are_levels" q3j f26)(D27:Fd K "is_reason" q4a f27)(D28:Fd K "gap_weight" q5t f28)(D29:Fd K "weight" q6t f29)(D30:Fd K "_law_cell_at" q3U f30)(D31:Fd K "_law_whole" q5k f31)(D32:Fd K "_law_place" q5o f32)(D33:Fd K "_law_errand" q4l f33)(D34:Fd K "_law_odd" q6D f34)(D35:Fd K "_law_counts" q2I f35)(D36:Fd K "_law_levels" q2L f36)(D37:Fd K "_law_number" q4o f37)(D38:Fd K "_law_is_parted" q2P f38)(D39:Fd K "_law_are_levels" q1d f39)(D40:Fd K "_law_bent_parts" q2A f40)(D41:Fd K "_law_bent_levels" q1N f41)(D42:Fd K "_law_bent_counts" q1O f42)(D43:Fd K "_law_copied" q0a f43)(D44:Fd K "_law_judged" q2J f44)(D45:Fd K "law" q7A f45)(z_isinstance:zw K vS "isinstance" = some none)(z_bool:zw K vS "bool" = some none)(z_int:zw K vS "int" = some none)(z_len:zw K vS "len" = some none)(z_tuple:zw K vS "tuple" = some none)(z_list:zw K vS "list" = some none)(z_all:zw K vS "all" = some none)(z_sorted:zw K vS "sorted" = some none)(z_set:zw K vS "set" = some none)(z_zip:zw K vS "zip" = some none)(z_enumerate:zw K vS "enumerate" = some none)(z_abs:zw K vS "abs" = some none)(z_sum:zw K vS "sum" = some none)(z_range:zw K vS "range" = some none)(z_reversed:zw K vS "reversed" = some none)(i_int:IsT K .int)(i_bool:IsT K .bl)(i_tuple:IsT K .tup)(i_list:IsT K .lst)(ea_NoErrand:zw K vS "NoErrand" = some (some (.ref A_NoErrand)))(ea_NoReason:zw K vS "NoReason" = some (some (.ref A_NoReason)))(ex_NoErrand:xi K A_NoErrand vErr "ValueError.__new__" = true)(ex_NoReason:xi K A_NoReason vErr "ValueError.__new__" = true)(em_NoReason_NoReason:xr K A_NoReason (.ref A_NoReason)=some true): ∃fd:vH,(∀(s:vF)(v:vB),tP s fd ⟨[v],[]⟩ [("script", v)])/\∀base:vX,K.In base->base.Ns vS mg->FnOk l.prog w K mg base CX0 13 fa fd ["script"] (spD K 1 q7F):=by
 have e:=hfa.symm.trans (wK X G D45.1);cases e;obtain⟨d0,F0⟩:=D0.2;obtain⟨d1,F1⟩:=D1.2;obtain⟨d2,F2⟩:=D2.2;obtain⟨d3,F3⟩:=D3.2;obtain⟨d4,F4⟩:=D4.2;obtain⟨d5,F5⟩:=D5.2;obtain⟨d6,F6⟩:=D6.2;obtain⟨d7,F7⟩:=D7.2;obtain⟨d8,F8⟩:=D8.2;obtain⟨d9,F9⟩:=D9.2;obtain⟨d10,F10⟩:=D10.2;obtain⟨d11,F11⟩:=D11.2;obtain⟨d12,F12⟩:=D12.2;obtain⟨d13,F13⟩:=D13.2;obtain⟨d14,F14⟩:=D14.2;obtain⟨d15,F15⟩:=D15.2;obtain⟨d16,F16⟩:=D16.2;obtain⟨d17,F17⟩:=D17.2;obtain⟨d18,F18⟩:=D18.2;obtain⟨d19,F19⟩:=D19.2;obtain⟨d20,F20⟩:=D20.2;obtain⟨d21,F21⟩:=D21.2;obtain⟨d22,F22⟩:=D22.2;obtain⟨d23,F23⟩:=D23.2;obtain⟨d24,F24⟩:=D24.2;obtain⟨d25,F25⟩:=D25.2;obtain⟨d26,F26⟩:=D26.2;obtain⟨d27,F27⟩:=D27.2;obtain⟨d28,F28⟩:=D28.2;obtain⟨d29,F29⟩:=D29.2;obtain⟨d30,F30⟩:=D30.2;obtain⟨d31,F31⟩:=D31.2;obtain⟨d32,F32⟩:=D32.2;obtain⟨d33,F33⟩:=D33.2;obtain⟨d34,F34⟩:=D34.2;obtain⟨d35,F35⟩:=D35.2;obtain⟨d36,F36⟩:=D36.2;obtain⟨d37,F37⟩:=D37.2;obtain⟨d38,F38⟩:=D38.2;obtain⟨d39,F39⟩:=D39.2;obtain⟨d40,F40⟩:=D40.2;obtain⟨d41,F41⟩:=D41.2;obtain⟨d42,F42⟩:=D42.2;obtain⟨d43,F43⟩:=D43.2;obtain⟨d44,F44⟩:=D44.2;obtain⟨_,F45⟩:=D45.2;obtain⟨_,_,kV,dc,pm,an,cd,ct,_,rfl,_,_⟩:=F45.ex;have y_isinstance:=zp X G z_isinstance;have y_bool:=zp X G z_bool;have y_int:=zp X G z_int;have y_len:=zp X G z_len;have y_tuple:=zp X G z_tuple;have y_list:=zp X G z_list;have y_all:=zp X G z_all;have y_sorted:=zp X G z_sorted;have y_set:=zp X G z_set;have y_zip:=zp X G z_zip;have y_enumerate:=zp X G z_enumerate;have y_abs:=zp X G z_abs;have y_sum:=zp X G z_sum;have y_range:=zp X G z_range;have y_reversed:=zp X G z_reversed;have e_NoErrand:=wK X G ea_NoErrand;have e_NoReason:=wK X G ea_NoReason;have x_NoErrand:ECls K "NoErrand" A_NoErrand:=⟨ea_NoErrand,ex_NoErrand⟩;have x_NoReason:ECls K "NoReason" A_NoReason:=⟨ea_NoReason,ex_NoReason⟩;have w_NoReason:Xy K A_NoReason ["NoReason"]:=(qcZ ea_NoReason ex_NoReason em_NoReason_NoReason qdL);refine⟨xV "law" "law" (Yz q7A) (Yk q7A) (Z1 q7A) .none kV dc pm an cd ct,λs v=>.of_eq rfl,λbase _ _=>?_⟩;have C0:=qr l.prog w base X G D0 F0 (qbU F0 y_isinstance y_bool y_int i_int i_bool) λ_ _ _ _ _ _ us hl=>match us,hl with|[_],_=>rfl
 have C1:=qr l.prog w base X G D1 F1 (qdy F1 C0 y_len y_isinstance y_tuple i_tuple) λ_ _ _ _ _ _ us hl=>match us,hl with|[_],_=>rfl
 have C2:=qr l.prog w base X G D2 F2 (qaA F2 C0 C1 y_isinstance y_list y_all i_list) λ_ _ _ _ _ _ us hl=>match us,hl with|[_,_,_],_=>rfl
 have HX3:=q86 (P:=l.prog) (w:=w) (mg:=mg) (base:=base) F3 C2 e_NoErrand x_NoErrand;have C3:=qr l.prog w base X G D3 F3 (q8W F3 C2 e_NoErrand x_NoErrand) λ_ _ _ _ _ _ us hl=>match us,hl with|[_,_,_],_=>rfl
 have HX4:=qdM (P:=l.prog) (w:=w) (mg:=mg) (base:=base) F4 C3 HX3 y_sorted y_set;have C4:=qr l.prog w base X G D4 F4 (qeQ F4 C3 HX3 y_sorted y_set) λ_ _ _ _ _ _ us hl=>match us,hl with|[_,_,_],_=>rfl
 have HX5:=qeC (P:=l.prog) (w:=w) (mg:=mg) (base:=base) F5 C4 HX4 y_list y_zip;have C5:=qr l.prog w base X G D5 F5 (qgi F5 C4 HX4 y_list y_zip) λ_ _ _ _ _ _ us hl=>match us,hl with|[_,_,_],_=>rfl
 have HX6:=qak (P:=l.prog) (w:=w) (mg:=mg) (base:=base) F6 C5 HX5;have C6:=qr l.prog w base X G D6 F6 (qaQ F6 C5 HX5) λ_ _ _ _ _ _ us hl=>match us,hl with|[_,_,_],_=>rfl
 have C7:=qr l.prog w base X G D7 F7 (qab F7) λ_ _ _ _ _ _ us hl=>match us,hl with|[_,_,_],_=>rfl
 have C8:=qr l.prog w base X G D8 F8 (qda F8 C7 y_len) λ_ _ _ _ _ _ us hl=>match us,hl with|[_,_],_=>rfl
 have C9:=qr l.prog w base X G D9 F9 (qga F9 C8) λ_ _ _ _ _ _ us hl=>match us,hl with|[_,_,_,_],_=>rfl
 have HX10:=qdC (P:=l.prog) (w:=w) (mg:=mg) (base:=base) F10 C5 HX5 C9;have C10:=qr l.prog w base X G D10 F10 (qfa F10 C5 HX5 C9) λ_ _ _ _ _ _ us hl=>match us,hl with|[_,_,_],_=>rfl
 have C11:=qr l.prog w base X G D11 F11 (qa8 F11) λ_ _ _ _ _ _ us hl=>match us,hl with|[_,_],_=>rfl
 have C12:=qr l.prog w base X G D12 F12 (qbz F12 y_sorted) λ_ _ _ _ _ _ us hl=>match us,hl with|[_,_],_=>rfl
 have C13:=qr l.prog w base X G D13 F13 (qdp F13 C11 C12 y_sorted) λ_ _ _ _ _ _ us hl=>match us,hl with|[_,_],_=>rfl
 have C14:=qr l.prog w base X G D14 F14 (qex F14 C10 C5 y_zip y_list) λ_ _ _ _ _ _ us hl=>match us,hl with|[_,_,_],_=>rfl
 have C15:=qr l.prog w base X G D15 F15 (qge F15) λ_ _ _ _ _ _ us hl=>match us,hl with|[_],_=>rfl
 have C16:=qr l.prog w base X G D16 F16 (q83 F16 y_enumerate) λ_ _ _ _ _ _ us hl=>match us,hl with|[_],_=>rfl
 have C17:=qr l.prog w base X G D17 F17 (qcP F17 y_len) λ_ _ _ _ _ _ us hl=>match us,hl with|[_,_],_=>rfl
 have C18:=qr l.prog w base X G D18 F18 (qaR F18 C0 y_all) λ_ _ _ _ _ _ us hl=>match us,hl with|[_],_=>rfl
 have HX19:=qah (P:=l.prog) (w:=w) (mg:=mg) (base:=base) F19 C5 HX5 C8;have C19:=qr l.prog w base X G D19 F19 (qbv F19 C5 HX5 C8) λ_ _ _ _ _ _ us hl=>match us,hl with|[_,_,_],_=>rfl
 have C20:=qr l.prog w base X G D20 F20 (qad F20 C18 y_all) λ_ _ _ _ _ _ us hl=>match us,hl with|[_,_],_=>rfl
 have C21:=qr l.prog w base X G D21 F21 (qbH F21 C18 y_len y_isinstance y_list i_list) λ_ _ _ _ _ _ us hl=>match us,hl with|[_],_=>rfl
 have C22:=qr l.prog w base X G D22 F22 (qaa F22 C21 y_all y_isinstance y_list y_sorted i_list) λ_ _ _ _ _ _ us hl=>match us,hl with|[_,_],_=>rfl
 have C23:=qr l.prog w base X G D23 F23 (q7J F23 C16 y_all) λ_ _ _ _ _ _ us hl=>match us,hl with|[_,_],_=>rfl
 have C24:=qr l.prog w base X G D24 F24 (qby F24 C0 C22 C15 C23 y_len y_isinstance y_tuple i_tuple) λ_ _ _ _ _ _ us hl=>match us,hl with|[_,_,_,_],_=>rfl
 have C25:=qr l.prog w base X G D25 F25 (q7X F25 y_zip y_all) λ_ _ _ _ _ _ us hl=>match us,hl with|[_],_=>rfl
 have HX26:=q9p (P:=l.prog) (w:=w) (mg:=mg) (base:=base) F26 C4 HX4 C14 C6 HX6 C24 C25 y_isinstance y_list y_all i_list;have C26:=qr l.prog w base X G D26 F26 (qap F26 C4 HX4 C14 C6 HX6 C24 C25 y_isinstance y_list y_all i_list) λ_ _ _ _ _ _ us hl=>match us,hl with|[_,_,_,_],_=>rfl
 have HX27:=qac (P:=l.prog) (w:=w) (mg:=mg) (base:=base) F27 C3 HX3 C26 C20 C19 y_len y_isinstance y_tuple i_tuple;have C27:=qr l.prog w base X G D27 F27 (qbu F27 C3 HX3 C26 C20 C19 y_len y_isinstance y_tuple i_tuple) λ_ _ _ _ _ _ us hl=>match us,hl with|[_,_,_,_],_=>rfl
 have C28:=qr l.prog w base X G D28 F28 (qaf F28 y_abs) λ_ _ _ _ _ _ us hl=>match us,hl with|[_,_],_=>rfl
 have HX29:=qdk (P:=l.prog) (w:=w) (mg:=mg) (base:=base) F29 C27 C10 C28 C17 e_NoReason x_NoReason y_zip y_sum;have C29:=qr l.prog w base X G D29 F29 (qe1 F29 C27 C10 C28 C17 e_NoReason x_NoReason y_zip y_sum) λ_ _ _ _ _ _ us hl=>match us,hl with|[_,_,_,_],_=>rfl
 have C30:=qr l.prog w base X G D30 F30 (q8Q F30 y_len) λ_ _ _ _ _ _ us hl=>match us,hl with|[_,_],_=>rfl
 have C31:=qr l.prog w base X G D31 F31 (qam F31 y_isinstance y_bool y_int i_int i_bool) λ_ _ _ _ _ _ us hl=>match us,hl with|[_],_=>rfl
 have C32:=qr l.prog w base X G D32 F32 (qag F32) λ_ _ _ _ _ _ us hl=>match us,hl with|[_],_=>rfl
 have C33:=qr l.prog w base X G D33 F33 (q9A F33 C30 C32 y_range y_len) λ_ _ _ _ _ _ us hl=>match us,hl with|[_,_],_=>rfl
 have C34:=qr l.prog w base X G D34 F34 (qbI F34) λ_ _ _ _ _ _ us hl=>match us,hl with|[_],_=>rfl
 have HX35:=q8B (P:=l.prog) (w:=w) (mg:=mg) (base:=base) F35 C5 HX5 C8;have C35:=qr l.prog w base X G D35 F35 (q9a F35 C5 HX5 C8) λ_ _ _ _ _ _ us hl=>match us,hl with|[_,_,_],_=>rfl
 have HX36:=q8u (P:=l.prog) (w:=w) (mg:=mg) (base:=base) F36 C4 HX4 C30 C14 C5 C13 y_len y_reversed y_list;have C36:=qr l.prog w base X G D36 F36 (q9e F36 C4 HX4 C30 C14 C5 C13 y_len y_reversed y_list) λ_ _ _ _ _ _ us hl=>match us,hl with|[_,_,_,_],_=>rfl
 have C37:=qr l.prog w base X G D37 F37 (q9x F37 y_len y_range) λ_ _ _ _ _ _ us hl=>match us,hl with|[_,_],_=>rfl
 have C38:=qr l.prog w base X G D38 F38 (q7K F38 C31 C37 y_isinstance y_list y_len i_list) λ_ _ _ _ _ _ us hl=>match us,hl with|[_,_,_],_=>rfl
 have HX39:=q6R (P:=l.prog) (w:=w) (mg:=mg) (base:=base) F39 C4 HX4 C31 C5 C14 C38 y_isinstance y_list y_len y_tuple i_list i_tuple;have C39:=qr l.prog w base X G D39 F39 (q6W F39 C4 HX4 C31 C5 C14 C38 y_isinstance y_list y_len y_tuple i_list i_tuple) λ_ _ _ _ _ _ us hl=>match us,hl with|[_,_,_,_],_=>rfl
 have C40:=qr l.prog w base X G D40 F40 (q6S F40 C32 C34 y_len) λ_ _ _ _ _ _ us hl=>match us,hl with|[_,_],_=>rfl
 have C41:=qr l.prog w base X G D41 F41 (q6P F41 C40 C34 y_len y_tuple) λ_ _ _ _ _ _ us hl=>match us,hl with|[_,_],_=>rfl
 have C42:=qr l.prog w base X G D42 F42 (q6Q F42 C34 y_len y_list y_reversed) λ_ _ _ _ _ _ us hl=>match us,hl with|[_,_,_],_=>rfl
 have C43:Cal l.prog w K mg base 0 _ _ "_law_copied" ["thing"] 1 (qc 0):=qr l.prog w base X G D43 F43 qia λ_ _ _ _ _ _ us hl=>match us,hl with|[_],_=>rfl
 have C43:Cal l.prog w K mg base 1 _ _ "_law_copied" ["thing"] 1 (qc 1):=qr l.prog w base X G D43 F43 (q8y F43 C43 y_isinstance y_list y_tuple i_list i_tuple) λ_ _ _ _ _ _ us hl=>match us,hl with|[_],_=>rfl
 have C43:Cal l.prog w K mg base 2 _ _ "_law_copied" ["thing"] 1 (qc 2):=qr l.prog w base X G D43 F43 (q8K F43 C43 y_isinstance y_list y_tuple i_list i_tuple) λ_ _ _ _ _ _ us hl=>match us,hl with|[_],_=>rfl
 have C43:Cal l.prog w K mg base 3 _ _ "_law_copied" ["thing"] 1 (qc 3):=qr l.prog w base X G D43 F43 (q8A F43 C43 y_isinstance y_list y_tuple i_list i_tuple) λ_ _ _ _ _ _ us hl=>match us,hl with|[_],_=>rfl
 have C43:Cal l.prog w K mg base 4 _ _ "_law_copied" ["thing"] 1 (qc 4):=qr l.prog w base X G D43 F43 (q8P F43 C43 y_isinstance y_list y_tuple i_list i_tuple) λ_ _ _ _ _ _ us hl=>match us,hl with|[_],_=>rfl
 have C43:Cal l.prog w K mg base 5 _ _ "_law_copied" ["thing"] 1 (qc 5):=qr l.prog w base X G D43 F43 (q8Z F43 C43 y_isinstance y_list y_tuple i_list i_tuple) λ_ _ _ _ _ _ us hl=>match us,hl with|[_],_=>rfl
 have C43:Cal l.prog w K mg base 6 _ _ "_law_copied" ["thing"] 1 (qc 6):=qr l.prog w base X G D43 F43 (q8p F43 C43 y_isinstance y_list y_tuple i_list i_tuple) λ_ _ _ _ _ _ us hl=>match us,hl with|[_],_=>rfl
 have C43:Cal l.prog w K mg base 7 _ _ "_law_copied" ["thing"] 1 (qc 7):=qr l.prog w base X G D43 F43 (q8J F43 C43 y_isinstance y_list y_tuple i_list i_tuple) λ_ _ _ _ _ _ us hl=>match us,hl with|[_],_=>rfl
 have C43:Cal l.prog w K mg base 8 _ _ "_law_copied" ["thing"] 1 (qc 8):=qr l.prog w base X G D43 F43 (q8r F43 C43 y_isinstance y_list y_tuple i_list i_tuple) λ_ _ _ _ _ _ us hl=>match us,hl with|[_],_=>rfl
 have HX44:=q8G (P:=l.prog) (w:=w) (mg:=mg) (base:=base) F44 C43 C27 HX27 C29 HX29 e_NoReason x_NoReason w_NoReason y_list y_isinstance y_bool i_bool;have C44:=qr l.prog w base X G D44 F44 (q9j F44 C43 C27 HX27 C29 HX29 e_NoReason x_NoReason w_NoReason y_list y_isinstance y_bool i_bool) λ_ _ _ _ _ _ us hl=>match us,hl with|[_,_,_,_,_],_=>rfl
 exact qhu F45 C33 C35 HX35 C36 HX36 C44 HX44 C30 C41 C39 C42 y_list y_len y_tuple
theorem walk{l:wz}{q:vO}{loose:List Str}{XP:(Str->Option vB)->vX->Prop}{YP:vU->vX->Prop}{d:DefRec}{K:Params->zB}(hn:l.most=some 63)(hdf:d.params.defaults=[])(hY:∀(w:vU)(h:vX),YP w h->(K w.params).In h)(F:∀(w:vU)(mg:Str->Option vB)(fa:vC)(h:vX),(K w.params).In h->h.Ns vS mg->mg d.name=some (.ref fa) ->
   ∃fd:vH,(∀(s:vF)(u:vB),tP s fd ⟨[u],[]⟩ [("script", u)])/\∀base:vX,(K w.params).In base->base.Ns vS mg->FnOk l.prog w (K w.params) mg base CX0 13 fa fd ["script"] (spD (K w.params) 1 q7F)) :
  Zr q loose XP YP l.row.toRowW d [] (λf vs=>PySem.call f vs) :=
 L2.qc9 (n:=63) (k:=13) (x := "script") (CX:=λ_=>CX0) (sp:=λw=>spD (K w.params) 1 q7F) hn (by decide) hdf ⟨rfl,by decide,by decide⟩ hY F
  (λ_ H a ns hl _ hS=>⟨H,[.scr ns],.sh (.bl true),qew ns hl,rfl,YO.refl _,⟨.ref a,[],rfl,⟨a,rfl,hS⟩,rfl⟩,λ_ _ _ _ y=>y⟩) λ_ _ _ _ _ z=>z
end Kx
namespace PySem.W.Fast
def tw6822279443614129878:=0
def tw12525014067872892301:=0
def tw7264494255463419548:=0
def tw8646420903151530530:=0
def tw16871122040815432554:=0
def tw6720935444418392820:=0
def tw7504815214026897251:=0
def tw7232841769760339956:=0
def tw2035196362373218150:=0
def tw3482902031934825655:=0
def tw4559244751402867660:=0
def tw7315935645159998266:=0
def tw7583396918972921846:=0
def tw10462801188577787162:=0
def tw11662728126923086122:=0
def tw15293020633149899431:=0
def tw172946136261019885:=0
def tw15429901230021690112:=0
def tw15094207361207953609:=0
def tw2378006804558056970:=0
def tw11595645442715102845:=0
def tw17067814979658707445:=0
def tw6881275874414679875:=0
def tw9977078603101907303:=0
def tw3404161723289114281:=0
def tw7743474863708411267:=0
def tw12353212904589728333:=0
def tw17097794327455983239:=0
def tw3151076904168759616:=0
def tw8473191264867736741:=0
def tw6628061658881779209:=0
def tw11970756805919873344:=0
def tw13204513489830077791:=0
def tw7142501349699512545:=0
def tw17749706135142573364:=0
def tw4157668131890736671:=0
def tw9666997720787723459:=0
def tw6326275187343145110:=0
def tw12813820097285646157:=0
def tw14523834024283685101:=0
def tw14263735073560828162:=0
def tw13045901303867826716:=0
def tw8678082444999406051:=0
def tw17631890436513322387:=0
def tw15235062572769563915:=0
def tw9704104696990785469:=0
def tw13052118996176917807:=0
def tw9651069111828974458:=0
def tw585784666043402892:=0
def tw7206861587315698179:=0
def tw4539004052758489965:=0
def tw5372381474651662097:=0
def tw2506022684776990313:=0
def tw2463551648827296746:=0
def tw17244038733889615353:=0
def tw16413681865563764573:=0
def tw15620776106012466612:=0
def tw15136555693208146233:=0
def tw7358643296801093991:=0
def tw3255792465605085742:=0
def tw4370262179951076823:=0
def tw8042481659591418148:=0
def tw1648192233446334718:=0
def tw7365711955012580331:=0
def tw16841852975028636214:=0
def tw17427921857520473852:=0
def tw13179919882780464377:=0
def tw8883533425004096047:=0
def tw16057781398080201198:=0
def tw11512700448263272836:=0
def tw13895760571248921606:=0
def tw14344116738505881449:=0
def tw12804377294661673205:=0
def tw8027279951091023397:=0
def tw2204544960551984821:=0
def tw4015664288528523460:=0
def tw3572641503406177701:=0
def tw13212789813336554135:=0
def tw2173816329510796156:=0
def tw11829167936407818724:=0
def tw6429021310250293087:=0
def tw10943810581452085420:=0
def tw14143616087177409708:=0
def tw9344253643792971995:=0
def tw1667574730057686433:=0
def tw2950126110121382123:=0
def tw9240360288678651781:=0
def tw4474851910074263171:=0
def tw17763412137906277078:=0
def tw2775339500619266748:=0
def tw4563102671893878626:=0
def tw1775578412580713235:=0
def tw1597838552790479400:=0
def tw7316703072521068224:=0
def tw703974077245237023:=0
def tw8238006340969827397:=0
def tw14080422877694732948:=0
def tw10068576329053535482:=0
def tw2282502148740880206:=0
def tw9311071887319483266:=0
def tw2698076770183054160:=0
def tw12449653087953550993:=0
def tw12423437927068959792:=0
def tw12749786703196073088:=0
def tw5657183504569565019:=0
def tw15588274845089118526:=0
def tw15568629852383420607:=0
def tw8075771926617861501:=0
def tw838466148289851973:=0
def tw8200353634937658521:=0
def tw15395462255811940927:=0
def tw9758415295244378177:=0
def tw2688913773495176159:=0
def tw5031386212531404164:=0
def tw14651173883787051315:=0
def tw16583518911760457709:=0
def tw10563587210030046577:=0
def tw3153253331748591608:=0
def tw5004225041711734799:=0
def tw12065000345579469475:=0
def tw8051413232947267625:=0
def tw66984463288075084:=0
def tw6224645529476649882:=0
def tw5151019581899684991:=0
def tw14286454138267061830:=0
def tw17020289935827858488:=0
def tw16941172804646870183:=0
def tw16472361901209565931:=0
def tw17030736074464754745:=0
def tw2084907248503005469:=0
def tw18392314080896229629:=0
def tw14557381597139962613:=0
def tw2492488958487973390:=0
def tw11734824996708953251:=0
def tw2390163785181800576:=0
def tw17173541514056718998:=0
def tw13893870062936866048:=0
def tw5132047322131264053:=0
def tw13587602021769763716:=0
def tw17383967632405307064:=0
def tw8810627055246503276:=0
def tw14299690409632844346:=0
def tw3919616751183387102:=0
def tw6084706966597363682:=0
def tw5367284722458791724:=0
def tw3727430317357716087:=0
def tw5180977870991642555:=0
def tw11381604456926269528:=0
def tw9201110386988640921:=0
def tw12582448704776591482:=0
def tw1947032242754592058:=0
def tw16387783186799830376:=0
def tw9701569553151696174:=0
def tw3029609512781102828:=0
def tw18098822563255824308:=0
def tw8779669732804283680:=0
def tw18031903938092174182:=0
def tw1011171559962458063:=0
def tw5452072791874275045:=0
def tw1062593542680320199:=0
def tw6650484202386440720:=0
def tw3949120068610846318:=0
def tw9424763335341348035:=0
def tw8566522216082647592:=0
def tw2768482665598224805:=0
def tw1496141260858652319:=0
def tw2361620687742503860:=0
def tw11312989046918020596:=0
def tw6875617100956739705:=0
def tw8296439881107333608:=0
def tw7130889704772384768:=0
def tw3998063780807533063:=0
def tw15225633903444797524:=0
def tw4842053931369294948:=0
def tw5620768503950651898:=0
def tw2226214501481713621:=0
def tw17543821274251993191:=0
def tw13509370457335647220:=0
def tw14111249344122671570:=0
def tw14825139600443791933:=0
def tw15585432326911517707:=0
def tw18316554230910431945:=0
def tw5361738083229019500:=0
def tw15325235295739790270:=0
def tw14394991668528073641:=0
def tw9205188538260222922:=0
def tw15989242349639561147:=0
def tw17430173794433281205:=0
def tw3566581567609360937:=0
def tw17651971135832609102:=0
def tw16021346840734702057:=0
def tw11484327340133198221:=0
def tw12604742535765914606:=0
def tw9963183267313778831:=0
def tw8214610697848902813:=0
def tw3700392216916241270:=0
def tw14852150610515217471:=0
def tw3050143171072571989:=0
def tw5904756647527253370:=0
def tw16752843913665865075:=0
def tw15366459743061599979:=0
def tw8537382752935419034:=0
def tw372820587974207317:=0
def tw5164318509231444413:=0
def tw12735132861667628062:=0
def tw6559024409643733792:=0
def tw13210351234752025343:=0
def tw10143684970185142672:=0
def tw12027352767882574105:=0
def tw12074641851009911665:=0
def tw17016003312504310509:=0
def tw1783944955340056173:=0
def tw12497110296798580838:=0
def tw15239274790940089830:=0
def tw11917340678107165631:=0
def tw2301842655557952778:=0
def tw9296180670160838803:=0
def tw8882861171089829098:=0
def tw1793639818269390362:=0
def tw17038402729249066854:=0
def tw5923380443494291282:=0
def tw1459443261698279690:=0
def tw11458312292194774658:=0
def tw15740167189763337866:=0
def tw6272743559854995818:=0
def tw9262987588700647517:=0
def tw8334276807512954556:=0
def tw14173583056583249046:=0
def tw6967265407741101587:=0
def tw6100717807098900649:=0
def tw16769679824362384381:=0
def tw8335538925803491929:=0
def tw3038069441361690902:=0
def tw4451883369835409610:=0
def tw15059040063388252460:=0
def tw10468538660945813388:=0
def tw8823690499291669492:=0
def tw5418319877330166094:=0
def tw8955443980442940195:=0
def tw7664681220067393024:=0
def tw1472908147168599717:=0
def tw14745974068657351537:=0
def tw5692331465505386938:=0
def tw7727564839017000629:=0
def tw13989777608461216399:=0
def tw8989150149344970337:=0
def tw8243237758959139295:=0
def tw7790646630351043348:=0
def tw12046077061109054423:=0
def tw5347134490422038300:=0
def tw6043935413364781729:=0
def tw3791017683633557313:=0
def tw9146848451748503188:=0
def tw6864187722086644704:=0
def tw5947306238754374712:=0
def tw825944454166324587:=0
def tw8102820065602209453:=0
def tw11840133784917553991:=0
def tw4012089755378882008:=0
def tw3288214955632769845:=0
def tw4373912277940625116:=0
def tw11411736666765603192:=0
def tw17072814800998003398:=0
def tw7675801694868167629:=0
def tw5612891415207449682:=0
def tw11252979267648794654:=0
def tw168484231076948465:=0
def tw14141271263028253223:=0
def tw17459868134122393364:=0
def tw7034727727372207945:=0
def tw3145933026422043237:=0
def tw9890219567067957280:=0
def tw5309343668353377518:=0
def tw12121695965165812452:=0
def tw15845688350680433278:=0
def tw13615406796598577204:=0
def tw12389269629368036220:=0
def tw11604632445550216941:=0
def tw18039182828069694716:=0
def tw6899755651166141017:=0
def tw8892916116031806425:=0
def tw1164067038511017876:=0
def tw16582050615940314594:=0
def tw5870442852393276853:=0
def tw8795205677470387990:=0
def tw877439175448074652:=0
def tw4642726526040657026:=0
def tw12794389254078049253:=0
def tw8316362263218623506:=0
def tw10520884817024909781:=0
def tw15971723571523915810:=0
def tw1027519082281476351:=0
def tw14602694006719839098:=0
def tw12202363886926345570:=0
def tw12666886744643305678:=0
def tw5253960098690952887:=0
def tw16231126681057849801:=0
def tw2701500031849817850:=0
def tw1653225821784044688:=0
def tw13431924891066810203:=0
def tw13650062186639219410:=0
def tw5767861842974157977:=0
end PySem.W.Fast
open PySem PySem.W PyProof.Rows
set_option maxRecDepth 100000 in
set_option maxHeartbeats 0 in
theorem PySem.Challenge.cw_hookrail_k40_what_is_a_reason_holds : PySem.Challenge.rw_hookrail_k40_what_is_a_reason.Holds := by
 w_on;o_law;k_head;(case hw=>w_witness2)
 k_fill
 refine Kx.walk (l:=PySem.Challenge.rw_hookrail_k40_what_is_a_reason) rfl rfl (λw h Y=>Zm Y) ?F
 case F =>
  intro w mg fa h KX G hmg;refine' Kx.qho KX G hmg ?D0 ?D1 ?D2 ?D3 ?D4 ?D5 ?D6 ?D7 ?D8 ?D9 ?D10 ?D11 ?D12 ?D13 ?D14 ?D15 ?D16 ?D17 ?D18 ?D19 ?D20 ?D21 ?D22 ?D23 ?D24 ?D25 ?D26 ?D27 ?D28 ?D29 ?D30 ?D31 ?D32 ?D33 ?D34 ?D35 ?D36 ?D37 ?D38 ?D39 ?D40 ?D41 ?D42 ?D43 ?D44 ?D45 ?z_isinstance ?z_bool ?z_int ?z_len ?z_tuple ?z_list ?z_all ?z_sorted ?z_set ?z_zip ?z_enumerate ?z_abs ?z_sum ?z_range ?z_reversed ?i_int ?i_bool ?i_tuple ?i_list ?ea_NoErrand ?ea_NoReason ?ex_NoErrand ?ex_NoReason ?em_NoReason_NoReason
  (case D0|D1|D2|D3|D4|D5|D6|D7|D8|D9|D10|D11|D12|D13|D14|D15|D16|D17|D18|D19|D20|D21|D22|D23|D24|D25|D26|D27|D28|D29|D30|D31|D32|D33|D34|D35|D36|D37|D38|D39|D40|D41|D42|D43|D44|D45=>(refine' Hk.qib ?a ?l ?c ?k;(case a=>k_is);(case l=>k_is);(case c=>k_is);(case k=>k_is)))
  (case z_isinstance|z_bool|z_int|z_len|z_tuple|z_list|z_all|z_sorted|z_set|z_zip|z_enumerate|z_abs|z_sum|z_range|z_reversed=>k_is)
  (case ea_NoErrand|ea_NoReason|em_NoReason_NoReason=>k_is)
  (case i_int=>intro t ht;cases t <;> first|(exact absurd rfl ht)|rfl|k_is)
  (case i_bool=>intro t ht;cases t <;> first|(exact absurd rfl ht)|rfl|k_is)
  (case i_tuple=>intro t ht;cases t <;> first|(exact absurd rfl ht)|rfl|k_is)
  (case i_list=>intro t ht;cases t <;> first|(exact absurd rfl ht)|rfl|k_is)
  (case ex_NoErrand=>k_exc)
  (case ex_NoReason=>k_exc)
#print axioms PySem.Challenge.cw_hookrail_k40_what_is_a_reason_holds
