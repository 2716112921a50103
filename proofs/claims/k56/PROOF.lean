import PyProof.Rows.All
import Wide.All
import OpenK.AllK
import Wide.FinOn
import Lean
import PyProof.EqAt
import PyProof.EqKinds
import PyProof.TupleCall
import PySem.SetOps
import KE.KDictSum
import KE.KDictList
import PyProof.ZipIter
import KE.KFind
import PyProof.MaxThree
import PyProof.Rows.IntMath
import PyProof.EnumMake
import PyProof.Rows.EnumRows
import KE.KDictLaws
import PyProof.DictWalks
import PyProof.Rows.SortRuns
import KE.KSortKey
import PyProof.Rows.SortRuns
import PyProof.Rows.SortShell
import PySem.Challenge.RW_hookrail_k56_refused_yards
open Array renaming length_toList→zN,getElem?_toList→yE,toList_append→yd,getElem?_eq_getElem→yg,getElem?_eq_none→xS,toList_extract→xt,toList_reverse→wL,perm_iff_toList_perm→wM,toList_eraseIdxIfInBounds→wd,toArray_toList→wm,getElem?_eq_some_iff→ww,toList_setIfInBounds→wx,toList_push→w9,getElem?_push→Zk,forIn_toList→Zu,toList→Ye
open Array.Perm renaming refl→YQ
open Bool renaming false_eq_true→zW,and_eq_true→zc,and_false→zt,false_and→yB,not_false→yG,or_false→yH,false_or→yM,and_true→yN,not_true→yY,true_and→yZ,true_or→yb,or_true→yc,false_ne_true→ym,and_eq_true_iff→wJ,not_eq_true'→ZB
open Int renaming reduceToNat→z9,reducePow→yD,reduceSub→yR,reduceAdd→yS,reduceMul→yT,reduceMod→yU,reduceDiv→yV,reduceNeg→yW,reduceBEq→yX,reduceLT→yi,reduceLE→yj,le_refl→yn,le_trans→y9,toNat_natCast→xI,le_of_lt→xZ,emod_nonneg→ZZ,toNat_of_nonneg→Zm,lt_trans→Z7,le_antisymm→YM,natCast_add→YT
open List renaming length_map→zB,length_cons→zC,length_append→zD,mem_cons→zF,getElem?_eq_getElem→zG,getElem?_set_ne→zH,mem_cons_of_mem→zI,mem_cons_self→zJ,size_toArray→zM,map_cons→zO,replicate_succ→zQ,append_assoc→zR,length_nil→zS,mem_append→zT,getElem?_cons_zero→zU,getElem?_cons_succ→zV,getD_eq_getElem?_getD→zY,pairwise_append→zZ,replicate_zero→za,mem_singleton→zb,set_cons_succ→ze,set_cons_zero→zf,nil_append→zg,getElem?_map→zh,pairwise_cons→zi,replicate→zj,map_append→zk,cons_append→zn,mem_append_right→zu,not_mem_nil→zv,length_singleton→zz,map_nil→yA,getElem?_append_right→yC,getElem?_eq_some_iff→yF,mem_append_left→yJ,length_take→yK,getElem?_eq_none→yL,length_range→yO,range→ya,mem_iff_getElem→ye,getElem?_append_left→yf,length_replicate→yk,length_set→yp,getElem?_set_self→yr,append_nil→yu,flatten_cons→yv,take_append_drop→yx,length_drop→yy,all_eq_true→yz,countP_cons→xB,mem_map→xC,mem_reverse→xG,lookup_cons→xL,eq_nil_of_length_eq_zero→xM,getElem?_replicate→xO,mem_of_getElem?→xP,mem_of_mem_drop→xQ,take_of_length_le→xR,map_map→xU,perm_append_comm→xW,getElem_mem→xX,mem_of_mem_take→xb,getElem_take→xg,nodup_cons→xh,filterMap_cons→xi,countP_eq_zero→xj,countP_le_length→xn,pairwise_iff_getElem→xo,drop_eq_getElem_cons→xp,getElem_drop→xu,all_cons→xv,getElem?_range→xw,reverse_append→xy,mem_range→xz,mem_filter→wA,find?_cons→wB,countP_replicate→wF,ext_getElem?→wG,length→wH,reverse_reverse→wK,all_map→wN,getElem?_eq_none_iff→wO,getLast?_eq_none_iff→wP,extract_eq_take_drop→wQ,getElem?_take_of_lt→wS,any_cons→wT,sum_cons→wU,forIn_cons→wW,getElem_inj→wf,take_length→wg,getElem_map→wj,countP_eq_length_filter→wo,dropLast_concat_getLast→wp,mem_filterMap→wq,length_eraseIdx_of_lt→wu,forIn_nil→wv,getElem?_take_eq_none→wy,take_sublist→w8,nodup_append→ZA,flatMap_cons→ZD,take_append_getElem→ZF,eq_of_mem_replicate→ZG,drop_length→ZI,filter_cons_of_pos→ZJ,filter_cons_of_neg→ZK,zipIdx_cons→ZL,length_eq_zero_iff→ZM,filter_cons→ZN,foldl→ZP,pairwise_lt_range→ZQ,range_succ_eq_map→ZR,set_set→ZT,drop_of_length_le→ZU,flatMap_singleton→ZV,of_mem_zip→ZX,countP_map→Za,dropLast_eq_take→Zb,nodup_nil→Ze,take_take→Zg,mem_of_getLast?→Zh,filter_eq_self→Zj,length_pos_iff→Zl,countP_pos_iff→Zn,flatMap_append→Zo,map_drop→Zp,filterMap_map→Zs,countP_append→Zv,map_replicate→Zw,any_eq_false→Zx,reverse_cons→Z0,drop_sublist→Z2,take_add_one→Z5,foldl_append→Z9,countP_congr→YB,filter_congr→YC,perm_middle→YG,map_reverse→YH,mem_flatMap→YI,any_eq_true→YJ,nodup_range→YK,foldl_cons→YL,zipIdx_nil→YN,countP_nil→YR,all_append→YU,drop_drop→YX,drop_take→YY,take_left→YZ,drop_zero→Ya,count→Yb,map_take→Yd
open List.Pairwise renaming nil→xf,sublist→we
open List.Perm renaming append_left→yo,append_right→xT,trans→xV,refl→xl
open Nat renaming le_refl→zL,ne_of_lt→zo,zero_add→zr,lt_of_lt_of_le→zy,reduceSub→yP,reduceAdd→yQ,reduceLT→yh,zero_le→yq,lt_or_ge→yt,lt_succ_of_lt→yw,le_trans→y8,lt_succ_self→xA,le_of_lt→xH,lt_irrefl→xY,add_sub_cancel→xm,le_succ→wI,not_lt_zero→wV,ne_of_gt→wY,le_succ_of_le→wb,add_assoc→wk,add_sub_cancel_left→ZH,le_of_ble_eq_true→Zc,lt_of_le_of_lt→Zt,add_comm→Z1,lt_trans→Z3,sub_self→Z6,min_eq_left→YO
open Option renaming bind_some→zX,map_some→zd,isSome_iff_exists→xF,map_eq_some_iff→wZ,isSome_map→Z8,getD_none→YF,none→Yf,bind→Yg
open Option.some renaming inj→z0
open PySem.Heap renaming get?_push_of_some→zE,lt_size→zK,get?_push_size→zP,size_push→xE,get?_update_other→xK,SameBut→xq,get?_update_self→wE,get?_some_iff→wX,FlyingW→YA,MadeExcOf→YW
open PySem.Heap.IsSliceOf renaming new→Yh
open PySem.Heap.SameBut renaming update→Zi,refl→Z4
open PySem.W renaming Frag→zA,kitOne→zw,nsIn→zx,mg_none_of→yI,kia_one→xD,mg_of→xJ,mroIn→xN,keepIn→xa,findIn→xk,fnOf→xr,excIn→wC,clsIn→wD,hideAll_get→wR,codeIn→wt,methodObj→wz,cellsFrom_some→ZO,instObj→ZW,OpenLaw→ZY,lookIn→Zd,kitAny→Zf,of_hideAll→Zq,callWith_K→Zr,kitx_list→Zy,kitx_dict→Zz,plainGet→YD,kIn_of→YV,WalkO→Yc
open PyProof.Rows renaming wpS_bind→vM,wpS_pure→vO,Keyed→vT,arrOf→vU,pendingOf→va,SortSt→vk,wpS_forRange→vm,oneType'→v4,wpS_mono→uA,IntsAre→uC,failedOf→uP,seqObj→uS,wpS_modify→uo,AllBare→uy,wpS_get→tF,wpS_lift→tP,subscriptTail_builtinR→tT,envOfC→tY,args_list_sort→tf,subscriptTail→t7,args_tuple_getitem→sD,plain_sorted→sH,entry_sorted→sI,args_sorted1→sJ,kind_sorted→sS,minRun'→sW
open PySem renaming wpAny_bind→vA,Shared→vB,Addr→vC,wpAny_pure→vF,starEach→vJ,wpAny→vL,FuncData→vN,mainGlobals→vP,Program→vS,Expr→vW,World→vY,Around→vZ,wpAny_ite_split→vb,wpAny_call_entry→vc,bootBuiltins→ve,Heap→vf,wpAny_mono→vg,wpAny_setField_rec→vh,wpAny_holding→vi,wpAny_newObj_type→vj,Stmt→vn,sizeLine_eq→vo,backTo→vp,wpAny_field→vq,foldedSetIterable→vt,wpAny_setState_of→vx,swapsWith→vy,behindInMarks→vz,wpAny_seqItems→v3,rawInt→v5,wpAny_nextOf_list_item→v6,builtinLookup_eq_fast→v7,wpAny_rule→v8,wpAny_isInstance→v9,wpAny_truthy_bool→uB,pyNext→uD,wpAny_attempt→uE,sysModules→uF,wpAny_Call_Name_kw→uH,IsPair→uI,compareOp→uJ,wpAny_passesOwn→uK,codeAny_builtin→uL,assignEach→uM,attributeBase→uN,binaryOp→uO,NameKind→uQ,typeLookup_type→uR,wpAny_nextOf_list_end→uT,Keyword→uU,isSubtype_stop→uV,intItems→uW,codeAny_mono→uX,scanBound→uY,Scope→uZ,cLine→ua,plainId_quiet→ub,wpAny_execs_nil→uc,codeAny→ud,tupleKind_room_in1→ue,sliceBounds→uf,keywordEach→ug,wpAny_pyIter_list→uh,wpAny_typeOf→ui,isSubtype_type→uj,wpAny_loadPart_at→uk,pickOrder→um,wpAny_onRaise→uq,codeAny_call_builtin→ur,wpAny_updateSeq_pair→ut,letOwnedTupleGo→uu,wpAny_specialOf→uv,wpAny_updateSeq→uw,intKind→ux,getItem→uz,setNext→u5,call_meets→u6,wpAny_fieldsOf→u7,firstArgMember→u8,wpAny_newTuple→u9,ZipApart→tD,wpAny_pyIter_slot→tE,wpAny_newList→tG,wpAny_comprehension_free→tH,tupleKind→tI,wpAny_execs_cons→tJ,PassesOwn→tK,backToKw→tL,checkBuiltinCall→tM,wpAny_askSetting→tN,numAt→tO,IsPart→tQ,typeLookup→tS,wpAny_isTrue_Compare1→tU,GenState→tV,Model→tW,Result→tX,codeAny_extend_loopS→tZ,wpAny_letGo→tj,intItems_at→tm,excClassObj→tq,unbindBehindTheSuite→tt,callerA→tu,valueAt→tw,wpAny_isSubtype_exc→t4,wpAny_standAt→t6,pyIter→t9,wpAny_pyIter_tuple→sC,BindsTo→sF,slotArgs→sG,call_meetsIn→sK,Paired→sM,Drawn→sN,CmpOp→sO,seqIndex_of→sP,wpAny_of_eq→sQ,loadIfAlive→sT,atKey→sU,hashInt→sV,isTrue→sZ,argsOk→sf,raiseNew→si,numAt_eq→sq
open PySem.W renaming looks_findIn→sL
noncomputable def vG:=@if_pos
noncomputable def vH:=@if_neg
noncomputable def vK:=@absurd
noncomputable def vQ:=@decide_eq_true
noncomputable def vX:=@decide_eq_false
noncomputable def uG:=@congrArg
local macro_rules|`(∅)=>`(by omega)
local macro_rules|`(⋯)=>`(by decide +kernel)
local macro_rules|`(↥$x)=>`(some (.sh $x))
local macro_rules|`(⇑$x)=>`(by simpa using $x)
local macro_rules|`(tactic|omega)=>`(tactic|lia)
set_option Elab.async false
set_option linter.all false
set_option maxRecDepth 100000
namespace L2
open PySem PySem.Spec PyProof.Rows
noncomputable abbrev Key:=Sum Int Str
noncomputable def zBM:Key->Value->Bool
 | .inl k,v=>Value.isInt k v
 | .inr x,v=>Value.isStrOf x v
noncomputable def keyH(w:vY):Key->Int
 | .inl k=>sV k
 | .inr x=>hashStr w x
def q0X:∀{k:Key}{v:Value},zBM k v=true->(∃i t,k=Sum.inl i/\v=Value.int i t)\/(∃x t,k=Sum.inr x/\v=Value.str x t)
 | .inl i,v,h=>by
  obtain⟨t,e⟩:=Value.isInt_shape (k:=i) (v:=v) h;exact .inl ⟨i,t,rfl,e⟩
 | .inr x,v,h=>by
  obtain⟨t,e⟩:=Value.isStrOf_shape (x:=x) (v:=v) h;exact .inr ⟨x,t,rfl,e⟩
def qcp(i:Int)(t:Tok):zBM (.inl i) (.int i t)=true:=by simp[zBM,Value.isInt]
def qcu(x:Str)(t:Tok):zBM (.inr x) (.str x t)=true:=by simp[zBM,Value.isStrOf]
def qfe(a b:Int):decide ((Sum.inl a:Key)=Sum.inl b)=(a==b):=by
 by_cases e:a=b
 ·subst e;simp
 ·have h:¬(Sum.inl a:Key)=Sum.inl b:=λq=>e (Sum.inl.inj q)
  rw[vX h];exact(beq_eq_false_iff_ne.mpr e).symm
def qfb(a b:Str):decide ((Sum.inr a:Key)=Sum.inr b)=decide (a=b):=by
 by_cases e:a=b
 ·subst e;simp
 ·have h:¬(Sum.inr a:Key)=Sum.inr b:=λq=>e (Sum.inr.inj q)
  rw[vX h,vX e]
def qfk(a:Int)(b:Str):decide ((Sum.inl a:Key)=Sum.inr b)=false:=vX (λq=>nomatch q)
def qg4(a:Str)(b:Int):decide ((Sum.inr a:Key)=Sum.inl b)=false:=vX (λq=>nomatch q)
noncomputable def Yz(prog:vS)(w:vY):PySem.KeyKind prog w Key where
 is:=zBM
 hash:=keyH w
 inj:=λv a b ha hb=>by
  rcases q0X ha with⟨i,t,rfl,rfl⟩|⟨x,t,rfl,rfl⟩
  ·rcases q0X hb with⟨j,u,rfl,e⟩|⟨y,u,rfl,e⟩
   ·injection e with e1 _;rw[e1]
   ·exact nomatch e
  ·rcases q0X hb with⟨j,u,rfl,e⟩|⟨y,u,rfl,e⟩
   ·exact nomatch e
   ·injection e with e1 _;rw[e1]
 byValue:=λk v h=>by
  rcases q0X h with⟨i,t,rfl,rfl⟩|⟨x,t,rfl,rfl⟩ <;> rfl
 pyHash:=λhv h=>by
  rcases q0X hv with⟨i,t,rfl,rfl⟩|⟨x,t,rfl,rfl⟩
  ·exact wpAny_pyHash_int h
  ·exact wpAny_pyHash_str h
 eqBool:=λhu hv h=>by
  rcases q0X hu with⟨i,t,rfl,rfl⟩|⟨x,t,rfl,rfl⟩
  ·rcases q0X hv with⟨j,u,rfl,rfl⟩|⟨y,u,rfl,rfl⟩
   ·rw[qfe]at h;exact wpAny_eqBool_int h
   ·rw[qfk]at h;exact SeqAt.EqAt.int_str i t y u _ _ _ _ h
  ·rcases q0X hv with⟨j,u,rfl,rfl⟩|⟨y,u,rfl,rfl⟩
   ·rw[qg4]at h;exact SeqAt.EqAt.str_int x t j u _ _ _ _ h
   ·rw[qfb]at h;exact wpAny_eqBool_str h
 «strs»:=λk x t v h=>by
  rcases q0X h with⟨i,u,rfl,e⟩|⟨y,u,rfl,e⟩
  ·exact nomatch e
  ·injection e with e1 _
   subst e1;cases v <;> rfl
def q9S(prog:vS)(w:vY)(i:Int)(t:Tok):(Yz prog w).is (.inl i) (.int i t)=true:=qcp i t
def q9W(prog:vS)(w:vY)(x:Str)(t:Tok):(Yz prog w).is (.inr x) (.str x t)=true:=qcu x t
inductive V where
 | non|bl (b:Bool)|int (i:Int)|str (x:Str)|byt (b:Array UInt8)|flt (b:UInt64)|ref (a:vC)|ty (n:String)
 deriving DecidableEq
def RelV:V->Value->Prop
 | .non,u=>u=Value.none
 | .bl b,u=>u=Value.bool b
 | .int i,u=>∃t,u=Value.int i t
 | .str x,u=>∃t,u=Value.str x t
 | .byt b,u=>∃t,u=Value.bytes b t
 | .flt b,u=>∃t,u=Value.float b t
 | .ref a,u=>u=Value.ref a
 | .ty n,u=>u=Value.type n
abbrev Y3:List V->List Value->Prop:=sM RelV
theorem Y3.length{xs:List V}{us:List Value}(r:Y3 xs us):xs.length=us.length:=Paired.length r
theorem Y3.get:∀{xs:List V}{us:List Value}{i:Nat}{x:V},Y3 xs us->xs[i]?=some x->∃u,us[i]?=some u/\RelV x u
 | _,_,_,_,.nil,e=>by simp at e
 | _,_,0,_,.cons r _,e=>by simp at e;subst e;exact⟨_,rfl,r⟩
 | _,_,i+1,x,.cons _ t,e=>by
  obtain⟨u,h1,h2⟩:=Y3.get (i:=i) (x:=x) t ⇑e;exact⟨u,by simpa using h1,h2⟩
theorem Y3.set{x:V}{u:Value}(r:RelV x u):∀{xs:List V}{us:List Value}(i:Nat),Y3 xs us->Y3 (xs.set i x) (us.set i u)
 | _,_,_,.nil=>.nil
 | _,_,0,.cons _ t=>.cons r t
 | _,_,i+1,.cons q t=>.cons q (Y3.set r i t)
theorem Y3.append:∀{xs ys:List V}{us ws:List Value},Y3 xs us->Y3 ys ws->Y3 (xs++ys) (us++ws)
 | _,_,_,_,.nil,s=>s
 | _,_,_,_,.cons r t,s=>.cons r (Y3.append t s)
theorem Y3.take:∀{xs:List V}{us:List Value}(n:Nat),Y3 xs us->Y3 (xs.take n) (us.take n)
 | _,_,0,_=>.nil
 | _,_,_+1,.nil=>.nil
 | _,_,n+1,.cons r t=>.cons r (Y3.take n t)
theorem Y3.drop:∀{xs:List V}{us:List Value}(n:Nat),Y3 xs us->Y3 (xs.drop n) (us.drop n)
 | _,_,0,r=>r
 | _,_,_+1,.nil=>.nil
 | _,_,n+1,.cons _ t=>Y3.drop n t
def zBI:Option V->Option Value->Prop
 | some v,some u=>RelV v u
 | none,none=>True
 | _,_=>False
def KV{κ:Type}:List (κ×V)->List (κ×Value)->Prop:=sM λ(p:κ×V) (q:κ×Value)=>p.1=q.1/\RelV p.2 q.2
noncomputable def kV:Key->V
 | .inl i=>.int i
 | .inr x=>.str x
inductive HO where
 
 | lst (xs:List V)
 
 | tup (xs:List V)
 
 | dK (kvs:List (Key×V))|dT (kvs:List (List Key×V))
 
 | set (S:Int->Bool) (n:Nat)
 
 | ins (C dx:vC) (fs:List (Str×V))
 
 | own (x:vC)
 
 | xd (fs:List (Str×V))
 
 | met (f x:vC)
 
 | rng (lo hi:Int)
 
 | frz (o:Obj) (u:HO)
 
 | tbl (ps:Array Value)
 
 | ext (φ:vf->Prop)
noncomputable abbrev Hp:=vC->Option HO
noncomputable def upd(H:Hp)(a:vC)(o:HO):Hp:=λb=>if b=a then some o else H b
def qe{H:Hp}{a:vC}{o:HO}:upd H a o a=some o:=by unfold upd;rw[vG rfl]
def qc{H:Hp}{a b:vC}{o:HO}(h:b≠a):upd H a o b=H b:=by unfold upd;rw[vH h]
def qgd{H:Hp}{a b:vC}{o u:HO}(h:H a=some o)(h':H b=some u)(d:o≠u):a≠b:=by
 intro e;subst e;rw[h]at h';exact d (z0 h')
def q2y{H:Hp}{a b:vC}{o:HO}(h:H a=some o)(h':H b=none):a≠b:=by
 intro e;subst e;rw[h]at h';cases h'
section
variable(P:vS)(w:vY)
def Y5(H:Hp)(h:vf)(a:vC):HO->Prop
 | .lst xs=>xs.length<=sizeLine/\∃(its:List Value) (n:Nat),Y3 xs its/\h.get? a=some { cls:=.type "list", data:=.seq its.toArray n }
 | .tup xs=>xs.length<=sizeLine/\∃its:List Value,Y3 xs its/\IsTup h a its.toArray
 | .dK kvs=>kvs.length<=sizeLine/\(a==uF)=false/\∃vs,KV kvs vs/\h.DictOf (Yz P w) a vs
 | .dT kvs=>kvs.length<=sizeLine/\(a==uF)=false/\∃xs:List (List Key×vC×Value),
   sM (λ(p:List Key×V) (q:List Key×vC×Value)=>p.1=q.1/\H q.2.1=some (.tup (p.1.map kV))/\RelV p.2 q.2.2) kvs xs /\
   ∃o es ep,h.get? a=some o/\o.ExactDict/\o.data=.dict es ep/\es.toList=xs.map (entryOfKey (tI (Yz P w)))/\(xs.map (·.1)).Nodup
 | .set S n=>h.SetOf (ux P w) a S n
 | .ins C dx fs=>H dx=some (.own a)/\fs.length<=1000/\dx≠a/\h.get? a=some (ZW C dx) /\
   ∃mA,h.Ns1 dx mA/\(∀f,zBI (fs.lookup f) (mA f))/\PySem.Within mA (fs.map (·.1))
 | .own _=>∃o,h.get? a=some o
 | .xd fs=>∃mA,h.Ns1 a mA/\∀f,zBI (fs.lookup f) (mA f)
 | .rng lo hi=>∃t u v,h.get? a=some { cls:=.type "range", data:=.fields #[.int lo t,.int hi u,.int 1 v] }
 | .frz o u=>h.get? a=some o/\Y5 H h a u
 | .tbl ps=>h.get? a=some { cls:=.none,data:=.fields ps }
 | .met f x=>h.get? a=some (wz (.ref f) (.ref x))
 | .ext φ=>φ h/\(∃o,h.get? a=some o)/\∀h1 h2:vf,φ h1->(∀o,h1.get? a=some o->h2.get? a=some o)->φ h2
def HOk(H:Hp)(h:vf):Prop:=∀a o,H a=some o->Y5 P w H h a o
end
section
variable{P:vS}{w:vY}{H H':Hp}{h h':vf}{a:vC}{o:HO}
theorem Y5.lt(x:Y5 P w H h a o):a<h.objs.size:=by
 cases o with
 | lst xs=>obtain⟨_,_,_,_,e⟩:=x;exact zK e
 | tup xs=>obtain⟨_,_,_,p⟩:=x;exact p.lt
 | dK kvs=>obtain⟨_,_,_,_,o,_,_,e,_⟩:=x;exact zK e
 | dT kvs=>obtain⟨_,_,_,_,o,_,_,e,_⟩:=x;exact zK e
 | set S n=>obtain⟨o,_,_,_,e,_⟩:=x;exact zK e
 | ins C dx fs=>obtain⟨_,_,_,e,_⟩:=x;exact zK e
 | own y=>obtain⟨_,e⟩:=x;exact zK e
 | xd fs=>obtain⟨_,⟨_,_,_,e,_⟩,_⟩:=x;exact zK e
 | rng lo hi=>obtain⟨_,_,_,e⟩:=x;exact zK e
 | frz ob u=>obtain⟨e,_⟩:=x;exact zK e
 | tbl ps=>exact zK (show h.get? a=some _ from x)
 | met f y=>exact zK (show h.get? a=some _ from x)
 | ext φ=>obtain⟨_,⟨_,e⟩,_⟩:=x;exact zK e
theorem Paired.mapP{α β:Type}{F G:α->β->Prop}:∀{l₁:List α}{l₂:List β},sM F l₁ l₂->(∀a b,F a b->G a b)->sM G l₁ l₂
 | _,_,.nil,_=>.nil
 | _,_,.cons r t,f=>.cons (f _ _ r) (Paired.mapP t f)
def Y5.stay(x:Y5 P w H h a o)(k:∀b u,(b=a\/H b=some (.own a))->h.get? b=some u->h'.get? b=some u)(ho:∀b,H b=some (.own a)->H' b=some (.own a))(ht:∀b xs,H b=some (.tup xs)->H' b=some (.tup xs)):Y5 P w H' h' a o:=by
 induction o with
 | lst xs=>obtain⟨z,its,n,r,e⟩:=x;exact⟨z,its,n,r,k _ _ (.inl rfl) e⟩
 | tup xs=>obtain⟨z,its,r,ob,e,c⟩:=x;exact⟨z,its,r,ob,k _ _ (.inl rfl) e,c⟩
 | dK kvs=>obtain⟨z,y,vs,r,ob,es,ep,e,c⟩:=x;exact⟨z,y,vs,r,ob,es,ep,k _ _ (.inl rfl) e,c⟩
 | dT kvs=>
  obtain⟨z,y,xs,r,ob,es,ep,e,c⟩:=x;exact⟨z,y,xs,Paired.mapP r λp q z=>⟨z.1,ht _ _ z.2.1,z.2.2⟩,ob,es,ep,k _ _ (.inl rfl) e,c⟩
 | set S n=>obtain⟨ob,es,ep,t,e,c⟩:=x;exact⟨ob,es,ep,t,k _ _ (.inl rfl) e,c⟩
 | ins C dx fs=>
  obtain⟨d,z,ne,e,mA,⟨od,es,ep,e2,c⟩,r⟩:=x;exact⟨ho _ d,z,ne,k _ _ (.inl rfl) e,mA,⟨od,es,ep,k _ _ (.inr d) e2,c⟩,r⟩
 | own y=>obtain⟨ob,e⟩:=x;exact⟨ob,k _ _ (.inl rfl) e⟩
 | xd fs=>obtain⟨mA,⟨od,es,ep,e,c⟩,r⟩:=x;exact⟨mA,⟨od,es,ep,k _ _ (.inl rfl) e,c⟩,r⟩
 | rng lo hi=>obtain⟨t,u,v,e⟩:=x;exact⟨t,u,v,k _ _ (.inl rfl) e⟩
 | frz ob u ih=>obtain⟨e,q⟩:=x;exact⟨k _ _ (.inl rfl) e,ih q⟩
 | tbl ps=>
  have e:h.get? a=some { cls:=.none,data:=.fields ps }:=x;show h'.get? a=some { cls:=.none,data:=.fields ps };exact k a _ (.inl rfl) e
 | met f y=>
  have e:h.get? a=some (wz (.ref f) (.ref y)):=x;show h'.get? a=some (wz (.ref f) (.ref y));exact k a _ (.inl rfl) e
 | ext φ=>obtain⟨p,⟨o,e⟩,st⟩:=x;exact⟨st _ _ p λo q=>k _ _ (.inl rfl) q,⟨o,k _ _ (.inl rfl) e⟩,st⟩
theorem HOk.lt(x:HOk P w H h)(e:H a=some o):a<h.objs.size:=(x a o e).lt
def HOk.fresh(x:HOk P w H h)(e:h.objs.size<=a):H a=none:=by
 cases q:H a with
 | none=>rfl
 | some u=>exact vK (zy (x.lt q) e) (xY _)
def HOk.kept(x:HOk P w H h)(k:∀b u,h.get? b=some u->h'.get? b=some u):HOk P w H h':=λa o e=>
 (x a o e).stay (λb u _ q=>k b u q) (λ_ q=>q) λ_ _ q=>q
def HOk.laid(x:HOk P w H h)(k:∀b u,h.get? b=some u->h'.get? b=some u)(hp:h.objs.size<=a)(new:Y5 P w (upd H a o) h' a o):HOk P w (upd H a o) h':=λb u e=>by
 have hn:=x.fresh hp
 by_cases hb:b=a
 ·subst hb;rw[qe]at e;cases e;exact new
 ·rw[qc hb]at e
  exact(x b u e).stay (λc v _ q=>k c v q) (λc q=>by rw[qc (q2y q hn)];exact q) λc xs q=>by rw[qc (q2y q hn)];exact q
end
def Rd(H:Hp)(a:vC)(u:HO):Prop:=H a=some u\/∃o,H a=some (.frz o u)
def Rd.ok{P:vS}{w:vY}{H:Hp}{h:vf}{a:vC}{u:HO}(r:Rd H a u)(x:HOk P w H h):Y5 P w H h a u:=by
 rcases r with r|⟨o,r⟩
 ·exact x a u r
 ·obtain⟨_,q⟩:=x a _ r
  exact q
def Mut:Option HO->Prop
 | some (.lst _)=>True
 | some (.dK _)=>True
 | some (.dT _)=>True
 | some (.set _ _)=>True
 | some (.ins _ _ _)=>True
 | some (.ext _)=>True
 | _=>False
section
variable{P:vS}{w:vY}{H:Hp}{h h':vf}{x e:vC}{o':HO}
def HOk.write(ok:HOk P w H h)(mu:Mut (H x))(he:e=x\/H e=some (.own x))(k:∀b u,b≠e->h.get? b=some u->h'.get? b=some u)(heo:∃u,h'.get? e=some u)(new:Y5 P w (upd H x o') h' x o'):HOk P w (upd H x o') h':=λb u q=>by
 have nown:∀c y,H c=some (.own y)->c≠x:=λc y r z=>by subst z;rw[r]at mu;exact mu
 have ntup:∀c xs,H c=some (.tup xs)->c≠x:=λc xs r z=>by subst z;rw[r]at mu;exact mu
 by_cases hb:b=x
 ·subst hb;rw[qe]at q;cases q;exact new
 ·rw[qc hb]at q
  by_cases hbe:b=e
  ·have q':H b=some (.own x):=by
    rcases he with z|z
    ·exact vK (hbe.trans z) hb
    ·rw[hbe];exact z
   rw[q]at q';cases q';obtain⟨v,hv⟩:=heo;exact⟨v,by rw[hbe];exact hv⟩
  ·refine(ok b u q).stay (λc v hc r=>k c v ?_ r) (λc r=>by rw[qc (nown c b r)];exact r) λc xs r=>by rw[qc (ntup c xs r)];exact r
   rcases hc with rfl|hc
   ·exact hbe
   ·rintro rfl
    rcases he with z|z
    ·exact nown c b hc z
    ·rw[hc]at z;cases z;exact hb rfl
end
structure Un (fs ex:List vC) (H H':Hp) (h h':vf):Prop where
 keep:∀b o,h.get? b=some o->H b=none->b∉fs->b∉ex->h'.get? b=some o
 slot:∀b o,h.get? b=some o->H b=none->b∈fs->b∉ex->∃sl,h'.get? b=some { o with slots:=sl }
 free:∀b o,h.get? b=some o->H b=none->b∉ex->H' b=none
 there:∀b o,h.get? b=some o->b∉ex->∃o',h'.get? b=some o'
 tups:∀b xs,H b=some (.tup xs)->H' b=some (.tup xs)
 frzs:∀b o u,H b=some (.frz o u)->H' b=some (.frz o u)
 tbls:∀b ps,H b=some (.tbl ps)->∃more,H' b=some (.tbl (ps++more))
section
variable{fs fs' ex ex':List vC}{H H1 H2:Hp}{h h1 h2 h':vf}{a x e:vC}{o:HO}
def Un.any(u:Un fs ex H H1 h h1){b:vC}{ob:Obj}(q:h.get? b=some ob)(n:H b=none)(hx:b∉ex):∃sl,h1.get? b=some { ob with slots:=sl }:=by
 by_cases hb:b∈fs
 ·exact u.slot b ob q n hb hx
 ·exact⟨ob.slots,u.keep b ob q n hb hx⟩
def Un.kept(k:∀b u,h.get? b=some u->h'.get? b=some u):Un fs ex H H h h' :=
 ⟨λb ob q _ _ _=>k b ob q,λb ob q _ _ _=>⟨ob.slots,k b ob q⟩,λ_ _ _ n _=>n,λb ob q _=>⟨ob,k b ob q⟩,λ_ _ q=>q,λ_ _ _ q=>q,λ_ ps q=>⟨#[],by rw[q];simp⟩⟩
def Un.refl:Un fs ex H H h h:=Un.kept λ_ _ q=>q
def Un.laid(k:∀b u,h.get? b=some u->h'.get? b=some u)(hp:h.objs.size<=a)(hn:H a=none):Un fs ex H (upd H a o) h h' where
 keep:=λb u q _ _ _=>k b u q
 slot:=λb u q _ _ _=>⟨u.slots,k b u q⟩
 free:=λb u q n _=>by rw[qc (zo (zy (zK q) hp))];exact n
 there:=λb u q _=>⟨u,k b u q⟩
 tups:=λb xs q=>by rw[qc (q2y q hn)];exact q
 frzs:=λb u xs q=>by rw[qc (q2y q hn)];exact q
 tbls:=λb ps q=>⟨#[],by rw[qc (q2y q hn),q];simp⟩
def Un.write(mu:Mut (H x))(he:e=x\/H e=some (.own x))(k:∀b u,b≠e->h.get? b=some u->h'.get? b=some u)(heo:∃u,h'.get? e=some u):Un fs ex H (upd H x o) h h':=by
 have hx:∀b,H b=none->b≠x:=λb n z=>by subst z;rw[n]at mu;exact mu
 have hb:∀b,H b=none->b≠e:=λb n z=>by
  subst z;rcases he with r|r
  ·exact hx b n r
  ·rw[n]at r;cases r
 have hm:∀b u,H b=some u->¬Mut (some u)->b≠x:=λb u q nm z=>by subst z;rw[q]at mu;exact nm mu
 refine⟨λb u q n _ _=>k b u (hb b n) q,λb u q n _ _=>⟨u.slots,k b u (hb b n) q⟩,λb u q n _=>by rw[qc (hx b n)];exact n,λb u q _=>?_,
  λb xs q=>by rw[qc (hm b _ q λz=>z)];exact q,λb u xs q=>by rw[qc (hm b _ q λz=>z)];exact q,λb ps q=>⟨#[],by rw[qc (hm b _ q λz=>z),q];simp⟩⟩
 by_cases hbe:b=e
 ·subst hbe;exact heo
 ·exact⟨u,k b u hbe q⟩
end
noncomputable def trk(h:vf)(H:Hp):List vC:=(ya h.objs.size).filter λa=>(H a).isSome
noncomputable def zCM(h:vf)(H:Hp):vf:=PySem.W.hideAll h (trk h H)
def qcH(h:vf)(H:Hp):(zCM h H).objs.size=h.objs.size:=PySem.W.hideAll_size _ _
def qdj{h:vf}{H:Hp}{b:vC}{o:Obj}(e:h.get? b=some o)(n:H b=none):(zCM h H).get? b=some o :=
 wR _ e λhm=>by
  have q:(H b).isSome=true:=(wA.mp hm).2;rw[n]at q;simp at q
def qez{h:vf}{H:Hp}{b:vC}{o:Obj}(e:(zCM h H).get? b=some o):h.get? b=some o/\H b=none:=by
 have e':h.get? b=some o:=Zq (trk h H) e;refine⟨e',?_⟩;cases q:H b with
 | none=>rfl
 | some x=>
  have hm:b∈trk h H:=wA.mpr ⟨xz.mpr (zK e'),by simp[q]⟩;have z:(zCM h H).get? b=none:=PySem.W.hideAll_none (trk h H) hm;rw[z]at e;cases e
noncomputable def zCj(g h:vf)(L:vC):List (vC×Obj):=(ya h.objs.size).filterMap λa=>if a=L\/(g.get? a).isSome=true then none else (h.get? a).map λo=>(a,o)
noncomputable def rest(g h:vf)(L d:vC):List (vC×Obj):=(zCj g h L).filter λp=>decide (p.1≠d)
structure Mod (K:zA) (mg:Str->Option Value) (base:vf):Prop where
 kin:K.In base
 glob:base.Ns vP mg
 blt:∃mb,base.Ns builtinsNs mb/\∀x:Str,x ≠ "__name__" -> mb x=ve x
 nolimit:base.NoLimit
structure Cx where
 prog:vS
 w:vY
 K:zA
 mg:Str->Option Value
 base:vf
 A:vZ
 N:List Str
 s₀:vB
 H₀:Hp
 env:Env
 outer:List Env
 stack:List Env
 ex:List vC
 fn:Str->Bool
 calm:Bool
 pn:List (vC×Obj)
 xe:Value->vB->Prop
noncomputable def frs(l:List Env):List vC:=l.filterMap (·.frame)
noncomputable abbrev Cx.fs(X:Cx):List vC:=frs X.outer
def Vis(sc:uZ)(x:Str):Prop:=sc.names.lookup x=some .local\/sc.names.lookup x=some .cell\/sc.names.lookup x=some .free
def Loc(sc:uZ)(x:Str):Prop:=sc.names.lookup x=some .local\/sc.names.lookup x=some .cell
def Look(env:Env)(h:vf)(m:Str->Option Value)(x:Str)(u:Value):Prop :=
 (env.kindOf x=some .local/\m x=some u)\/((env.kindOf x=some .cell\/env.kindOf x=some .free)/\∃c,env.cells.lookup x=some c/\h.IsCell c (some u))
structure Cx.Ok (X:Cx):Prop where
 mod:Mod X.K X.mg X.base
 kind:X.env.scope.kind=.function
 glob:X.env.globals=vP
 blt:X.env.builtins=builtinsNs
 above:X.s₀.heap.objs.size<=X.env.locals
 inj:∀x y c,X.env.cells.lookup x=some c->X.env.cells.lookup y=some c->x=y
 has:∀x,(X.env.kindOf x=some .cell\/X.env.kindOf x=some .free)->∃c,X.env.cells.lookup x=some c
 cab:∀x c,X.fn x=true->X.env.cells.lookup x=some c->X.s₀.heap.objs.size<=c
 hd:X.calm=true->X.A.handled=none
 frames:X.A.frames=some X.stack
 stk:X.stack=X.outer\/(X.stack=X.env::X.outer/\X.env.frame=some X.env.locals)
 exf:∀b∈X.ex,b≠X.env.locals/\∀x c,X.env.cells.lookup x=some c->c≠b
 bs:∀b o,X.base.get? b=some o->X.s₀.heap.get? b=some o/\X.H₀ b=none
 bsz:X.base.objs.size<=X.s₀.heap.objs.size
 noex:∀b o,X.base.get? b=some o->b∉X.ex
 exfs:∀b∈X.ex,b∉X.fs
 funs:X.s₀.heap.FunFrames X.base X.outer
 frf:∀b∈X.fs,X.H₀ b=none
structure Inv (X:Cx) (pins:List (vC×Obj)) (σ:List (Option V)) (H:Hp) (s:vB):Prop where
 ok:X.Ok
 os:s.os=X.s₀.os
 bare:uy s.gens
 base:Un X.fs X.ex X.H₀ H X.s₀.heap s.heap
 loc:∃m,s.heap.Ns X.env.locals m/\∀(i:Nat)(x:Str)(v:V),X.N[i]?=some x->σ[i]?=some (some v)->Vis X.env.scope x->∃u,RelV v u/\Look X.env s.heap m x u
 cell:∀x c,X.env.cells.lookup x=some c->∃v,s.heap.IsCell c v
 free:H X.env.locals=none
 freeC:∀x c,X.env.cells.lookup x=some c->H c=none
 pin:∀p∈X.pn++pins,s.heap.get? p.1=some p.2/\H p.1=none/\p.1≠X.env.locals/\p.1∉X.fs/\∀v,p.2.data≠.cell v
 hok:HOk X.prog X.w H s.heap
 len:σ.length=X.N.length
section
variable{X:Cx}{pins:List (vC×Obj)}{σ:List (Option V)}{H H':Hp}{s:vB}{h':vf}
def Cx.Ok.nofr(ok:X.Ok){b:vC}{o:Obj}(e:X.base.get? b=some o):b∉X.fs:=λhb=>by
 have:=(ok.funs.mem hb).1;rw[e]at this;cases this
theorem Inv.bs(I:Inv X pins σ H s):∀b o,X.base.get? b=some o->s.heap.get? b=some o/\H b=none:=λb o e=>
 ⟨I.base.keep b o (I.ok.bs b o e).1 (I.ok.bs b o e).2 (I.ok.nofr e) (I.ok.noex b o e),I.base.free b o (I.ok.bs b o e).1 (I.ok.bs b o e).2 (I.ok.noex b o e)⟩
def Inv.bk(I:Inv X pins σ H s):∀b o,X.base.get? b=some o->s.heap.get? b=some o:=λb o e=>(I.bs b o e).1
theorem Inv.mod(I:Inv X pins σ H s):Mod X.K X.mg X.base:=I.ok.mod
def Inv.kIn(I:Inv X pins σ H s):X.K.In s.heap:=I.ok.mod.kin.keeps I.bk
theorem Inv.lt(I:Inv X pins σ H s):X.env.locals<s.heap.objs.size:=let ⟨_,hn,_⟩:=I.loc;hn.lt
def Inv.sz(I:Inv X pins σ H s):X.s₀.heap.objs.size<=s.heap.objs.size:=y8 I.ok.above (xH I.lt)
def Inv.nofs(I:Inv X pins σ H s){a:vC}(h:s.heap.objs.size<=a):a∉X.fs:=λhb=>by
 obtain⟨_,o,ho,_⟩:=I.ok.funs.mem hb;exact vK (zy (zK ho) (y8 I.sz h)) (xY _)
def Inv.cne(I:Inv X pins σ H s):∀x c,X.env.cells.lookup x=some c->c≠X.env.locals:=λx c e z=>by
 obtain⟨v,o,ho,hd⟩:=I.cell x c e;obtain⟨m,⟨o',es,ep,ho',hd',_⟩,_⟩:=I.loc;rw[z,ho']at ho;cases ho;rw[hd']at hd;cases hd
theorem Inv.funs(I:Inv X pins σ H s):s.heap.FunFrames X.base X.outer:=by
 have all:∀(l:List Env),(∀b∈frs l,b∈X.fs)->X.s₀.heap.FunFrames X.base l->s.heap.FunFrames X.base l:=by
  intro l
  induction l with
  | nil=>intro _ _;trivial
  | cons env r ih=>
   intro hs hl;obtain⟨hk,⟨L,o,hf,hn,ho,hd⟩,hr⟩:=hl;have hL:L∈X.fs:=hs L (by unfold frs;rw[xi,hf];exact zJ);obtain⟨sl,e⟩:=I.base.slot L o ho (I.ok.frf L hL) hL λz=>I.ok.exfs L z hL;exact⟨hk,⟨L,_,hf,hn,e,hd⟩,ih (λb hb=>hs b (by unfold frs;rw[xi,hf];exact zI _ hb)) hr⟩
 exact all X.outer (λ_ hb=>hb) I.ok.funs
theorem Inv.stack(I:Inv X pins σ H s):s.heap.FunFrames X.base X.stack:=by
 rcases I.ok.stk with e|⟨e,hf⟩
 ·rw[e];exact I.funs
 ·rw[e]
  obtain⟨m,hn,_⟩:=I.loc;refine .cons (by rw[I.ok.kind];decide) hf hn ?_ I.funs;exact Heap.get?_none_of_le (y8 I.ok.bsz I.ok.above)
def Inv.stkSub(I:Inv X pins σ H s):∀b∈frs X.stack,b∈X.env.locals::X.fs:=λb hb=>by
 rcases I.ok.stk with e|⟨e,hf⟩
 ·rw[e]at hb;exact zI _ hb
 ·rw[e]at hb
  unfold frs at hb;rw[xi,hf]at hb;exact hb
def Inv.stkFree(I:Inv X pins σ H s):∀b∈frs X.stack,H b=none:=λb hb=>by
 rcases zF.mp (I.stkSub b hb)with e|hb
 ·rw[e];exact I.free
 ·obtain⟨_,o,ho,_⟩:=I.ok.funs.mem hb
  exact I.base.free b o ho (I.ok.frf b hb) λz=>I.ok.exfs b z hb
def Inv.step{g':Array tV}{t':Nat}{d':sN}{ch:List vC}(I:Inv X pins σ H s)(hch:∀b∈ch,(b∈X.ex\/X.s₀.heap.objs.size<=b)/\b≠X.env.locals/\(∀x c,X.env.cells.lookup x=some c->c≠b)/\∀p∈X.pn++pins,p.1≠b)(keep:∀b o,b≠X.env.locals->b∉X.fs->b∉ch->s.heap.get? b=some o->H b=none->h'.get? b=some o)(slot:∀b o,b≠X.env.locals->b∈X.fs->b∉ch->s.heap.get? b=some o->H b=none->∃sl,h'.get? b=some { o with slots:=sl })(free:∀b o,b∉ch->s.heap.get? b=some o->H b=none->H' b=none)(there:∀b o,b∉ch->s.heap.get? b=some o->∃o',h'.get? b=some o')(tups:∀b xs,H b=some (.tup xs)->H' b=some (.tup xs))(frzs:∀b o u,H b=some (.frz o u)->H' b=some (.frz o u))(tbls:∀b ps,H b=some (.tbl ps)->∃more,H' b=some (.tbl (ps++more)))(ns:∀m,s.heap.Ns X.env.locals m->h'.Ns X.env.locals m)(hok:HOk X.prog X.w H' h')(hg:uy g'):
  Inv X pins σ H' { s with heap:=h',gens:=g',drawn:=d',toks:=t' }:=by
 have neL:∀b o,X.s₀.heap.get? b=some o->b≠X.env.locals:=λb o e=>zo (zy (zK e) I.ok.above);have neC:∀b o,X.s₀.heap.get? b=some o->b∉X.ex->b∉ch:=λb o e hx hb=>by
  rcases (hch b hb).1 with z|z
  ·exact hx z
  ·exact vK (zy (zK e) z) (xY _)
 have cellK:∀x c,X.env.cells.lookup x=some c->∀v,s.heap.IsCell c v->h'.IsCell c v:=λx c e v ⟨o,ho,hd⟩=>by
  have nch:c∉ch:=λz=>(hch c z).2.2.1 x c e rfl
  by_cases hc:c∈X.fs
  ·obtain⟨sl,q⟩:=slot c o (I.cne x c e) hc nch ho (I.freeC x c e)
   exact⟨_,q,hd⟩
  ·exact⟨o,keep c o (I.cne x c e) hc nch ho (I.freeC x c e),hd⟩
 refine⟨I.ok,I.os,hg,⟨λb o e n hb hx=>?_,λb o e n hb hx=>?_,λb o e n hx=>?_,λb o e hx=>?_,λb xs e=>tups b xs (I.base.tups b xs e),λb o xs e=>frzs b o xs (I.base.frzs b o xs e),λb ps e=>?_⟩,?_,λx c e=>?_,?_,λx c e=>?_,λp hp=>?_,hok,I.len⟩
 ·exact keep b o (neL b o e) hb (neC b o e hx) (I.base.keep b o e n hb hx) (I.base.free b o e n hx)
 ·obtain⟨sl,e1⟩:=I.base.slot b o e n hb hx
  obtain⟨sl',e2⟩:=slot b _ (neL b o e) hb (neC b o e hx) e1 (I.base.free b o e n hx);exact⟨sl',e2⟩
 ·obtain⟨o',e1⟩:=I.base.there b o e hx
  exact free b o' (neC b o e hx) e1 (I.base.free b o e n hx)
 ·obtain⟨o',e1⟩:=I.base.there b o e hx
  exact there b o' (neC b o e hx) e1
 ·obtain⟨m1,e1⟩:=I.base.tbls b ps e
  obtain⟨m2,e2⟩:=tbls b _ e1;exact⟨m1++m2,by rw[e2,Array.append_assoc]⟩
 ·obtain⟨m,hn,hl⟩:=I.loc
  refine⟨m,ns m hn,λi x v e1 e2 e3=>?_⟩;obtain⟨u,r,l⟩:=hl i x v e1 e2 e3;refine⟨u,r,?_⟩;rcases l with l|⟨k,c,e,z⟩
  ·exact .inl l
  ·exact .inr ⟨k,c,e,cellK x c e _ z⟩
 ·obtain⟨v,z⟩:=I.cell x c e
  exact⟨v,cellK x c e v z⟩
 ·obtain⟨m,⟨o,_,_,ho,_⟩,_⟩:=I.loc
  exact free _ o (λz=>(hch _ z).2.1 rfl) ho I.free
 ·obtain⟨v,o,ho,hd⟩:=I.cell x c e
  exact free c o (λz=>(hch c z).2.2.1 x c e rfl) ho (I.freeC x c e)
 ·obtain⟨e,n,ne,nf,d⟩:=I.pin p hp
  have nch:p.1∉ch:=λz=>(hch p.1 z).2.2.2 p hp rfl;exact⟨keep p.1 p.2 ne nf nch e n,free p.1 p.2 nch e n,ne,nf,d⟩
def Inv.un{t':Nat}(I:Inv X pins σ H s)(u:Un X.fs [] H H' s.heap h')(hok:HOk X.prog X.w H' h'):Inv X pins σ H' { s with heap:=h',toks:=t' }:=by
 obtain⟨m,⟨o,es,ep,ho,r⟩,_⟩:=id I.loc;obtain⟨sl,hL⟩:=u.any ho I.free (by simp);exact I.step (g':=s.gens) (d':=s.drawn) (ch:=[]) (λ_ z=>nomatch z) (λb o _ hb _ e n=>u.keep b o e n hb (by simp)) (λb o _ hb _ e n=>u.slot b o e n hb (by simp)) (λb o _ e n=>u.free b o e n (by simp)) (λb o _ e=>u.there b o e (by simp)) u.tups u.frzs u.tbls (λm' hm=>by
  obtain⟨o',es',ep',ho',r'⟩:=hm;rw[ho]at ho';cases ho';exact⟨_,es',ep',hL,r'⟩) hok I.bare
def Inv.call{g':Array tV}{t':Nat}{d':sN}{ch:List vC}(I:Inv X pins σ H s)(u:Un (frs X.stack) ch H H' s.heap h')(hok:HOk X.prog X.w H' h')(hg:uy g')(hch:∀b∈ch,(b∈X.ex\/X.s₀.heap.objs.size<=b)/\b≠X.env.locals/\(∀x c,X.env.cells.lookup x=some c->c≠b)/\∀p∈X.pn++pins,p.1≠b):
  Inv X pins σ H' { s with heap:=h',gens:=g',drawn:=d',toks:=t' }:=by
 obtain⟨m,⟨o,es,ep,ho,r⟩,_⟩:=id I.loc;obtain⟨sl,hL⟩:=u.any ho I.free λz=>(hch _ z).2.1 rfl;exact I.step (ch:=ch) hch (λb o hL hb hc e n=>u.keep b o e n (λz=>(zF.mp (I.stkSub b z)).elim hL hb) hc) (λb o _ _ hc e n=>u.any e n hc) (λb o hc e n=>u.free b o e n hc) (λb o hc e=>u.there b o e hc) u.tups u.frzs u.tbls (λm' hm=>by
  obtain⟨o',es',ep',ho',r'⟩:=hm;rw[ho]at ho';cases ho';exact⟨_,es',ep',hL,r'⟩) hok hg
def Inv.turned{t':Nat}{it:vC}(I:Inv X pins σ H s)(k:∀b o,b≠it->s.heap.get? b=some o->h'.get? b=some o)(hn:H it=none)(hL:it≠X.env.locals)(h1:it∈X.ex\/X.s₀.heap.objs.size<=it)(h2:∀x c,X.env.cells.lookup x=some c->c≠it)(h3:∀p∈X.pn++pins,p.1≠it):Inv X pins σ H { s with heap:=h',toks:=t' }:=by
 have nit:∀b u,H b=some u->b≠it:=λb u e z=>by rw[z,hn]at e;cases e
 refine I.step (g':=s.gens) (d':=s.drawn) (ch:=[it]) (λb hb=>?_) (λb o _ _ hc e _=>k b o (λz=>hc (by simp[z])) e) (λb o _ _ hc e _=>⟨o.slots,k b o (λz=>hc (by simp[z])) e⟩) (λ_ _ _ _ n=>n)
  (λb o hc e=>⟨o,k b o (λz=>hc (by simp[z])) e⟩) (λ_ _ e=>e) (λ_ _ _ e=>e) (λb ps e=>⟨#[],by rw[e];simp⟩) (λm hm=>?_) (λb u e=>?_) I.bare
 ·have e:b=it:=by simpa using hb
  subst e;exact⟨h1,hL,h2,h3⟩
 ·obtain⟨o,es,ep,ho,r⟩:=hm
  exact⟨o,es,ep,k _ o (Ne.symm hL) ho,r⟩
 ·refine(I.hok b u e).stay (λc v hc q=>k c v ?_ q) (λ_ q=>q) λ_ _ q=>q
  rcases hc with z|z
  ·rw[z];exact nit b u e
  ·exact nit c _ z
def Inv.tok(I:Inv X pins σ H s)(t:Nat):Inv X pins σ H { s with toks:=t }:=I.un (h':=s.heap) (t':=t) Un.refl I.hok
theorem Inv.kept{t':Nat}(I:Inv X pins σ H s)(k:∀b u,s.heap.get? b=some u->h'.get? b=some u):Inv X pins σ H { s with heap:=h',toks:=t' }:=I.un (Un.kept k) (I.hok.kept k)
theorem Inv.laid{a:vC}{o:HO}{t':Nat}(I:Inv X pins σ H s)(k:∀b u,s.heap.get? b=some u->h'.get? b=some u)(hp:s.heap.objs.size<=a)(new:Y5 X.prog X.w (upd H a o) h' a o):
  Inv X pins σ (upd H a o) { s with heap:=h',toks:=t' }:=I.un (Un.laid k hp (I.hok.fresh hp)) (I.hok.laid k hp new)
theorem Inv.write{x e:vC}{o:HO}{t':Nat}(I:Inv X pins σ H s)(mu:Mut (H x))(he:e=x\/H e=some (.own x))(k:∀b u,b≠e->s.heap.get? b=some u->h'.get? b=some u)(heo:∃u,h'.get? e=some u)(new:Y5 X.prog X.w (upd H x o) h' x o):Inv X pins σ (upd H x o) { s with heap:=h',toks:=t' }:=I.un (Un.write mu he k heo) (I.hok.write mu he k heo new)
def Inv.pins_of{pins':List (vC×Obj)}(I:Inv X pins σ H s)(h:∀p∈pins',s.heap.get? p.1=some p.2/\H p.1=none/\p.1≠X.env.locals/\p.1∉X.fs/\∀v,p.2.data≠.cell v):Inv X pins' σ H s :=
 ⟨I.ok,I.os,I.bare,I.base,I.loc,I.cell,I.free,I.freeC,λp hp=>(zT.mp hp).elim (λz=>I.pin p (yJ _ z)) (h p),I.hok,I.len⟩
def q76{N:List Str}(hN:N.Nodup){i j:Nat}{x:Str}(a:N[i]?=some x)(b:N[j]?=some x):i=j:=by
 obtain⟨h1,e1⟩:=yF.mp a;obtain⟨h2,e2⟩:=yF.mp b;exact(wf hN).mp (e1.trans e2.symm)
def q8c{M:tW}{A:vZ}{E:Value->vB->Prop}{i:Nat}{x:Str}{v:V}{u:Value}{Q:Unit->vB->Prop}(I:Inv X pins σ H s)(hN:X.N.Nodup)(hi:X.N[i]?=some x)(hx:Loc X.env.scope x)(r:RelV v u)(h:∀s',Inv X pins (σ.set i (some v)) H s'->(∃a,xq a s.heap s'.heap/\(a=X.env.locals\/X.env.cells.lookup x=some a))->Q () s')(hf:X.fn x=true\/X.env.scope.names.lookup x=some .local:=by first|exact .inl rfl|exact .inr rfl|assumption):vL M A (storeName X.env x u) Q E s:=by
 obtain⟨m,hn,hl⟩:=id I.loc;have hcls:(X.env.scope.kind == .class || (X.env.scope.kind == .module&&X.env.locals != X.env.globals))=false:=by rw[I.ok.kind];rfl
 have hiσ:i<σ.length:=by rw[I.len];exact(yF.mp hi).1
 have cne:=I.cne;have tracked:∀{a:vC}{h':vf},(∃o,s.heap.get? a=some o/\H a=none)->xq a s.heap h'->HOk X.prog X.w H h':=λ{a h'} ha hs b ob e=>by
  obtain⟨_,_,hfree⟩:=ha;refine(I.hok b ob e).stay (λc w' hc q=>(hs.2 c ?_).trans q) (λ_ q=>q) λ_ _ q=>q;rintro rfl;rcases hc with rfl|hc
  ·rw[hfree]at e;cases e
  ·rw[hfree]at hc;cases hc
 rcases hx with hk|hk
 ·refine wpAny_storeName_local hk hn (λh' hn' hs=>?_) hcls
  obtain⟨oL,_,_,hoL,_⟩:=id hn;refine h _ ⟨I.ok,I.os,I.bare,⟨λb o e n hb hx=>?_,λb o e n hb hx=>?_,I.base.free,λb o e hx=>?_,I.base.tups,I.base.frzs,I.base.tbls⟩,⟨_,hn',λj y v' e1 e2 e3=>?_⟩,λy c e=>?_,I.free,I.freeC,λp hp=>?_,tracked ⟨oL,hoL,I.free⟩ hs,by simpa using I.len⟩ ⟨_,hs,.inl rfl⟩
  ·exact(hs.2 b (zo (zy (zK e) I.ok.above))).trans (I.base.keep b o e n hb hx)
  ·obtain⟨sl,e1⟩:=I.base.slot b o e n hb hx
   exact⟨sl,(hs.2 b (zo (zy (zK e) I.ok.above))).trans e1⟩
  ·obtain⟨o',e1⟩:=I.base.there b o e hx
   exact⟨o',(hs.2 b (zo (zy (zK e) I.ok.above))).trans e1⟩
  ·by_cases hj:j=i
   ·subst hj
    rw[hi]at e1;cases e1;rw[yr hiσ]at e2;cases e2;exact⟨u,r,.inl ⟨hk,by simp⟩⟩
   ·rw[zH (Ne.symm hj)]at e2
    obtain⟨u',r',q⟩:=hl j y v' e1 e2 e3;refine⟨u',r',?_⟩;rcases q with⟨k,e⟩|⟨k,c,e,z⟩
    ·refine .inl ⟨k,?_⟩
     have:y≠x:=λe=>hj (q76 hN e1 (e▸hi));simp[this,e]
    ·exact .inr ⟨k,c,e,z.sameBut hs (cne y c e)⟩
  ·obtain⟨w',z⟩:=I.cell y c e
   exact⟨w',z.sameBut hs (cne y c e)⟩
  ·obtain⟨e,n,ne,nf,d⟩:=I.pin p hp
   exact⟨(hs.2 p.1 ne).trans e,n,ne,nf,d⟩
 ·have hfn:X.fn x=true:=by
   rcases hf with z|z
   ·exact z
   ·rw[z]at hk;cases hk
  obtain⟨c,hc⟩:=I.ok.has x (.inl hk);obtain⟨w',z⟩:=I.cell x c hc;refine wpAny_storeName_cell I.ok.kind hk hc z (λh' hc' hs=>?_);obtain⟨oc,hoc,hocd⟩:=id z;refine h { s with heap:=h' } ⟨I.ok,I.os,I.bare,⟨λb o e n hb hx=>?_,λb o e n hb hx=>?_,I.base.free,λb o e hx=>?_,I.base.tups,I.base.frzs,I.base.tbls⟩,⟨m,hn.sameBut hs (Ne.symm (cne x c hc)),λj y v' e1 e2 e3=>?_⟩,λy c' e=>?_,I.free,I.freeC,λp hp=>?_,tracked ⟨oc,hoc,I.freeC x c hc⟩ hs,by simpa using I.len⟩ ⟨c,hs,.inr hc⟩
  ·exact(hs.2 b (zo (zy (zK e) (I.ok.cab x c hfn hc)))).trans (I.base.keep b o e n hb hx)
  ·obtain⟨sl,e1⟩:=I.base.slot b o e n hb hx
   exact⟨sl,(hs.2 b (zo (zy (zK e) (I.ok.cab x c hfn hc)))).trans e1⟩
  ·obtain⟨o',e1⟩:=I.base.there b o e hx
   exact⟨o',(hs.2 b (zo (zy (zK e) (I.ok.cab x c hfn hc)))).trans e1⟩
  ·by_cases hj:j=i
   ·subst hj
    rw[hi]at e1;cases e1;rw[yr hiσ]at e2;cases e2;exact⟨u,r,.inr ⟨.inl hk,c,hc,hc'⟩⟩
   ·rw[zH (Ne.symm hj)]at e2
    obtain⟨u',r',q⟩:=hl j y v' e1 e2 e3;refine⟨u',r',?_⟩;rcases q with q|⟨k,c',e,z'⟩
    ·exact .inl q
    ·refine .inr ⟨k,c',e,z'.sameBut hs ?_⟩
     rintro rfl;exact hj (q76 hN e1 (I.ok.inj _ _ _ e hc▸hi))
  ·by_cases hcc:c'=c
   ·subst hcc;exact⟨_,hc'⟩
   ·obtain⟨w2,z2⟩:=I.cell y c' e
    exact⟨w2,z2.sameBut hs hcc⟩
  ·obtain⟨e,n,ne,nf,d⟩:=I.pin p hp
   refine⟨(hs.2 p.1 ?_).trans e,n,ne,nf,d⟩;intro q;rw[q,hoc]at e;have q':oc=p.2:=z0 e;exact d w' (by rw[<- q'];exact hocd)
def q5h{M:tW}{A:vZ}{E:Value->vB->Prop}{i:Nat}{x:Str}{v:V}{u:Value}{Q:Unit->vB->Prop}(I:Inv X pins σ H s)(hN:X.N.Nodup)(hi:X.N[i]?=some x)(hx:Loc X.env.scope x)(r:RelV v u)(h:∀s',Inv X pins (σ.set i (some v)) H s'->Q () s')(hf:X.fn x=true\/X.env.scope.names.lookup x=some .local:=by first|exact .inl rfl|exact .inr rfl|assumption):vL M A (storeName X.env x u) Q E s :=
 q8c I hN hi hx r (λs' I' _=>h s' I') hf
def Inv.call'{s':vB}{ch:List vC}(I:Inv X pins σ H s)(ho:s'.os=s.os)(u:Un (frs X.stack) ch H H' s.heap s'.heap)(hok:HOk X.prog X.w H' s'.heap)(hg:uy s'.gens)(hch:∀b∈ch,(b∈X.ex\/X.s₀.heap.objs.size<=b)/\b≠X.env.locals/\(∀x c,X.env.cells.lookup x=some c->c≠b)/\∀p∈X.pn++pins,p.1≠b):Inv X pins σ H' s':=by
 obtain⟨h',g',d',t',o'⟩:=s';have e:o'=s.os:=ho;subst e;exact I.call (g':=g') (t':=t') (d':=d') u hok hg hch
end
abbrev XK:=Value->Option vC->Hp->Prop
noncomputable abbrev St:=List (Option V)
abbrev VK:=V->Hp->Prop
abbrev TE:=St->Hp->VK->Prop
abbrev TT:=St->Hp->(Bool->Hp->Prop)->Prop
abbrev TA:=St->Hp->(List V->Hp->Prop)->Prop
structure Ends where
 nx:St->Hp->Prop
 rt:VK
 bk:St->Hp->Prop:=λ_ _=>False
 ct:St->Hp->Prop:=λ_ _=>False
abbrev TS:=Ends->St->Hp->Prop
def EP(X:Cx)(pins:List (vC×Obj))(σ:St)(Q:VK)(u:Value)(s':vB):Prop:=∃v H',Inv X pins σ H' s'/\RelV v u/\Q v H'
def TP(X:Cx)(pins:List (vC×Obj))(σ:St)(Q:Bool->Hp->Prop)(b:Bool)(s':vB):Prop:=∃H',Inv X pins σ H' s'/\Q b H'
def AP(X:Cx)(pins:List (vC×Obj))(σ:St)(Q:List V->Hp->Prop)(us:List Value)(s':vB):Prop:=∃vs H',Inv X pins σ H' s'/\Y3 vs us/\Q vs H'
def SP(X:Cx)(pins:List (vC×Obj))(D:Ends)(f:Flow)(s':vB):Prop :=
 match f with
 | .next=>∃σ' H',Inv X pins σ' H' s'/\D.nx σ' H'
 | .brk=>∃σ' H',Inv X pins σ' H' s'/\D.bk σ' H'
 | .cont=>∃σ' H',Inv X pins σ' H' s'/\D.ct σ' H'
 | .ret u=>∃v σ' H',Inv X pins σ' H' s'/\RelV v u/\D.rt v H'
def PE(X:Cx)(e:vW)(t:TE):Prop :=
 ∀(pins:List (vC×Obj))(s:vB)(σ:St)(H:Hp)(Q:VK),Inv X pins σ H s->t σ H Q->vL (model X.prog X.w) X.A (eval e X.env) (EP X pins σ Q) X.xe s
def PT(X:Cx)(e:vW)(t:TT):Prop :=
 ∀(pins:List (vC×Obj))(s:vB)(σ:St)(H:Hp)(Q:Bool->Hp->Prop),Inv X pins σ H s->t σ H Q->vL (model X.prog X.w) X.A (sZ e X.env (eval e X.env)) (TP X pins σ Q) X.xe s
def PW(X:Cx)(e:vW)(t:TT):Prop :=
 ∀(whole:Sem Value)(pins:List (vC×Obj))(s:vB)(σ:St)(H:Hp)(Q:Bool->Hp->Prop),Inv X pins σ H s->t σ H Q->vL (model X.prog X.w) X.A (sZ e X.env whole) (TP X pins σ Q) X.xe s
def PW.pt{X:Cx}{e:vW}{t:TT}(h:PW X e t):PT X e t:=h _
def PA(X:Cx)(es:List vW)(t:TA):Prop :=
 ∀(pos:Pos)(pins:List (vC×Obj))(s:vB)(σ:St)(H:Hp)(Q:List V->Hp->Prop),Inv X pins σ H s->t σ H Q->vL (model X.prog X.w) X.A (spliced (vp pos (vJ es X.env))) (AP X pins σ Q) X.xe s
def PS(X:Cx)(st:vn)(t:TS):Prop :=
 ∀(pins:List (vC×Obj))(s:vB)(σ:St)(H:Hp)(D:Ends),Inv X pins σ H s->t D σ H->vL (model X.prog X.w) X.A (exec st X.env) (SP X pins D) X.xe s
def PSs(X:Cx)(st:List vn)(t:TS):Prop :=
 ∀(pins:List (vC×Obj))(s:vB)(σ:St)(H:Hp)(D:Ends),Inv X pins σ H s->t D σ H->vL (model X.prog X.w) X.A (execs st X.env) (SP X pins D) X.xe s
def thn{α:Type}{t:Sem α}{Q Q':α->vB->Prop}{M:tW}{A:vZ}{E:Value->vB->Prop}{s:vB}(h:vL M A t Q E s)(hQ:∀a s,Q a s->Q' a s):vL M A t Q' E s:=vg h hQ λ_ _ x=>x
section
variable{X:Cx}
noncomputable def XZ(i:Nat):TE:=λσ H Q=>∃v,σ[i]?=some (some v)/\Q v H
noncomputable def tC(v:V):TE:=λ_ H Q=>Q v H
def qff{i:Nat}{x:Str}{pos:Pos}(hN:X.N[i]?=some x)(hv:Vis X.env.scope x)(hd:(x==("__debug__" : Str))=false:=by decide)(hcd:(x==("__classdict__" : Str))=false:=by decide):PE X (.Name x pos) (XZ i):=by
 intro pins s σ H Q I h;obtain⟨v,e,h⟩:=h;obtain⟨m,hn,hl⟩:=I.loc;obtain⟨u,r,l⟩:=hl i x v hN e hv;have fin:EP X pins σ Q u s:=⟨v,H,I,r,h⟩;rcases l with⟨hk,hm⟩|⟨hk,c,hc,hcell⟩
 ·exact wpAny_Name (wpAny_loadName_local I.ok.kind hk hn hm fin) hd
 ·rcases hk with hk|hk
  ·exact wpAny_Name (wpAny_loadName_cell I.ok.kind hk hc hcell fin) hd
  ·exact wpAny_Name (wpAny_loadName_free I.ok.kind hk hc hcell fin hcd) hd
def qfx{i j pos}:PE X (.Constant (.int i) j pos) (tC (.int i)):=λ_ _ _ H _ I h=>wpAny_Constant_int ⟨.int i,H,I.tok _,⟨_,rfl⟩,h⟩
def qgg{b j pos}:PE X (.Constant (.bool b) j pos) (tC (.bl b)):=λ_ _ _ H _ I h=>Constant_bool ⟨.bl b,H,I,rfl,h⟩
def qfI{j pos}:PE X (.Constant .none j pos) (tC .non):=λ_ _ _ H _ I h=>Constant_none ⟨.non,H,I,rfl,h⟩
def qfg{x j pos}:PE X (.Constant (.str x) j pos) (tC (.str x)):=λ_ _ _ H _ I h=>Calls.Constant_str ⟨.str x,H,I.tok _,⟨_,rfl⟩,h⟩
def Gl(X:Cx)(x:Str):Prop:=X.env.kindOf x=some .globalImplicit
def q5a{E:Value->vB->Prop}{pins:List (vC×Obj)}{s:vB}{σ:St}{H:Hp}{x:Str}{u:Value}{pos:Pos}{Q:Value->vB->Prop}(I:Inv X pins σ H s)(hg:Gl X x)(hm:X.mg x=some u)(h:Q u s)(hd:(x==("__debug__" : Str))=false:=by decide):vL (model X.prog X.w) X.A (eval (.Name x pos) X.env) Q E s :=
 Calls.Name_function_global I.ok.kind hg (Calls.loadGlobal_global (by rw[I.ok.glob];exact I.mod.glob.keeps I.bk) hm h) hd
def q3Y{E:Value->vB->Prop}{pins:List (vC×Obj)}{s:vB}{σ:St}{H:Hp}{x:Str}{u:Value}{pos:Pos}{Q:Value->vB->Prop}(I:Inv X pins σ H s)(hg:Gl X x)(hm:X.mg x=none)(hv:ve x=some u)(h:Q u s)(hn:x ≠ "__name__" := by decide)(hd:(x==("__debug__" : Str))=false:=by decide):vL (model X.prog X.w) X.A (eval (.Name x pos) X.env) Q E s:=by
 obtain⟨mb,h1,h2⟩:=I.mod.blt;exact Calls.Name_function_global I.ok.kind hg (Calls.loadGlobal_builtin (by rw[I.ok.glob];exact I.mod.glob.keeps I.bk) hm (by rw[I.ok.blt];exact h1.keeps I.bk) ((h2 x hn).trans hv) h) hd
def q3e{x:Str}{v:V}{u:Value}{pos:Pos}(hg:Gl X x)(hm:X.mg x=some u)(r:RelV v u)(hd:(x==("__debug__" : Str))=false:=by decide):PE X (.Name x pos) (tC v) :=
 λ_ _ _ H _ I h=>q5a I hg hm ⟨v,H,I,r,h⟩ hd
def qa3{x:Str}{v:V}{u:Value}{pos:Pos}(hg:Gl X x)(hm:X.mg x=none)(hv:ve x=some u)(r:RelV v u)(hn:x ≠ "__name__" := by decide)(hd:(x==("__debug__" : Str))=false:=by decide):PE X (.Name x pos) (tC v) :=
 λ_ _ _ H _ I h=>q3Y I hg hm hv ⟨v,H,I,r,h⟩ hn hd
variable{a b:vW}{ta tb:TE}{pos:Pos}
def PC(X:Cx)(op:sO)(a b:vW)(t:TE):Prop :=
 ∀(pins:List (vC×Obj))(s:vB)(σ:St)(H:Hp)(Q:VK),Inv X pins σ H s->t σ H Q ->
  vL (model X.prog X.w) X.A (eval a X.env) (λv s₁=>vL (model X.prog X.w) X.A (eval b X.env) (λu s₂=>vL (model X.prog X.w) X.A (uJ op v u) (EP X pins σ Q) X.xe s₂) X.xe s₁) X.xe s
def zB9(b:vW){op:sO}(h:op≠.In)(h2:op≠.NotIn):vz op b=false:=by
 have e1:(op==CmpOp.In)=false:=by cases op <;> first|rfl|exact vK rfl h
 have e2:(op==CmpOp.NotIn)=false:=by cases op <;> first|rfl|exact vK rfl h2
 cases b <;> simp[vz,e1,e2]
noncomputable def tB(t:TE):TT:=λσ H Q=>t σ H λx H1=>∃c,x=.bl c/\Q c H1
def qfO{op:sO}{t:TE}(h:PC X op a b t)(h1:vz op b=false:=by first|exact zB9 _ (by decide) (by decide)|rfl):PT X (.Compare a [op] [b] pos) (tB t):=by
 intro pins s σ H Q I hw;refine tU (thn (h pins s σ H _ I hw) λv s1 h1=>thn h1 λu s2 h2=>thn h2 λc s3 ⟨x,H1,I1,r1,q1⟩=>?_) h1;obtain⟨d,rfl,q⟩:=q1;cases r1;exact uB ⟨H1,I1,q⟩
variable{tA tB':TT}{rest:List vW}
noncomputable def tOr(t u:TT):TT:=λσ H Q=>t σ H λc H1=>if c=true then Q true H1 else u σ H1 Q
noncomputable def tNot(t:TT):TT:=λσ H Q=>t σ H λc H1=>Q (!c) H1
def qcA(ha:PT X a tA):PW X (.BoolOp .Or [a] pos) tA:=by
 intro wh pins s σ H Q I h;refine isTrue_or (thn (ha pins s σ H Q I h) λc s1 e=>?_);cases c with
 | false=>exact isTrue_or_nil e
 | true=>exact e
def qdN(ha:PT X a tA)(hb:PW X (.BoolOp .Or (b::rest) pos) tB'):PW X (.BoolOp .Or (a::b::rest) pos) (tOr tA tB'):=by
 intro wh pins s σ H Q I h;refine isTrue_or (thn (ha pins s σ H _ I h) λc s1 ⟨H1,I1,q1⟩=>?_);cases c with
 | true=>exact⟨H1,I1,q1⟩
 | false=>exact hb wh pins s1 σ H1 Q I1 q1
def qf9(ha:PT X a tA):PT X (.UnaryOp .Not a pos) (tNot tA):=by
 intro pins s σ H Q I h;exact isTrue_not (ha pins s σ H (λc H1=>Q (!c) H1) I h)
noncomputable def tAndV(ta tb:TE):TE:=λσ H Q=>ta σ H λx H1=>∃c,x=.bl c/\if c=true then tb σ H1 Q else Q (.bl false) H1
noncomputable def tOrV(ta tb:TE):TE:=λσ H Q=>ta σ H λx H1=>∃c,x=.bl c/\if c=true then Q (.bl true) H1 else tb σ H1 Q
noncomputable def tNotV(ta:TE):TE:=λσ H Q=>ta σ H λx H1=>∃c,x=.bl c/\Q (.bl (!c)) H1
def qfy{op}{t:TE}(h:PE X a t):PE X (.BoolOp op [a] pos) t:=λpins s σ H Q I hw=>BoolOp_one (h pins s σ H Q I hw)
def qfM(ha:PE X a ta)(hb:PE X (.BoolOp .And (b::rest) pos) tb):PE X (.BoolOp .And (a::b::rest) pos) (tAndV ta tb):=by
 intro pins s σ H Q I h;refine BoolOp_and (thn (ha pins s σ H _ I h) λv s1 ⟨x,H1,I1,r1,q1⟩=>?_);obtain⟨c,rfl,q1⟩:=q1;cases r1;refine uB ?_;cases c with
 | true=>exact hb pins s1 σ H1 Q I1 q1
 | false=>exact⟨.bl false,H1,I1,rfl,q1⟩
def qgl(ha:PE X a ta)(hb:PE X (.BoolOp .Or (b::rest) pos) tb):PE X (.BoolOp .Or (a::b::rest) pos) (tOrV ta tb):=by
 intro pins s σ H Q I h;refine BoolOp_or (thn (ha pins s σ H _ I h) λv s1 ⟨x,H1,I1,r1,q1⟩=>?_);obtain⟨c,rfl,q1⟩:=q1;cases r1;refine uB ?_;cases c with
 | false=>exact hb pins s1 σ H1 Q I1 q1
 | true=>exact⟨.bl true,H1,I1,rfl,q1⟩
def qg8(ha:PE X a ta):PE X (.UnaryOp .Not a pos) (tNotV ta):=by
 intro pins s σ H Q I h;refine UnaryOp_ (thn (ha pins s σ H _ I h) λv s1 ⟨x,H1,I1,r1,q1⟩=>?_);obtain⟨c,rfl,q1⟩:=q1;cases r1;exact not_of (uB ⟨.bl (!c),H1,I1,rfl,q1⟩)
end
def SqL(K:zA)(H:Hp)(a:vC)(xs:List V):Prop :=
 Rd H a (.lst xs) \/
  ∃(o:Obj) (its:Array Value) (n:Nat),K.lookup a=some o/\o.cls=.type "list" /\ o.dict=none/\o.data=.seq its n/\its.size<=sizeLine/\Y3 xs its.toList
def SqT(K:zA)(H:Hp)(a:vC)(xs:List V):Prop :=
 Rd H a (.tup xs) \/
  ∃(o:Obj) (its:Array Value) (n:Nat),K.lookup a=some o/\o.cls=.type "tuple" /\ o.data=.seq its n/\its.size<=sizeLine/\Y3 xs its.toList
noncomputable def absV:Value->Option V
 | .none=>some .non
 | .bool b=>some (.bl b)
 | .int i _=>some (.int i)
 | .str x _=>some (.str x)
 | .bytes b _=>some (.byt b)
 | .float b _=>some (.flt b)
 | .ref a=>some (.ref a)
 | .type n=>some (.ty n)
 | _=>none
def RelV.abs{x:V}{u:Value}(r:RelV x u):absV u=some x:=by
 cases x with
 | non=>cases r;rfl
 | bl _=>cases r;rfl
 | int _=>obtain⟨t,rfl⟩:=r;rfl
 | str _=>obtain⟨t,rfl⟩:=r;rfl
 | byt _=>obtain⟨t,rfl⟩:=r;rfl
 | flt _=>obtain⟨t,rfl⟩:=r;rfl
 | ref _=>cases r;rfl
 | ty _=>cases r;rfl
def RelV.inj{x y:V}{u:Value}(r:RelV x u)(q:RelV y u):x=y:=z0 (r.abs.symm.trans q.abs)
theorem Y3.inj:∀{xs ys:List V}{us:List Value},Y3 xs us->Y3 ys us->xs=ys
 | _,_,_,.nil,.nil=>rfl
 | _,_,_,.cons r t,.cons r' t'=>by rw[r.inj r',Y3.inj t t']
section
variable{X:Cx}{pins:List (vC×Obj)}{σ:St}{H:Hp}{s:vB}{a:vC}{xs ys:List V}
def SqL.of{K:zA}(h:H a=some (.lst xs)):SqL K H a xs:=.inl (.inl h)
def SqT.of{K:zA}(h:H a=some (.tup xs)):SqT K H a xs:=.inl (.inl h)
def Inv.list(I:Inv X pins σ H s)(h:SqL X.K H a xs):∃its:List Value,Y3 xs its/\PlainL s.heap a its.toArray/\xs.length<=sizeLine:=by
 rcases h with h|⟨o,its,n,hk,hc,hd,hs,hz,r⟩
 ·obtain⟨z,its,n,r,e⟩:=h.ok I.hok
  exact⟨its,r,⟨_,n,e,rfl,rfl,rfl⟩,z⟩
 ·refine⟨its.toList,r,⟨o,n,I.kIn a o hk,hc,hd,by simpa using hs⟩,?_⟩
  have e:=r.length;simp only[zN]at e;omega
def Inv.tuple(I:Inv X pins σ H s)(h:SqT X.K H a xs):∃its:List Value,Y3 xs its/\IsTup s.heap a its.toArray/\xs.length<=sizeLine:=by
 rcases h with h|⟨o,its,n,hk,hc,hs,hz,r⟩
 ·obtain⟨z,its,r,p⟩:=h.ok I.hok
  exact⟨its,r,p,z⟩
 ·refine⟨its.toList,r,⟨o,I.kIn a o hk,hc,n,by simpa using hs⟩,?_⟩
  have e:=r.length;simp only[zN]at e;omega
def Inv.list_inj(I:Inv X pins σ H s)(h:SqL X.K H a xs)(h':SqL X.K H a ys):xs=ys:=by
 obtain⟨its,r,⟨o,n,e,_,_,d⟩,_⟩:=I.list h;obtain⟨its',r',⟨o',n',e',_,_,d'⟩,_⟩:=I.list h';rw[e]at e';cases e';rw[d]at d';injection d' with d1 _;have:its=its':=by simpa using uG Ye d1
 subst this;exact r.inj r'
def Inv.tuple_inj(I:Inv X pins σ H s)(h:SqT X.K H a xs)(h':SqT X.K H a ys):xs=ys:=by
 obtain⟨its,r,⟨o,e,_,n,d⟩,_⟩:=I.tuple h;obtain⟨its',r',⟨o',e',_,n',d'⟩,_⟩:=I.tuple h';rw[e]at e';cases e';rw[d]at d';injection d' with d1 _;have:its=its':=by simpa using uG Ye d1
 subst this;exact r.inj r'
end
noncomputable abbrev Cx.wish(X:Cx)(E:Value->vB->Prop):Cx:={ X with xe:=E }
noncomputable abbrev Cx.nox(X:Cx):Cx:=X.wish λ_ _=>False
theorem Cx.Ok.wish{X:Cx}(ok:X.Ok)(E:Value->vB->Prop):(X.wish E).Ok :=
 ⟨ok.mod,ok.kind,ok.glob,ok.blt,ok.above,ok.inj,ok.has,ok.cab,ok.hd,ok.frames,ok.stk,ok.exf,ok.bs,ok.bsz,ok.noex,ok.exfs,ok.funs,ok.frf⟩
def Cx.Ok.unwish{X:Cx}{E:Value->vB->Prop}(ok:(X.wish E).Ok):X.Ok :=
 ⟨ok.mod,ok.kind,ok.glob,ok.blt,ok.above,ok.inj,ok.has,ok.cab,ok.hd,ok.frames,ok.stk,ok.exf,ok.bs,ok.bsz,ok.noex,ok.exfs,ok.funs,ok.frf⟩
section
variable{X:Cx}{pins:List (vC×Obj)}{σ:St}{H:Hp}{s:vB}{E:Value->vB->Prop}
theorem Inv.wish(I:Inv X pins σ H s)(E:Value->vB->Prop):Inv (X.wish E) pins σ H s:=⟨I.ok.wish E,I.os,I.bare,I.base,I.loc,I.cell,I.free,I.freeC,I.pin,I.hok,I.len⟩
theorem Inv.unwish(I:Inv (X.wish E) pins σ H s):Inv X pins σ H s:=⟨I.ok.unwish,I.os,I.bare,I.base,I.loc,I.cell,I.free,I.freeC,I.pin,I.hok,I.len⟩
theorem SP.unwish{D:Ends}{f:Flow}{s':vB}(h:SP (X.wish E) pins D f s'):SP X pins D f s':=by
 cases f with
 | next=>obtain⟨σ',H',I,q⟩:=h;exact⟨σ',H',I.unwish,q⟩
 | brk=>obtain⟨σ',H',I,q⟩:=h;exact⟨σ',H',I.unwish,q⟩
 | cont=>obtain⟨σ',H',I,q⟩:=h;exact⟨σ',H',I.unwish,q⟩
 | ret u=>obtain⟨v,σ',H',I,r,q⟩:=h;exact⟨v,σ',H',I.unwish,r,q⟩
theorem PSs.nox{st:List vn}{t:TS}(h:PSs X.nox st t):PSs X st t:=λpins s σ H D I hw=>
 vg (h pins s σ H D (I.wish _) hw) (λ_ _ q=>q.unwish) λ_ _ z=>False.elim z
end
section
variable{X:Cx}{st:vn}{rest:List vn}{t u:TS}{e:vW}{te:TE}{pos:Pos}
noncomputable def tNext:TS:=λD σ H=>D.nx σ H
noncomputable def zBN(t u:TS):TS:=λD σ H=>t { D with nx:=u D } σ H
def qe3:PSs X [] tNext:=λ_ _ σ H _ I h=>uc ⟨σ,H,I,h⟩
def q0k(h1:PS X st t)(h2:PSs X rest u):PSs X (st::rest) (zBN t u):=by
 intro pins s σ H D I h;refine tJ (thn (h1 pins s σ H { D with nx:=u D } I h) λf s1 q=>?_);cases f with
 | next=>
  obtain⟨σ',H',I',q⟩:=q;exact h2 pins s1 σ' H' D I' q
 | ret v=>exact q
 | brk=>exact q
 | cont=>exact q
def q2F(h1:PS X st t):PSs X [st] t:=by
 intro pins s σ H D I h;refine tJ (thn (h1 pins s σ H D I h) λf s1 q=>?_);cases f with
 | next=>exact uc q
 | ret v=>exact q
 | brk=>exact q
 | cont=>exact q
def Inv.quiet{pins:List (vC×Obj)}{σ:St}{H:Hp}{s:vB}(I:Inv X pins σ H s):interactive X.env=false:=by simp[interactive,I.ok.kind]
noncomputable def zBy(te:TE):TS:=λD σ H=>te σ H λ_ H1=>D.nx σ H1
def q30(he:PE X e te)(hs:vy e none pos.line X.env=pure false:=by rfl):PS X (.Expr e pos) (zBy te):=by
 intro pins s σ H D I h;exact wpAny_Expr_any (thn (he pins s σ H _ I h) λv s1 ⟨x,H1,I1,r1,q1⟩=>⟨σ,H1,I1,q1⟩) I.quiet hs
noncomputable def tRet(te:TE):TS:=λD σ H=>te σ H D.rt
def q57(he:PE X e te):PS X (.Return (some e) pos) (tRet te):=by
 intro pins s σ H D I h;exact wpAny_Return_some (thn (he pins s σ H _ I h) λv s1 ⟨x,H1,I1,r1,q1⟩=>⟨x,σ,H1,I1,r1,q1⟩)
noncomputable def tIfS(c:TT)(t u:TS):TS:=λD σ H=>c σ H λb H1=>if b=true then t D σ H1 else u D σ H1
def qbe{c:vW}{a b:List vn}{tc:TT}(hc:PT X c tc)(ha:PSs X a t)(hb:PSs X b u):PS X (.If c a b pos) (tIfS tc t u):=by
 intro pins s σ H D I h;refine wpAny_If (thn (hc pins s σ H _ I h) λd s1 ⟨H1,I1,q1⟩=>?_);cases d with
 | true=>exact ha pins s1 σ H1 D I1 q1
 | false=>exact hb pins s1 σ H1 D I1 q1
noncomputable def zCb:TS:=λ_ _ _=>False
def q8R:PS X st zCb:=λ_ _ _ _ _ _ h=>h.elim
def q83{sts:List vn}:PSs X sts zCb:=λ_ _ _ _ _ _ h=>h.elim
end
abbrev TG:=V->St->Hp->(St->Hp->Prop)->Prop
abbrev TGs:=List V->St->Hp->(St->Hp->Prop)->Prop
def PG(X:Cx)(target:vW)(t:TG):Prop :=
 ∀(pins:List (vC×Obj))(s:vB)(σ:St)(H:Hp)(v:V)(u:Value)(Q:St->Hp->Prop),Inv X pins σ H s->RelV v u->t v σ H Q ->
  vL (model X.prog X.w) X.A (assign target X.env u) (λ_ s'=>∃σ' H',Inv X pins σ' H' s'/\Q σ' H') X.xe s
def PGs(X:Cx)(ts:List vW)(t:TGs):Prop :=
 ∀(pins:List (vC×Obj))(s:vB)(σ:St)(H:Hp)(vs:List V)(us:List Value)(Q:St->Hp->Prop),Inv X pins σ H s->Y3 vs us->t vs σ H Q ->
  vL (model X.prog X.w) X.A (assignInOrder ((uM ts X.env).map (·.2)) us) (λ_ s'=>∃σ' H',Inv X pins σ' H' s'/\Q σ' H') X.xe s
abbrev TSet:=V->V->V->Hp->(Hp->Prop)->Prop
def PSet(X:Cx)(t:TSet):Prop :=
 ∀(pins:List (vC×Obj))(s:vB)(σ:St)(H:Hp)(o i v:V)(ov iv u:Value)(Q:Hp->Prop),Inv X pins σ H s->RelV o ov->RelV i iv->RelV v u->t o i v H Q ->
  vL (model X.prog X.w) X.A (setItem ov iv u) (λ_ s'=>∃H',Inv X pins σ H' s'/\Q H') X.xe s
section
variable{X:Cx}{pos:Pos}
noncomputable def Xy(i:Nat):TG:=λv σ H Q=>Q (σ.set i (some v)) H
def q56{i:Nat}{x:Str}(hN:X.N.Nodup)(hi:X.N[i]?=some x)(hx:Loc X.env.scope x)(hf:X.fn x=true\/X.env.scope.names.lookup x=some .local:=by first|exact .inl rfl|exact .inr rfl|assumption):PG X (.Name x pos) (Xy i):=by
 intro pins s σ H v u Q I r h;exact wpAny_assign_Name (q5h I hN hi hx r (λs' I'=>⟨_,H,I',h⟩) hf)
noncomputable def gNil:TGs:=λvs σ H Q=>vs=[]/\Q σ H
noncomputable def gCons(t:TG)(u:TGs):TGs:=λvs σ H Q=>∃v r,vs=v::r/\t v σ H λσ' H'=>u r σ' H' Q
def qaC:PGs X [] gNil:=by
 intro pins s σ H vs us Q I r h;obtain⟨e,h⟩:=h;subst e;cases r;exact assignInOrder_nil ⟨σ,H,I,h⟩
def q6X{e:vW}{es:List vW}{t:TG}{u:TGs}(h1:PG X e t)(h2:PGs X es u)(hs:(uM (e::es) X.env).map (·.2)=assign e X.env::(uM es X.env).map (·.2):=by rfl):PGs X (e::es) (gCons t u):=by
 intro pins s σ H vs us Q I r h;obtain⟨v,vr,e1,h⟩:=h;subst e1;cases r with
 | cons r rr=>
  rw[hs];refine assignInOrder_cons (thn (h1 pins s σ H _ _ _ I r h) λ_ s1 ⟨σ1,H1,I1,q1⟩=>?_);exact h2 pins s1 σ1 H1 _ _ Q I1 rr q1
noncomputable def gTup(K:zA)(n:Nat)(t:TGs):TG:=λv σ H Q=>∃a xs,v=.ref a/\SqT K H a xs/\xs.length=n/\t xs σ H Q
def qcB{es:List vW}{k:Nat}{t:TGs}{n:Nat}(hc:X.calm=true)(h:PGs X es t)(hn:(uM es X.env).length=n:=by rfl)(hst:(uM es X.env).findIdx? (·.1)=none:=by rfl):PG X (.Tuple es k pos) (gTup X.K n t):=by
 intro pins s σ H v u Q I r hw;obtain⟨a,xs,e1,hq,hl,hw⟩:=hw;subst e1;cases r;obtain⟨its,rv,ht,hz⟩:=I.tuple hq;refine assign_Tuple_tuple (I.ok.hd hc) ht (by simp[hn,<- hl,rv.length]) hst λh' hx=>?_;have I1:Inv X pins σ H { s with heap:=h' }:=I.kept (t':=s.toks) λb o e=>hx b o (zo (zK e)) e;exact h pins _ σ H xs _ Q I1 ⇑rv hw
noncomputable def gSub(to ti:TE)(t:TSet):TG:=λv σ H Q=>to σ H λo H1=>ti σ H1 λi H2=>t o i v H2 λH3=>Q σ H3
def qfX{o i:vW}{to ti:TE}{t:TSet}(ho:PE X o to)(hi:PE X i ti)(hs:PSet X t)(ha:∀v,assign (.Subscript o i pos) X.env v=(do
   let ov <- holding [v] (eval o X.env)
   let iv <- holding [v,ov] (eval i X.env)
   standAt pos
   holding [v,ov,iv] (setItem ov iv v)
   release [v,ov,iv] []):=by intro _;rfl):PG X (.Subscript o i pos) (gSub to ti t):=by
 intro pins s σ H v u Q I r h;rw[ha];refine vA (vi (thn (ho pins s σ H _ I h) λov s1 ⟨x,H1,I1,r1,q1⟩=>?_));refine vA (vi (thn (hi pins s1 σ H1 _ I1 q1) λiv s2 ⟨y,H2,I2,r2,q2⟩=>?_));refine vA (t6 (vA (vi (thn (hs pins s2 σ H2 x y v ov iv u _ I2 r1 r2 r q2) λ_ s3 ⟨H3,I3,q3⟩=>?_))));exact wpAny_release ⟨σ,H3,I3,q3⟩
noncomputable def zA9(te:TE)(g:TG):TS:=λD σ H=>te σ H λx H1=>g x σ H1 D.nx
def qg1{tg e:vW}{te:TE}{g:TG}(he:PE X e te)(hg:PG X tg g)(hs:swapsWithSole [tg] e pos.line X.env=pure false:=by rfl)(hw:swappedStores [tg] e X.env=pure none:=by rfl)(h1:(uM [tg] X.env).map (·.2)=[assign tg X.env]:=by rfl):PS X (.Assign [tg] e pos) (zA9 te g):=by
 intro pins s σ H D I h;refine wpAny_Assign_stores (thn (he pins s σ H _ I h) λv s1 ⟨x,H1,I1,r1,q1⟩=>?_) hs hw;rw[h1];exact thn (hg pins s1 σ H1 x v _ I1 r1 q1) λ_ s2 q=>q
def q2m{i:Nat}{x:Str}{e:vW}{te:TE}{pos':Pos}(hN:X.N.Nodup)(hi:X.N[i]?=some x)(hx:Loc X.env.scope x)(he:PE X e te)(hs:vy e (some (.Name x pos')) pos.line X.env=pure false:=by rfl)(hf:X.fn x=true\/X.env.scope.names.lookup x=some .local:=by first|exact .inl rfl|exact .inr rfl|assumption):
  PS X (.Assign [.Name x pos'] e pos) (zA9 te (Xy i)):=by
 intro pins s σ H D I h;refine wpAny_Assign_Name (thn (he pins s σ H _ I h) λv s1 ⟨y,H1,I1,r1,q1⟩=>?_) hs;exact q5h I1 hN hi hx r1 (λs2 I2=>⟨_,H1,I2,q1⟩) hf
end
section
variable{X:Cx}{pos:Pos}
noncomputable def zBV(c:TT)(tb:TS):TS:=λD σ H=>∃W:Nat->St->Hp->Prop,(∃m,W m σ H)/\∀m σ H,W m σ H ->
 c σ H λb H1=>if b=true then ∃N:St->Hp->Prop,(∀σ' H',N σ' H'->∃m',m'<m/\W m' σ' H')/\tb { D with nx:=N,ct:=N,bk:=D.nx } σ H1 else D.nx σ H1
def q96{c:vW}{body:List vn}{tc:TT}{tb:TS}(hp:tK (model X.prog X.w) X.A X.env X.xe)(hc:PT X c tc)(hb:PSs X body tb):PS X (.While c body [] pos) (zBV tc tb):=by
 intro pins s σ H D I h;obtain⟨W,⟨m0,w0⟩,turn⟩:=h;refine wpAny_While (codeAny_whileLoop (λn s'=>∃σ' H',Inv X pins σ' H' s'/\W n σ' H') ?_ m0 ⟨σ,H,I,w0⟩);rintro n s1 ⟨σ1,H1,I1,w1⟩;refine uK hp (thn (hc pins s1 σ1 H1 _ I1 (turn n σ1 H1 w1)) λb s2 ⟨H2,I2,q2⟩=>?_);cases b with
 | true=>
  obtain⟨N,hN,q2⟩:=q2;rw[vG rfl];refine uK hp (thn (hb pins s2 σ1 H2 _ I2 q2) λf s3 q3=>?_);cases f with
  | next=>
   obtain⟨σ3,H3,I3,n3⟩:=q3;obtain⟨m',hm,w3⟩:=hN σ3 H3 n3;exact⟨m',hm,σ3,H3,I3,w3⟩
  | cont=>
   obtain⟨σ3,H3,I3,n3⟩:=q3;obtain⟨m',hm,w3⟩:=hN σ3 H3 n3;exact⟨m',hm,σ3,H3,I3,w3⟩
  | brk=>exact q3
  | ret v=>exact q3
 | false=>
  rw[vH ym];exact uc ⟨σ1,H2,I2,q2⟩
end
structure It where
 go:Nat->Hp->Prop
 yld:Nat->Hp->V->Hp->Prop
 stop:Nat->Hp->Prop
def zBv(X:Cx)(pins:List (vC×Obj))(H:Hp)(b:vC):Prop :=
 H b=none/\b≠X.env.locals/\b∉X.fs/\(b∈X.ex\/X.s₀.heap.objs.size<=b)/\(∀x c,X.env.cells.lookup x=some c->c≠b)/\∀p∈X.pn++pins,p.1≠b
def Inv.fpOk{X:Cx}{pins:List (vC×Obj)}{σ:St}{H H':Hp}{s:vB}{b:vC}(I:Inv X pins σ H s)(hb:s.heap.objs.size<=b)(hn:H' b=none):zBv X pins H' b:=by
 refine⟨hn,wY (zy I.lt hb),I.nofs hb,.inr (y8 I.sz hb),λx c e z=>?_,λp hp z=>?_⟩
 ·obtain⟨v,q⟩:=I.cell x c e
  exact vK (zy q.lt (by rw[z];exact hb)) (xY _)
 ·exact vK (zy (zK (I.pin p hp).1) (by rw[z];exact hb)) (xY _)
structure Turn (P:vS) (w:vY) (K:zA) (tg:vW) (J:It) (fp:List vC) (it:vC) (tn:Nat->vf->Prop):Prop where
 mem:it∈fp
 obj:∀i h,tn i h->∀b∈fp,∃o,h.get? b=some o/\∀v,o.data≠.cell v
 keep:∀i h h',tn i h->(∀b∈fp,∀o,h.get? b=some o->h'.get? b=some o)->tn i h'
 item:∀(X:Cx),X.prog=P->X.w=w->X.K=K->X.calm=true->∀(i:Nat)(pins:List (vC×Obj))(s:vB)(σ:St)(H:Hp)(E:Value->vB->Prop),Inv X pins σ H s->(∀b∈fp,zBv X pins H b)->tn i s.heap->J.go i H ->
  vL (model P w) X.A (uD (.ref it)) (λr s1=>∃u,r=some u /\
   vL (model P w) X.A (uu tg (.ref it) u) (λ_ s2=>∃x H',Inv X pins σ H' s2/\RelV x u/\J.yld i H x H'/\tn (i+1) s2.heap/\∀b∈fp,H' b=none) E s1) E s
 done:∀(X:Cx),X.prog=P->X.w=w->X.K=K->X.calm=true->∀(i:Nat)(pins:List (vC×Obj))(s:vB)(σ:St)(H:Hp)(E:Value->vB->Prop),Inv X pins σ H s->(∀b∈fp,zBv X pins H b)->tn i s.heap->J.stop i H ->
  vL (model P w) X.A (uD (.ref it)) (λr s1=>r=none/\Inv X pins σ H s1) E s
 self:∀(A:vZ)(i:Nat)(s:vB)(Q:Value->vB->Prop)(E:Value->vB->Prop),tn i s.heap->Q (.ref it) s->vL (model P w) A (t9 (.ref it)) Q E s
abbrev TI:=St->Hp->(It->Hp->Prop)->Prop
def PIE(X:Cx)(pins:List (vC×Obj))(σ:St)(tg:vW)(R:It->Hp->Prop)(itv:Value)(s2:vB):Prop :=
 ∃(it:vC) (fp:List vC) (tn:Nat->vf->Prop) (J:It) (H':Hp),itv=.ref it/\Inv X pins σ H' s2/\Turn X.prog X.w X.K tg J fp it tn/\tn 0 s2.heap/\(∀b∈fp,zBv X pins H' b)/\R J H'
def PI(X:Cx)(tg iter:vW)(wi:TI):Prop :=
 ∀(pins:List (vC×Obj))(s:vB)(σ:St)(H:Hp)(R:It->Hp->Prop),Inv X pins σ H s->wi σ H R ->
  vL (model X.prog X.w) X.A (eval iter X.env) (λv s1=>vL (model X.prog X.w) X.A (t9 v) (PIE X pins σ tg R) X.xe s1) X.xe s
def qaX{M:tW}{A:vZ}{E:Value->vB->Prop}{s:vB}{tg:vW}{it:vC}{u:Value}{o:Obj}{n:String}{vs:Array Value}{Q:Unit->vB->Prop}(ho:s.heap.get? it=some o)(hc:o.cls=.type n)(hd:o.data=.fields vs)(hn:["enumerate", "zip", "dict_itemiterator", "dict_reverseitemiterator", "odict_iterator", "itertools.zip_longest", "itertools.pairwise"].contains n=false)(hQ:Q () s):vL M A (uu tg (.ref it) u) Q E s:=by
 unfold uu;cases tg <;> first
  | exact vF hQ
  | (cases u <;> first
    | exact vF hQ
    | (refine vA (wpAny_load ho ?_)
       rw[hc,hd];show vL M A (if (["enumerate", "zip", "dict_itemiterator", "dict_reverseitemiterator", "odict_iterator", "itertools.zip_longest", "itertools.pairwise"].contains n&&vs[0]?==some (v5 _))=true then _ else _) Q E s;rw[vH (by intro h;rw[hn,yB]at h;cases h)];exact vF hQ))
noncomputable def Itl(K:zA)(a:vC):It :=
 ⟨λi H=>∃xs x,SqL K H a xs/\xs[i]?=some x,λi H x H'=>H'=H/\∀xs,SqL K H a xs->xs[i]?=some x,λi H=>∃xs,SqL K H a xs/\xs.length<=i⟩
noncomputable def Itt(K:zA)(a:vC):It :=
 ⟨λi H=>∃xs x,SqT K H a xs/\xs[i]?=some x,λi H x H'=>H'=H/\∀xs,SqT K H a xs->xs[i]?=some x,λi H=>∃xs,SqT K H a xs/\xs.length<=i⟩
noncomputable def Itr(lo:Int)(n:Nat):It:=⟨λi _=>i<n,λi H x H'=>H'=H/\x=.int (lo+i),λi _=>n<=i⟩
def qbP{P:vS}{w:vY}{K:zA}{tg:vW}(a it:vC):Turn P w K tg (Itl K a) [it] it (λi h=>h.IsListIter it a i) where
 mem:=by simp
 obj:=λi h st b hb=>by
  have e:b=it:=by simpa using hb
  subst e;obtain⟨o,e,c,d⟩:=st;exact⟨o,e,λv z=>by rw[d]at z;cases z⟩
 keep:=λi h h' st k=>st.at λo e=>k it (by simp) o e
 item:=by
  intro X hP hw hK hc i pins s σ H E I hf st hg;subst hP hw hK;obtain⟨xs,x,hq,hx⟩:=hg;obtain⟨its,rv,p,hz⟩:=I.list hq;obtain⟨u,hu,ru⟩:=rv.get hx;obtain⟨f0,f1,f2,f3,f4,f5⟩:=hf it (by simp);refine wpAny_pyNext_list_item st p.isList (x:=u) ⇑hu λh' st' sb=>?_;have I1:Inv X pins σ H { s with heap:=h' }:=I.turned (t':=s.toks) (λb o hb e=>(sb.2 b hb).trans e) f0 f1 f3 f4 f5;obtain⟨o,e,c,d⟩:=id st';exact⟨u,rfl,qaX (s:={ s with heap:=h' }) e c d (by decide) ⟨x,H,I1,ru,⟨rfl,λys hy=>by rw[I.list_inj hy hq];exact hx⟩,st',λb hb=>(hf b hb).1⟩⟩
 done:=by
  intro X hP hw hK hc i pins s σ H E I hf st hg;subst hP hw hK;obtain⟨xs,hq,hx⟩:=hg;obtain⟨its,rv,p,hz⟩:=I.list hq;obtain⟨f0,f1,f2,f3,f4,f5⟩:=hf it (by simp);have hl:=rv.length;exact wpAny_pyNext_list_end (I.ok.hd hc) st p.isList (by simp;omega) λh' eb=>⟨rfl,I.turned (t':=s.toks) (λb o hb e=>eb b o hb e) f0 f1 f3 f4 f5⟩
 self:=λ_ _ _ _ _ st h=>wpAny_pyIter_listiter st h
def qaO{P:vS}{w:vY}{K:zA}{tg:vW}(a it:vC):Turn P w K tg (Itt K a) [it] it (λi h=>h.IsTupleIter it a i) where
 mem:=by simp
 obj:=λi h st b hb=>by
  have e:b=it:=by simpa using hb
  subst e;obtain⟨o,e,c,d⟩:=st;exact⟨o,e,λv z=>by rw[d]at z;cases z⟩
 keep:=λi h h' st k=>st.at λo e=>k it (by simp) o e
 item:=by
  intro X hP hw hK hc i pins s σ H E I hf st hg;subst hP hw hK;obtain⟨xs,x,hq,hx⟩:=hg;obtain⟨its,rv,p,hz⟩:=I.tuple hq;obtain⟨u,hu,ru⟩:=rv.get hx;obtain⟨f0,f1,f2,f3,f4,f5⟩:=hf it (by simp);refine wpAny_pyNext_tuple_item st (show s.heap.IsTuple a its.toArray from p) (x:=u) ⇑hu λh' st' sb=>?_;have I1:Inv X pins σ H { s with heap:=h' }:=I.turned (t':=s.toks) (λb o hb e=>(sb.2 b hb).trans e) f0 f1 f3 f4 f5;obtain⟨o,e,c,d⟩:=id st';exact⟨u,rfl,qaX (s:={ s with heap:=h' }) e c d (by decide) ⟨x,H,I1,ru,⟨rfl,λys hy=>by rw[I.tuple_inj hy hq];exact hx⟩,st',λb hb=>(hf b hb).1⟩⟩
 done:=by
  intro X hP hw hK hc i pins s σ H E I hf st hg;subst hP hw hK;obtain⟨xs,hq,hx⟩:=hg;obtain⟨its,rv,p,hz⟩:=I.tuple hq;obtain⟨f0,f1,f2,f3,f4,f5⟩:=hf it (by simp);have hl:=rv.length;exact wpAny_pyNext_tuple_end (I.ok.hd hc) st (show s.heap.IsTuple a its.toArray from p) (by simp;omega) λh' eb=>⟨rfl,I.turned (t':=s.toks) (λb o hb e=>eb b o hb e) f0 f1 f3 f4 f5⟩
 self:=λ_ _ _ _ _ st h=>wpAny_pyIter_tupleiter st h
def qaW{P:vS}{w:vY}{K:zA}{tg:vW}(it:vC)(lo:Int)(n:Nat):Turn P w K tg (Itr lo n) [it] it (λi h=>IsRangeIter h it (lo+(i:Nat)*1) ((n:Int)-(i:Nat)) 1) where
 mem:=by simp
 obj:=λi h st b hb=>by
  have e:b=it:=by simpa using hb
  subst e;exact⟨_,st,λv z=>by
   have z':Data.fields _=Data.cell v:=z;cases z'⟩
 keep:=λi h h' st k=>k it (by simp) _ st
 item:=by
  intro X hP hw hK hc i pins s σ H E I hf st hg;subst hP hw hK;obtain⟨f0,f1,f2,f3,f4,f5⟩:=hf it (by simp);have W:=Walks.range (prog:=X.prog) (w:=X.w) (I.ok.hd hc) it lo 1 n;refine W.item i s _ _ hg st λv h' tk hv st' kk=>?_;obtain⟨t,rfl⟩:=hv;have I1:Inv X pins σ H { s with heap:=h',toks:=tk }:=I.turned (λb o hb e=>kk b o (by simpa using hb) e) f0 f1 f3 f4 f5;refine⟨_,rfl,qaX (s:={ s with heap:=h',toks:=tk }) (n := "range_iterator") st' rfl rfl (by decide) ⟨.int (lo+i),H,I1,⟨t,?_⟩,⟨rfl,rfl⟩,st',λb hb=>(hf b hb).1⟩⟩;rw[Int.mul_one]
 done:=by
  intro X hP hw hK hc i pins s σ H E I hf st hg;subst hP hw hK;obtain⟨f0,f1,f2,f3,f4,f5⟩:=hf it (by simp);exact wpAny_pyNext_range_end (I.ok.hd hc) st (by have:n<=i:=hg;omega) λh' eb=>⟨rfl,I.turned (t':=s.toks) (λb o hb e=>eb b o hb e) f0 f1 f3 f4 f5⟩
 self:=λ_ _ _ _ _ st h=>wpAny_pyIter_rangeiter st h
section
variable{X:Cx}{tg:vW}
noncomputable def zCo(K:zA)(tl:TE):TI:=λσ H R=>tl σ H λx H1=>∃a,x=.ref a/\(∃xs,SqL K H1 a xs)/\R (Itl K a) H1
noncomputable def iTup(K:zA)(tl:TE):TI:=λσ H R=>tl σ H λx H1=>∃a,x=.ref a/\(∃xs,SqT K H1 a xs)/\R (Itt K a) H1
def q6k{l:vW}{tl:TE}(hl:PE X l tl):PI X tg l (zCo X.K tl):=by
 intro pins s σ H R I h;refine thn (hl pins s σ H _ I h) λv s1 ⟨x,H1,I1,r1,q1⟩=>?_;obtain⟨a,e,⟨xs,hq⟩,q⟩:=q1;subst e;cases r1;obtain⟨its,rv,p,hz⟩:=I1.list hq;refine uh p.isList ?_;refine⟨s1.heap.objs.size,[s1.heap.objs.size],_,_,H1,rfl,I1.kept (t':=s1.toks) λb o e=>zE _ e,qbP a _,⟨_,zP _ rfl,rfl,rfl⟩,λb hb=>?_,q⟩;have e:b=s1.heap.objs.size:=by simpa using hb
 subst e;exact I1.fpOk (zL _) (I1.hok.fresh (zL _))
def qfT{l:vW}{tl:TE}(hl:PE X l tl):PI X tg l (iTup X.K tl):=by
 intro pins s σ H R I h;refine thn (hl pins s σ H _ I h) λv s1 ⟨x,H1,I1,r1,q1⟩=>?_;obtain⟨a,e,⟨xs,hq⟩,q⟩:=q1;subst e;cases r1;obtain⟨its,rv,p,hz⟩:=I1.tuple hq;refine sC (show s1.heap.IsTuple a its.toArray from p) ?_;refine⟨s1.heap.objs.size,[s1.heap.objs.size],_,_,H1,rfl,I1.kept (t':=s1.toks) λb o e=>zE _ e,qaO a _,⟨_,zP _ rfl,rfl,rfl⟩,λb hb=>?_,q⟩;have e:b=s1.heap.objs.size:=by simpa using hb
 subst e;exact I1.fpOk (zL _) (I1.hok.fresh (zL _))
def qd5{pins:List (vC×Obj)}{σ:St}{H:Hp}{s:vB}{R:It->Hp->Prop}{E:Value->vB->Prop}{lo hi:Int}{t u v:Tok}{tk:Nat}(I:Inv X pins σ H s)(h1:-(2^62)<=lo)(h2:lo<2^62)(h3:-(2^62)<=hi)(h4:hi<2^62)(q:R (Itr lo (hi-lo).toNat) H):vL (model X.prog X.w) X.A (t9 (.ref s.heap.objs.size)) (PIE X pins σ tg R) E { s with heap:=s.heap.push { cls:=.type "range", data:=.fields #[.int lo t,.int hi u,.int 1 v] },toks:=tk }:=by
 refine wpAny_pyIter_range (IsRange.new ..) (small_one h1 h2 h3 h4) ?_;have I1:Inv X pins σ H { s with heap:=s.heap.push { cls:=.type "range", data:=.fields #[.int lo t,.int hi u,.int 1 v] },toks:=tk }:=I.kept λb o e=>zE _ e;refine⟨(s.heap.push { cls:=.type "range", data:=.fields #[.int lo t,.int hi u,.int 1 v] }).objs.size,[(s.heap.push { cls:=.type "range", data:=.fields #[.int lo t,.int hi u,.int 1 v] }).objs.size],_,_,H,rfl,
  I1.kept (t':=tk) λb o e=>zE _ e,qaW _ lo (hi-lo).toNat,?_,λb hb=>?_,q⟩
 ·have e1:lo+((0:Nat):Int)*1=lo:=by simp
  have e2:(((hi-lo).toNat:Nat):Int)-((0:Nat):Int)=Builtin.Range.rangeSize lo hi 1:=by rw[rangeSize_one];split <;> omega
  show IsRangeIter _ _ (lo+((0:Nat):Int)*1) ((((hi-lo).toNat:Nat):Int)-((0:Nat):Int)) 1;rw[e1,e2];exact zP _ rfl
 ·have e:b=(s.heap.push { cls:=.type "range", data:=.fields #[.int lo t,.int hi u,.int 1 v] }).objs.size:=by simpa using hb
  subst e;exact I1.fpOk (zL _) (I1.hok.fresh (zL _))
noncomputable def iRng1(ta:TA):TI:=λσ H R=>ta σ H λvs H1=>∃j:Int,vs=[.int j]/\-(2^62)<=j/\j<2^62/\R (Itr 0 j.toNat) H1
def qbv{a:vW}{ta:TA}{p pos:Pos}(hg:Gl X "range")(hm:X.mg "range" = none)(ha:PA X [a] ta)(hs:vJ [a] X.env=[(false,eval a X.env)]:=by rfl):PI X tg (.Call (.Name "range" p) [a] [] pos) (iRng1 ta):=by
 intro pins s σ H R I h;refine Call_ (q3Y I hg hm boot_range (PyProof.Rows.callWith_type1 (thn (ha pos pins s σ H _ I h) λus s1 ⟨vs,H1,I1,r1,q1⟩=>?_) hs rfl));obtain⟨j,e,q1,q2,q⟩:=q1;subst e;cases r1 with
 | cons r rr=>
  cases rr;obtain⟨t,rfl⟩:=r;exact call_range_1 (qd5 I1 ∅ ∅ q1 q2 ⇑q)
noncomputable def tFor(wi:TI)(g:TG)(tb:TS):TS:=λD σ H=>wi σ H λJ H1=>∃W:Nat->Nat->St->Hp->Prop,(∃m,W 0 m σ H1)/\∀i m σ H,W i m σ H ->
 (J.stop i H/\D.nx σ H)\/(J.go i H/\∃N:St->Hp->Prop,(∀σ' H',N σ' H'->∃m',m'<m/\W (i+1) m' σ' H')/\∀x H',J.yld i H x H'->g x σ H' λσ2 H2=>tb { D with nx:=N,ct:=N,bk:=D.nx } σ2 H2)
noncomputable def zAh(fp:List vC)(h:vf):List (vC×Obj):=fp.filterMap λb=>(h.get? b).map λo=>(b,o)
def q4a{fp:List vC}{h:vf}{b:vC}{o:Obj}(hb:b∈fp)(e:h.get? b=some o):(b,o)∈zAh fp h:=wq.mpr ⟨b,hb,by rw[e];rfl⟩
def qbL{fp:List vC}{h:vf}{p:vC×Obj}(hp:p∈zAh fp h):p.1∈fp/\h.get? p.1=some p.2:=by
 obtain⟨b,hb,e⟩:=wq.mp hp;cases q:h.get? b with
 | none=>rw[q]at e;cases e
 | some o=>
  rw[q]at e;have e':(b,o)=p:=z0 e;subst e';exact⟨hb,q⟩
def Inv.pinned{pins:List (vC×Obj)}{σ:St}{H:Hp}{s:vB}{fp:List vC}(I:Inv X pins σ H s)(hf:∀b∈fp,zBv X pins H b)(ho:∀b∈fp,∃o,s.heap.get? b=some o/\∀v,o.data≠.cell v):Inv X (pins++zAh fp s.heap) σ H s :=
 I.pins_of λp hp=>(zT.mp hp).elim (λz=>I.pin p (zu _ z)) λz=>by
  obtain⟨hb,e⟩:=qbL z;obtain⟨f0,f1,f2,_⟩:=hf p.1 hb;obtain⟨o,e',d⟩:=ho p.1 hb;rw[e]at e';cases e';exact⟨e,f0,f1,f2,d⟩
def Inv.unpinned{pins pl:List (vC×Obj)}{σ:St}{H:Hp}{s:vB}(I:Inv X (pins++pl) σ H s):Inv X pins σ H s:=I.pins_of λp hp=>I.pin p (zu _ (yJ _ hp))
def q7v{iter:vW}{body:List vn}{wi:TI}{g:TG}{tb:TS}{pos:Pos}(hp:tK (model X.prog X.w) X.A X.env X.xe)(hc:X.calm=true)(hi:PI X tg iter wi)(hg:PG X tg g)(hb:PSs X body tb)(hs:∀x,vt iter X.env x=pure x:=by intro _;rfl):PS X (.For tg iter body [] pos) (tFor wi g tb):=by
 intro pins s σ H D I h;refine wpAny_For (thn (hi pins s σ H _ I h) λv s1 h1=>thn h1 λitv s2 h2=>?_) hs;obtain⟨it,fp,tn,J,H2,e,I2,T,st2,f2,W,⟨m0,w0⟩,turn⟩:=h2;subst e;have stat:∀{H':Hp},(∀b∈fp,H' b=none)->∀b∈fp,zBv X pins H' b:=λhn b hb=>⟨hn b hb,(f2 b hb).2⟩;refine codeAny_forLoop_any (λn s'=>∃i σ' H',Inv X pins σ' H' s'/\tn i s'.heap/\(∀b∈fp,H' b=none)/\W i n σ' H') ?_ m0 ⟨0,σ,H2,I2,st2,λb hb=>(f2 b hb).1,w0⟩;rintro n s3 ⟨i,σ3,H3,I3,st3,fr3,w3⟩;rcases turn i n σ3 H3 w3 with⟨stop,qn⟩|⟨go,N,hN,step⟩
 ·refine uK hp (thn (T.done X rfl rfl rfl hc i pins s3 σ3 H3 X.xe I3 (stat fr3) st3 stop) λr s4 ⟨hr,I4⟩=>?_)
  subst hr;exact uc ⟨σ3,H3,I4,qn⟩
 ·refine uK hp (thn (T.item X rfl rfl rfl hc i pins s3 σ3 H3 X.xe I3 (stat fr3) st3 go) λr s4 ⟨u,hr,h4⟩=>?_)
  subst hr;refine uK hp (thn h4 λ_ s5 ⟨x,H5,I5,r5,y5,st5,fr5⟩=>?_);have I5':=I5.pinned (stat fr5) (T.obj _ _ st5);refine uK hp (thn (hg _ s5 σ3 H5 x u _ I5' r5 (step x H5 y5)) λ_ s6 ⟨σ6,H6,I6,q6⟩=>?_);refine uK hp (thn (hb _ s6 σ6 H6 _ I6 q6) λf s7 q7=>?_);have again:∀{σ7:St}{H7:Hp},Inv X (pins++zAh fp s5.heap) σ7 H7 s7->N σ7 H7->∃m,m<n/\∃i σ' H',Inv X pins σ' H' s7/\tn i s7.heap/\(∀b∈fp,H' b=none)/\W i m σ' H':=λ{σ7 H7} I7 n7=>by
   obtain⟨m',hm,w7⟩:=hN σ7 H7 n7;refine⟨m',hm,i+1,σ7,H7,I7.unpinned,T.keep _ _ _ st5 λb hb o e=>(I7.pin (b,o) (zu _ (zu _ (q4a hb e)))).1,λb hb=>?_,w7⟩;obtain⟨o,e,d⟩:=T.obj _ _ st5 b hb;exact(I7.pin (b,o) (zu _ (zu _ (q4a hb e)))).2.1
  cases f with
  | next=>obtain⟨σ7,H7,I7,n7⟩:=q7;exact again I7 n7
  | cont=>obtain⟨σ7,H7,I7,n7⟩:=q7;exact again I7 n7
  | brk=>obtain⟨σ7,H7,I7,q7⟩:=q7;exact⟨σ7,H7,I7.unpinned,q7⟩
  | ret v=>obtain⟨x7,σ7,H7,I7,r7,q7⟩:=q7;exact⟨x7,σ7,H7,I7.unpinned,r7,q7⟩
end
abbrev R2:=V->V->Hp->VK->Prop
def OpR(X:Cx)(f:Value->Value->Sem Value)(r:R2):Prop :=
 ∀(pins:List (vC×Obj))(s:vB)(σ:St)(H:Hp)(x y:V)(v u:Value)(Q:VK),Inv X pins σ H s->RelV x v->RelV y u->r x y H Q ->
  vL (model X.prog X.w) X.A (f v u) (EP X pins σ Q) X.xe s
def UnR(X:Cx)(f:Value->Sem Value)(r:V->Hp->VK->Prop):Prop :=
 ∀(pins:List (vC×Obj))(s:vB)(σ:St)(H:Hp)(x:V)(v:Value)(Q:VK),Inv X pins σ H s->RelV x v->r x H Q ->
  vL (model X.prog X.w) X.A (f v) (EP X pins σ Q) X.xe s
def Xn(X:Cx)(f:Value)(r:List V->Hp->VK->Prop):Prop :=
 ∀(pins:List (vC×Obj))(s:vB)(σ:St)(H:Hp)(xs:List V)(us:List Value)(Q:VK),Inv X pins σ H s->Y3 xs us->r xs H Q ->
  vL (model X.prog X.w) X.A (call f us) (EP X pins σ Q) X.xe s
def TruR(X:Cx)(r:V->Hp->(Bool->Hp->Prop)->Prop):Prop :=
 ∀(pins:List (vC×Obj))(s:vB)(σ:St)(H:Hp)(x:V)(v:Value)(Q:Bool->Hp->Prop),Inv X pins σ H s->RelV x v->r x H Q ->
  vL (model X.prog X.w) X.A (truthy v) (TP X pins σ Q) X.xe s
noncomputable def tOp(r:R2)(ta tb:TE):TE:=λσ H Q=>ta σ H λx H1=>tb σ H1 λy H2=>r x y H2 Q
noncomputable def tUn(r:V->Hp->VK->Prop)(ta:TE):TE:=λσ H Q=>ta σ H λx H1=>r x H1 Q
noncomputable def rI(C:Int->Int->Prop)(g:Int->Int->V):R2:=λx y H Q=>∃i j,x=.int i/\y=.int j/\C i j/\Q (g i j) H
noncomputable def rI0(g:Int->Int->V):R2:=λx y H Q=>∃i j,x=.int i/\y=.int j/\Q (g i j) H
def rU(g:Int->V):V->Hp->VK->Prop:=λx H Q=>∃i,x=.int i/\Q (g i) H
section
variable{X:Cx}{a b c:vW}{ta tb tc:TE}{pos:Pos}
def binT(ha:PE X a ta)(hb:PE X b tb){pins:List (vC×Obj)}{s:vB}{σ:St}{H:Hp}{R:V->V->Hp->Prop}(I:Inv X pins σ H s)(h:ta σ H λx H1=>tb σ H1 λy H2=>R x y H2){Q:Value->vB->Prop}{f:Value->Value->Sem Value}(hf:∀v u s2 x y H2,Inv X pins σ H2 s2->RelV x v->RelV y u->R x y H2->vL (model X.prog X.w) X.A (f v u) Q X.xe s2):
  vL (model X.prog X.w) X.A (eval a X.env) (λv s₁=>vL (model X.prog X.w) X.A (eval b X.env) (λu s₂=>vL (model X.prog X.w) X.A (f v u) Q X.xe s₂) X.xe s₁) X.xe s:=by
 refine thn (ha pins s σ H _ I h) λv s1 ⟨x,H1,I1,r1,q1⟩=>?_;refine thn (hb pins s1 σ H1 _ I1 q1) λu s2 ⟨y,H2,I2,r2,q2⟩=>?_;exact hf v u s2 x y H2 I2 r1 r2 q2
def qgm{op:Operator}{r:R2}(ho:OpR X (uO op) r)(ha:PE X a ta)(hb:PE X b tb):PE X (.BinOp a op b pos) (tOp r ta tb):=by
 intro pins s σ H Q I h;exact wpAny_BinOp (binT ha hb I h λv u s2 x y H2 I2 rx ry q=>ho pins s2 σ H2 x y v u Q I2 rx ry q)
def qgt{op:UnaryOp}{r:V->Hp->VK->Prop}(ho:UnR X (unaryOp op) r)(ha:PE X a ta):PE X (.UnaryOp op a pos) (tUn r ta):=by
 intro pins s σ H Q I h;exact UnaryOp_ (thn (ha pins s σ H _ I h) λv s1 ⟨x,H1,I1,r1,q1⟩=>ho pins s1 σ H1 x v Q I1 r1 q1)
def opI{f:Value->Value->Sem Value}{C:Int->Int->Prop}{g:Int->Int->Int}(rule:∀(i j:Int)(t u:Tok)(s:vB)(Q:Value->vB->Prop)(E:Value->vB->Prop),C i j->Q (.int (g i j) s.toks) { s with toks:=s.toks+1 }->vL (model X.prog X.w) X.A (f (.int i t) (.int j u)) Q E s):
  OpR X f (rI C λi j=>.int (g i j)):=by
 intro pins s σ H x y v u Q I rx ry h;obtain⟨i,j,rfl,rfl,hc,q⟩:=h;obtain⟨t,rfl⟩:=rx;obtain⟨t',rfl⟩:=ry;exact rule i j t t' s _ _ hc ⟨.int (g i j),H,I.tok _,⟨_,rfl⟩,q⟩
def opI0{f:Value->Value->Sem Value}{g:Int->Int->Int}(rule:∀(i j:Int)(t u:Tok)(s:vB)(Q:Value->vB->Prop)(E:Value->vB->Prop),Q (.int (g i j) s.toks) { s with toks:=s.toks+1 }->vL (model X.prog X.w) X.A (f (.int i t) (.int j u)) Q E s):
  OpR X f (rI0 λi j=>.int (g i j)):=by
 intro pins s σ H x y v u Q I rx ry h;obtain⟨i,j,rfl,rfl,q⟩:=h;obtain⟨t,rfl⟩:=rx;obtain⟨t',rfl⟩:=ry;exact rule i j t t' s _ _ ⟨.int (g i j),H,I.tok _,⟨_,rfl⟩,q⟩
def opB0{f:Value->Value->Sem Value}{g:Int->Int->Bool}(rule:∀(i j:Int)(t u:Tok)(s:vB)(Q:Value->vB->Prop)(E:Value->vB->Prop),Q (.bool (g i j)) s->vL (model X.prog X.w) X.A (f (.int i t) (.int j u)) Q E s):
  OpR X f (rI0 λi j=>.bl (g i j)):=by
 intro pins s σ H x y v u Q I rx ry h;obtain⟨i,j,rfl,rfl,q⟩:=h;obtain⟨t,rfl⟩:=rx;obtain⟨t',rfl⟩:=ry;exact rule i j t t' s _ _ ⟨.bl (g i j),H,I,rfl,q⟩
def CDiv(i j:Int):Prop:=0<j/\j<1073741824
def CPow(i j:Int):Prop:=0<=j/\j<=1000000/\i.natAbs<2^64
def CMul(i j:Int):Prop:=(-(2^64)<i/\i<2^64)\/(-(2^64)<j/\j<2^64)
def CMul.ok{i j:Int}(h:CMul i j):IntMulOk i j:=by
 rcases h with⟨h1,h2⟩|⟨h1,h2⟩
 ·exact .of_left (intBits_le_64 h1 h2)
 ·exact .of_right (intBits_le_64 h1 h2)
def qfh:OpR X (uO .Add) (rI0 λi j=>.int (i+j)):=opI0 λ_ _ _ _ _ _ _ q=>add_int q
def qfZ:OpR X (uO .Sub) (rI0 λi j=>.int (i-j)):=opI0 λ_ _ _ _ _ _ _ q=>sub_int q
def qf8:OpR X (uO .Mult) (rI CMul λi j=>.int (i*j)):=opI λ_ _ _ _ _ _ _ hc q=>mul_int q hc.ok
def qe0:OpR X (uO .FloorDiv) (rI CDiv λi j=>.int (i/j)):=opI λi j _ _ _ _ _ hc q=>by
 have h1:(0:Int)<j:=hc.1;have h2:j<1073741824:=hc.2;exact floordiv_int ∅ (by rw[Int.fdiv_eq_ediv_of_nonneg i ∅];exact q) (.inl (PyProof.noPylong_small ∅))
def qfW:OpR X (uO .Mod) (rI (λ_ j=>0<j) λi j=>.int (i%j)):=opI λi j _ _ _ _ _ hc q=>by
 have h1:(0:Int)<j:=hc;exact mod_int' ∅ (by rw[Int.fmod_eq_emod_of_nonneg i ∅];exact q)
def qgb:OpR X (uO .Pow) (rI CPow λi j=>.int (i^j.toNat)):=opI λ_ _ _ _ _ _ _ hc q=>pow_int_small hc.1 hc.2.1 hc.2.2 q
def unI{f:Value->Sem Value}{g:Int->Int}(rule:∀(i:Int)(t:Tok)(s:vB)(Q:Value->vB->Prop)(E:Value->vB->Prop),Q (.int (g i) s.toks) { s with toks:=s.toks+1 }->vL (model X.prog X.w) X.A (f (.int i t)) Q E s):
  UnR X f (rU λi=>.int (g i)):=by
 intro pins s σ H x v Q I rx h;obtain⟨i,rfl,q⟩:=h;obtain⟨t,rfl⟩:=rx;exact rule i t s _ _ ⟨.int (g i),H,I.tok _,⟨_,rfl⟩,q⟩
def qfr:UnR X (unaryOp .USub) (rU λi=>.int (-i)):=unI λ_ _ _ _ _ q=>neg_int q
end
section
variable{X:Cx}{a b c:vW}{ta tb tc:TE}{pos:Pos}
def qdQ:OpR X (uJ .Lt) (rI0 λi j=>.bl (decide (i<j))):=opB0 λ_ _ _ _ _ _ _ q=>lt_int q
def qgo:OpR X (uJ .LtE) (rI0 λi j=>.bl (decide (i<=j))):=opB0 λ_ _ _ _ _ _ _ q=>le_int q
def qgu:OpR X (uJ .GtE) (rI0 λi j=>.bl (decide (j<=i))):=opB0 λ_ _ _ _ _ _ _ q=>ge_int q
def OpR.or{f:Value->Value->Sem Value}{r r':R2}(h:OpR X f r)(h':OpR X f r'):OpR X f (λx y H Q=>r x y H Q\/r' x y H Q):=by
 intro pins s σ H x y v u Q I rx ry q;rcases q with q|q
 ·exact h pins s σ H x y v u Q I rx ry q
 ·exact h' pins s σ H x y v u Q I rx ry q
def WJ(b:vW){op:sO}(h:op≠.In:=by decide)(h2:op≠.NotIn:=by decide):vz op b=false:=by
 have e1:(op==CmpOp.In)=false:=by cases op <;> first|rfl|exact vK rfl h
 have e2:(op==CmpOp.NotIn)=false:=by cases op <;> first|rfl|exact vK rfl h2
 cases b <;> simp[vz,e1,e2]
def qew{op:sO}{r:R2}(ho:OpR X (uJ op) r)(ha:PE X a ta)(hb:PE X b tb)(hm:vz op b=false):PE X (.Compare a [op] [b] pos) (tOp r ta tb):=by
 intro pins s σ H Q I h;exact wpAny_Compare1 (binT ha hb I h λv u s2 x y H2 I2 rx ry q=>ho pins s2 σ H2 x y v u Q I2 rx ry q) hm
noncomputable def tTest(t:TE):TT:=λσ H Q=>t σ H λx H'=>∃k,x=.bl k/\Q k H'
def qeO{op:sO}{r:R2}(ho:OpR X (uJ op) r)(ha:PE X a ta)(hb:PE X b tb)(hm:vz op b=false):PT X (.Compare a [op] [b] pos) (tTest (tOp r ta tb)):=by
 intro pins s σ H Q I h;refine tU (thn (ha pins s σ H _ I h) λv s1 ⟨x,H1,I1,r1,q1⟩=>thn (hb pins s1 σ H1 _ I1 q1) λu s2 ⟨y,H2,I2,r2,q2⟩=>
  thn (ho pins s2 σ H2 x y v u _ I2 r1 r2 q2) λc s3 ⟨z,H3,I3,r3,k,e,q3⟩=>?_) hm
 subst e;cases r3;exact uB ⟨H3,I3,q3⟩
def TruV(K:zA)(x:V)(H:Hp)(k:Bool):Prop :=
 match x with
 | .non=>k=false
 | .bl b=>k=b
 | .int i=>k=(i != 0)
 | .str y=>y.length<=sizeLine/\k=((y.length:Int) != 0)
 | .byt y=>y.size<=sizeLine/\k=((y.size:Int) != 0)
 | .ref p=>(∃xs,SqL K H p xs/\k=!xs.isEmpty)\/(∃xs,SqT K H p xs/\k=!xs.isEmpty)\/∃kvs,H p=some (.dK kvs)/\k=!kvs.isEmpty
 | _=>False
def qbb{κ:Type}{kvs:List (κ×V)}{vs:List (κ×Value)}(r:KV kvs vs):(!vs.isEmpty)=!kvs.isEmpty:=by
 cases r <;> rfl
def q7j{xs:List V}{its:List Value}(r:Y3 xs its):(!its.toArray.isEmpty)=!xs.isEmpty:=by
 cases r <;> simp
def zAE:(sizeLine:Nat)<2^63:=by rw[vo];decide
def qfH:TruR X (λx H Q=>∃k,TruV X.K x H k/\Q k H):=by
 intro pins s σ H x v Q I rx h;obtain⟨k,e,q⟩:=h;have hl:=zAE;have hs:sizeLine=16777216:=vo;cases x with
 | non=>
  cases rx;have e':k=false:=e;subst e';exact truthy_none ⟨H,I,q⟩
 | bl b=>
  cases rx;have e':k=b:=e;subst e';exact uB ⟨H,I,q⟩
 | int i=>
  obtain⟨t,rfl⟩:=rx;have e':k=(i != 0):=e;subst e';exact PySem.P.truthy_int ⟨H,I,q⟩
 | str y=>
  obtain⟨t,rfl⟩:=rx;obtain⟨hy,e'⟩:y.length<=sizeLine/\k=((y.length:Int) != 0):=e;subst e';exact PySem.P.truthy_str ∅ ⟨H,I.tok _,q⟩
 | byt y=>
  obtain⟨t,rfl⟩:=rx;obtain⟨hy,e'⟩:y.size<=sizeLine/\k=((y.size:Int) != 0):=e;subst e';exact PySem.W.truthy_bytes ∅ ⟨H,I.tok _,q⟩
 | ref p=>
  cases rx;have e':(∃xs,SqL X.K H p xs/\k=!xs.isEmpty)\/(∃xs,SqT X.K H p xs/\k=!xs.isEmpty)\/∃kvs,H p=some (.dK kvs)/\k=!kvs.isEmpty:=e;rcases e' with⟨xs,hx,e'⟩|⟨xs,hx,e'⟩|⟨kvs,hx,e'⟩
  ·subst e'
   obtain⟨its,r,pl,hz⟩:=I.list hx;have hlen:=r.length;exact wpAny_truthy_list pl.isList (by simp only[zM];omega) ⟨H,I.tok _,by rw[q7j r];exact q⟩
  ·subst e'
   obtain⟨its,r,pl,hz⟩:=I.tuple hx;have hlen:=r.length;exact truthy_tuple pl (by simp only[zM];omega) ⟨H,I.tok _,by rw[q7j r];exact q⟩
  ·subst e'
   obtain⟨hz,hS,vs,r,m⟩:kvs.length<=sizeLine/\(p==uF)=false/\∃vs,KV kvs vs/\s.heap.DictOf (Yz X.prog X.w) p vs:=I.hok p _ hx;have hlen:kvs.length=vs.length:=Paired.length r;exact wpAny_truthy_dict hS m ∅ ⟨H,I.tok _,by rw[qbb r];exact q⟩
 | _=>exact(show False from e).elim
def q5i(ha:PE X a ta)(he:∀whole,sZ a X.env whole=(do let v <- whole;standAt a.pos;holding [v] (truthy v))):
  PT X a (λσ H Q=>ta σ H λx H'=>∃k,TruV X.K x H' k/\Q k H'):=by
 intro pins s σ H Q I h;exact isTrue_plain (thn (ha pins s σ H _ I h) λv s1 ⟨x,H1,I1,r1,q1⟩=>qfH pins s1 σ H1 x v Q I1 r1 q1) (he _)
def vals1{x:V}{us:List Value}(r:Y3 [x] us):∃u,us=[u]/\RelV x u:=by
 cases r with
 | cons r1 r2=>cases r2;exact⟨_,rfl,r1⟩
def vals2{x y:V}{us:List Value}(r:Y3 [x,y] us):∃u w',us=[u,w']/\RelV x u/\RelV y w':=by
 cases r with
 | cons r1 r2=>
  cases r2 with
  | cons r3 r4=>cases r4;exact⟨_,_,rfl,r1,r3⟩
end
structure ObjM (h:vf) (x dx C:vC) (mA:Str->Option Value):Prop where
 obj:h.get? x=some (ZW C dx)
 ns:h.Ns1 dx mA
 ne:dx≠x
def qbG{h:vf}{dx:vC}{mA:Str->Option Value}(n:h.Ns1 dx mA):∃od,h.get? dx=some od/\∀name,Zd name od=some (mA name):=by
 obtain⟨o,es,ep,ho,hd,hk,_,hm⟩:=n;refine⟨o,ho,λname=>?_⟩;have e:=hm name;unfold nsFind findBy at e;rw[<- Array.find?_toList]at e;unfold Zd;rw[hd]
 dsimp only
 split
 ·rename_i y q
  rw[q]at e;exact uG some e
 ·rename_i q
  rw[q]at e;have a:es.toList.any (·.refKey)=false:=by
   rw[Zx];intro y hy;obtain⟨z,t,hkey⟩:=hk y (Array.mem_toList_iff.mp hy);simp[DictEntry.refKey,hkey]
  have a':¬es.toList.any (·.refKey)=true:=by rw[a];exact ym
  rw[vH a'];exact uG some e
def ObjM.look{h:vf}{x dx C:vC}{mA:Str->Option Value}(I:ObjM h x dx C mA):∃od,PySem.W.InstAt h x (ZW C dx) C (some od)/\∀name,Zd name od=some (mA name) :=
 let ⟨od,ho,hl⟩:=qbG I.ns
 ⟨od,⟨I.obj,rfl,rfl,ho⟩,hl⟩
section
variable{prog:vS}{w:vY}{A:vZ}{E:Value->vB->Prop}{s:vB}{K:zA}{x dx C f:vC}{mA:Str->Option Value}{name:Str}{v:Value}
end
def zBI.some_of{v:V}{o:Option Value}(r:zBI (some v) o):∃u,o=some u/\RelV v u:=by
 cases o with
 | none=>exact(show False from r).elim
 | some u=>exact⟨u,rfl,r⟩
section
variable{P:vS}{w:vY}{H H':Hp}{h h':vf}{a C dx:vC}{fs fs':List (Str×V)}
def qeM(hok:HOk P w H h)(e:H a=some (.ins C dx fs)):∃mA,ObjM h a dx C mA/\(∀f,zBI (fs.lookup f) (mA f))/\PySem.Within mA (fs.map (·.1))/\fs.length<=1000/\H dx=some (.own a):=by
 obtain⟨d,z,ne,ob,mA,n,r,q⟩:=(show Y5 P w H h a (.ins C dx fs)from hok a _ e);exact⟨mA,⟨ob,n,ne⟩,r,q,z,d⟩
end
structure Cls (K:zA) (C:vC):Prop where
 pg:YD K C Str.empty=true
 hd:PySem.W.hasDictIn K C=true
 po:PySem.W.plainOver K C=true
 sa:xk K (.ref C) "__setattr__" = some (some (.builtin "object.__setattr__"))
def Cls.get{K:zA}{C:vC}(c:Cls K C)(f:Str):YD K C f=true:=c.pg
section
variable{X:Cx}{pins:List (vC×Obj)}{σ:St}{H:Hp}{s:vB}{a C dx:vC}{fs:List (Str×V)}{f:Str}{v:V}{A:vZ}{E:Value->vB->Prop}
end
section
variable{X:Cx}{o e value:vW}{f:Str}{pos pos' tpos:Pos}{ta tv:TE}
end
section
variable{X:Cx}{pins:List (vC×Obj)}{σ:St}{H:Hp}{s:vB}{A:vZ}{E:Value->vB->Prop}{Q:Value->vB->Prop}{c:Value}{b:Bool}
inductive TyOf (K:zA) (H:Hp):V->Value->Prop where
 | non:TyOf K H .non (.type "NoneType")
 | bl (x:Bool):TyOf K H (.bl x) (.type "bool")
 | int (i:Int):TyOf K H (.int i) (.type "int")
 | str (x:Str):TyOf K H (.str x) (.type "str")
 | flt (x:UInt64):TyOf K H (.flt x) (.type "float")
 | lst {a:vC} {xs:List V} (e:H a=some (.lst xs)):TyOf K H (.ref a) (.type "list")
 | frz {a:vC} {o:Obj} {xs:List V} (e:H a=some (.frz o (.lst xs))):TyOf K H (.ref a) (.type "list")
 | tup {a:vC} {xs:List V} (e:H a=some (.tup xs)):TyOf K H (.ref a) (.type "tuple")
 | dK {a:vC} {kvs:List (Key×V)} (e:H a=some (.dK kvs)):TyOf K H (.ref a) (.type "dict")
 | dT {a:vC} {kvs:List (List Key×V)} (e:H a=some (.dT kvs)):TyOf K H (.ref a) (.type "dict")
 | ins {a C dx:vC} {fs:List (Str×V)} (e:H a=some (.ins C dx fs)) (cl:Cls K C) (ha:xk K (.ref C) "__class__" = some (some (.builtin "object.__class__")))
   (hn:PySem.W.specialIn K (.builtin "object.__class__") "__get__" = some (some (.builtin "getset_descriptor.__get__"))) (htk:PySem.W.takesIn K (.builtin "object.__class__")=some true)
   (hm:xN K C (.type "object")=some true):TyOf K H (.ref a) (.ref C)
def qcK{x:V}{u t:Value}(I:Inv X pins σ H s)(rx:RelV x u)(ty:TyOf X.K H x t)(e:zw X.K t c=some b)(h:∀tk,Q (.bool b) { s with toks:=tk }):
  vL (model X.prog X.w) A (call (.builtin "isinstance") [u,c]) Q E s:=by
 cases ty with
 | non=>cases (show u=Value.none from rx);exact xD PySem.W.kitx_none I.kIn True.intro e (λz=>nomatch z) h
 | bl y=>cases (show u=Value.bool y from rx);exact xD PySem.W.kitx_bool I.kIn True.intro e (λz=>nomatch z) h
 | int i=>obtain⟨t,q⟩:=(show ∃t,u=Value.int i t from rx);cases q;exact xD PySem.W.kitx_int I.kIn True.intro e (λz=>nomatch z) h
 | str y=>obtain⟨t,q⟩:=(show ∃t,u=Value.str y t from rx);cases q;exact xD PySem.W.kitx_str I.kIn True.intro e (λz=>nomatch z) h
 | flt y=>obtain⟨t,q⟩:=(show ∃t,u=Value.float y t from rx);cases q;exact xD PySem.W.kitx_float I.kIn True.intro e (λz=>nomatch z) h
 | @lst a xs ea=>
  cases (show u=Value.ref a from rx);obtain⟨_,_,n,_,h1⟩:=(show Y5 X.prog X.w H s.heap a (.lst xs)from I.hok a _ ea);exact xD Zy I.kIn ⟨_,h1,rfl⟩ e (λz=>nomatch z) h
 | @frz a ob xs ea=>
  cases (show u=Value.ref a from rx);obtain⟨_,_,_,n,_,h1⟩:=(show Y5 X.prog X.w H s.heap a (.frz ob (.lst xs))from I.hok a _ ea);exact xD Zy I.kIn ⟨_,h1,rfl⟩ e (λz=>nomatch z) h
 | @tup a xs ea=>
  cases (show u=Value.ref a from rx);obtain⟨_,_,_,p⟩:=(show Y5 X.prog X.w H s.heap a (.tup xs)from I.hok a _ ea);obtain⟨o,h1,h2,_⟩:=p;exact xD PySem.W.kitx_tuple I.kIn ⟨o,h1,h2⟩ e (λz=>nomatch z) h
 | @dK a kvs ea=>
  cases (show u=Value.ref a from rx);obtain⟨_,_,vs,_,p⟩:=(show Y5 X.prog X.w H s.heap a (.dK kvs)from I.hok a _ ea);obtain⟨o,es,ep,h1,h2,_⟩:=p;exact xD Zz I.kIn ⟨o,h1,h2.1⟩ e (λz=>nomatch z) h
 | @dT a kvs ea=>
  cases (show u=Value.ref a from rx);obtain⟨_,_,xs,_,o,es,ep,h1,h2,_⟩:=(show Y5 X.prog X.w H s.heap a (.dT kvs)from I.hok a _ ea);exact xD Zz I.kIn ⟨o,h1,h2.1⟩ e (λz=>nomatch z) h
 | @ins a C dx fs ea cl ha hn htk hm=>
  cases (show u=Value.ref a from rx);obtain⟨mA,O,_⟩:=qeM I.hok ea;obtain⟨od,J,_⟩:=O.look;exact xD (PySem.W.kitx_own (cl.get _) cl.hd ha hn htk hm) I.kIn J e (λz=>nomatch z) h
end
structure Room (k:Nat) (A:vZ):Prop where
 hd:A.handled=none
 dp:A.depth+3*k+5<recursionLimit
 un:A.units+16*k+200<ua
def Room.mono{j k:Nat}{A:vZ}(r:Room k A)(h:j<=k):Room j A:=⟨r.hd,by have:=r.dp;omega,by have:=r.un;omega⟩
theorem Room.deeper{k:Nat}{A:vZ}(r:Room (k+1) A)(env:Env):Room k (A.deeper env) :=
 ⟨r.hd,by have:=r.dp;show A.depth+1+3*k+5<_;omega,by have:=r.un;show A.units+3+16*k+200<_;omega⟩
theorem Room.depth{k:Nat}{A:vZ}(r:Room k A):A.depth<recursionLimit:=by have:=r.dp;omega
theorem Room.units{k:Nat}{A:vZ}(r:Room k A):A.units+64<ua:=by have:=r.un;omega
noncomputable def zAp:TA:=λ_ H Q=>Q [] H
noncomputable def W8(ta:TE)(tr:TA):TA:=λσ H Q=>ta σ H λx H1=>tr σ H1 λxs H2=>Q (x::xs) H2
section
variable{X:Cx}{e:vW}{es:List vW}{te:TE}{t:TA}{pos:Pos}
def qN:PA X [] zAp:=λ_ _ _ _ H Q I h=>Calls.spliced_nil ⟨[],H,I,.nil,h⟩
def qo(ha:PE X e te)(hr:PA X es t)(hs:vJ (e::es) X.env=(false,eval e X.env)::vJ es X.env:=by rfl):PA X (e::es) (W8 te t):=by
 intro pos pins s σ H Q I h;rw[hs];show vL _ _ (spliced ((false,eval e X.env)::vp pos (vJ es X.env))) _ _ s;refine Calls.spliced_cons (thn (ha pins s σ H _ I h) λu s1 ⟨x,H1,I1,r1,q1⟩=>?_);exact thn (hr pos pins s1 σ H1 _ I1 q1) λus s2 ⟨xs,H2,I2,r2,q2⟩=>⟨x::xs,H2,I2,.cons r1 r2,q2⟩
noncomputable def tTup(t:TA):TE:=λσ H Q=>t σ H λxs H1=>xs.length<=sizeLine/\∀p,H1 p=none->Q (.ref p) (upd H1 p (.tup xs))
noncomputable def zDA(t:TA):TE:=λσ H Q=>t σ H λxs H1=>xs.length<=sizeLine/\∀p,H1 p=none->Q (.ref p) (upd H1 p (.lst xs))
def qbC{x1}(h:PA X es t):PE X (.Tuple es x1 pos) (tTup t):=by
 intro pins s σ H Q I hq;refine wpAny_Tuple_spliced (thn (h pos pins s σ H _ I hq) λus s1 ⟨xs,H1,I1,r,z,q⟩=>⟨by rw[<- r.length];exact z,?_⟩);have hf:H1 s1.heap.objs.size=none:=I1.hok.fresh (zL _);refine⟨.ref s1.heap.objs.size,upd H1 s1.heap.objs.size (.tup xs),I1.laid (t':=s1.toks) (λb u e=>zE _ e) (zL _) ?_,rfl,q _ hf⟩;exact⟨z,us,r,⟨_,zP _ rfl,rfl,_,rfl⟩⟩
def q4p(h:PA X es t):PE X (.List es pos) (zDA t):=by
 intro pins s σ H Q I hq;refine wpAny_List_spliced (thn (h pos pins s σ H _ I hq) λus s1 ⟨xs,H1,I1,r,z,q⟩=>⟨by rw[<- r.length];exact z,?_⟩);have hf:H1 s1.heap.objs.size=none:=I1.hok.fresh (zL _);refine⟨.ref s1.heap.objs.size,upd H1 s1.heap.objs.size (.lst xs),I1.laid (t':=s1.toks) (λb u e=>zE _ e) (zL _) ?_,rfl,q _ hf⟩;exact⟨z,us,0,r,zP _ rfl⟩
end
abbrev Sp:=List V->Hp->VK->XK->Prop
abbrev CXT:=List Env->Hp->vB->XK->Value->vB->Prop
structure Env0 (P:vS) (w:vY) (K:zA) (mg:Str->Option Value) (base:vf) (A:vZ) (outer:List Env) (s:vB) (H:Hp):Prop where
 frames:A.frames=some outer
 mod:Mod K mg base
 bs:∀b o,base.get? b=some o->s.heap.get? b=some o/\H b=none
 bsz:base.objs.size<=s.heap.objs.size
 funs:s.heap.FunFrames base outer
 frf:∀b∈frs outer,H b=none
 hok:HOk P w H s.heap
 bare:uy s.gens
def CE(outer:List Env)(P:vS)(w:vY)(H:Hp)(s:vB)(Q:VK)(u:Value)(s':vB):Prop :=
 ∃v H',s'.os=s.os/\uy s'.gens/\Un (frs outer) [] H H' s.heap s'.heap/\HOk P w H' s'.heap/\RelV v u/\Q v H'
def CR(CX:CXT)(outer:List Env)(P:vS)(w:vY)(H:Hp)(s:vB)(Q:VK)(E:XK)(r:tX)(s':vB):Prop :=
 match r with
 | .ok (.ret u)=>CE outer P w H s Q u s'
 | .ok _=>False
 | .error e=>CX outer H s E e s'
structure FnOk (P:vS) (w:vY) (K:zA) (mg:Str->Option Value) (base:vf) (CX:CXT) (k:Nat) (f:vC) (fd:vN) (ps:List Str) (sp:Sp):Prop where
 len:∀vs H Q E,sp vs H Q E->vs.length=ps.length
 run:∀(A:vZ)(outer:List Env)(s:vB)(H:Hp)(args:Args)(us:List Value)(vs:List V)(Q:VK)(E:XK),Room k A->Env0 P w K mg base A outer s H->sF s fd args (ps.zip us)->Y3 vs us->sp vs H Q E ->
  ud (model P w) A (.call (.ref f) args) (CR CX outer P w H s Q E) s
section
variable{X:Cx}{pins:List (vC×Obj)}{σ:St}{H:Hp}{s s':vB}
def Inv.env0(I:Inv X pins σ H s):Env0 X.prog X.w X.K X.mg X.base X.A X.stack s H :=
 ⟨I.ok.frames,I.ok.mod,I.bs,y8 I.ok.bsz I.sz,I.stack,I.stkFree,I.hok,I.bare⟩
def Inv.after{Q:VK}{u:Value}(I:Inv X pins σ H s)(h:CE X.stack X.prog X.w H s Q u s'):EP X pins σ Q u s':=by
 obtain⟨v,H',os,bare,un,hok,r,q⟩:=h;obtain⟨hh,g,d,t,os'⟩:=s';obtain rfl:os'=s.os:=os;exact⟨v,H',I.call (h':=hh) (g':=g) (d':=d) (t':=t) (ch:=[]) un hok bare (λb z=>vK z (by simp)),r,q⟩
end
noncomputable def tCall(sp:Sp)(dvs:List V)(E:XK)(t:TA):TE:=λσ H Q=>t σ H λvs H1=>sp (vs++dvs) H1 Q E
def Binds(K:zA)(fd:vN)(ps:List Str)(ds:List Value):Prop :=
 ∀(s:vB)(us:List Value),K.In s.heap->(us++ds).length=ps.length->sF s fd ⟨us,[]⟩ (ps.zip (us++ds))
def Binds.all{K:zA}{fd:vN}{ps:List Str}(h:∀us:List Value,us.length=ps.length->bindArgs fd ⟨us,[]⟩=pure (ps.zip us)):Binds K fd ps []:=λs us _ hl=>by
 rw[yu]at hl ⊢;exact .of_eq (h us hl)
def zAK(CX:CXT)(X:Cx)(E:XK):Prop:=∀(pins:List (vC×Obj))(σ:St)(H:Hp)(s:vB)(e:Value)(s':vB),Inv X pins σ H s->CX X.stack H s E e s'->X.xe e s'
section
variable{X:Cx}{CX:CXT}{k:Nat}{f C:vC}{fd:vN}{ps:List Str}{sp:Sp}{dvs:List V}{ds:List Value}{E:XK}{x m:Str}{p pos apos:Pos}{e o:vW}{es:List vW}{ta:TE}{t:TA}
def qft{pins:List (vC×Obj)}{σ:St}{H:Hp}{s:vB}{Q:VK}{us:List Value}{vs:List V}(F:FnOk X.prog X.w X.K X.mg X.base CX k f fd ps sp)(hr:Room k X.A)(hb:Binds X.K fd ps ds)(hd:Y3 dvs ds)(hx:zAK CX X E)(I:Inv X pins σ H s)(r:Y3 vs us)(h:sp (vs++dvs) H Q E):vL (model X.prog X.w) X.A (call (.ref f) us) (EP X pins σ Q) X.xe s:=by
 have r2:Y3 (vs++dvs) (us++ds):=r.append hd;have hl:(us++ds).length=ps.length:=by rw[<- r2.length];exact F.len _ _ _ _ h
 refine wpAny_call (uX (F.run X.A X.stack s H ⟨us,[]⟩ (us++ds) (vs++dvs) Q E hr I.env0 (hb s us I.kIn hl) r2 h) λr s' hq=>?_);cases r with
 | error e=>exact hx pins σ H s e s' I hq
 | ok fl=>
  cases fl with
  | ret u=>exact I.after hq
  | next=>exact False.elim hq
  | brk=>exact False.elim hq
  | cont=>exact False.elim hq
def q7F(F:FnOk X.prog X.w X.K X.mg X.base CX k f fd ps sp)(hr:Room k X.A)(hg:Gl X x)(hm:X.mg x=some (.ref f))(hk:xa X.K (.ref f)=true)(hb:Binds X.K fd ps ds)(hd:Y3 dvs ds)(hx:zAK CX X E)(ha:PA X (e::es) t)(hdb:(x==("__debug__" : Str))=false:=by decide)(he:vJ (e::es) X.env=(false,eval e X.env)::vJ es X.env:=by rfl)(hpl:(vp pos (vJ es X.env)).any (·.1)=false:=by rfl):
  PE X (.Call (.Name x p) (e::es) [] pos) (tCall sp dvs E t):=by
 intro pins s σ H Q I h;refine uH (q5a I hg hm ?_ hdb);refine Zr (h₀:=X.base) I.ok.mod.kin hk (thn (ha pos pins s σ H _ I h) λus s1 ⟨vs,H1,I1,r,q⟩=>⟨I1.kIn,?_⟩) he hpl;exact qft F hr hb hd hx I1 r q
end
section
variable{X:Cx}{CX:CXT}{k:Nat}{f C:vC}{fd:vN}{ps ks:List Str}{sp:Sp}{E:XK}{x m:Str}{p pos apos kpos:Pos}{e o:vW}{es:List vW}{kws:List uU}{te ta:TE}{t tk:TA}{nm:Option Str}
variable{g:List Value->List Value->List Value}{gV:List V->List V->List V}
end
structure FnScope (N P:List Str) (sc:uZ):Prop where
 kind:sc.kind=.function
 co:sc.isCoroutine=false
 gen:sc.isGenerator=false
 nd:N.Nodup
 pre:N.take P.length=P
 par:∀x∈P,sc.names.lookup x=some .local\/sc.names.lookup x=some .cell
 nofree:∀y∈sc.names,y.2≠.free
theorem q8g{kindOf:Str->Option uQ}{x:Str}:∀{binds:List (Str×Value)}{m:Str->Option Value},(∀v,(x,v)∉binds)->bindL kindOf binds m x=m x
 | [],_,_=>rfl
 | (n,v)::r,m,h=>by
  unfold bindL;rw[q8g λw hw=>h w (zI _ hw)]
  split
  ·have:x≠n:=by rintro rfl;exact h v zJ
   simp[this]
  ·rfl
theorem q89{kindOf:Str->Option uQ}{x:Str}:∀{binds:List (Str×Value)}{m:Str->Option Value},(∀v,(x,v)∉binds)->bindC kindOf binds m x=m x
 | [],_,_=>rfl
 | (n,v)::r,m,h=>by
  unfold bindC;rw[q89 λw hw=>h w (zI _ hw)]
  split
  ·rfl
  ·have:x≠n:=by rintro rfl;exact h v zJ
   simp[this]
theorem q87{kindOf:Str->Option uQ}{x:Str}{v:Value}:∀{P:List Str}{vs:List Value}{i:Nat}{m:Str->Option Value},P.Nodup->P[i]?=some x->vs[i]?=some v->kindOf x=some .local ->
  bindL kindOf (P.zip vs) m x=some v
 | [],_,_,_,_,h,_,_=>by simp at h
 | _::_,[],_,_,_,_,h,_=>by simp at h
 | p::P,w::vs,0,m,nd,h1,h2,hk=>by
  simp at h1 h2;subst h1;subst h2;show bindL kindOf ((p,w)::P.zip vs) m p=_;unfold bindL;rw[q8g λv hv=>(xh.mp nd).1 (ZX hv).1,vG hk];simp
 | p::P,w::vs,i+1,m,nd,h1,h2,hk=>by
  show bindL kindOf ((p,w)::P.zip vs) m x=_;unfold bindL;exact q87 (i:=i) (xh.mp nd).2 ⇑h1 ⇑h2 hk
theorem q8d{kindOf:Str->Option uQ}{x:Str}{v:Value}:∀{P:List Str}{vs:List Value}{i:Nat}{m:Str->Option Value},P.Nodup->P[i]?=some x->vs[i]?=some v->kindOf x≠some .local ->
  bindC kindOf (P.zip vs) m x=some v
 | [],_,_,_,_,h,_,_=>by simp at h
 | _::_,[],_,_,_,_,h,_=>by simp at h
 | p::P,w::vs,0,m,nd,h1,h2,hk=>by
  simp at h1 h2;subst h1;subst h2;show bindC kindOf ((p,w)::P.zip vs) m p=_;unfold bindC;rw[q89 λv hv=>(xh.mp nd).1 (ZX hv).1,vH hk];simp
 | p::P,w::vs,i+1,m,nd,h1,h2,hk=>by
  show bindC kindOf ((p,w)::P.zip vs) m x=_;unfold bindC;exact q8d (i:=i) (xh.mp nd).2 ⇑h1 ⇑h2 hk
noncomputable def start(N:List Str)(vs:List V):St:=vs.map some++zj (N.length-vs.length) none
noncomputable def zAm(CX:CXT)(P:vS)(w:vY)(K:zA)(mg:Str->Option Value)(base:vf)(N:List Str)(qual:Str)(scope:uZ)(f:vC)(cd:Value)(A:vZ)(outer:List Env)(s:vB)(H:Hp)(E:XK):Cx where
 prog:=P
 w:=w
 K:=K
 mg:=mg
 base:=base
 A:=A.deeper (tY qual scope s.heap.objs.size f cd)
 N:=N
 s₀:=s
 H₀:=H
 env:=tY qual scope s.heap.objs.size f cd
 outer:=outer
 stack:=tY qual scope s.heap.objs.size f cd::outer
 ex:=[]
 calm:=true
 fn:=λ_=>true
 pn:=[]
 xe:=λe s'=>vL (model P w) (A.deeper (tY qual scope s.heap.objs.size f cd)) (leaving (tY qual scope s.heap.objs.size f cd) e) (λ_ s''=>CX outer H s E e s'') (λe' s''=>CX outer H s E e' s'') s'
def q9l{sc:uZ}{n:Nat}{x:Str}(h:sc.names.lookup x=some .cell):∃c,(cellsFrom n sc.names []).lookup x=some c:=by
 have q:=ZO sc.names n [] (.inl h);exact xF.mp q
def qbA{CX:CXT}{P:vS}{w:vY}{K:zA}{mg:Str->Option Value}{base:vf}{N ps:List Str}{qual:Str}{scope:uZ}{f:vC}{cd:Value}{A:vZ}{outer:List Env}{s s1:vB}{H:Hp}{E:XK}{us:List Value}{vs:List V}(S:FnScope N ps scope)(hd:A.handled=none)(e0:Env0 P w K mg base A outer s H)(hl:vs.length=ps.length)(r:Y3 vs us)(x:InCallC s s.heap.objs.size (bindL (tY qual scope s.heap.objs.size f cd).kindOf (ps.zip us) λ_=>none) (cellsFrom (s.heap.objs.size+1) scope.names []) (bindC (tY qual scope s.heap.objs.size f cd).kindOf (ps.zip us) λ_=>none) s1):
  Inv (zAm CX P w K mg base N qual scope f cd A outer s H E) [] (start N vs) H s1:=by
 have hpl:ps.length<=N.length:=by have:=uG wH S.pre;rw[yK]at this;omega
 obtain⟨h1,tk,rfl,hk⟩:=x.done;have noA:∀b:vC,b∉(zAm CX P w K mg base N qual scope f cd A outer s H E).ex:=λb z=>vK (show b∈([]:List vC)from z) (by simp);refine⟨⟨e0.mod,S.kind,rfl,rfl,zL _,λy z c h1 h2=>?_,λy hy=>?_,λy c _ h=>?_,λ_=>hd,Around.frames_deeper e0.frames,.inr ⟨rfl,rfl⟩,λb z=>vK z (noA b),e0.bs,e0.bsz,λb _ _=>noA b,λb z=>vK z (noA b),e0.funs,e0.frf⟩,
  rfl,e0.bare,Un.kept hk,⟨_,x.toInCall.ns,λi y v h1 h2 h3=>?_⟩,λy c h=>⟨_,x.cell y c h⟩,e0.hok.fresh (zL _),λy c h=>?_,λp hp=>vK (show p∈([]:List (vC×Obj))from hp) (by simp),e0.hok.kept hk,?_⟩
 ·exact name_of_addr x.apart (PySem.mem_of_lookup h1) (PySem.mem_of_lookup h2)
 ·have hy:scope.names.lookup y=some .cell\/scope.names.lookup y=some .free:=hy
  rcases hy with hy|hy
  ·exact q9l hy
  ·exact vK rfl (S.nofree _ (PySem.mem_of_lookup hy))
 ·exact xH (x.above y c (PySem.mem_of_lookup h))
 ·have hi:i<vs.length:=by
   unfold start at h2
   by_cases hi:i<vs.length
   ·exact hi
   ·rw[yC ⇑hi]at h2
    rw[xO]at h2
    split at h2 <;> cases h2
  have ha:vs[i]?=some v:=by
   unfold start at h2;rw[yf ⇑hi,zh]at h2;cases e:vs[i]? with
   | none=>rw[e]at h2;cases h2
   | some a=>rw[e]at h2;cases h2;rfl
  obtain⟨u,hu,rv⟩:=r.get ha;have hp:ps[i]?=some y:=by
   rw[<- S.pre,wS ∅];exact h1
  have ndP:ps.Nodup:=by rw[<- S.pre];exact S.nd.sublist (w8 _ _)
  refine⟨u,rv,?_⟩;rcases S.par y (xP hp)with k|k
  ·exact .inl ⟨k,q87 ndP hp hu k⟩
  ·obtain⟨c,e⟩:=q9l (n:=s.heap.objs.size+1) k
   refine .inr ⟨.inl k,c,e,?_⟩;have q:=x.cell y c e;rw[q8d ndP hp hu (by show scope.names.lookup y≠_;rw[k];decide)]at q;exact q
 ·exact e0.hok.fresh (xH (x.above y c (PySem.mem_of_lookup h)))
 ·unfold start
  show _=N.length;rw[zD,zB,yk];omega
def qdS{CX:CXT}{P:vS}{w:vY}{K:zA}{mg:Str->Option Value}{base:vf}{k:Nat}{f:vC}{name qual:Str}{params:Arguments}{body:List vn}{scope:uZ}{dV kV doc pm cdv ct oc:Value}{an od:Option vC}{osl:Array (Option Value)}{N ps:List Str}{sp:Sp}(lk:K.lookup f=some ⟨oc,od,.func (xr name qual params body scope dV kV doc pm an cdv ct),osl⟩)(hcd:wt K cdv qual=true)(S:FnScope N ps scope)(len:∀vs H Q E,sp vs H Q E->vs.length=ps.length)(hbody:∀(A:vZ)(outer:List Env)(s:vB)(H:Hp)(vs:List V)(Q:VK)(E:XK),Room k (A.deeper (tY qual scope s.heap.objs.size f cdv))->sp vs H Q E ->
   ∃t,PSs (zAm CX P w K mg base N qual scope f cdv A outer s H E) body t/\t { nx:=λ_ H'=>Q .non H',rt:=Q } (start N vs) H) :
  FnOk P w K mg base CX (k+1) f (xr name qual params body scope dV kV doc pm an cdv ct) ps sp:=by
 refine⟨len,λA outer s H args us vs Q E hr e0 hb r hsp=>?_⟩;have hl:=len _ _ _ _ hsp;have KX:K.In s.heap:=e0.mod.kin.keeps λb o e=>(e0.bs b o e).1;have lim:s.heap.NoLimit:=e0.mod.nolimit.keeps λb o e=>(e0.bs b o e).1;have hkind:∀y∈ps.zip us,scope.names.lookup y.1=some .local\/(scope.names.lookup y.1=some .cell/\((cellsFrom (s.heap.objs.size+1) scope.names []).lookup y.1).isSome=true):=λ⟨n,v⟩ hy=>by
  rcases S.par n (ZX hy).1 with q|q
  ·exact .inl q
  ·exact .inr ⟨q,ZO _ _ _ (.inl q)⟩
 refine codeAny_call_function hr.depth (KX _ _ lk) rfl S.co S.gen rfl (PySem.W.codeRec_of KX hcd) (hb _ _ _ _ ?_);refine wpAny_newFunctionEnv_cells S.kind hkind λenv he s1 x=>?_;subst he;refine⟨lim.keeps x.toInCall.keep,codeAny_func ?_⟩;obtain⟨t,ht,hq⟩:=hbody A outer s H vs Q E (hr.deeper _) hsp;have I:Inv (zAm CX P w K mg base N qual scope f cdv A outer s H E) [] (start N vs) H s1:=qbA S hr.hd e0 hl r x;refine vg (ht [] s1 (start N vs) H _ I hq) (λfl s' hs=>?_) λe s' hs=>hs;have fin:∀{σ':St}{H':Hp}{v:V}{u:Value},Inv (zAm CX P w K mg base N qual scope f cdv A outer s H E) [] σ' H' s'->RelV v u->Q v H'->CE outer P w H s Q u s' :=
  λ{σ' H' v u} J rv q=>⟨v,H',J.os,J.bare,J.base,J.hok,rv,q⟩
 cases fl with
 | ret u=>
  obtain⟨v,σ',H',J,rv,q⟩:=hs;exact fin J rv q
 | next=>
  obtain⟨σ',H',J,q⟩:=hs;exact fin (v:=V.non) (u:=Value.none) J rfl q
 | brk=>
  obtain⟨_,_,_,q⟩:=hs;exact False.elim q
 | cont=>
  obtain⟨_,_,_,q⟩:=hs;exact False.elim q
section
variable{X:Cx}{x:Str}{p pos:Pos}{e:vW}{es:List vW}{t:TA}{id T:String}{r:List V->Hp->VK->Prop}
noncomputable def tCB(r:List V->Hp->VK->Prop)(t:TA):TE:=λσ H Q=>t σ H λvs H1=>r vs H1 Q
def q2J(hc:Xn X (.builtin id) r)(hg:Gl X x)(hm:X.mg x=none)(hv:ve x=some (.builtin id))(ha:PA X (e::es) t)(hn:x ≠ "__name__" := by decide)(hdb:(x==("__debug__" : Str))=false:=by decide)(he:vJ (e::es) X.env=(false,eval e X.env)::vJ es X.env:=by rfl)(hpl:(vp pos (vJ es X.env)).any (·.1)=false:=by rfl):PE X (.Call (.Name x p) (e::es) [] pos) (tCB r t):=by
 intro pins s σ H Q I h;refine uH (q3Y I hg hm hv ?_ hn hdb);exact PyProof.Rows.callWith_builtin1 (thn (ha pos pins s σ H _ I h) λus s1 ⟨vs,H1,I1,r1,q1⟩=>hc pins s1 σ H1 vs us Q I1 r1 q1) he hpl
def q7Z(hc:Xn X (.type T) r)(hg:Gl X x)(hm:X.mg x=none)(hv:ve x=some (.type T))(ha:PA X (e::es) t)(hn:x ≠ "__name__" := by decide)(hdb:(x==("__debug__" : Str))=false:=by decide)(he:vJ (e::es) X.env=(false,eval e X.env)::vJ es X.env:=by rfl)(hpl:(vp pos (vJ es X.env)).any (·.1)=false:=by rfl):PE X (.Call (.Name x p) (e::es) [] pos) (tCB r t):=by
 intro pins s σ H Q I h;refine uH (q3Y I hg hm hv ?_ hn hdb);exact PyProof.Rows.callWith_type1 (thn (ha pos pins s σ H _ I h) λus s1 ⟨vs,H1,I1,r1,q1⟩=>hc pins s1 σ H1 vs us Q I1 r1 q1) he hpl
end
end L2
namespace HT
open PySem PyProof.Rows
section
open PySem.SeqAt
open PySem.AutoSeq1 (wpAny_loadPart')
open PySem.MeetsSeq PySem.MeetsSeq2 PySem.MeetsSeq3
end
section
variable{prog:vS}{w:vY}{A:vZ}{E:Value->vB->Prop}{s:vB}
def qee{t b:vC}{vs ws:List Value}{Q:Value->vB->Prop}(ht:IsTup s.heap t vs.toArray)(hb:IsTup s.heap b ws.toArray)(hv:vs≠[])(h1:ws=[]->Q (.ref t) s)(h2:ws≠[]->Q (.ref s.heap.objs.size) { s with heap:=s.heap.push { cls:=.type "tuple", data:=.seq (vs++ws).toArray } })(hsz:vs.length+ws.length<=sizeLine):vL (model prog w) A (uO .Add (.ref t) (.ref b)) Q E s:=by
 obtain⟨⟨cls,dd,data,sl⟩,ho,hc,n,hd⟩:=id ht;obtain⟨⟨cls2,dd2,data2,sl2⟩,ho2,hc2,n2,hd2⟩:=id hb;simp only at hc hd hc2 hd2;subst hc hd hc2 hd2;have e:vs.toArray++ws.toArray=(vs++ws).toArray:=by simp
 by_cases hw:ws=[]
 ·exact concat_meets ⟨_,ho,rfl⟩ ⟨_,ho2,rfl⟩ noFill_tuple_add seq_tuple_add PySem.F.slot_tuple_add PySem.F.entry_tuple_add (PySem.F.args_tuple_add_2 _ _)
   (tuple_addW1 t b vs.toArray ws.toArray n n2 dd dd2 sl sl2 ⇑hv (by simp[hw])) ⟨ho,ho2,h1 hw⟩
 ·refine concat_meets ⟨_,ho,rfl⟩ ⟨_,ho2,rfl⟩ noFill_tuple_add seq_tuple_add PySem.F.slot_tuple_add PySem.F.entry_tuple_add (PySem.F.args_tuple_add_2 _ _)
   (tuple_addW2 t b vs.toArray ws.toArray n n2 dd dd2 sl sl2 ⇑hv ⇑hw (by rw[zM,zM];exact hsz)) ⟨ho,ho2,?_⟩
  rw[e];exact h2 hw
noncomputable def sIx(n d:Nat):Option Int->Nat
 | none=>d
 | some v=>if v<0 then (v+(n:Int)).toNat else min v.toNat n
def q6K(n d:Nat):sIx n d none=d:=rfl
def q59(n d k:Nat):sIx n d (some (k:Int))=min k n:=by
 show (if (k:Int)<0 then ((k:Int)+(n:Int)).toNat else min (k:Int).toNat n)=min k n;rw[vH ∅,xI]
def qg3(n d:Nat)(hd:d<=n)(o:Option Int):sIx n d o<=n:=by
 cases o with
 | none=>exact hd
 | some v=>
  show (if v<0 then (v+(n:Int)).toNat else min v.toNat n)<=n
  by_cases hv:v<0
  ·rw[vG hv];omega
  ·rw[vH hv];exact Nat.min_le_right _ _
def qam(v:Int)(n d:Nat):(if v<0 then max (v+(n:Int)) 0 else min v (n:Int))=((sIx n d (some v):Nat):Int):=by
 show (if v<0 then max (v+(n:Int)) 0 else min v (n:Int))=(((if v<0 then (v+(n:Int)).toNat else min v.toNat n):Nat):Int)
 by_cases hv:v<0
 ·simp only[vG hv];omega
 ·simp only[vH hv];omega
def qb9(lo hi:Option Int)(n:Nat):Builtin.Slice.sliceAdjust lo hi 1 (n:Int)=(((sIx n 0 lo:Nat):Int),((sIx n n hi:Nat):Int)):=by
 have h1:¬((1:Int)<0):=∅
 unfold Builtin.Slice.sliceAdjust;simp only[h1,if_false];refine Prod.ext ?_ ?_
 ·cases lo with
  | none=>rfl
  | some v=>exact qam v n 0
 ·cases hi with
  | none=>rfl
  | some v=>exact qam v n n
def qaQ(i j:Nat):Builtin.Slice.slicePlaces (i:Int) (j:Int) 1=j-i:=by
 unfold Builtin.Slice.slicePlaces;have h1:(1:Int)>0:=∅
 simp only[h1,if_true,Int.ediv_one]
 split <;> omega
def q7a{v:Value}{o:Option Int}{Q:Option Int->vB->Prop}(p:tQ v o)(h:Q o s):vL (model prog w) A (Builtin.Slice.slicePartIndex v) Q E s:=by
 cases p with
 | none=>exact slicePart_none h
 | int i t=>exact slicePart_int h
def q4y{sl:vC}{vl vu:Value}{lo hi:Option Int}{n:Nat}{Q:Int×Int×Nat->vB->Prop}(hs:s.heap.IsSliceOf sl vl vu .none)(pl:tQ vl lo)(pu:tQ vu hi)(h:Q (((sIx n 0 lo:Nat):Int),1,sIx n n hi-sIx n 0 lo) s):vL (model prog w) A (Builtin.Slice.sliceApplied (.ref sl) (pure (n:Int))) Q E s:=by
 obtain⟨os,hos,hcs,hds⟩:=id hs;unfold Builtin.Slice.sliceApplied Builtin.Slice.sliceFields;refine vA (vA (vq hos hds (x:=vl) rfl (vA (vq hos hds (x:=vu) rfl (vA (vq hos hds (x:=.none) rfl (vF ?_)))))));refine vA (slicePart_none ?_);show vL _ _ (if ((1:Int)==0)=true then _ else _) _ _ s;rw[vH (by decide)];refine vA (q7a pl (vA (q7a pu (vA (vF ?_)))));show vL _ _ (match Builtin.Slice.sliceAdjust lo hi 1 (n:Int)with|(lo,hi)=>pure (lo,(1:Int),Builtin.Slice.slicePlaces lo hi 1)) _ _ s;rw[qb9 lo hi n];show vL _ _ (pure (((sIx n 0 lo:Nat):Int),(1:Int),Builtin.Slice.slicePlaces ((sIx n 0 lo:Nat):Int) ((sIx n n hi:Nat):Int) 1)) _ _ s;rw[qaQ];exact vF h
def qdo(xs:Array Value)(i k:Nat):((ya k).filterMap λ(m:Nat)=>xs[((i:Int)+(m:Int)*1).toNat]?).toArray=((xs.toList.drop i).take k).toArray:=by
 have e:(λ(m:Nat)=>xs[((i:Int)+(m:Int)*1).toNat]?)=λm=>xs[i+m]?:=by
  funext m
  have:((i:Int)+(m:Int)*1).toNat=i+m:=∅
  rw[this]
 rw[e];have:=pick_run xs i k;rw[Zs]at this;have e2:((λx=>xs[x]?) ∘ λx=>i+x)=λm=>xs[i+m]?:=rfl;rw[e2]at this;rw[this]
def q6z{t sl:vC}{items:Array Value}{vl vu:Value}{lo hi:Option Int}{Q:Value->vB->Prop}(ht:IsTup s.heap t items)(hs:s.heap.IsSliceOf sl vl vu .none)(pl:tQ vl lo)(pu:tQ vu hi)(hw:¬(sIx items.size 0 lo=0/\sIx items.size items.size hi=items.size))(h:Q (.ref s.heap.objs.size) { s with heap:=s.heap.push { cls:=.type "tuple", data:=.seq ((items.toList.drop (sIx items.size 0 lo)).take (sIx items.size items.size hi-sIx items.size 0 lo)).toArray } })(hsz:items.size<=sizeLine):vL (model prog w) A (uz (.ref t) (.ref sl)) Q E s:=by
 have htake:sizeOk (.seq ((items.toList.drop (sIx items.size 0 lo)).take (sIx items.size items.size hi-sIx items.size 0 lo)).toArray):=by
  show ((items.toList.drop (sIx items.size 0 lo)).take (sIx items.size items.size hi-sIx items.size 0 lo)).toArray.size<=sizeLine;rw[zM,yK,yy,zN];omega
 have hj:sIx items.size items.size hi<=items.size:=qg3 _ _ (zL _) hi;obtain⟨os,hos,hcs,hds⟩:=id hs;have hTs:s.TypeIs (.ref sl) "slice" := ⟨os,hos,hcs⟩;unfold uz
 try with_reducible refine vi ?_
 first|refine vA (vF ?_)|skip
 refine vA (wpAny_sequenceKey ht.typeIs (by decide) ?_);refine vA (wpAny_callSpecial?_slot (name:=Str.ofString "__getitem__") ht.typeIs PyProof.Rows.slot_tuple_getitem
  (vc PyProof.Rows.slot_tuple_getitem ht.typeIs entry_tuple_getitem ?_ (sD _ _)))
 show vL _ _ (Builtin.Tuple.tupleItemsOf (.ref t) >>= _) _ _ s;refine vA (tupleItemsOf_ ht ?_);refine vA (ui hTs ?_);rw[vG (by decide)];refine vA (q4y hs pl pu ?_);have hno:¬((((sIx items.size 0 lo:Nat):Int)==0&&(1:Int)==1&&(sIx items.size items.size hi-sIx items.size 0 lo)==items.size)=true):=by
  intro q;rw[zc,zc]at q;have q1:((sIx items.size 0 lo:Nat):Int)=0:=eq_of_beq q.1.1;have q2:sIx items.size items.size hi-sIx items.size 0 lo=items.size:=eq_of_beq q.2;exact hw ⟨∅,∅⟩
 show vL _ _ (if (((sIx items.size 0 lo:Nat):Int)==0&&(1:Int)==1&&(sIx items.size items.size hi-sIx items.size 0 lo)==items.size)=true then _ else _) _ _ s;rw[vH hno,qdo]
 first
  | exact vA (m:=Builtin.Tuple.tupleExact _) (vj (vF ⟨_,rfl,vF h⟩) htake)
  | exact vA (m:=Builtin.Tuple.tupleExact _) (vj (vA (vF (vF ⟨_,rfl,vF h⟩))) htake)
  | exact vA (vA (m:=Builtin.Tuple.tupleExact _) (vj (vF (vF ⟨_,rfl,vF h⟩)) htake))
  | exact vA (vA (m:=Builtin.Tuple.tupleExact _) (vj (vF ⟨_,rfl,vF h⟩) htake))
end
end HT
namespace L2
open PySem PySem.Spec PyProof.Rows
abbrev TO:=St->Hp->(Option Int->Hp->Prop)->Prop
def PO(X:Cx)(e:Option vW)(t:TO):Prop :=
 ∀(pins:List (vC×Obj))(s:vB)(σ:St)(H:Hp)(Q:Option Int->Hp->Prop),Inv X pins σ H s->t σ H Q ->
  vL (model X.prog X.w) X.A (evalPart e X.env) (λu s'=>∃o H',Inv X pins σ H' s'/\tQ u o/\Q o H') X.xe s
noncomputable def zCi:TO:=λ_ H Q=>Q none H
noncomputable def tPart(t:TE):TO:=λσ H Q=>t σ H λx H1=>∃i,x=.int i/\Q (some i) H1
def q3r{ns:List Int}:∀{us:List Value},Y3 (ns.map V.int) us->uC us ns:=by
 induction ns with
 | nil=>intro us r;rw[yA]at r;cases r;exact .nil
 | cons n ns ih=>
  intro us r;rw[zO]at r;cases r with
  | cons r1 r2=>
   obtain⟨t,e⟩:=r1;subst e;exact .cons n t (ih r2)
section
variable{X:Cx}{e:vW}{te:TE}{lo hi:Option vW}{tl th:TO}{pos p2:Pos}
def qeR:PO X none zCi:=by
 intro pins s σ H Q I h;rw[evalPart_none];exact vF ⟨none,H,I,.none,h⟩
def qem(h:PE X e te):PO X (some e) (tPart te):=by
 intro pins s σ H Q I hw;rw[evalPart_some];refine thn (h pins s σ H _ I hw) λu s1 ⟨x,H1,I1,r1,q1⟩=>?_;obtain⟨i,rfl,q⟩:=q1;obtain⟨t,rfl⟩:=r1;exact⟨some i,H1,I1,.int i t,q⟩
def SlR(X:Cx)(r:V->Option Int->Option Int->Hp->VK->Prop):Prop :=
 ∀(pins:List (vC×Obj))(s:vB)(σ:St)(H:Hp)(x:V)(v vl vu:Value)(lo hi:Option Int)(sl:vC)(Q:VK),Inv X pins σ H s->RelV x v->s.heap.IsSliceOf sl vl vu .none->tQ vl lo->tQ vu hi->r x lo hi H Q ->
  ∃T id,tS (.type T) "__getitem__" = pure (some (.builtin id))/\s.TypeIs v T/\vL (model X.prog X.w) X.A (uz v (.ref sl)) (EP X pins σ Q) X.xe s
def SlR.or{r r':V->Option Int->Option Int->Hp->VK->Prop}(h:SlR X r)(h':SlR X r'):SlR X (λx lo hi H Q=>r x lo hi H Q\/r' x lo hi H Q):=by
 intro pins s σ H x v vl vu lo hi sl Q I rx hs pl pu q;rcases q with q|q
 ·exact h pins s σ H x v vl vu lo hi sl Q I rx hs pl pu q
 ·exact h' pins s σ H x v vl vu lo hi sl Q I rx hs pl pu q
noncomputable def tSl(r:V->Option Int->Option Int->Hp->VK->Prop)(te:TE)(tl th:TO):TE:=λσ H Q=>te σ H λx H1=>tl σ H1 λl H2=>th σ H2 λu H3=>r x l u H3 Q
def qdr{r:V->Option Int->Option Int->Hp->VK->Prop}(hr:SlR X r)(he:PE X e te)(hl:PO X lo tl)(hu:PO X hi th):PE X (.Subscript e (.Slice lo hi none p2) pos) (tSl r te tl th):=by
 intro pins s σ H Q I h;refine Subscript_ (thn (he pins s σ H _ I h) λv s1 ⟨x,H1,I1,r1,q1⟩=>?_);refine wpAny_Slice (thn (hl pins s1 σ H1 _ I1 q1) λvl s2 ⟨l,H2,I2,pl,q2⟩=>thn (hu pins s2 σ H2 _ I2 q2) λvu s3 ⟨u,H3,I3,pu,q3⟩=>?_);rw[evalPart_none];refine vF ?_;have I4:Inv X pins σ H3 { s3 with heap:=s3.heap.push { cls:=.type "slice", data:=.fields #[vl,vu,.none] } }:=I3.kept (t':=s3.toks) λb ob q=>zE _ q;obtain⟨T,id,hT,ht,hg⟩:=hr pins { s3 with heap:=s3.heap.push { cls:=.type "slice", data:=.fields #[vl,vu,.none] } } σ H3 x v vl vu l u s3.heap.objs.size Q I4 r1 (Yh ..) pl pu q3;show vL (model X.prog X.w) X.A (t7 e (.Slice lo hi none p2) v (.ref s3.heap.objs.size)) (EP X pins σ Q) X.xe { s3 with heap:=s3.heap.push { cls:=.type "slice", data:=.fields #[vl,vu,.none] } };exact tail_any (ops:=[.ref s3.heap.objs.size,v]) ht hT hg (by with_unfolding_all rfl)
noncomputable def zBk(xs:List V)(lo hi:Option Int):List V:=(xs.drop (HT.sIx xs.length 0 lo)).take (HT.sIx xs.length xs.length hi-HT.sIx xs.length 0 lo)
def q6F(xs:List V)(lo hi:Option Int):(zBk xs lo hi).length<=xs.length:=by
 unfold zBk;rw[yK,yy];omega
def rSlT(K:zA):V->Option Int->Option Int->Hp->VK->Prop:=λx lo hi H Q=>∃a xs,x=.ref a/\SqT K H a xs /\
 ¬(HT.sIx xs.length 0 lo=0/\HT.sIx xs.length xs.length hi=xs.length)/\∀p,H p=none->Q (.ref p) (upd H p (.tup (zBk xs lo hi)))
def qfV:SlR X (rSlT X.K):=by
 intro pins s σ H x v vl vu lo hi sl Q I rx hs pl pu h;obtain⟨a,xs,rfl,hx,hw,q⟩:=h;cases rx;obtain⟨its,r,ht,hz⟩:=I.tuple hx;have hlen:its.toArray.size=xs.length:=by rw[zM];exact r.length.symm
 refine⟨"tuple", _,PyProof.Rows.slot_tuple_getitem.lookup,ht.typeIs,?_⟩;refine HT.q6z ht hs pl pu (by rw[hlen];exact hw) ?_ (by rw[hlen];exact hz);rw[hlen];refine⟨.ref s.heap.objs.size,_,I.laid (t':=s.toks) (o:=.tup (zBk xs lo hi)) (λb ob q=>zE _ q) (zL _) ?_,rfl,q _ (I.hok.fresh (zL _))⟩;exact⟨y8 (q6F xs lo hi) hz,_,(r.drop (HT.sIx xs.length 0 lo)).take (HT.sIx xs.length xs.length hi-HT.sIx xs.length 0 lo),IsTup.new _ _⟩
noncomputable def rCatT(K:zA):R2:=λx y H Q=>∃a b xs ys,x=.ref a/\y=.ref b/\SqT K H a xs/\SqT K H b ys/\xs≠[]/\xs.length+ys.length<=sizeLine /\
 (ys=[]->Q (.ref a) H)/\(ys≠[]->∀p,H p=none->Q (.ref p) (upd H p (.tup (xs++ys))))
def Y3.nil_iff{xs:List V}{us:List Value}(r:Y3 xs us):us=[]↔xs=[]:=by
 cases r with
 | nil=>simp
 | cons _ _=>simp
def qey:OpR X (uO .Add) (rCatT X.K):=by
 intro pins s σ H x y v u Q I rx ry h;obtain⟨a,b,xs,ys,rfl,rfl,ha,hb,hx,hz,q1,q2⟩:=h;cases rx;cases ry;obtain⟨its,r1,p1,_⟩:=I.tuple ha;obtain⟨its2,r2,p2,_⟩:=I.tuple hb;refine HT.qee p1 p2 (λz=>hx (r1.nil_iff.mp z)) (λz=>⟨.ref a,H,I,rfl,q1 (r2.nil_iff.mp z)⟩) (λz=>?_) (by rw[<- r1.length,<- r2.length];exact hz);refine⟨.ref s.heap.objs.size,_,I.laid (t':=s.toks) (o:=.tup (xs++ys)) (λb ob q=>zE _ q) (zL _) ?_,rfl,q2 (λw=>z (r2.nil_iff.mpr w)) _ (I.hok.fresh (zL _))⟩;exact⟨by rw[zD];exact hz,_,r1.append r2,IsTup.new _ _⟩
end
noncomputable def ixN(n:Nat)(i:Int):Option Nat:=if 0<=i then (if i<n then some i.toNat else none)else if -(n:Int)<=i then some (i+n).toNat else none
noncomputable def atI{α:Type}(xs:List α)(i:Int):Option α:=(ixN xs.length i).bind λj=>xs[j]?
def qao{n:Nat}{i:Int}{j:Nat}(h:ixN n i=some j):seqIndex? i n=some j/\j<n/\-(n:Int)<=i/\i<n:=by
 unfold ixN at h
 by_cases h0:0<=i
 ·rw[vG h0]at h
  by_cases h1:i<n
  ·rw[vG h1]at h
   have e:i.toNat=j:=z0 h;exact⟨by rw[sP h0 h1,e],∅,∅,h1⟩
  ·rw[vH h1]at h;cases h
 ·rw[vH h0]at h
  by_cases h1:-(n:Int)<=i
  ·rw[vG h1]at h
   have e:(i+n).toNat=j:=z0 h;exact⟨by rw[seqIndex_neg ∅ h1,e],∅,h1,∅⟩
  ·rw[vH h1]at h;cases h
def q7H{α:Type}{xs:List α}{i:Int}{v:α}(h:atI xs i=some v):∃j,seqIndex? i xs.length=some j/\xs[j]?=some v/\j<xs.length/\-(xs.length:Int)<=i/\i<xs.length:=by
 unfold atI at h;cases e:ixN xs.length i with
 | none=>rw[e]at h;cases h
 | some j=>
  rw[e]at h;obtain⟨h1,h2,h3,h4⟩:=qao e;exact⟨j,h1,h,h2,h3,h4⟩
def zAw(b:vW):Prop:=∀o i,subscripted b false o i=operate [o,i] (uz o i)
def IxR(X:Cx)(r:R2):Prop :=
 ∀(value slice:vW)(pins:List (vC×Obj))(s:vB)(σ:St)(H:Hp)(x y:V)(v u:Value)(Q:VK),Inv X pins σ H s->RelV x v->RelV y u->r x y H Q ->
  subscripted slice false v u=operate [v,u] (uz v u)->vL (model X.prog X.w) X.A (t7 value slice v u) (EP X pins σ Q) X.xe s
def MtR(X:Cx)(id:String)(r:V->List V->Hp->VK->Prop):Prop :=
 ∀(pins:List (vC×Obj))(s:vB)(σ:St)(H:Hp)(x:V)(xs:List V)(v:Value)(us:List Value)(Q:VK),Inv X pins σ H s->RelV x v->Y3 xs us->r x xs H Q ->
  vL (model X.prog X.w) X.A (call (.builtin id) (v::us)) (EP X pins σ Q) X.xe s
section
variable{X:Cx}{a b:vW}{ta tb:TE}{pos:Pos}
def IxR.or{r r':R2}(h:IxR X r)(h':IxR X r'):IxR X (λx y H Q=>r x y H Q\/r' x y H Q):=by
 intro value slice pins s σ H x y v u Q I rx ry q hs;rcases q with q|q
 ·exact h value slice pins s σ H x y v u Q I rx ry q hs
 ·exact h' value slice pins s σ H x y v u Q I rx ry q hs
def qgr{r:R2}(hr:IxR X r)(ha:PE X a ta)(hb:PE X b tb)(hs:zAw b):PE X (.Subscript a b pos) (tOp r ta tb):=by
 intro pins s σ H Q I h;exact Subscript_ (binT ha hb I h λv u s2 x y H2 I2 rx ry q=>hr a b pins s2 σ H2 x y v u Q I2 rx ry q (hs _ _))
noncomputable def rIxL(K:zA):R2:=λx y H Q=>∃p xs i v,x=.ref p/\y=.int i/\SqL K H p xs/\atI xs i=some v/\Q v H
noncomputable def rIxT(K:zA):R2:=λx y H Q=>∃p xs i v,x=.ref p/\y=.int i/\SqT K H p xs/\atI xs i=some v/\Q v H
noncomputable def rIxS:R2:=λx y H Q=>∃z i c,x=.str z/\y=.int i/\z.length<=sizeLine/\atI z.cps.toList i=some c/\Q (.str ⟨#[c]⟩) H
def qe5:IxR X (rIxL X.K):=by
 intro value slice pins s σ H x y v u Q I rx ry h hs;obtain⟨p,xs,i,z,rfl,rfl,hq,he,q⟩:=h;cases rx;obtain⟨t,rfl⟩:=ry;obtain⟨its,r,pl,hz⟩:=I.list hq;obtain⟨j,h1,h2,h3,h4,h5⟩:=q7H he;obtain⟨w,ew,rw'⟩:=r.get h2;have hl:=r.length;have hn:=zAE;have fin:EP X pins σ Q w s:=⟨z,H,I,rw',q⟩
 by_cases h0:0<=i
 ·have hj:i.toNat=j:=by
   rw[sP h0 h5]at h1;exact z0 h1
  exact item_listR pl.isList h0 ∅ (by rw[hj];simpa using ew) fin hs
 ·have hj:(i+(its.toArray.size:Int)).toNat=j:=by
   rw[seqIndex_neg ∅ h4]at h1;rw[zM,<- hl];exact z0 h1
  exact tT (x:=w) pl.isList.typeIs slot_list_getitem.lookup
   (wpAny_getItem_list_neg (Q:=λr s'=>r=w/\EP X pins σ Q r s') pl.isList ∅ (by rw[zM] <;> omega) ∅ (by rw[hj];simpa using ew) ⟨rfl,fin⟩) hs
def qfv:IxR X (rIxT X.K):=by
 intro value slice pins s σ H x y v u Q I rx ry h hs;obtain⟨p,xs,i,z,rfl,rfl,hq,he,q⟩:=h;cases rx;obtain⟨t,rfl⟩:=ry;obtain⟨its,r,pl,hz⟩:=I.tuple hq;obtain⟨j,h1,h2,h3,h4,h5⟩:=q7H he;obtain⟨w,ew,rw'⟩:=r.get h2;have hl:=r.length;have hn:=zAE;have fin:EP X pins σ Q w s:=⟨z,H,I,rw',q⟩;exact tT (x:=w) pl.typeIs slot_tuple_getitem.lookup
  (getItem_tuple (j:=j) (Q:=λr s'=>r=w/\EP X pins σ Q r s') pl ∅ ∅ (by rw[zM,<- hl];exact h1) ⇑ew ⟨rfl,fin⟩) hs
def qfN:IxR X rIxS:=by
 intro value slice pins s σ H x y v u Q I rx ry h hs;obtain⟨z,i,c,rfl,rfl,hz,he,q⟩:=h;obtain⟨t,rfl⟩:=rx;obtain⟨t',rfl⟩:=ry;obtain⟨j,h1,h2,h3,h4,h5⟩:=q7H he;have hl:z.cps.toList.length=z.length:=by simp[Str.length]
 rw[hl]at h1 h4 h5;have hn:=zAE;exact tail_any (typeIs_str s z t) slot_str_getitem.lookup (getItem_str (c:=c) (by
  have e1:decide (i < -(2^63:Int))=false:=vX ∅;have e2:decide (i>=2^63)=false:=vX ∅;rw[e1,e2,yH]) (by rw[h1];simpa using h2) ⟨.str ⟨#[c]⟩,H,I.tok _,⟨_,rfl⟩,q⟩) hs
noncomputable def rIx(K:zA):R2:=λx y H Q=>rIxL K x y H Q\/rIxT K x y H Q\/rIxS x y H Q
def qfB:IxR X (rIx X.K):=qe5.or (qfv.or qfN)
def qbh(its:List Value)(n j:Nat)(u:Value):Obj.mapSeq (·.setIfInBounds j u) { cls:=.type "list", data:=.seq its.toArray n }={ cls:=.type "list", data:=.seq (its.set j u).toArray n }:=by
 simp[Obj.mapSeq]
theorem Inv.lst{pins:List (vC×Obj)}{σ:St}{H:Hp}{s:vB}{p:vC}{xs:List V}(I:Inv X pins σ H s)(h:H p=some (.lst xs)):
  ∃(its:List Value) (n:Nat),Y3 xs its/\s.heap.get? p=some { cls:=.type "list", data:=.seq its.toArray n }/\xs.length<=sizeLine:=by
 obtain⟨z,its,n,r,e⟩:=I.hok p _ h;exact⟨its,n,r,e,z⟩
def Inv.lstUpd{pins:List (vC×Obj)}{σ:St}{H:Hp}{s:vB}{p:vC}{xs ys:List V}{its its':List Value}{n n':Nat}{f:Obj->Obj}(I:Inv X pins σ H s)(h:H p=some (.lst xs))(ho:s.heap.get? p=some { cls:=.type "list", data:=.seq its.toArray n })(hf:f { cls:=.type "list", data:=.seq its.toArray n }={ cls:=.type "list", data:=.seq its'.toArray n' })(r:Y3 ys its')(hz:ys.length<=sizeLine)(t:Nat):
  Inv X pins σ (upd H p (.lst ys)) { s with heap:=s.heap.update p f,toks:=t }:=by
 have e:(s.heap.update p f).get? p=some { cls:=.type "list", data:=.seq its'.toArray n' }:=by
  rw[wE f ho (by rw[hf] <;> rfl),hf]
 refine I.write (x:=p) (e:=p) (by rw[h];trivial) (.inl rfl) (λb u hb q=>(xK _ _ (Ne.symm hb)).trans q) ⟨_,e⟩ ?_;exact⟨hz,its',n',r,e⟩
def rSetL:V->V->V->Hp->(Hp->Prop)->Prop:=λo i v H Q=>∃p xs k j,o=.ref p/\i=.int k/\H p=some (.lst xs)/\ixN xs.length k=some j/\Q (upd H p (.lst (xs.set j v)))
def qdi:PSet X rSetL:=by
 intro pins s σ H o i v ov iv u Q I ro ri rv h;obtain⟨p,xs,k,j,rfl,rfl,hp,hj,q⟩:=h;cases ro;obtain⟨t,rfl⟩:=ri;obtain⟨its,n,r,ho,hz⟩:=I.lst hp;obtain⟨h1,h2,h3,h4⟩:=qao hj;have hl:=r.length;have hn:=zAE;have I':Inv X pins σ (upd H p (.lst (xs.set j v))) { s with heap:=s.heap.update p (Obj.mapSeq (·.setIfInBounds j u)) } :=
  I.lstUpd hp ho (qbh its n j u) (r.set rv j) (by rw[yp];exact hz) s.toks
 by_cases h0:0<=k
 ·have hk:k.toNat=j:=by
   rw[sP h0 h4]at h1;exact z0 h1
  exact PySem.W.ki_setAt ho h0 ∅ (by rw[zM,<- hl];exact h4) (by rw[hk];exact⟨_,I',q⟩)
 ·have hk:(k+(its.toArray.size:Int)).toNat=j:=by
   rw[seqIndex_neg ∅ h3]at h1;rw[zM,<- hl];exact z0 h1
  exact PySem.W.ki_setBack ho ∅ (by rw[zM,<- hl];exact h3) ∅ (by rw[hk];exact⟨_,I',q⟩)
def q8T(lo hi:Option Int)(n:Nat):(uf lo hi none n).1=((HT.sIx n 0 lo:Nat):Int)/\(uf lo hi none n).2.1=((HT.sIx n n hi:Nat):Int)/\(uf lo hi none n).2.2=1:=by
 refine⟨?_,?_,rfl⟩
 ·cases lo with
  | none=>simp[uf,HT.sIx]
  | some i=>
   simp only[uf,HT.sIx,YF,show (1:Int)>0 by decide,if_true]
   by_cases h:i<0
   ·simp only[h,if_true] <;> omega
   ·simp only[h,if_false] <;> omega
 ·cases hi with
  | none=>simp[uf,HT.sIx]
  | some i=>
   simp only[uf,HT.sIx,YF,show (1:Int)>0 by decide,if_true]
   by_cases h:i<0
   ·simp only[h,if_true] <;> omega
   ·simp only[h,if_false] <;> omega
def q8w(its:List Value)(lo hi:Option Int):slicePick its.toArray lo hi none=((its.drop (HT.sIx its.length 0 lo)).take (HT.sIx its.length its.length hi-HT.sIx its.length 0 lo)).toArray:=by
 obtain⟨h1,h2,h3⟩:=q8T lo hi its.toArray.size;unfold slicePick;rw[h1,h2,h3];simp only[sliceRange_one,pick_run,zM] <;> rfl
def rSlL(K:zA):V->Option Int->Option Int->Hp->VK->Prop:=λx lo hi H Q=>∃a xs,x=.ref a/\SqL K H a xs/\∀p,H p=none->Q (.ref p) (upd H p (.lst (zBk xs lo hi)))
def qeD:SlR X (rSlL X.K):=by
 intro pins s σ H x v vl vu lo hi sl Q I rx hs pl pu h;obtain⟨a,xs,rfl,hx,q⟩:=h;cases rx;obtain⟨its,r,ht,hz⟩:=I.list hx;have hlen:=r.length;refine⟨"list", _,slot_list_getitem.lookup,ht.isList.typeIs,?_⟩;refine wpAny_getItem_list_slice ht.isList hs pl pu .none (by simp) ?_ (by rw[zM] <;> omega);rw[q8w,<- hlen];refine⟨.ref s.heap.objs.size,_,I.laid (t':=s.toks) (o:=.lst (zBk xs lo hi)) (λb ob q=>zE _ q) (zL _) ?_,rfl,q _ (I.hok.fresh (zL _))⟩;exact⟨y8 (q6F xs lo hi) hz,_,0,(r.drop (HT.sIx xs.length 0 lo)).take (HT.sIx xs.length xs.length hi-HT.sIx xs.length 0 lo),zP _ rfl⟩
noncomputable def W6:V->Bool
 | .non=>true
 | .bl _=>true
 | .int _=>true
 | .str _=>true
 | _=>false
noncomputable def eqV:V->V->Bool
 | .non,.non=>true
 | .bl a,.bl b=>a==b
 | .bl a,.int b=>(if a then 1 else 0)==b
 | .int a,.bl b=>a==(if b then 1 else 0)
 | .int a,.int b=>a==b
 | .str a,.str b=>a==b
 | _,_=>false
def qfa{A:vZ}{s:vB}{y x:V}{u v:Value}(ry:RelV y u)(rx:RelV x v)(fy:W6 y=true)(fx:W6 x=true):SeqAt.EqAt A s u v (eqV y x):=by
 cases y with
 | non=>
  cases ry;cases x with
  | non=>cases rx;exact SeqAt.EqAt.same _
  | bl b=>cases rx;exact SeqAt.EqAt.none_bool b
  | int b=>obtain⟨t,rfl⟩:=rx;exact SeqAt.EqAt.none_int b t
  | str b=>obtain⟨t,rfl⟩:=rx;exact SeqAt.EqAt.none_str b t
  | _=>exact vK (show false=true from fx) ym
 | bl a=>
  cases ry;cases x with
  | non=>cases rx;exact SeqAt.EqAt.bool_none a
  | bl b=>cases rx;exact SeqAt.EqAt.bool_bool a b
  | int b=>obtain⟨t,rfl⟩:=rx;exact SeqAt.EqAt.bool_int a b t
  | str b=>obtain⟨t,rfl⟩:=rx;exact SeqAt.EqAt.bool_str a b t
  | _=>exact vK (show false=true from fx) ym
 | int a=>
  obtain⟨t',rfl⟩:=ry;cases x with
  | non=>cases rx;exact SeqAt.EqAt.int_none a t'
  | bl b=>cases rx;exact SeqAt.EqAt.int_bool a t' b
  | int b=>obtain⟨t,rfl⟩:=rx;exact SeqAt.EqAt.int_int a t' b t
  | str b=>obtain⟨t,rfl⟩:=rx;exact SeqAt.EqAt.int_str a t' b t
  | _=>exact vK (show false=true from fx) ym
 | str a=>
  obtain⟨t',rfl⟩:=ry;cases x with
  | non=>cases rx;exact SeqAt.EqAt.str_none a t'
  | bl b=>cases rx;exact SeqAt.EqAt.str_bool a t' b
  | int b=>obtain⟨t,rfl⟩:=rx;exact SeqAt.EqAt.str_int a t' b t
  | str b=>obtain⟨t,rfl⟩:=rx;exact SeqAt.EqAt.str_str a t' b t
  | _=>exact vK (show false=true from fx) ym
 | _=>exact vK (show false=true from fy) ym
noncomputable def eqU(x:V)(u:Value):Bool:=match u with
 | .none=>eqV .non x
 | .bool b=>eqV (.bl b) x
 | .int i _=>eqV (.int i) x
 | .str z _=>eqV (.str z) x
 | _=>false
def qcf{x y:V}{u:Value}(r:RelV y u)(f:W6 y=true):eqU x u=eqV y x:=by
 cases y with
 | non=>cases r;rfl
 | bl b=>cases r;rfl
 | int i=>obtain⟨t,rfl⟩:=r;rfl
 | str z=>obtain⟨t,rfl⟩:=r;rfl
 | _=>exact vK (show false=true from f) ym
theorem q50{x:V}:∀{xs:List V}{us:List Value},Y3 xs us->xs.all W6=true->us.any (eqU x)=xs.any λy=>eqV y x
 | _,_,.nil,_=>rfl
 | y::xs,u::us,.cons r t,f=>by
  rw[xv,zc]at f;rw[wT,wT,qcf r f.1,q50 t f.2]
theorem q4o{A:vZ}{s:vB}{x:V}{v:Value}(rx:RelV x v)(fx:W6 x=true):∀{xs:List V}{us:List Value},Y3 xs us->xs.all W6=true->∀u∈us,SeqAt.EqAt A s u v (eqU x u)
 | _,_,.nil,_=>λu hu=>by cases hu
 | y::xs,u::us,.cons r t,f=>λu' hu=>by
  rw[xv,zc]at f;rcases zF.mp hu with rfl|hu
  ·rw[qcf r f.1];exact qfa r rx f.1 fx
  ·exact q4o rx fx t f.2 u' hu
noncomputable def inV(x:V)(xs:List V):Bool:=xs.any λy=>eqV y x
noncomputable def rIn(K:zA)(neg:Bool):R2:=λx y H Q=>∃p xs,y=.ref p/\(SqL K H p xs\/SqT K H p xs)/\W6 x=true/\xs.all W6=true/\Q (.bl (if neg then !inV x xs else inV x xs)) H
def qcG:OpR X (uJ .In) (rIn X.K false):=by
 intro pins s σ H x y v u Q I rx ry h;obtain⟨p,xs,rfl,hq,fx,fs,q⟩:=h;cases ry;rcases hq with hq|hq
 ·obtain⟨its,r,pl,hz⟩:=I.list hq
  refine SeqAt.in_listAt (eqU x) pl.isList (λw hw=>q4o rx fx r fs w ⇑hw) ⟨.bl _,H,I,rfl,?_⟩;rw[show its.toArray.any (eqU x)=its.any (eqU x) by simp,q50 r fs];exact q
 ·obtain⟨its,r,pl,hz⟩:=I.tuple hq
  refine SeqAt.in_tupleAt (eqU x) pl (λw hw=>q4o rx fx r fs w ⇑hw) ⟨.bl _,H,I,rfl,?_⟩;rw[show its.toArray.any (eqU x)=its.any (eqU x) by simp,q50 r fs];exact q
def q9o:OpR X (uJ .NotIn) (rIn X.K true):=by
 intro pins s σ H x y v u Q I rx ry h;obtain⟨p,xs,rfl,hq,fx,fs,q⟩:=h;cases ry;rcases hq with hq|hq
 ·obtain⟨its,r,pl,hz⟩:=I.list hq
  refine SeqAt.notIn_listAt (eqU x) pl.isList (λw hw=>q4o rx fx r fs w ⇑hw) ⟨.bl _,H,I,rfl,?_⟩;rw[show its.toArray.any (eqU x)=its.any (eqU x) by simp,q50 r fs];exact q
 ·obtain⟨its,r,pl,hz⟩:=I.tuple hq
  refine SeqAt.notIn_tupleAt (eqU x) pl (λw hw=>q4o rx fx r fs w ⇑hw) ⟨.bl _,H,I,rfl,?_⟩;rw[show its.toArray.any (eqU x)=its.any (eqU x) by simp,q50 r fs];exact q
def qG:Xn X (.builtin "len") (λxs H Q=>∃p ys,xs=[.ref p]/\(SqL X.K H p ys\/SqT X.K H p ys)/\Q (.int ys.length) H):=by
 intro pins s σ H xs us Q I r h;obtain⟨p,ys,rfl,hq,q⟩:=h;obtain⟨u,rfl,rx⟩:=vals1 r;cases rx;have hn:=zAE;rcases hq with hq|hq
 ·obtain⟨its,r',pl,hz⟩:=I.list hq
  have hlen:=r'.length;exact Calls.call_len_list pl.isList (by simp only[zM] <;> omega) ⟨.int ys.length,H,I.tok _,⟨s.toks+1,by rw[zM,hlen]⟩,q⟩
 ·obtain⟨its,r',pl,hz⟩:=I.tuple hq
  have hlen:=r'.length;exact len_tuple pl (by simp only[zM] <;> omega) ⟨.int ys.length,H,I.tok _,⟨s.toks+1,by rw[zM,hlen]⟩,q⟩
def q8B:Xn X (.type "tuple") (λxs H Q=>∃p ys,xs=[.ref p]/\((SqL X.K H p ys/\∀l,H l=none->Q (.ref l) (upd H l (.tup ys)))\/(SqT X.K H p ys/\Q (.ref p) H))):=by
 intro pins s σ H xs us Q I r h;obtain⟨p,ys,rfl,h⟩:=h;obtain⟨u,rfl,rx⟩:=vals1 r;cases rx;rcases h with⟨hq,q⟩|⟨hq,q⟩
 ·obtain⟨its,r',pl,hz⟩:=I.list hq
  have hlen:=r'.length;refine call_tuple_list pl.isList (λh' kp=>?_) (by simp only[zM] <;> omega);have I1:Inv X pins σ H { s with heap:=h' }:=I.kept (t':=s.toks) kp;have I2:Inv X pins σ (upd H h'.objs.size (.tup ys)) { s with heap:=h'.push { cls:=.type "tuple", data:=.seq its.toArray } } :=
   I1.laid (t':=s.toks) (λb o e=>zE _ e) (zL _) (show Y5 X.prog X.w _ _ _ (.tup ys)from ⟨hz,its,r',IsTup.new _ _⟩)
  exact⟨.ref h'.objs.size,_,I2,rfl,q _ (I1.hok.fresh (zL _))⟩
 ·obtain⟨its,r',pl,hz⟩:=I.tuple hq
  exact call_tuple_same pl ⟨.ref p,H,I,rfl,q⟩
def tyV(K:zA)(T:String)(x:V)(H:Hp):Prop:=match x with
 | .str _=>T = "str"
 | .int _=>T = "int"
 | .ref p=>(T = "list" /\ ∃xs,SqL K H p xs)\/(T = "tuple" /\ ∃o,K.lookup p=some o/\o.cls=.type "tuple" /\ o.dict=none) \/
   (T = "dict" /\ ((∃kvs,H p=some (.dK kvs))\/∃kvs,H p=some (.dT kvs)))\/(T = "set" /\ ∃S n,H p=some (.set S n))
 | _=>False
def qbX{pins:List (vC×Obj)}{σ:St}{H:Hp}{s:vB}{T:String}{x:V}{v:Value}(I:Inv X pins σ H s)(r:RelV x v)(ty:tyV X.K T x H):
  s.TypeIs v T/\∀a,v=.ref a->∃ob,s.heap.get? a=some ob/\ob.dict=none:=by
 cases x with
 | str z=>
  obtain⟨t,rfl⟩:=r;cases (show T = "str" from ty);exact⟨typeIs_str s z t,λ_ e=>nomatch e⟩
 | int i=>
  obtain⟨t,rfl⟩:=r;cases (show T = "int" from ty);exact⟨typeIs_int s i t,λ_ e=>nomatch e⟩
 | ref p=>
  cases r;rcases ty with⟨rfl,xs,hq⟩|⟨rfl,o,hk,hc,hd⟩|⟨rfl,hk⟩|⟨rfl,S,n,hk⟩
  ·obtain⟨its,_,pl,_⟩:=I.list hq
   refine⟨pl.isList.typeIs,λa e=>?_⟩;cases e;obtain⟨o,n,e,c,hd,_⟩:=pl;exact⟨o,e,hd⟩
  ·refine⟨⟨o,I.kIn p o hk,hc⟩,λa e=>?_⟩
   cases e;exact⟨o,I.kIn _ o hk,hd⟩
  ·have z:∃o,s.heap.get? p=some o/\o.ExactDict:=by
    rcases hk with⟨kvs,hk⟩|⟨kvs,hk⟩
    ·obtain⟨_,_,_,_,o,_,_,e,ex,_⟩:=I.hok p _ hk
     exact⟨o,e,ex⟩
    ·obtain⟨_,_,_,_,o,_,_,e,ex,_⟩:=I.hok p _ hk
     exact⟨o,e,ex⟩
   obtain⟨o,e,ex⟩:=z;refine⟨⟨o,e,ex.1⟩,λa e2=>?_⟩;cases e2;exact⟨o,e,ex.2.1⟩
  ·obtain⟨o,_,_,_,e,ex,_⟩:=I.hok p _ hk
   refine⟨⟨o,e,ex.1⟩,λa e2=>?_⟩;cases e2;exact⟨o,e,ex.2.1⟩
 | _=>exact False.elim ty
noncomputable def tBM0(K:zA)(T:String)(r:V->List V->Hp->VK->Prop)(to:TE):TE:=λσ H Q=>to σ H λx H1=>tyV K T x H1/\r x [] H1 Q
noncomputable def tBM(K:zA)(T:String)(r:V->List V->Hp->VK->Prop)(to:TE)(t:TA):TE:=λσ H Q=>to σ H λx H1=>tyV K T x H1/\t σ H1 λxs H2=>r x xs H2 Q
variable{o e:vW}{es:List vW}{to:TE}{t:TA}{name:Str}{apos cpos:Pos}{T id:String}{r:V->List V->Hp->VK->Prop}
def q9f(pa:PlainAttrs T)(slot:Slot T name id)(hty:typeOf (.builtin id)=pure (.type "method_descriptor"))(hm:MtR X id r)(ho:PE X o to)(hbase:uN o name X.env (eval o X.env)=eval o X.env:=by rfl)(hline:(apos.endLine==cpos.line)=true:=by rfl):PE X (.Call (.Attribute o name apos) [] [] cpos) (tBM0 X.K T r to):=by
 intro pins s σ H Q I h;refine wpAny_Call_method0_late hbase hline (thn (ho pins s σ H _ I h) λv s1 ⟨x,H1,I1,r1,ty,q1⟩=>?_);obtain⟨h1,h2⟩:=qbX I1 r1 ty;exact⟨T,id,pa,slot,hty,h1,h2,Calls.callWith_builtin rfl (PySem.evalArgs_none (hm pins s1 σ H1 x [] v [] Q I1 r1 .nil q1))⟩
def q5x(pa:PlainAttrs T)(slot:Slot T name id)(hty:typeOf (.builtin id)=pure (.type "method_descriptor"))(hm:MtR X id r)(ho:PE X o to)(ha:PA X (e::es) t)(hbase:uN o name X.env (eval o X.env)=eval o X.env:=by rfl)(hfew:((vp cpos (vJ (e::es) X.env)).all (λx=>!x.1)&&(tL cpos (ug [] X.env)).all (λx=>x.1.isSome)
   && decide ((e::es).length+([]:List uU).length+(if ([]:List uU).isEmpty then 0 else 1)<30))=true:=by rfl)
  (hline:(apos.endLine==cpos.line)=true:=by rfl) (hs:vJ (e::es) X.env=(false,eval e X.env)::vJ es X.env:=by rfl) (hplain:(vp cpos (vJ es X.env)).any (·.1)=false:=by rfl) :
  PE X (.Call (.Attribute o name apos) (e::es) [] cpos) (tBM X.K T r to t):=by
 intro pins s σ H Q I h;refine wpAny_Call_method_late hbase hfew hline rfl (thn (ho pins s σ H _ I h) λv s1 ⟨x,H1,I1,r1,ty,q1⟩=>?_);obtain⟨h1,h2⟩:=qbX I1 r1 ty;refine⟨T,id,pa,slot,hty,h1,h2,?_⟩;have hA:=ha cpos pins s1 σ H1 _ I1 q1;rw[hs]at hA ⊢;refine Calls.callWith_builtin (by show (false || (vp cpos (vJ es X.env)).any (·.1))=false;rw[hplain] <;> rfl) (Calls.evalArgs_plain ?_);exact thn hA λus s2 ⟨vs,H2,I2,r2,q2⟩=>hm pins s2 σ H2 x vs v us Q I2 r1 r2 q2
end
def MtM(X:Cx)(id:String)(r:V->List V->Hp->VK->Prop):Prop :=
 ∀(pins:List (vC×Obj))(s:vB)(σ:St)(H:Hp)(x:V)(xs:List V)(v:Value)(us:List Value)(Q:VK),Inv X pins σ H s->RelV x v->Y3 xs us->r x xs H Q ->
  vL (model X.prog X.w) X.A (call (.builtin id) (v::us)) (EP X pins σ Q) X.xe s
theorem Y3.one:∀{x:V}{us:List Value},Y3 [x] us->∃u,us=[u]/\RelV x u
 | _,_,.cons r .nil=>⟨_,rfl,r⟩
def Y3.zero:∀{us:List Value},Y3 [] us->us=[]
 | _,.nil=>rfl
theorem Y3.dropLast{xs:List V}{us:List Value}(h:Y3 xs us):Y3 xs.dropLast us.dropLast:=by
 induction h with
 | nil=>exact .nil
 | cons r t ih=>
  cases t with
  | nil=>exact .nil
  | cons q t'=>exact .cons r ih
theorem Y3.reverse{xs:List V}{us:List Value}(h:Y3 xs us):Y3 xs.reverse us.reverse:=by
 induction h with
 | nil=>exact .nil
 | cons r t ih=>rw[Z0,Z0];exact Y3.append ih (.cons r .nil)
theorem Y3.rep{xs:List V}{us:List Value}(h:Y3 xs us):∀k:Nat,Y3 (zj k xs).flatten (zj k us).flatten
 | 0=>.nil
 | k+1=>by
  rw[zQ,zQ,yv,yv];exact Y3.append h (Y3.rep h k)
def qb3{α:Type}(l:List α):l.eraseIdx (l.length-1)=l.dropLast:=by
 induction l with
 | nil=>rfl
 | cons a r ih=>
  cases r with
  | nil=>rfl
  | cons b r=>
   have e:(a::b::r).length-1=((b::r).length-1)+1:=by
    have h1:(a::b::r).length=r.length+2:=rfl;have h2:(b::r).length=r.length+1:=rfl;omega
   rw[e,List.eraseIdx_cons_succ,ih]
   all_goals rfl
theorem q8e(its:List Value):∀(k:Nat)(acc:List Value),
  ZP (λx1 x2=>x1++x2) acc.toArray (zj k its.toArray)=(acc++(zj k its).flatten).toArray
 | 0,acc=>by simp
 | k+1,acc=>by
  have e:acc.toArray++its.toArray=(acc++its).toArray:=by simp
  have e2:(acc++its)++(zj k its).flatten=acc++(zj (k+1) its).flatten:=by
   rw[zQ,yv,zR]
  rw[<- e2,<- q8e its k (acc++its),<- e,zQ,YL]
section
variable{X:Cx}{pins:List (vC×Obj)}{σ:St}{H:Hp}{s:vB}{l b:vC}{xs ys zs:List V}
def Inv.lset{its its':List Value}{n:Nat}{f:Array Value->Array Value}{t':Nat}(I:Inv X pins σ H s)(hH:H l=some (.lst xs))(e:s.heap.get? l=some { cls:=.type "list", data:=.seq its.toArray n })(hf:f its.toArray=its'.toArray)(hv:Y3 ys its')(hz:ys.length<=sizeLine):
  Inv X pins σ (upd H l (.lst ys)) { s with heap:=s.heap.update l (Obj.mapSeq f),toks:=t' }:=by
 have q:=PySem.IsL.update e f;rw[hf]at q;refine I.write (x:=l) (e:=l) (by rw[hH];exact trivial) (.inl rfl) (λb' u hb hu=>(xK s.heap (Obj.mapSeq f) (Ne.symm hb)).trans hu) ⟨_,q⟩ ?_;exact⟨hz,its',_,hv,q⟩
def Inv.lnew{its:List Value}{t':Nat}(I:Inv X pins σ H s)(hv:Y3 ys its)(hz:ys.length<=sizeLine):
  Inv X pins σ (upd H s.heap.objs.size (.lst ys)) { s with heap:=s.heap.push { cls:=.type "list", data:=.seq its.toArray },toks:=t' } :=
 I.laid (λ_ _ q=>zE _ q) (zL _) ⟨hz,its,0,hv,zP _ rfl⟩
theorem Inv.fresh(I:Inv X pins σ H s):H s.heap.objs.size=none:=I.hok.fresh (zL _)
def Inv.lstM(I:Inv X pins σ H s)(hH:H l=some (.lst xs)):xs.length<=sizeLine/\∃(its:List Value) (n:Nat),Y3 xs its/\xs.length=its.length/\s.heap.get? l=some { cls:=.type "list", data:=.seq its.toArray n }:=by
 obtain⟨z,its,n,r,e⟩:=I.hok l _ hH;exact⟨z,its,n,r,r.length,e⟩
def zAS{n:Nat}(h:n<=sizeLine):Builtin.List.listTooLong n=false:=by
 unfold Builtin.List.listTooLong;exact vX ∅
end
section
variable{X:Cx}
def Xx:V->List V->Hp->VK->Prop:=λx vs H Q=>∃l xs y,x=.ref l/\vs=[y]/\H l=some (.lst xs)/\xs.length<sizeLine/\Q .non (upd H l (.lst (xs++[y])))
def q2W:MtM X "list.append" Xx:=by
 intro pins s σ H x vs v us Q I rx rv h;obtain⟨l,xs,y,rfl,rfl,hH,hz,q⟩:=h;cases rx;obtain⟨u,rfl,ru⟩:=rv.one;obtain⟨z,its,n,r,hl,e⟩:=I.lstM hH;refine u6 F.slot_list_append ⟨_,e,rfl⟩ F.entry_list_append (F.args_list_append_2 _ _) (PySem.list_append l its.toArray n u (by rw[zM];omega)) ⟨e,?_⟩;refine⟨.non,_,I.lset (its':=its++[u]) hH e (by simp) (r.append (.cons ru .nil)) ?_,rfl,q⟩;rw[zD,zz];omega
def zBX:V->List V->Hp->VK->Prop:=λx vs H Q=>∃l b xs zs,x=.ref l/\vs=[.ref b]/\H l=some (.lst xs)/\H b=some (.lst zs)/\xs.length+zs.length<=sizeLine/\Q .non (upd H l (.lst (xs++zs)))
def qbz:MtM X "list.extend" zBX:=by
 intro pins s σ H x vs v us Q I rx rv h;obtain⟨l,b,xs,zs,rfl,rfl,hH,hB,hz,q⟩:=h;cases rx;obtain⟨u,rfl,ru⟩:=rv.one;cases ru;obtain⟨z,its,n,r,hl,e⟩:=I.lstM hH;obtain⟨z2,its2,n2,r2,hl2,e2⟩:=I.lstM hB;have hsz:its.toArray.size+its2.toArray.size<=sizeLine:=by rw[zM,zM];omega
 have hlong:¬(!its.toArray.isEmpty&&Builtin.List.listTooLong (its.toArray.size+its2.toArray.size))=true:=by
  rw[zAS hsz,zt];exact ym
 refine u6 F.slot_list_extend ⟨_,e,rfl⟩ F.entry_list_extend (F.args_list_extend_2 _ _)
  (AutoSeq1.list_extend_list_list_0 l its.toArray n b its2.toArray n2 hlong (by rw[zM];omega) ∅) ⟨e,e2,?_⟩
 refine⟨.non,_,I.lset (its':=its++its2) hH e (by simp) (r.append r2) ?_,rfl,q⟩;rw[zD];omega
def rPop:V->List V->Hp->VK->Prop:=λx vs H Q=>∃l xs y,x=.ref l/\vs=[]/\H l=some (.lst xs)/\xs[xs.length-1]?=some y/\Q y (upd H l (.lst xs.dropLast))
def q9d:MtM X "list.pop" rPop:=by
 intro pins s σ H x vs v us Q I rx rv h;obtain⟨l,xs,y,rfl,rfl,hH,hy,q⟩:=h;cases rx;have hus:=rv.zero;subst hus;obtain⟨z,its,n,r,hl,e⟩:=I.lstM hH;obtain⟨u,hu,ru⟩:=r.get hy;have hy':its.toArray[its.toArray.size-1]?=some u:=by
  show its.toArray[its.length-1]?=some u;rw[<- yE,<- hl];exact hu
 refine u6 F.slot_list_pop ⟨_,e,rfl⟩ F.entry_list_pop (F.args_list_pop_1 _) (MeetsSeq.list_pop_last l its.toArray n u hy' (by rw[zM];omega)) ⟨e,?_⟩;refine⟨y,_,I.lset (its':=its.dropLast) hH e ?_ r.dropLast ?_,ru,q⟩
 ·show its.toArray.eraseIdxIfInBounds (its.toArray.size-1)=its.dropLast.toArray
  rw[zM,List.eraseIdxIfInBounds_toArray,qb3]
 ·rw[List.length_dropLast]
  omega
noncomputable def rCat:R2:=λx y H Q=>∃l b xs zs,x=.ref l/\y=.ref b/\H l=some (.lst xs)/\H b=some (.lst zs)/\xs.length+zs.length<=sizeLine/\∀p,H p=none->Q (.ref p) (upd H p (.lst (xs++zs)))
def qfm:OpR X (uO .Add) rCat:=by
 intro pins s σ H x y v u Q I rx ry h;obtain⟨l,b,xs,zs,rfl,rfl,hH,hB,hz,q⟩:=h;cases rx;cases ry;obtain⟨z,its,n,r,hl,e⟩:=I.lstM hH;obtain⟨z2,its2,n2,r2,hl2,e2⟩:=I.lstM hB;refine PySem.P.add_list e e2 ?_ (by rw[zM,zM];omega);have ea:its.toArray++its2.toArray=(its++its2).toArray:=by simp
 rw[ea];exact⟨.ref _,_,I.lnew (t':=s.toks) (r.append r2) (by rw[zD];omega),rfl,q _ I.fresh⟩
noncomputable def rRep:R2:=λx y H Q=>∃l k xs,x=.ref l/\y=.int k/\H l=some (.lst xs)/\-(2^63)<=k/\k<2^63/\xs.length*k.toNat<=sizeLine /\
 ∀p,H p=none->Q (.ref p) (upd H p (.lst (zj k.toNat xs).flatten))
def qen{α:Type}(xs:List α)(k:Nat):(zj k xs).flatten.length=k*xs.length:=by
 induction k with
 | zero=>simp
 | succ k ih=>rw[zQ,yv,zD,ih,Nat.succ_mul,Z1]
def qf5:OpR X (uO .Mult) rRep:=by
 intro pins s σ H x y v u Q I rx ry h;obtain⟨l,k,xs,rfl,rfl,hH,h1,h2,hz,q⟩:=h;cases rx;obtain⟨t,rfl⟩:=ry;obtain⟨z,its,n,r,hl,e⟩:=I.lstM hH;have hlen:its.toArray.size*k.toNat<=sizeLine:=by rw[zM,<- hl];exact hz
 have hcap:¬its.toArray.size*k.toNat>(2^63-1)/8:=by
  have:(sizeLine:Nat)<=(2^63-1)/8:=by decide
  omega
 have hfit:¬(!Builtin.List.listFitsIndex k)=true:=by
  rw[fitsIndex_both h1 h2];exact ym
 have hlong:¬Builtin.List.listTooLong (its.toArray.size*k.toNat)=true:=by
  rw[zAS hlen];exact ym
 have hnew:ZP (λx1 x2=>x1++x2) #[] (zj (if its.toArray.isEmpty=true then 0 else k.toNat) its.toArray)=(zj k.toNat its).flatten.toArray:=by
  have f0:∀m:Nat,ZP (λx1 x2=>x1++x2) #[] (zj m its.toArray)=(zj m its).flatten.toArray:=λm=>by
   have:=q8e its m [];rw[zg]at this;exact this
  rw[f0];cases its with
  | nil=>simp
  | cons a r'=>rw[vH (by simp)]
 refine wpAny_binaryOp_repeat_ref (T := "list") (U := "int") (by decide) ⟨_,e,rfl⟩ (λs'=>typeIs_int s' k t) noFill_list_mul F.fills_int_mul F.slot_int_rmul repeat_list F.slot_int_index.lookup
  (u6 F.slot_int_rmul (typeIs_int s k t) F.entry_int_rmul (F.args_int_rmul_2 _ _) (int___rmul___int_list k t l its.toArray n)
   ⟨e,rfl,⟨_,e,rfl⟩,u6 F.slot_list_mul ⟨_,e,rfl⟩ F.entry_list_mul (F.args_list_mul_2 _ _) (AutoListH.list___mul___list_int_3 l its.toArray n k t hfit hcap hlong) ⟨e,?_⟩⟩)
 rw[hnew];exact⟨.ref _,_,I.lnew (t':=s.toks) (r.rep k.toNat) (by rw[qen,Nat.mul_comm];exact hz),rfl,q _ I.fresh⟩
end
section
variable{prog:vS}{w:vY}{A:vZ}{E:Value->vB->Prop}{s:vB}
end
section
variable{X:Cx}
end
end L2
namespace Att
open PySem PySem.W PySem.Calls PyProof.Rows
def Wo{P:Params}{h:vf}:∀(ns:List Int)(vs:List Value),WellAll P h vs (ns.map WData.int)->uC vs ns:=by
 intro ns
 induction ns with
 | nil=>
  intro vs w;rw[yA]at w;cases w;exact .nil
 | cons n ns ih=>
  intro vs w;rw[zO]at w;cases w with
  | cons a b=>
   cases a;exact .cons _ _ (ih _ b)
def zBs{l:OpenLaw}{n:Nat}(hn:l.most=some n){P:Params}{h:vf}{args:List WData}{vals:List Value}(hpre:l.row.toRowW.claim.pre args=true)(hwl:WellAll P h vals args):
  ∃a vs ns,vals=[Value.ref a]/\args=[WData.list (ns.map WData.int)]/\h.get? a=some { cls:=.type "list", data:=.seq vs.toArray }/\uC vs ns/\ns.length<=n:=by
 have hsh:WShape.hasAll [] args [.list .int]=true:=(pre_splitW hpre).1;have hc:l.pre.holds [] { args:=args }=true:=(pre_splitW hpre).2;obtain⟨d,r,rfl,h1,h2⟩:=hasAllW_cons hsh;obtain rfl:=hasAllW_nil h2;obtain⟨xs,rfl,h3⟩:=hasW_list h1;obtain⟨ns,rfl⟩:=items_int h3;have hlen:ns.length<=n:=by
  unfold OpenLaw.pre at hc;have h4:(WTm.not (.lt (.lit (.int (n:Int))) (.len (.arg 0)))).holds [] { args:=[.list (ns.map .int)] }=true:=by
   have h4:=(holds_andW hc).1;rw[hn]at h4;exact h4
  have h5:=condW_of h4 (w_not (w_lt w_lit (w_len_list (w_arg rfl))));rw[zB]at h5;refine Nat.le_of_not_lt λq=>?_;have q':(n:Int)<((ns.length:Nat):Int):=∅
  first
   | (rw[vQ q']at h5;exact vK h5 (by decide))
   | (simp at h5;omega)
 cases hwl with
 | cons w1 w2=>
  cases w2;cases w1 with
  | list ho hall=>exact⟨_,_,ns,rfl,rfl,ho,Wo ns _ hall,hlen⟩
def zBz(l:OpenLaw)(args:List WData):l.row.toRowW.claim.post args (.bool true) args=true :=
 postW_of (r:=l.row.toRowW) (X:=(true==true))
  (show WShape.has [] (.bool true) .bool=true by first|rfl|decide|simp[WShape.has,WShape.arms,WShape.armsAll])
  (show (WTm.eq .res (.lit (.bool true))).value [] { args:=args,res:=some (.bool true),after:=args }=some (.bool (true==true))from w_eq_bool (w_res rfl) w_lit) rfl
def attach_call{l:OpenLaw}{n:Nat}{q:vS}{loose:List Str}{XP:(Str->Option Value)->vf->Prop}{YP:vY->vf->Prop}{d:DefRec}(hn:l.most=some n)(hdf:d.params.defaults=[])(call:∀(w:vY)(s₀ s₁:vB)(mg mb:Str->Option Value)(fa:vC)(o:Obj)(pm cd doc:Value)(a:vC)(vs:List Value)(ns:List Int),
   Ground q loose [] XP w s₀ mg mb s₁.heap->YP w s₁.heap ->
   s₁.heap.get? fa=some o->o.data=.func (docDef d.name d.params d.body d.scope pm cd doc)->s₁.heap.CodeRec cd d.name->mg d.name=some (.ref fa) ->
   s₁.heap.get? a=some { cls:=.type "list", data:=.seq vs.toArray }->uC vs ns->ns.length<=n->s₁.gens=#[] ->
   ud (model l.prog w) tu (.call (.ref fa) ⟨[.ref a],[]⟩) (λr s'=>r=.ok (.ret (.bool true))/\OldK s₁.heap s'.heap/\s'.os=s₁.os/\uy s'.gens) s₁) :
  WalkO q loose XP YP l.row.toRowW d [] (λf vs=>PySem.call f vs):=by
 intro w s₀ s₁ mg mb G Y fa o pm cd doc dV kV ho hd hcd hD hmg hg args vals as hpre hlay hrd hwl hlo;obtain rfl:dV=.none:=Dflts.none hD hdf;obtain rfl:kV=.none:=Dflts.noKw hD;obtain⟨a,vs,ns,rfl,rfl,hobj,hints,hlen⟩:=zBs hn hpre hwl;refine enter_call (uX (call w s₀ s₁ mg mb fa o pm cd doc a vs ns G Y ho (fd_plain hd) hcd hmg hobj hints hlen hg) λr s' hq=>?_);obtain⟨rfl,h2,h3,h4⟩:=hq;exact⟨.inl ⟨.bool true,.bool true,[],rfl,λ_=>rfl,.bool true,zBz l _,λ_=>⟨xf,λ_ hm=>(nomatch hm)⟩⟩,h2,h3,h4⟩
section
variable{prog:vS}{w:vY}{A:vZ}{E:Value->vB->Prop}{s:vB}{K:Frag}
end
end Att
namespace L2
open PySem PySem.Spec PyProof.Rows
theorem q3U:∀{vs:List Value}{ns:List Int},uC vs ns->Y3 (ns.map V.int) vs
 | _,_,.nil=>.nil
 | _,_,.cons n t h=>.cons ⟨t,rfl⟩ (q3U h)
def Only(H:Hp):Prop:=∀b,H b=none\/∃o xs,H b=some (.frz o (.lst xs))
def qd4{P:vS}{w:vY}{K:zA}{mg mb:Str->Option Value}{CX:CXT}{k:Nat}{fa a:vC}{fd:vN}{x:Str}{sp:Sp}{s₁:vB}{vs:List Value}{ns:List Int}(KX:K.In s₁.heap)(hns:s₁.heap.Ns vP mg)(hb:s₁.heap.Ns builtinsNs mb)(hbb:∀x:Str,x ≠ "__name__" -> mb x=ve x)(hlim:s₁.heap.NoLimit)(hg:s₁.gens=#[])(ha:s₁.heap.get? a=some { cls:=.type "list", data:=.seq vs.toArray })(hi:uC vs ns)(hl:ns.length<=sizeLine)(hr:Room k tu)(F:∀base:vf,K.In base->base.Ns vP mg->FnOk P w K mg base CX k fa fd [x] sp)(hbind:∀(s:vB)(u:Value),sF s fd ⟨[u],[]⟩ [(x,u)])(hsp:∀H:Hp,Only H->SqL K H a (ns.map V.int)->sp [.ref a] H (λv _=>v=.bl true) λ_ _ _=>False)(hCX:∀H e s',CX [] H s₁ (λ_ _ _=>False) e s'->False):
  ud (model P w) tu (.call (.ref fa) ⟨[.ref a],[]⟩) (λr s'=>r=.ok (.ret (.bool true))/\OldK s₁.heap s'.heap/\s'.os=s₁.os/\uy s'.gens) s₁:=by
 have rv:=q3U hi;have lenV:=hi.length;have core:∀H:Hp,Only H->SqL K H a (ns.map V.int)->HOk P w H s₁.heap->(∀b,H b≠none->b=a)->(H a≠none->K.lookup a=none) ->
   ud (model P w) tu (.call (.ref fa) ⟨[.ref a],[]⟩) (λr s'=>r=.ok (.ret (.bool true))/\OldK s₁.heap s'.heap/\s'.os=s₁.os/\uy s'.gens) s₁:=by
  intro H hO hS hok hA hK;have base_of:∀{b:vC}{o:Obj},s₁.heap.get? b=some o->H b=none->(zCM s₁.heap H).get? b=some o:=λe n=>qdj e n;have noA:∀{b:vC}{o:Obj}{es:Array DictEntry}{ep:Nat},s₁.heap.get? b=some o->o.data=.dict es ep->H b=none:=λ{b o es ep} e d=>by
   cases q:H b with
   | none=>rfl
   | some u=>
    have e':b=a:=hA b (by rw[q];simp);subst e';rw[ha]at e;cases e;have d':Data.seq vs.toArray _=Data.dict es ep:=d;cases d'
  have nsK:∀{b:vC}{m:Str->Option Value},s₁.heap.Ns b m->(zCM s₁.heap H).Ns b m:=λ{b m} ⟨o,es,ep,e,d,r⟩=>⟨o,es,ep,base_of e (noA e d),d,r⟩;have hKb:K.In (zCM s₁.heap H):=λb o e=>base_of (KX b o e) (by
   cases q:H b with
   | none=>rfl
   | some u=>
    have e':b=a:=hA b (by rw[q];simp);subst e';rw[hK (by rw[q];simp)]at e;cases e)
  have hM:Mod K mg (zCM s₁.heap H):=⟨hKb,nsK hns,⟨mb,nsK hb,hbb⟩,let ⟨mc,h1,h2⟩:=hlim;⟨mc,nsK h1,h2⟩⟩;have e0:Env0 P w K mg (zCM s₁.heap H) tu [] s₁ H:=⟨rfl,hM,λb o e=>qez e,Nat.le_of_eq (qcH _ _),trivial,λb hb=>vK (show b∈([]:List vC)from hb) (by simp),hok,.of_eq hg⟩;refine uX ((F _ hKb (nsK hns)).run tu [] s₁ H ⟨[.ref a],[]⟩ [.ref a] [.ref a] _ _ hr e0 (hbind s₁ (.ref a)) (.cons rfl .nil) (hsp H hO hS)) λr s' h=>?_;cases r with
  | error e=>exact(hCX H e s' h).elim
  | ok fl=>
   cases fl with
   | next=>exact False.elim h
   | brk=>exact False.elim h
   | cont=>exact False.elim h
   | ret u=>
    obtain⟨v,H',os,bare,un,hok',r',q⟩:=h;have q':v=.bl true:=q;subst q';obtain rfl:u=Value.bool true:=r';refine⟨rfl,OldK.of_keep λb o e=>?_,os,bare⟩;cases q:H b with
    | none=>exact un.keep b o e q (by intro z;exact vK (show b∈([]:List vC)from z) (by simp)) (by simp)
    | some u=>
     rcases hO b with z|⟨ob,xs,z⟩
     ·rw[q]at z;cases z
     ·have z2:=un.frzs b ob _ z
      obtain⟨e1,_⟩:=hok b _ z;obtain⟨e2,_⟩:=hok' b _ z2;rw[e]at e1;cases e1;exact e2
 cases hk:K.lookup a with
 | some o=>
  have e:=KX a o hk;rw[ha]at e;cases e;refine core (λ_=>none) (λ_=>.inl rfl) (.inr ⟨_,vs.toArray,_,hk,rfl,rfl,rfl,by rw[zM,lenV];exact hl,by simpa using rv⟩) (λb u z=>by have z':(none:Option HO)=some u:=z;cases z') (λb z=>vK rfl z) λz=>vK rfl z
 | none=>
  refine core (λb=>if b=a then some (.frz { cls:=.type "list", data:=.seq vs.toArray } (.lst (ns.map V.int)))else none) (λb=>?_) (.inl (.inr ⟨{ cls:=.type "list", data:=.seq vs.toArray },vG rfl⟩)) (λb u z=>?_) (λb z=>?_) λ_=>hk
  ·by_cases hb:b=a
   ·exact .inr ⟨_,_,vG hb⟩
   ·exact .inl (vH hb)
  ·by_cases hb:b=a
   ·have z':=(vG hb).symm.trans z
    cases z';subst hb;exact⟨ha,by rw[zB];exact hl,vs,_,rv,ha⟩
   ·have z':=(vH hb).symm.trans z
    cases z'
  ·by_cases hb:b=a
   ·exact hb
   ·exact vK (vH hb) z
noncomputable abbrev KOf{K:zA}{h:vf}(_:K.In h):zA:=K
def qa8{l:ZY}{n k:Nat}{q:vS}{loose:List Str}{XP:(Str->Option Value)->vf->Prop}{YP:vY->vf->Prop}{d:DefRec}{K:Params->zA}{CX:vY->CXT}{sp:vY->Sp}{x:Str}(hn:l.most=some n)(hn2:n<=sizeLine)(hdf:d.params.defaults=[])(hr:Room k tu)(hY:∀(w:vY)(h:vf),YP w h->(K w.params).In h)(F:∀(w:vY)(mg:Str->Option Value)(fa:vC)(h:vf),(K w.params).In h->h.Ns vP mg->mg d.name=some (.ref fa) ->
   ∃fd:vN,(∀(s:vB)(u:Value),sF s fd ⟨[u],[]⟩ [(x,u)]) /\
    ∀base:vf,(K w.params).In base->base.Ns vP mg->FnOk l.prog w (K w.params) mg base (CX w) k fa fd [x] (sp w))
  (hsp:∀(w:vY)(H:Hp)(a:vC)(ns:List Int),ns.length<=n->Only H->SqL (K w.params) H a (ns.map V.int)->sp w [.ref a] H (λv _=>v=.bl true) λ_ _ _=>False)
  (hCX:∀(w:vY)(H:Hp)(s:vB)(e:Value)(s':vB),CX w [] H s (λ_ _ _=>False) e s'->False) :
  Yc q loose XP YP l.row.toRowW d [] (λf vs=>PySem.call f vs):=by
 refine Att.attach_call hn hdf λw s₀ s₁ mg mb fa o pm cd doc a vs ns G Y ho hd hcd hmg hobj hints hlen hg=>?_;have KX:=hY w _ Y;obtain⟨fd,hb,hF⟩:=F w mg fa _ KX G.T.g hmg;exact qd4 KX G.T.g G.T.b G.T.builtins G.T.nolimit hg hobj hints (y8 hlen hn2) hr hF hb (λH hO hS=>hsp w H a ns hlen hO hS) λH e s'=>hCX w H s₁ e s'
end L2
namespace L2
open PySem PySem.Spec PyProof.Rows
noncomputable def X7(s:vn):Arguments:=match s with
 | .FunctionDef _ a _ _ _ _ _ _ _ _=>a
 | _=>{ posonlyargs:=[],args:=[],vararg:=none,kwonlyargs:=[],kw_defaults:=[],kwarg:=none,defaults:=[] }
noncomputable def Xf(s:vn):List vn:=match s with
 | .FunctionDef _ _ b _ _ _ _ _ _ _=>b
 | _=>[]
noncomputable def Yo(s:vn):uZ:=match s with
 | .FunctionDef _ _ _ _ _ _ sc _ _ _=>sc
 | _=>{ kind:=.function,names:=[],isGenerator:=false,isCoroutine:=false }
noncomputable abbrev CX0:CXT:=λ_ _ _ _ _ _=>False
noncomputable abbrev E0:XK:=λ_ _ _=>False
def pass0{X:Cx}:zAK CX0 X E0:=λ_ _ _ _ _ _ _ h=>h.elim
structure Fun (K:zA) (x qual:Str) (st:vn) (f:vC) (fd:vN):Prop where
 ex:∃(oc:Value) (od:Option vC) (kV doc pm:Value) (an:Option vC) (cdv ct:Value) (osl:Array (Option Value)),
  fd=xr x qual (X7 st) (Xf st) (Yo st) .none kV doc pm an cdv ct/\K.lookup f=some ⟨oc,od,.func fd,osl⟩/\wt K cdv qual=true
 kp:xa K (.ref f)=true
section
variable{P:vS}{w:vY}{K:zA}{mg:Str->Option Value}{base:vf}
def Fun.ok{x qual:Str}{st:vn}{f:vC}{fd:vN}{N ps:List Str}{k:Nat}{sp:Sp}(F:Fun K x qual st f fd)(S:FnScope N ps (Yo st))(len:∀vs H Q E,sp vs H Q E->vs.length=ps.length)(hbody:∀(cdv:Value)(A:vZ)(outer:List Env)(s:vB)(H:Hp)(vs:List V)(Q:VK)(E:XK),Room k (A.deeper (tY qual (Yo st) s.heap.objs.size f cdv))->sp vs H Q E ->
   ∃t,PSs (zAm CX0 P w K mg base N qual (Yo st) f cdv A outer s H E).nox (Xf st) t/\t { nx:=λ_ H'=>Q .non H',rt:=Q } (start N vs) H):FnOk P w K mg base CX0 (k+1) f fd ps sp:=by
 obtain⟨oc,od,kV,doc,pm,an,cdv,ct,osl,rfl,lk,hcd⟩:=F.ex;refine qdS lk hcd S len λA outer s H vs Q E hr hsp=>?_;obtain⟨t,h,q⟩:=hbody cdv A outer s H vs Q E hr hsp;exact⟨t,h.nox,q⟩
def Fun.binds{x qual:Str}{st:vn}{f:vC}{fd:vN}{ps:List Str}(F:Fun K x qual st f fd)(h:∀(kV doc pm:Value)(an:Option vC)(cdv ct:Value)(us:List Value),us.length=ps.length->bindArgs (xr x qual (X7 st) (Xf st) (Yo st) .none kV doc pm an cdv ct) ⟨us,[]⟩=pure (ps.zip us)):Binds K fd ps []:=by
 obtain⟨oc,od,kV,doc,pm,an,cdv,ct,osl,rfl,lk,hcd⟩:=F.ex;exact .all (h kV doc pm an cdv ct)
def qfF{x qual:Str}{st:vn}{f:vC}{oc:Value}{od an:Option vC}{osl:Array (Option Value)}{kV doc pm cdv ct:Value}(l:K.lookup f=some ⟨oc,od,.func (xr x qual (X7 st) (Xf st) (Yo st) .none kV doc pm an cdv ct),osl⟩)(c:wt K cdv qual=true)(k:xa K (.ref f)=true):Fun K x qual st f (xr x qual (X7 st) (Xf st) (Yo st) .none kV doc pm an cdv ct):=⟨⟨oc,od,kV,doc,pm,an,cdv,ct,osl,rfl,l,c⟩,k⟩
end
def zBn{n:Nat}(h:n<=1000):n<sizeLine:=Zt h (by decide)
section
variable{X:Cx}
def pv(i:Nat){x:Str}{pos:Pos}(hN:X.N[i]?=some x:=by rfl)(hv:Vis X.env.scope x:=by first|exact Or.inl rfl|exact Or.inr (Or.inl rfl)|exact Or.inr (Or.inr rfl))(hd:(x==("__debug__" : Str))=false:=by decide)(hcd:(x==("__classdict__" : Str))=false:=by decide):PE X (.Name x pos) (XZ i):=qff hN hv hd hcd
end
def Y1(H H':Hp):Prop:=∀b o,H b=some o->H' b=some o
def Y1.refl(H:Hp):Y1 H H:=λ_ _ h=>h
def Y1.trans{H H1 H2:Hp}(a:Y1 H H1)(b:Y1 H1 H2):Y1 H H2:=λc o h=>b c o (a c o h)
def Y1.free{H H':Hp}(e:Y1 H H'){l:vC}(h:H' l=Yf):H l=Yf:=by
 cases q:H l with
 | none=>rfl
 | some o=>
  rw[e l o q]at h;cases h
def Y1.seq{K:zA}{H H':Hp}{a:vC}{xs:List V}(e:Y1 H H')(h:SqL K H a xs):SqL K H' a xs:=by
 rcases h with (h|⟨o,h⟩)|h
 ·exact .inl (.inl (e _ _ h))
 ·exact .inl (.inr ⟨o,e _ _ h⟩)
 ·exact .inr h
end L2
namespace Hk
open PySem
def zBS(xs:Array Nat):Prop:=xs.toList.Pairwise (· < ·)
def q6x{l:List Nat}(h:l.Pairwise (· < ·)){i j:Nat}(hi:i<l.length)(hj:j<l.length)(hij:i<j):l[i]<l[j]:=xo.mp h i j hi hj hij
def qdC{xs:Array Nat}{j:Nat}(h:zBS xs):∀(fuel lo hi:Nat),lo<=hi->hi<=xs.size->hi-lo<=fuel->(∀k(z:k<xs.toList.length),k<lo->xs.toList[k]<j)->(∀k(z:k<xs.toList.length),hi<=k->j<=xs.toList[k]) ->
  SetTable.below.go xs j fuel lo hi<=xs.size/\(∀k(z:k<xs.toList.length),k<SetTable.below.go xs j fuel lo hi->xs.toList[k]<j)/\(∀k(z:k<xs.toList.length),SetTable.below.go xs j fuel lo hi<=k->j<=xs.toList[k]):=by
 intro fuel
 induction fuel with
 | zero=>
  intro lo hi h1 h2 h3 h4 h5;have e:lo=hi:=∅
  subst e;exact⟨h2,h4,h5⟩
 | succ n ih=>
  intro lo hi h1 h2 h3 h4 h5;unfold SetTable.below.go
  by_cases hl:lo<hi
  ·rw[vG hl]
   have hm:(lo+hi)/2<xs.toList.length:=by rw[zN];omega
   have hg:xs.getD ((lo+hi)/2) j=xs.toList[(lo+hi)/2]:=by
    rw[Array.getD_eq_getD_getElem?,<- yE,zG hm];rfl
   by_cases hc:xs.getD ((lo+hi)/2) j<j
   ·simp only[hc,if_true]
    refine ih _ _ ∅ h2 ∅ (λk z hk=>?_) h5
    by_cases e:k=(lo+hi)/2
    ·subst e;rw[hg]at hc;exact hc
    ·have:=q6x h z hm ∅
     rw[hg]at hc;omega
   ·simp only[hc,if_false]
    refine ih _ _ ∅ ∅ ∅ h4 (λk z hk=>?_)
    by_cases e:k=(lo+hi)/2
    ·subst e;rw[hg]at hc;omega
    ·have:=q6x h hm z ∅
     rw[hg]at hc;omega
  ·rw[vH hl]
   have e:lo=hi:=∅
   subst e;exact⟨h2,h4,h5⟩
def q98{xs:Array Nat}(h:zBS xs)(j:Nat):SetTable.below xs j<=xs.size/\(∀k(z:k<xs.toList.length),k<SetTable.below xs j->xs.toList[k]<j)/\(∀k(z:k<xs.toList.length),SetTable.below xs j<=k->j<=xs.toList[k]) :=
 qdC h xs.size 0 xs.size (yq _) (zL _) ∅ (λk z hk=>vK hk (wV _)) (λk z hk=>by rw[zN]at z;omega)
def q5G{α:Type}(xs:Array α)(p:Nat)(x:α):(SetTable.insertAt xs p x).toList=xs.toList.take p++x::xs.toList.drop p:=by
 unfold SetTable.insertAt;simp[xt,xR]
def q9T{xs:Array Nat}(h:zBS xs){j:Nat}(hn:xs[SetTable.below xs j]?≠some j):zBS (SetTable.insertAt xs (SetTable.below xs j) j):=by
 obtain⟨h1,h2,h3⟩:=q98 h j;unfold zBS;rw[q5G,zZ];have lt:∀y∈xs.toList.drop (SetTable.below xs j),j<y:=by
  intro y hy;obtain⟨k,hk,e⟩:=ye.mp hy;rw[yy]at hk;rw[xu]at e;have hb:SetTable.below xs j<xs.toList.length:=∅
  have hh:=h3 _ hb (zL _);have ne:xs.toList[SetTable.below xs j]≠j:=λz=>hn (by rw[<- yE,zG hb,z]);have hle:xs.toList[SetTable.below xs j]<=y:=by
   by_cases e0:k=0
   ·subst e0;rw[<- e];simp
   ·rw[<- e];exact xH (q6x h hb ∅ ∅)
  omega
 refine⟨we (w8 _ _) h,zi.mpr ⟨lt,we (Z2 _ _) h⟩,λa ha b hb=>?_⟩;have haj:a<j:=by
  obtain⟨k,hk,e⟩:=ye.mp ha;rw[yK]at hk;rw[xg]at e;rw[<- e];exact h2 k ∅ ∅
 rcases zF.mp hb with rfl|hb
 ·exact haj
 ·exact Z3 haj (lt b hb)
structure Tb (t:SetTable) (n:Nat):Prop where
 fits:t.fits n=true
 rise:zBS t.place
 dum:t.dummies=#[]
def q8X{t:SetTable}(hd:t.dummies=#[])(j:Nat):t.slot j≠.dummy:=by
 unfold SetTable.slot;rw[hd]
 dsimp only
 split
 ·exact λz=>nomatch z
 ·have:SetTable.has #[] j=false:=by simp[SetTable.has]
  rw[this];exact λz=>nomatch z
def q9Z{t:SetTable}(hd:t.dummies=#[]){h:Int}:∀(fuel:Nat)(p:SetTable.Probe)(m:SetTable.Met),p.dummy=none->SetTable.probe.go t (λ_=>h+1) h fuel p=some m->∃j,m=.empty j none/\t.slot j=.empty:=by
 intro fuel
 induction fuel with
 | zero=>intro p m _ e;cases e
 | succ n ih=>
  intro p m hp e;unfold SetTable.probe.go at e;cases hs:t.slot p.j with
  | empty=>
   rw[hs]at e;cases e;exact⟨p.j,by rw[hp],hs⟩
  | dummy=>exact vK hs (q8X hd _)
  | live i=>
   rw[hs]at e;have hne:(h+1==h)=false:=by simp only[beq_eq_false_iff_ne,ne_eq];omega
   dsimp only at e
   rw[hne]at e;refine ih _ m ?_ e;unfold SetTable.advance
   split
   ·exact hp
   ·exact hp
def q9X{t:SetTable}(hd:t.dummies=#[]){h:Int}{slot:Nat}{b:Bool}(e:t.freeSlot h=some (slot,b)):b=false/\t.place[SetTable.below t.place slot]?≠some slot:=by
 unfold SetTable.freeSlot at e;cases q:t.probe (λ_=>h+1) h (t.probeStart h)with
 | none=>rw[q]at e;cases e
 | some m=>
  rw[q]at e;obtain⟨j,rfl,hs⟩:=q9Z hd _ _ m (by rfl) q;cases e;refine⟨rfl,λz=>?_⟩;unfold SetTable.slot at hs
  dsimp only at hs
  have:(t.place[SetTable.below t.place j]?==some j)=true:=by
   rw[show t.place[SetTable.below t.place j]?=some j from z];simp
  rw[vG this]at hs;cases hs
def qbj(n:Nat):zBS (Array.range n):=by
 unfold zBS;rw[Array.toList_range];exact ZQ
def q4b(t:SetTable)(n:Nat):Tb (t.standIn n) n:=by
 refine⟨?_,qbj n,rfl⟩;unfold SetTable.fits SetTable.standIn SetTable.fill;simp;omega
def qgv{t:SetTable}{n:Nat}(h:zBS t.place)(hd:t.dummies=#[]):Tb (t.orStandIn n) n:=by
 unfold SetTable.orStandIn
 by_cases z:t.fits n=true
 ·rw[vG z];exact⟨z,h,hd⟩
 ·rw[vH z];exact q4b t n
def qga(t:SetTable)(n:Nat):(t.orStandIn n).led=t.led:=by
 unfold SetTable.orStandIn
 split <;> rfl
def qc3{t:SetTable}{es:Array (Int×Value)}{h:Int}{x:Value}(T:Tb t es.size):
  (layNew t es h x).2.2.1=false/\Tb (layNew t es h x).2.1 (layNew t es h x).1.size/\(layNew t es h x).2.1.led=t.led/\(layNew t es h x).1.toList.Perm ((h,x)::es.toList):=by
 unfold layNew;cases q:t.freeSlot h with
 | none=>
  refine⟨rfl,?_,rfl,?_⟩
  ·rw[Array.size_push];exact q4b t _
  ·rw[w9]
   exact List.perm_append_singleton _ _
 | some p=>
  obtain⟨slot,b⟩:=p;obtain⟨rfl,hn⟩:=q9X T.dum q;have hd:(t.put slot).1.dummies=#[]:=by
   unfold SetTable.put
   dsimp only
   rw[T.dum];simp[SetTable.has]
  refine⟨rfl,qgv (q9T T.rise hn) hd,(qga _ _).trans rfl,?_⟩;rw[q5G];refine xV YG ?_;rw[yx]
theorem q6I{α:Type}{f:α->Option α}(h:∀x y,f x=some y->y=x):∀l:List α,(l.filterMap f).Sublist l
 | []=>by simp
 | a::r=>by
  rw[xi];cases q:f a with
  | none=>exact(q6I h r).cons a
  | some b=>rw[h a b q];exact(q6I h r).cons_cons a
theorem q7u{α:Type}:∀l:List α,(ya l.length).filterMap (λi=>l[i]?)=l
 | []=>rfl
 | a::r=>by
  rw[zC,ZR,xi];simp only[zU];rw[Zs];have e:((λi=>(a::r)[i]?) ∘ Nat.succ)=λi=>r[i]?:=by funext i;simp
  rw[e,q7u r]
def qeT{mask finger moves:Nat}{led plain:Bool}{hs:Array Int}{t:SetTable}{o:Array Nat}(e:SetTable.laid mask finger moves led plain hs=some (t,o)):zBS t.place/\t.dummies=#[]/\t.led=led:=by
 unfold SetTable.laid at e;cases q:SetTable.layClean mask hs with
 | none=>rw[q]at e;cases e
 | some owner=>
  rw[q]at e;cases e;refine⟨?_,rfl,rfl⟩;unfold zBS
  dsimp only
  rw[List.map_filterMap];refine we (q6I (λx y z=>?_) _) ZQ;cases q2:owner.getD x none with
  | none=>rw[q2]at z;cases z
  | some c=>rw[q2]at z;exact(z0 z).symm
def qdc{t:SetTable}{es:Array (Int×Value)}(w:Nat):Tb (relayAll t es w).2.1 (relayAll t es w).1.size/\(relayAll t es w).2.1.led=t.led/\(relayAll t es w).1.toList.Perm es.toList:=by
 unfold relayAll;cases q:t.relaid (es.map (·.1)) w with
 | none=>exact⟨q4b t _,rfl,xl _⟩
 | some p=>
  obtain⟨t',order⟩:=p
  dsimp only
  obtain⟨h1,h2,h3⟩:=qeT q
  by_cases z:(coversAll order es.size&&t'.fits (order.filterMap (es[·]?)).size)=true
  ·rw[vG z]
   rw[zc]at z;refine⟨⟨z.2,h1,h2⟩,h3,?_⟩;have hp:order.toList.Perm (ya es.size):=List.isPerm_iff.mp z.1;rw[Array.toList_filterMap];have e:(λ(i:Nat)=>es[i]?)=λ(i:Nat)=>es.toList[i]?:=by funext i;simp
   rw[e];have q2:=hp.filterMap λi=>es.toList[i]?;rw[<- zN,q7u]at q2;exact q2
  ·rw[vH z]
   exact⟨q4b t _,rfl,xl _⟩
end Hk
namespace Hk
open PySem PySem.Spec PyProof.Rows
noncomputable def vI:Value->Int
 | .int i _=>i
 | _=>0
def zAM(e:Int×Value):Prop:=∃x t,e=(sV x,Value.int x t)
def qaV{prog:vS}{w:vY}{l:List (Int×Value)}(h:∀e∈l,zAM e):ElemsOf (ux prog w) l:=λe he=>by
 obtain⟨x,t,rfl⟩:=h e he;exact⟨⟨x,intKind_is _ _ _ _,rfl⟩,rfl⟩
def zAq(h:vf)(a:vC)(led:Bool)(xs:List Int):Prop:=∃o es ep t,h.get? a=some o/\o.ExactSet/\o.data=.set es ep t/\Tb t es.size/\t.led=led/\es.size<uY /\
 (∀e∈es.toList,zAM e)/\es.toList.map (λe=>vI e.2)=xs/\xs.Nodup
def zAq.len{h:vf}{a:vC}{led:Bool}{xs:List Int}(S:zAq h a led xs):xs.length<uY:=by
 obtain⟨o,es,ep,t,_,_,_,_,_,z,_,e,_⟩:=S;rw[<- e,zB,zN];exact z
def zAq.at{h h':vf}{a:vC}{led:Bool}{xs:List Int}(S:zAq h a led xs)(k:∀o,h.get? a=some o->h'.get? a=some o):zAq h' a led xs:=by
 obtain⟨o,es,ep,t,e,r⟩:=S;exact⟨o,es,ep,t,k o e,r⟩
def qaB{prog:vS}{w:vY}{e:Int×Value}(h:zAM e)(x:Int):(ux prog w).is x e.2=decide (vI e.2=x):=by
 obtain⟨y,t,rfl⟩:=h;show Value.isInt x (.int y t)=decide (y=x)
 by_cases z:y=x
 ·subst z;simp[Value.isInt]
 ·simp[Value.isInt,z]
def qbD{prog:vS}{w:vY}{l:List (Int×Value)}(h:∀e∈l,zAM e){x:Int}(q:l.findIdx? (λe=>(ux prog w).is x e.2)=none):x∉l.map (λe=>vI e.2):=λz=>by
 obtain⟨e,he,ex⟩:=xC.mp z;have:=List.findIdx?_eq_none_iff.mp q e he;rw[qaB (h e he),ex]at this;simp at this
def qbV{prog:vS}{w:vY}{l:List (Int×Value)}(h:∀e∈l,zAM e){x:Int}{j:Nat}(q:l.findIdx? (λe=>(ux prog w).is x e.2)=some j):x∈l.map (λe=>vI e.2):=by
 obtain⟨hj,hp,_⟩:=List.findIdx?_eq_some_iff_getElem.mp q;rw[qaB (h _ (xX hj))]at hp;exact xC.mpr ⟨_,xX hj,of_decide_eq_true hp⟩
section
variable{prog:vS}{w:vY}{A:vZ}{E:Value->vB->Prop}{s:vB}
def qa2{h:vf}{a:vC}{o:Obj}{es es':Array (Int×Value)}{ep:Nat}{t t':SetTable}{led:Bool}{xs:List Int}(go:h.get? a=some o)(gx:o.ExactSet)(gd:o.data=.set es ep t)(T:Tb t' es'.size)(gl:t'.led=led)(gb:es'.size<uY)(gg:∀e∈es'.toList,zAM e)(gv:es'.toList.map (λe=>vI e.2)=xs)(gn:xs.Nodup):
  (h.update a (Obj.putSet es' t')).get? a=some { o with data:=.set es' (ep+1) t' }/\zAq (h.update a (Obj.putSet es' t')) a led xs:=by
 have q:=wE (Obj.putSet es' t') go (by rw[putSet_of es' t' gd];rfl);rw[putSet_of es' t' gd]at q;exact⟨q,_,es',ep+1,t',q,gx,rfl,T,gl,gb,gg,gv,gn⟩
def qca{g:Bool->Sem Unit}(gw:∀(b:Bool)(s1:vB)(Q':Unit->vB->Prop),Q' () s1->vL (model prog w) A (g b) Q' E s1){a:vC}{o:Obj}{es es1:Array (Int×Value)}{ep:Nat}{t t2:SetTable}{led:Bool}{xs:List Int}(go:s.heap.get? a=some o)(gx:o.ExactSet)(gd:o.data=.set es ep t)(T:Tb t2 es1.size)(gl:t2.led=led)(gb:es1.size<uY)(gg:∀e∈es1.toList,zAM e)(gv:es1.toList.map (λe=>vI e.2)=xs)(gn:xs.Nodup){dm:Bool}{R:Option Bool->vB->Prop}(k:∀h' ys,xq a s.heap h'->zAq h' a led ys->ys.Perm xs->R (some true) { s with heap:=h' }):
  vL (model prog w) A (do
    storeSet a es1 t2
    if (!dm&&t2.tooFull)=true then do
      g (relayAll t2 es1 (SetTable.grown es1.size)).2.2
      storeSet a (relayAll t2 es1 (SetTable.grown es1.size)).1 (relayAll t2 es1 (SetTable.grown es1.size)).2.1
      pure (some true)
     else pure (some true)) R E s:=by
 refine vA (wpAny_storeSet_of go gd ?_ (fits_of_scanBound gb));obtain⟨g1,S1⟩:=qa2 go gx gd T gl gb gg gv gn;have sb:=Zi s.heap a (Obj.putSet es1 t2)
 split
 ·obtain⟨T2,l2,p2⟩:=qdc (t:=t2) (es:=es1) (SetTable.grown es1.size)
  generalize relayAll t2 es1 (SetTable.grown es1.size)=rl at T2 l2 p2 ⊢;obtain⟨es2,t3,gv2⟩:=rl
  dsimp only at T2 l2 p2 ⊢
  have hz:es2.size=es1.size:=by rw[<- zN,p2.length_eq,zN]
  have gb2:es2.size<uY:=by rw[hz];exact gb
  have pv:(es2.toList.map λe=>vI e.2).Perm xs:=by rw[<- gv];exact p2.map _
  refine vA (gw _ _ _ ?_);refine vA (wpAny_storeSet_of g1 rfl ?_ (fits_of_scanBound gb2));obtain⟨_,S2⟩:=qa2 g1 gx rfl T2 (l2.trans gl) gb2 (λe he=>gg e (p2.mem_iff.mp he)) rfl (pv.nodup_iff.mpr gn);exact vF (k _ _ (sb.trans (Zi _ a _)) S2 pv)
 ·exact vF (k _ _ sb S1 (xl _))
def qgp{a:vC}{led:Bool}{xs:List Int}{x:Int}{tk:Tok}{Q:Bool->vB->Prop}(S:zAq s.heap a led xs)(room:xs.length+1<uY)(k:∀b h' ys,xq a s.heap h'->zAq h' a led ys->(x∈xs->ys=xs)->(x∉xs->ys.Perm (x::xs))->Q b { s with heap:=h' }):
  vL (model prog w) A (setAddHashed a (.int x tk) (sV x)) Q E s:=by
 obtain⟨o,es,ep,t,go,gx,gd,T,gl,gb,gg,gv,gn⟩:=id S;have hl:es.size=xs.length:=by rw[<- gv,zB,zN]
 have el:ElemsOf (ux prog w) es.toList:=qaV gg;unfold setAddHashed setAddHashedIn;refine vi (vA (vx go gd T.fits ?_))
 dsimp only
 rw[byScan_of (knd:=ux prog w) (x:=.int x tk) rfl gb el];simp only[↓reduceIte];unfold setAddByScan;refine vA (vA (v8 (vA (wpAny_setScan_of (knd:=ux prog w) (k:=x) (intKind_is _ _ _ _) go gd T.fits el ?_))));cases q:List.findIdx? (λe=>(ux prog w).is x e.2) es.toList with
 | some j=>
  dsimp only
  have hx:x∈xs:=by rw[<- gv];exact qbV gg q
  refine vF (vF ?_);exact k false s.heap xs (Z4 a s.heap) S (λ_=>rfl) λz=>vK hx z
 | none=>
  dsimp only
  have hx:x∉xs:=by rw[<- gv];exact qbD gg q
  obtain⟨d0,T1,l1,p1⟩:=qc3 (t:=t) (es:=es) (h:=sV x) (x:=.int x tk) T;generalize layNew t es (sV x) (.int x tk)=ly at d0 T1 l1 p1 ⊢;obtain⟨es1,t1,dm,gave⟩:=ly
  dsimp only at d0 T1 l1 p1 ⊢
  have gg1:∀e∈es1.toList,zAM e:=λe he=>by
   rcases zF.mp (p1.mem_iff.mp he)with rfl|he
   ·exact⟨x,tk,rfl⟩
   ·exact gg e he
  have pv:(es1.toList.map λe=>vI e.2).Perm (x::xs):=by rw[<- gv];exact p1.map _
  have gn1:(es1.toList.map λe=>vI e.2).Nodup:=pv.nodup_iff.mpr (xh.mpr ⟨hx,gn⟩);have gb1:es1.size<uY:=by
   have:=pv.length_eq;rw[zB,zN,zC]at this;omega
  have gw:∀(b:Bool)(s1:vB)(Q':Unit->vB->Prop),Q' () s1->vL (model prog w) A (match b with|true=>rule "set.scan.the-table-gave-way" | false=>pure ()) Q' E s1 :=
   λb s1 Q' z=>by cases b <;> first|exact vF z|exact v8 z
  refine vA (gw _ _ _ ?_);have fin:∀h' ys,xq a s.heap h'->zAq h' a led ys->ys.Perm (es1.toList.map λe=>vI e.2)->Q true { s with heap:=h' }:=λh' ys sb S' p=>k true h' ys sb S' (λz=>vK z hx) λ_=>p.trans pv
  split
  ·refine vA ?_
   rw[hashByValue_scannable 8 (x:=Value.int x tk) rfl];refine vF ?_;refine qca (λb s1 Q' z=>by cases b <;> first|exact vF z|exact v8 z) go gx gd T1 (l1.trans gl) gb1 gg1 rfl gn1 λh' ys sb S' p=>?_;exact vF (fin h' ys sb S' p)
  ·refine vA (vF ?_)
   simp only[↓reduceIte];refine qca (λb s1 Q' z=>by cases b <;> first|exact vF z|exact v8 z) go gx gd T1 (l1.trans gl) gb1 gg1 rfl gn1 λh' ys sb S' p=>?_;exact vF (fin h' ys sb S' p)
end
def zB7(h:vf)(S:vC)(led:Bool)(val:Nat->Int)(m:Nat):Prop:=∃xs,zAq h S led xs/\xs.length<=m/\∀x,x∈xs↔∃i,i<m/\val i=x
theorem zB7.at{h h':vf}{a:vC}{led:Bool}{val:Nat->Int}{m:Nat}(S:zB7 h a led val m)(k:∀o,h.get? a=some o->h'.get? a=some o):zB7 h' a led val m:=by
 obtain⟨xs,q,r⟩:=S;exact⟨xs,q.at k,r⟩
section
variable{prog:vS}{w:vY}{A:vZ}{R:tX->vB->Prop}{I:vC}{fp wr:List vC}{G:Array tV->Array tV->Prop}{n:Nat}{P:Nat->Value->Prop}{St:Nat->vB->Prop}
def zCq(W:WalksS prog w A.in1 I fp wr G n P St)(S:vC)(hS:S∉fp){led:Bool}(val:Nat->Int)(hv:∀i v,P i v->∃t,v=.int (val i) t)(hb:n+1<uY):
  ∀(k i:Nat)(s:vB),n-i=k->i<=n->St i s->zB7 s.heap S led val i->(∀s',Moved (S::wr) G s s'->zB7 s'.heap S led val n->R (.ok (.ret .none)) s') ->
   ud (model prog w) A (.builtin "set.update.loop" ⟨[.ref S,.ref I],[]⟩) R s:=by
 have hw:S∉wr:=λz=>hS (W.sub _ z);have hsub:∀b∈wr,b∈S::wr:=λb z=>zI _ z;intro k
 induction k with
 | zero=>
  intro i s hk hi st SV hR;have hin:i=n:=∅
  subst hin;refine uL PyProof.Rows.F.entry_set_update_loop ?_;rw[Around.under_plainId PyProof.Rows.F.plain_set_update_loop _];show vL _ A.in1 (uD (.ref I) >>= _) _ _ s;refine vA (W.done s _ _ st λs' hm=>?_);show vL _ A.in1 (ret Value.none) _ _ s';exact vF (hR s' (hm.mono hsub) (SV.at λo e=>hm.heap S o hw e))
 | succ k ih=>
  intro i s hk hi st SV hR;have hlt:i<n:=∅
  refine uL PyProof.Rows.F.entry_set_update_loop ?_;rw[Around.under_plainId PyProof.Rows.F.plain_set_update_loop _];show vL _ A.in1 (uD (.ref I) >>= _) _ _ s;refine vA (W.item i s _ _ hlt st λv s1 hP st1 hm=>?_);obtain⟨t,rfl⟩:=hv i v hP;obtain⟨xs,S1,hl,hx⟩:=SV.at (h':=s1.heap) λo e=>hm.heap S o hw e;show vL _ A.in1 (holding [Value.int (val i) t] (setAdd S (.int (val i) t)) >>= _) _ _ s1;refine vA (vi ?_);unfold setAdd;refine vi ?_;refine vA ((ux prog w).pyHash (k:=val i) (intKind_is _ _ _ _) ?_);refine qgp (s:={ s1 with toks:=s1.toks+1 }) (x:=val i) S1 ∅ λb h' ys sb S2 y1 y2=>?_;have SV2:zB7 h' S led val (i+1):=by
   refine⟨ys,S2,?_,λx=>?_⟩
   ·by_cases z:val i∈xs
    ·rw[y1 z];omega
    ·rw[(y2 z).length_eq,zC];omega
   ·by_cases z:val i∈xs
    ·rw[y1 z,hx]
     refine⟨λ⟨j,h1,h2⟩=>⟨j,∅,h2⟩,λ⟨j,h1,h2⟩=>?_⟩
     by_cases e:j=i
     ·subst e;exact(hx x).mp (by rw[<- h2];exact z)
     ·exact⟨j,∅,h2⟩
    ·rw[(y2 z).mem_iff,zF,hx]
     refine⟨λh=>?_,λ⟨j,h1,h2⟩=>?_⟩
     ·rcases h with h|⟨j,h1,h2⟩
      ·exact⟨i,∅,h.symm⟩
      ·exact⟨j,∅,h2⟩
     ·by_cases e:j=i
      ·subst e;exact .inl h2.symm
      ·exact .inr ⟨j,∅,h2⟩
  refine vF ⟨ub PyProof.Rows.F.plain_set_update_loop _,ih (i+1) _ ∅ hlt (W.frame _ s1 _ _ st1 (wI _) λb z o e=>?_) SV2 λs2 hm2 S3=>?_⟩
  ·rw[sb.2 b (λy:b=S=>hS (by rw[<- y];exact z))];exact e
  ·refine hR s2 (Moved.trans W.gtrans ((hm.mono hsub).then_heap (wI _) λb o z e=>?_) hm2) S3
   rw[sb.2 b (λy:b=S=>z (by rw[y];exact zJ))];exact e
end
noncomputable abbrev Xi(w:vY):Bool:=!w.params.followText "set-order"
section
variable{prog:vS}{w:vY}{A:vZ}{E:Value->vB->Prop}{s:vB}
def qeV(a:Value){Q1:Value->vB->Prop}(h:Q1 (.ref s.heap.objs.size) { s with heap:=s.heap.push { cls:=.type "set", data:=.set #[] 0 (.fresh 0 0 (Xi w)) } }):
  ud (model prog w) A (.call (.builtin "set.__new__") ⟨[.type "set", a],[]⟩) (wants Q1 E) s:=by
 refine codeAny_of_tree ?_;show vL _ A.in1 (tM "set.__new__" ⟨[.type "set", a],[]⟩ >>= λ_=>again (.builtin "set.__new__" ⟨[.type "set", a],[]⟩)) _ _ s;refine vA (sQ (PySem.F.newCall_set_1 a) (vF ⟨ub PySem.F.plain_set_new _,uL PySem.F.entry_set_new ?_⟩));rw[Around.under_plainId PySem.F.plain_set_new _];unfold Builtin.«set.__new__» Builtin.Frozenset.newClass;have p1:=sub_set_self;obtain⟨hp,g,d,tk,os⟩:=s
 dsimp only
 wp_walk
 refine tN (vF ?_)
 dsimp only
 simp only[newObj];refine vA (wpAny_alloc (vF ?_));exact vF h
set_option maxHeartbeats 3200000 in
def q9M{l:vC}{items:Array Value}{ns:List Int}{Q:Value->vB->Prop}(hh:A.handled=none)(il:s.heap.IsList l items)(ia:uC items.toList ns)(hb:items.size+1<uY)(k:∀(h':vf)(tk:Nat),zB7 h' s.heap.objs.size (Xi w) (λi=>ns.getD i 0) items.size->(∀b o,b<s.heap.objs.size->s.heap.get? b=some o->h'.get? b=some o)->Q (.ref s.heap.objs.size) { s with heap:=h',toks:=tk }):
  vL (model prog w) A (call (.type "set") [.ref l]) Q E s:=by
 obtain⟨c,tl,c1⟩:=PySem.F.called_set.mro;have c2:=PySem.F.called_set.made;have c3:=PySem.F.called_set.sub;refine wpAny_call (codeAny_of_tree ?_);show vL _ _ (callAny (.type "set") _) _ _ _;refine vF ⟨Code.quiet_builtin _ ⋯,uL PySem.F.entry_type_call ?_⟩;rw[Around.under_plain (weight_type_call_type "set" [.ref l] []) rfl];have c4:=PySem.F.called_set.notType;have c5:=PySem.F.called_set.canCreate;have c6:=PySem.F.typeCall_set_1 (.ref l)
 repeat (any_goals (first|assumption|wp_step))
 refine uX (qeV (.ref l) (E:=E) (Q1:=λobj s1=>obj=.ref s.heap.objs.size/\s1={ s with heap:=s.heap.push { cls:=.type "set", data:=.set #[] 0 (.fresh 0 0 (Xi w)) } }) ⟨rfl,rfl⟩) λr s1 hr=>?_;cases r with
 | error e=>exact hr
 | ok fl=>
  cases fl with
  | ret obj=>
   obtain⟨rfl,rfl⟩:=hr;have hS:(s.heap.push { cls:=.type "set", data:=.set #[] 0 (.fresh 0 0 (Xi w)) }).get? s.heap.objs.size=some { cls:=.type "set", data:=.set #[] 0 (.fresh 0 0 (Xi w)) }:=zP _ rfl;have hT:Shared.TypeIs { s with heap:=s.heap.push { cls:=.type "set", data:=.set #[] 0 (.fresh 0 0 (Xi w)) } } (.ref s.heap.objs.size) "set" := ⟨_,hS,rfl⟩;have c7:=PySem.F.called_set.init.lookup;have c8:=PySem.F.called_set.init.bind (.ref s.heap.objs.size)
   repeat (any_goals (first|assumption|wp_step))
   refine uX (ur (R:=wants (λr s2=>r=.none/\∃h' tk,s2={ s with heap:=h',toks:=tk }/\zB7 h' s.heap.objs.size (Xi w) (λi=>ns.getD i 0) items.size /\
     (∀b o,b<s.heap.objs.size->s.heap.get? b=some o->h'.get? b=some o)) E) PySem.F.called_set.init.plain PySem.F.entry_set_init (check_set_init_1 hT ?_)) λr2 s2 hr2=>?_
   ·obtain⟨ol,e1,e2,nl,e3⟩:=il
    obtain⟨ocls,odict,odata,oslots⟩:=ol;simp only at e2 e3;subst e2;subst e3;have e1':(s.heap.push { cls:=.type "set", data:=.set #[] 0 (.fresh 0 0 (Xi w)) }).get? l=some { cls:=.type "list", dict:=odict,data:=.seq items nl,slots:=oslots }:=zE _ e1;have d1:=PySem.F.sub_list_set;have d2:=PySem.F.sub_list_frozenset;have d3:(Value.type "list" == Value.type "dict")=false:=by decide
    have il1:(s.heap.push { cls:=.type "set", data:=.set #[] 0 (.fresh 0 0 (Xi w)) }).IsList l items:=⟨_,e1',rfl,nl,rfl⟩;unfold Builtin.«set.__init__» noKeywords Builtin.Frozenset.updateFrom;generalize hPI:t9=PI
    wp_walk
    subst hPI;refine uh il1 ?_;refine vA (wpAny_runValue ?_);have lS:l<s.heap.objs.size:=zK e1;have h3:A.in1.in1.in1.handled=none:=by simp[hh]
    have nI:l≠(s.heap.push { cls:=.type "set", data:=.set #[] 0 (.fresh 0 0 (Xi w)) }).objs.size:=by rw[xE];exact zo (yw lS)
    have nS:s.heap.objs.size∉[(s.heap.push { cls:=.type "set", data:=.set #[] 0 (.fresh 0 0 (Xi w)) }).objs.size,l]:=by
     rw[xE];simp only[zF,zb,zv,or_false,not_or];exact⟨zo (xA _),wY lS⟩
    have hv:∀(i:Nat)(v:Value),items[i]?=some v->∃t,v=.int ((λi=>ns.getD i 0) i) t:=λi v z=>IntsAre.int_at ia i v (by rw[yE];exact z);refine zCq ((Walks.list h3 _ l nI items).toS) s.heap.objs.size nS (led:=Xi w) (λi=>ns.getD i 0) hv hb (items.size-0) 0 _ ∅ (yq _) ⟨⟨_,zP _ rfl,rfl,rfl⟩,(il1.push _)⟩ ?S0 ?RR
    case S0=>
     refine⟨[],⟨_,#[],0,.fresh 0 0 (Xi w),zE _ hS,⟨rfl,rfl,rfl⟩,rfl,⟨rfl,xf,rfl⟩,rfl,by show 0<uY;decide,λe z=>by simp at z,rfl,Ze⟩,zL _,λx=>⟨λz=>(by cases z),λ⟨i,z,_⟩=>vK z (wV _)⟩⟩
    case RR=>
     intro s' hm S';obtain⟨h',g',d',tk',os'⟩:=s';have eg:g'=s.gens:=hm.gens;have ed:d'=s.drawn:=hm.drawn;have eos:os'=s.os:=hm.os;subst eg;subst ed;subst eos;show vL _ _ _ _ _ _;refine vF ?_;show vL _ _ (ret Value.none) _ _ _;refine vF ⟨rfl,h',tk',rfl,S',λb o z y=>?_⟩;refine hm.heap b o ?_ (zE _ (zE _ y));simp only[zF,zb,zv,or_false,not_or];exact⟨zo z,by rw[xE];exact zo (yw z)⟩
   ·cases r2 with
    | error e=>exact hr2
    | ok fl2=>
     cases fl2 with
     | ret r=>
      obtain⟨rfl,h',tk,rfl,S',kp⟩:=hr2
      repeat (any_goals (first|assumption|wp_step))
      exact k _ _ S' kp
     | next=>exact hr2.elim
     | brk=>exact hr2.elim
     | cont=>exact hr2.elim
  | next=>exact hr.elim
  | brk=>exact hr.elim
  | cont=>exact hr.elim
end
end Hk
namespace PySem.F
def slotSetNext:Slot "set_iterator" "__next__" "set_iterator.__next__" := .of (owner := "set_iterator") (n := "__next__") (by rw[uR,v7];kernel_rfl) ⋯ ⋯ ⋯ (by first|exact .inl ⋯|exact .inr ⋯) (by rw[uj];kernel_rfl)
def slotSetIt:Slot "set_iterator" "__iter__" "set_iterator.__iter__" := .of (owner := "set_iterator") (n := "__iter__") (by rw[uR,v7];kernel_rfl) ⋯ ⋯ ⋯ (by first|exact .inl ⋯|exact .inr ⋯) (by rw[uj];kernel_rfl)
def zBA:Manifest.owners.lookup (String.ofList ['r','o','t','a','r','e','t','i','_','t','e','s'].reverse)=some Manifest.sig_set_iterator:=by kernel_rfl
def argsSetNext(a:Value):sf "set_iterator.__next__" ⟨[a],[]⟩:=by
 unfold sf;rw[signature?_of (id := "set_iterator.__next__") (n:=['_','_','t','x','e','n','_','_']) (o:=['r','o','t','a','r','e','t','i','_','t','e','s']) (by kernel_rfl) zBA]
 kernel_rfl
def argsSetIt(a:Value):sf "set_iterator.__iter__" ⟨[a],[]⟩:=by
 unfold sf;rw[signature?_of (id := "set_iterator.__iter__") (n:=['_','_','r','e','t','i','_','_']) (o:=['r','o','t','a','r','e','t','i','_','t','e','s']) (by kernel_rfl) zBA]
 kernel_rfl
def entSetNext:entryFor table "set_iterator.__next__" = some Builtin.«set_iterator.__next__»:=entryFor_of_tree (by kernel_rfl)
def entSetIter:entryFor table "set.__iter__" = some Builtin.«frozenset.__iter__»:=entryFor_alias (id' := "frozenset.__iter__") (by kernel_rfl) rfl ⋯ (by kernel_rfl)
def entSetIt:entryFor table "set_iterator.__iter__" = some Builtin.«dict_keyiterator.__iter__»:=entryFor_alias (id' := "dict_keyiterator.__iter__") (by kernel_rfl) rfl ⋯ (by kernel_rfl)
end PySem.F
namespace Hk
open PySem PySem.Spec PyProof.Rows
section
variable{prog:vS}{w:vY}{A:vZ}{E:Value->vB->Prop}{s:vB}
theorem q5d{α:Type}:∀(l:List α)(k:Nat)(h:k<l.length),(l[k]::l.eraseIdx k).Perm l
 | a::r,0,_=>xl _
 | a::r,k+1,h=>by
  have h':k<r.length:=by simpa using h
  show (r[k]::a::r.eraseIdx k).Perm (a::r);exact(List.Perm.swap a r[k] _).trans ((q5d r k h').cons a)
theorem qah{α:Type}(next:Nat->Nat):∀(fuel k:Nat)(left:List α)(out:Array α),left.length=fuel->(pickOrder.go next fuel k left out).toList.Perm (out.toList++left)
 | 0,k,left,out,h=>by
  have e:left=[]:=xM h;subst e;unfold pickOrder.go;rw[yu]
 | fuel+1,k,left,out,h=>by
  unfold pickOrder.go;have hlt:next k%left.length<left.length:=Nat.mod_lt _ ∅
  rw[zG hlt]
  dsimp only
  refine(qah next fuel (k+1) _ _ (by rw[wu hlt,h];rfl)).trans ?_;rw[w9,zR];exact yo _ (q5d left _ hlt)
def qci{α:Type}(next:Nat->Nat)(xs:Array α):(um next xs).toList.Perm xs.toList:=by
 have:=qah next xs.size 0 xs.toList #[] (by simp)
 simpa [um]using this
def qck{M:tW}{src:Source}{n:Nat}{Q:Nat->vB->Prop}(hn:n≠0)(h:Q (M.w.draws src (s.drawn.get src)%n) { s with drawn:=s.drawn.bump src }):vL M A (choose src n) Q E s:=λ_ _ _=>⟨hn,h⟩
theorem q67{M:tW}{α:Type}:∀(n:Nat)(xs:List α)(s:vB)(Q:List α->vB->Prop),xs.length=n->(∀ys d,ys.Perm xs->Q ys { s with drawn:=d })->vL M A (drawOrder n xs) Q E s
 | 0,xs,s,Q,hl,h=>by
  have e:xs=[]:=xM hl;subst e;exact vF (h [] s.drawn (xl _))
 | n+1,[],s,Q,hl,h=>by cases hl
 | n+1,x::r,s,Q,hl,h=>by
  unfold drawOrder;refine vA (qck (by simp) ?_);generalize hk:M.w.draws Source.order (s.drawn.get Source.order)%(x::r).length=k;have hlt:k<(x::r).length:=by rw[<- hk];exact Nat.mod_lt _ (by simp)
  rw[zG hlt]
  dsimp only
  have hl2:((x::r).eraseIdx k).length=n:=by rw[wu hlt,hl];rfl
  refine vA (q67 n _ _ _ hl2 λys d p=>vF (h _ d ?_));refine xV (p.cons _) ?_;exact q5d _ k hlt
end
noncomputable abbrev WG(f:Value)(i:Nat)(a:vC)(n ep:Nat):Obj:={ cls:=.type "set_iterator", data:=.fields #[f,.int i 0,.ref a,.int n 0,.int ep 0] }
section
variable{prog:vS}{w:vY}{A:vZ}{E:Value->vB->Prop}{s:vB}
def q3q{a:vC}{o:Obj}{es:Array (Int×Value)}{ep:Nat}{t:SetTable}{Q:Array (Int×Value)->vB->Prop}(go:s.heap.get? a=some o)(gd:o.data=.set es ep t)(gf:t.fits es.size=true)(h:Q es s):vL (model prog w) A (setEntries a) Q E s:=by
 unfold setEntries;exact vA (vx go gd gf (vF h))
def qcE{it a:vC}{slot i n ep:Nat}{o:Obj}{es:Array (Int×Value)}{t:SetTable}{x:Value}{nxt:Nat}{Q:Option Value->vB->Prop}(e:s.heap.get? it=some (WG (.int slot 0) i a n ep))(go:s.heap.get? a=some o)(gd:o.data=.set es ep t)(gf:t.fits es.size=true)(hn:es.size=n)(hnext:∀A' Q' E',Q' (some (x,nxt)) s->vL (model prog w) A' (u5 a slot i ep) Q' E' s)(k:∀h',h'.get? it=some (WG (.int nxt 0) (i+1) a n ep)->xq it s.heap h'->Q (some x) { s with heap:=h' }):
  vL (model prog w) A (uD (.ref it)) Q E s:=by
 have hT:s.TypeIs (.ref it) "set_iterator" := ⟨_,e,rfl⟩;unfold uD;refine vA (uE (wpAny_callSpecial?_slot (name:=Str.ofString "__next__") hT F.slotSetNext (vc F.slotSetNext hT F.entSetNext ?_ (F.argsSetNext _))));unfold Builtin.«set_iterator.__next__»;refine vA (m:=sG "__next__" 0 ⟨[.ref it],[]⟩) (vF ?_);refine vA (u7 e rfl ?_)
 dsimp only
 refine vA (q3q go gd gf ?_);rw[vH (by rw[hn];simp)];simp only[xI];refine vA (hnext _ _ _ ?_)
 dsimp only
 refine vA (vh e (by simp) λh1 e1 sb1=>?_);refine vA (vh (s:={ s with heap:=h1 }) e1 (by simp) λh2 e2 sb2=>?_);refine vF ⟨_,rfl,vF (k h2 ?_ (sb1.trans sb2))⟩;rw[e2];simp[v5]
def qcv{it a:vC}{slot i n ep:Nat}{o:Obj}{es:Array (Int×Value)}{t:SetTable}{Q:Option Value->vB->Prop}(hh:A.handled=none)(e:s.heap.get? it=some (WG (.int slot 0) i a n ep))(go:s.heap.get? a=some o)(gd:o.data=.set es ep t)(gf:t.fits es.size=true)(hn:es.size=n)(hnext:∀A' Q' E',Q' none s->vL (model prog w) A' (u5 a slot i ep) Q' E' s)(k:∀h',Heap.ExtBut it s.heap h'->Q none { s with heap:=h' }):
  vL (model prog w) A (uD (.ref it)) Q E s:=by
 have hT:s.TypeIs (.ref it) "set_iterator" := ⟨_,e,rfl⟩;unfold uD;refine vA (uE (wpAny_callSpecial?_slot (name:=Str.ofString "__next__") hT F.slotSetNext (vc F.slotSetNext hT F.entSetNext ?_ (F.argsSetNext _))));unfold Builtin.«set_iterator.__next__»;refine vA (m:=sG "__next__" 0 ⟨[.ref it],[]⟩) (vF ?_);refine vA (u7 e rfl ?_)
 dsimp only
 refine vA (q3q go gd gf ?_);rw[vH (by rw[hn];simp)];simp only[xI];refine vA (hnext _ _ _ ?_)
 dsimp only
 refine vA (vh e (by simp) λh1 e1 sb1=>?_);show vL _ _ (newExc (.type "StopIteration") [] >>= λx=>si x) _ _ _;refine vA ?_;simp only[newExc,newTuple];refine vA (vj ?_ (by size_fits));refine vA (m:=u8 _ _) (sQ (a:=Value.none) (by first|rfl|(simp only[u8];rfl)) ?_);refine vj ?_ (by size_fits);simp only[si];refine vA (wpAny_handled ?_);rw[show A.in1.handled=none from hh];refine vA (vF (wpAny_throw ?_));refine vA (v9 (T := "StopIteration") (b:=true) ⟨_,zP _ rfl,rfl⟩ uV ?_);exact vF (k _ ((sb1.extBut.push _).push _))
end
section
variable{prog:vS}{w:vY}{A:vZ}{E:Value->vB->Prop}{s:vB}
def q4F{Q:Bool->vB->Prop}(h:Q (w.params.followText "set-order") s):vL (model prog w) A setsByText Q E s:=by
 unfold setsByText;exact vA (tN (vF h))
def q7l{a:vC}{o:Obj}{es:Array (Int×Value)}{ep:Nat}{t:SetTable}{slot i:Nat}{r:Option (Value×Nat)}{Q:Option (Value×Nat)->vB->Prop}(go:s.heap.get? a=some o)(gd:o.data=.set es ep t)(gf:t.fits es.size=true)(hB:w.params.followText "set-order" = false)(hl:t.led=true)(hd:(!t.plain&&decide (es.size>1))=false)(hr:(match es[SetTable.below t.place slot]?,t.place[SetTable.below t.place slot]? with|some (_,x),some j=>some (x,j+1)|_,_=>none)=r)(h:Q r s):vL (model prog w) A (u5 a slot i ep) Q E s:=by
 unfold u5;refine vA (vx go gd gf ?_)
 dsimp only
 refine vA (q4F ?_);rw[hB];refine vb (λz=>vK z (by decide)) (λ_=>?_);refine vb (λz=>vK ((show (!t.plain&&decide (es.size>1))=true from z).symm.trans hd) (by decide)) (λ_=>?_);refine vA ?_;refine vb (λz=>?_) (λ_=>?_)
 ·have z':(!t.led && !es.isEmpty)=true:=z
  rw[hl]at z';exact vK z' (by simp)
 ·refine vF ?_
  refine vF ?_;rw[<- hr]at h;exact h
def qbO{a:vC}{o:Obj}{es:Array (Int×Value)}{ep:Nat}{t:SetTable}{Q:Array (Int×Value)->vB->Prop}(go:s.heap.get? a=some o)(gd:o.data=.set es ep t)(gf:t.fits es.size=true)(hB:w.params.followText "set-order" = true)(h:Q (um (w.params.setOrder a ep) es) s):vL (model prog w) A (setWalk a) Q E s:=by
 unfold setWalk;refine vA (vx go gd gf ?_)
 dsimp only
 refine vA (q4F ?_);rw[hB];refine vb (λ_=>?_) (λz=>vK rfl z);exact vA (tN (vF h))
def q81{a:vC}{o:Obj}{es:Array (Int×Value)}{ep:Nat}{t:SetTable}{slot i:Nat}{Q:Option (Value×Nat)->vB->Prop}(go:s.heap.get? a=some o)(gd:o.data=.set es ep t)(gf:t.fits es.size=true)(hB:w.params.followText "set-order" = true)(h:Q (((um (w.params.setOrder a ep) es)[i]?).map λe=>(e.2,slot)) s):vL (model prog w) A (u5 a slot i ep) Q E s:=by
 unfold u5;refine vA (vx go gd gf ?_)
 dsimp only
 refine vA (q4F ?_);rw[hB];refine vb (λ_=>?_) (λz=>vK rfl z);refine vb (λz=>vK z (by simp)) (λ_=>?_);exact vA (qbO go gd gf hB (vF h))
def qau{it:vC}{f:Value}{i:Nat}{a:vC}{n ep:Nat}{Q:Value->vB->Prop}(e:s.heap.get? it=some (WG f i a n ep))(h:Q (.ref it) s):vL (model prog w) A (t9 (.ref it)) Q E s:=by
 have hT:s.TypeIs (.ref it) "set_iterator" := ⟨_,e,rfl⟩;refine tE hT F.slotSetIt (vc F.slotSetIt hT F.entSetIt ?_ (F.argsSetIt _));show vL _ _ (ret (.ref it)) _ _ s;exact vF ⟨_,rfl, "set_iterator", _,hT,F.slotSetNext.lookup,h⟩
def qbc(hh:A.handled=none){I a:vC}(hne:a≠I){o:Obj}{es:Array (Int×Value)}{ep:Nat}{t:SetTable}(gd:o.data=.set es ep t)(gf:t.fits es.size=true)(slot:Nat->Nat)(val:Nat->Value)(hn:∀(i:Nat)(s:vB),i<es.size->s.heap.get? a=some o->∀A' Q' E',Q' (some (val i,slot (i+1))) s->vL (model prog w) A' (u5 a (slot i) i ep) Q' E' s)(hz:∀(s:vB),s.heap.get? a=some o->∀A' Q' E',Q' none s->vL (model prog w) A' (u5 a (slot es.size) es.size ep) Q' E' s):
  Walks prog w A I [I,a] [I] es.size (λi v=>v=val i) (λi h=>h.get? I=some (WG (.int (slot i) 0) i a es.size ep)/\h.get? a=some o) where
 sub:=λb hb=>by simp at hb;simp[hb]
 frame:=λ_ _ _ st hk=>⟨hk I (by simp) _ st.1,hk a (by simp) _ st.2⟩
 item:=λi s Q E hi st hQ=>by
  refine qcE st.1 st.2 gd gf rfl (hn i s hi st.2) λh' e' sb=>?_;exact hQ _ h' s.toks rfl ⟨e',sb.extBut a o hne st.2⟩ λb u hb e=>sb.extBut b u (λz=>hb (by simp[z])) e
 done:=λs Q E st hQ=>qcv hh st.1 st.2 gd gf rfl (hz s st.2) λh' eb=>hQ h' s.toks λb u hb e=>eb b u (λz=>hb (by simp[z])) e
 self:=λ_ _ _ _ st hQ=>qau st.1 hQ
def qaR{it a tp:vC}{i n ep p:Nat}{o:Obj}{es:Array (Int×Value)}{t:SetTable}{x:Int×Value}{ps:Array Value}{ot:Obj}{nt:Nat}{Q:Option Value->vB->Prop}(e:s.heap.get? it=some (WG (.ref tp) i a n ep))(go:s.heap.get? a=some o)(gd:o.data=.set es ep t)(gf:t.fits es.size=true)(hn:es.size=n)(gt:s.heap.get? tp=some ot)(gtd:ot.data=.seq ps nt)(hp:ps[i]?=some (.int p 0))(hx:es[p]?=some x)(k:∀h',h'.get? it=some (WG (.ref tp) (i+1) a n ep)->xq it s.heap h'->Q (some x.2) { s with heap:=h' }):
  vL (model prog w) A (uD (.ref it)) Q E s:=by
 have hT:s.TypeIs (.ref it) "set_iterator" := ⟨_,e,rfl⟩;unfold uD;refine vA (uE (wpAny_callSpecial?_slot (name:=Str.ofString "__next__") hT F.slotSetNext (vc F.slotSetNext hT F.entSetNext ?_ (F.argsSetNext _))));unfold Builtin.«set_iterator.__next__»;refine vA (m:=sG "__next__" 0 ⟨[.ref it],[]⟩) (vF ?_);refine vA (u7 e rfl ?_)
 dsimp only
 refine vA (q3q go gd gf ?_);rw[vH (by rw[hn];simp)];refine vA (v3 gt gtd ?_)
 dsimp only
 simp only[xI];rw[hp]
 dsimp only
 unfold setNextDrawn;refine vA (vA (vx go gd gf ?_))
 dsimp only
 refine vb (λz=>vK z (by simp)) (λ_=>?_);simp only[xI];rw[hx];refine vF ?_;refine vA (vh e (by simp) λh1 e1 sb1=>?_);refine vF ⟨_,rfl,vF (k h1 ?_ sb1)⟩;rw[e1];simp[v5]
def qb4{it a tp:vC}{i n ep:Nat}{o:Obj}{es:Array (Int×Value)}{t:SetTable}{ps:Array Value}{ot:Obj}{nt:Nat}{Q:Option Value->vB->Prop}(hh:A.handled=none)(e:s.heap.get? it=some (WG (.ref tp) i a n ep))(go:s.heap.get? a=some o)(gd:o.data=.set es ep t)(gf:t.fits es.size=true)(hn:es.size=n)(gt:s.heap.get? tp=some ot)(gtd:ot.data=.seq ps nt)(hp:ps[i]?=none)(k:∀h',Heap.ExtBut it s.heap h'->Q none { s with heap:=h' }):
  vL (model prog w) A (uD (.ref it)) Q E s:=by
 have hT:s.TypeIs (.ref it) "set_iterator" := ⟨_,e,rfl⟩;unfold uD;refine vA (uE (wpAny_callSpecial?_slot (name:=Str.ofString "__next__") hT F.slotSetNext (vc F.slotSetNext hT F.entSetNext ?_ (F.argsSetNext _))));unfold Builtin.«set_iterator.__next__»;refine vA (m:=sG "__next__" 0 ⟨[.ref it],[]⟩) (vF ?_);refine vA (u7 e rfl ?_)
 dsimp only
 refine vA (q3q go gd gf ?_);rw[vH (by rw[hn];simp)];refine vA (v3 gt gtd ?_)
 dsimp only
 simp only[xI];rw[hp]
 dsimp only
 refine vA (vh e (by simp) λh1 e1 sb1=>?_);refine vA (vh (s:={ s with heap:=h1 }) e1 (by simp) λh2 e2 sb2=>?_);show vL _ _ (newExc (.type "StopIteration") [] >>= λx=>si x) _ _ _;refine vA ?_;simp only[newExc,newTuple];refine vA (vj ?_ (by size_fits));refine vA (m:=u8 _ _) (sQ (a:=Value.none) (by first|rfl|(simp only[u8];rfl)) ?_);refine vj ?_ (by size_fits);simp only[si];refine vA (wpAny_handled ?_);rw[show A.in1.handled=none from hh];refine vA (vF (wpAny_throw ?_));refine vA (v9 (T := "StopIteration") (b:=true) ⟨_,zP _ rfl,rfl⟩ uV ?_);exact vF (k _ (((sb1.trans sb2).extBut.push _).push _))
def q9J(hh:A.handled=none){I a tp:vC}(hne:a≠I)(htp:tp≠I){o:Obj}{es:Array (Int×Value)}{ep:Nat}{t:SetTable}(gd:o.data=.set es ep t)(gf:t.fits es.size=true){ot:Obj}{nt:Nat}(ord:List Nat)(hp:ord.Perm (ya es.size))(gtd:ot.data=.seq (ord.map λ(i:Nat)=>v5 i).toArray nt):
  Walks prog w A I [I,a,tp] [I] es.size (λi v=>∃p x,ord[i]?=some p/\es[p]?=some x/\v=x.2) (λi h=>h.get? I=some (WG (.ref tp) i a es.size ep)/\h.get? a=some o/\h.get? tp=some ot) where
 sub:=λb hb=>by simp at hb;simp[hb]
 frame:=λ_ _ _ st hk=>⟨hk I (by simp) _ st.1,hk a (by simp) _ st.2.1,hk tp (by simp) _ st.2.2⟩
 item:=λi s Q E hi st hQ=>by
  have hl:ord.length=es.size:=by rw[hp.length_eq,yO]
  have ho:ord[i]?=some (ord[i]'∅):=zG _;have hlt:ord[i]'∅<es.size:=xz.mp (hp.mem_iff.mp (xX _));refine qaR (p:=ord[i]'∅) (x:=es[ord[i]'∅]) st.1 st.2.1 gd gf rfl st.2.2 gtd (by simp[v5,ho]) (by simp[hlt]) λh' e' sb=>?_;exact hQ _ h' s.toks ⟨_,_,ho,by simp[hlt],rfl⟩ ⟨e',sb.extBut a o hne st.2.1,sb.extBut tp ot htp st.2.2⟩ λb u hb e=>sb.extBut b u (λz=>hb (by simp[z])) e
 done:=λs Q E st hQ=>qb4 hh st.1 st.2.1 gd gf rfl st.2.2 gtd (by simp[hp.length_eq]) λh' eb=>hQ h' s.toks λb u hb e=>eb b u (λz=>hb (by simp[z])) e
 self:=λ_ _ _ _ st hQ=>qau st.1 hQ
end
end Hk
namespace PySem.F
def slotSetLen:tS (.type "set") "__len__" = pure (some (.builtin "set.__len__")):=by rw[uR,v7];kernel_rfl
def slotSetIter:Slot "set" "__iter__" "set.__iter__" := .of (owner := "set") (n := "__iter__") (by rw[uR,v7];kernel_rfl) ⋯ ⋯ ⋯ (by first|exact .inl ⋯|exact .inr ⋯) (by rw[uj];kernel_rfl)
def argsSetIter(a:Value):sf "set.__iter__" ⟨[a],[]⟩:=by
 unfold sf;kernel_rfl
end PySem.F
namespace Hk
open PySem PySem.Spec PyProof.Rows
noncomputable def slotAt(xs:Array Nat):Nat->Nat
 | 0=>0
 | i+1=>xs.toList.getD i 0+1
def q7A{xs:Array Nat}(h:zBS xs):∀i,i<=xs.size->SetTable.below xs (slotAt xs i)=i:=by
 intro i hi;obtain⟨h1,h2,h3⟩:=q98 h (slotAt xs i);have hz:xs.toList.length=xs.size:=zN;cases i with
 | zero=>
  rcases Nat.eq_zero_or_pos (SetTable.below xs (slotAt xs 0))with z|z
  ·exact z
  ·exact vK (h2 0 ∅ z) (wV _)
 | succ i=>
  have hlt:i<xs.toList.length:=∅
  have e:slotAt xs (i+1)=xs.toList[i]+1:=by
   show xs.toList.getD i 0+1=_;rw[zY,zG hlt];rfl
  rw[e]at h2 h3 h1 ⊢;generalize SetTable.below xs (xs.toList[i]+1)=b at h1 h2 h3 ⊢;have a1:i<b:=by
   rcases yt i b with z|z
   ·exact z
   ·have:=h3 i hlt z;omega
  have a2:b<=i+1:=by
   rcases yt (i+1) b with z|z
   ·have y:=h2 (i+1) ∅ z
    have y':=q6x h hlt (show i+1<xs.toList.length by omega) (xA i);omega
   ·exact z
  omega
def qcN{val:Nat->Value}{n:Nat}{acc:Array Value}(h:ItemsOf (λi v=>v=val i) acc n):acc.toList=(ya n).map val:=by
 apply wG;intro i;rw[yE,zh];rcases yt i n with z|z
 ·rw[xw z]
  have hz:i<acc.size:=by rw[h.1];exact z
  have:acc[i]?=some acc[i]:=yg hz;rw[this,h.2 i _ this];rfl
 ·rw[yL (by rw[yO];exact z),xS (by rw[h.1];exact z)];rfl
theorem q84:∀{l:List (Int×Value)},(∀e∈l,zAM e)->uC (l.map (·.2)) (l.map λe=>vI e.2)
 | [],_=>.nil
 | e::r,h=>by
  obtain⟨x,t,rfl⟩:=h e zJ;exact .cons _ _ (q84 λe he=>h e (zI _ he))
section
variable{prog:vS}{w:vY}{A:vZ}{E:Value->vB->Prop}{s:vB}
def qdB{r:vC}{Q:Bool->vB->Prop}(hT:s.TypeIs (.ref r) "set")(h:Q false s):vL (model prog w) A (Builtin.List.listLengthHint (.ref r)) Q E s:=by
 unfold Builtin.List.listLengthHint;refine vA (uv hT F.slotSetLen ?_);generalize hid:("set.__len__" : String)=id0
 wp_delta
 rw[show splitId id0=some ("set", "__len__")from by subst hid;decide +kernel];subst hid;refine vA (v9 (T := "set") (b:=true) hT (by rw[uj];kernel_rfl) ?_);refine vb (λhab=>vK hab (by decide)) (λ_=>?_);refine vb (λ_=>?_) (λhab=>vK ⋯ hab);refine vA (ui hT ?_);exact vF h
def qdv{a:vC}{xs:List Int}{Q:Value->vB->Prop}(S:zAq s.heap a (Xi w) xs)(k:∀(h':vf)(d:sN)(I:vC)(fp:List vC)(P:Nat->Value->Prop)(St:Nat->vf->Prop),(∀b o,s.heap.get? b=some o->h'.get? b=some o)->s.heap.objs.size<=I->(∀b∈fp,b=a\/s.heap.objs.size<=b) ->
   (∀A:vZ,A.handled=none->Walks prog w A I fp [I] xs.length P St)->St 0 h'->(∀acc:Array Value,ItemsOf P acc xs.length->∃ys,uC acc.toList ys/\ys.Perm xs)->(∀b∈fp,b<h'.objs.size)->Q (.ref I) { s with heap:=h',drawn:=d }) :
  vL (model prog w) A (t9 (.ref a)) Q E s:=by
 obtain⟨o,es,ep,t,go,gx,gd,T,gl,gb,gg,gv,gn⟩:=id S;have hl:es.size=xs.length:=by rw[<- gv,zB,zN]
 have hlt:a<s.heap.objs.size:=zK go;have hps:t.place.size=es.size:=by
  have:=T.fits;unfold SetTable.fits at this;simp only[zc,beq_iff_eq]at this;exact this.1
 have hT:s.TypeIs (.ref a) "set" := ⟨o,go,gx.1⟩;refine tE hT F.slotSetIter (vc F.slotSetIter hT F.entSetIter ?_ (F.argsSetIter _));unfold Builtin.«frozenset.__iter__» Builtin.Frozenset.slot0 Builtin.Frozenset.sizeOf;refine vA ?_;refine vA (m:=sG "__iter__" 0 ⟨[.ref a],[]⟩) (vF ?_);show vL _ _ (pure a) _ _ s;refine vF ?_;refine vA (vA (q3q go gd T.fits (vF ?_)));refine vA ?_;unfold setDrawn;refine vA (vx go gd T.fits ?_)
 dsimp only
 refine vA (q4F (vF ?_));have perm_ok:∀(l:List (Int×Value)),l.Perm es.toList->∃ys,uC (l.map (·.2)) ys/\ys.Perm xs:=λl p=>
  ⟨_,q84 λe he=>gg e (p.mem_iff.mp he),by rw[<- gv];exact p.map _⟩
 have slots:∀(slot:Nat->Nat)(l:List (Int×Value)),slot 0=0->l.Perm es.toList ->
   (∀(i:Nat)(s:vB),i<es.size->s.heap.get? a=some o->∀A' Q' E',Q' (some ((l.map (·.2)).getD i .none,slot (i+1))) s->vL (model prog w) A' (u5 a (slot i) i ep) Q' E' s) ->
   (∀(s:vB),s.heap.get? a=some o->∀A' Q' E',Q' none s->vL (model prog w) A' (u5 a (slot es.size) es.size ep) Q' E' s) ->
   Q (.ref s.heap.objs.size) { s with heap:=s.heap.push (WG (.int (slot 0:Nat) 0) 0 a es.size ep) }:=λslot l h0 p hn hz=>by
  have:=k (s.heap.push (WG (.int (slot 0:Nat) 0) 0 a es.size ep)) s.drawn s.heap.objs.size [s.heap.objs.size,a] (λi v=>v=(l.map (·.2)).getD i .none) (λi h=>h.get? s.heap.objs.size=some (WG (.int (slot i) 0) i a es.size ep)/\h.get? a=some o)
   (λb u e=>zE _ e) (zL _) (λb hb=>by
    simp only[zF,zv,or_false]at hb;rcases hb with rfl|rfl
    ·exact .inr (zL _)
    ·exact .inl rfl) (λA hh=>by rw[<- hl];exact qbc hh (zo hlt) gd T.fits slot _ hn hz) ⟨zP _ rfl,zE _ go⟩ (λacc hacc=>by
    rw[qcN hacc];obtain⟨ys,y1,y2⟩:=perm_ok l p;have e:(ya xs.length).map (λi=>(l.map (·.2)).getD i .none)=l.map (·.2):=by
     apply wG;intro i;have hll:l.length=xs.length:=by rw[p.length_eq,zN,hl]
     rw[zh];rcases yt i xs.length with z|z
     ·rw[xw z]
      show some ((l.map (·.2)).getD i .none)=_;rw[zY,zG (by rw[zB,hll];exact z)];rfl
     ·rw[yL (by rw[yO];exact z),yL (by rw[zB,hll];exact z)];rfl
    rw[e];exact⟨ys,y1,y2⟩) (λb hb=>by
    rw[xE];simp only[zF,zv,or_false]at hb;rcases hb with rfl|rfl
    ·exact xA _
    ·exact yw hlt)
  exact this
 have getD_at:∀(l:List (Int×Value))(i:Nat)(e:Int×Value),l[i]?=some e->(l.map (·.2)).getD i .none=e.2:=λl i e h=>by
  rw[zY,zh,h];rfl
 cases hB:w.params.followText "set-order" with
 | true=>
  refine vA (vF ?_);refine vA ?_;unfold setEpoch;refine vA (vx go gd T.fits (vF ?_));refine vA (vj (vF ⟨_,rfl, "set_iterator", _,⟨_,zP _ rfl,rfl⟩,F.slotSetNext.lookup,?_⟩));have pp:=qci (w.params.setOrder a ep) es;have hpl:(um (w.params.setOrder a ep) es).size=es.size:=by rw[<- zN,pp.length_eq,zN]
  refine slots (λ_=>0) _ rfl pp (λi s hi go' A' Q' E' q=>?_) λs go' A' Q' E' q=>?_
  ·refine q81 go' gd T.fits hB ?_
   have hz:i<(um (w.params.setOrder a ep) es).size:=by rw[hpl];exact hi
   rw[yg hz];have:=getD_at (um (w.params.setOrder a ep) es).toList i (um (w.params.setOrder a ep) es)[i] (by rw[yE,yg hz]);rw[this]at q;exact q
  ·refine q81 go' gd T.fits hB ?_
   rw[xS (by rw[hpl];exact zL _)];exact q
 | false=>
  have led:t.led=true:=by rw[gl];unfold Xi;rw[hB];rfl
  cases hD:(!t.plain&&decide (es.size>1))with
  | false=>
   refine vb (λz=>vK ((show (!false&&(!t.plain&&decide (es.size>1)))=true from z)) (by rw[hD];decide)) (λ_=>?_);refine vA (vF ?_);refine vA ?_;unfold setEpoch;refine vA (vx go gd T.fits (vF ?_));refine vA (vj (vF ⟨_,rfl, "set_iterator", _,⟨_,zP _ rfl,rfl⟩,F.slotSetNext.lookup,?_⟩));refine slots (slotAt t.place) es.toList rfl (xl _) (λi s hi go' A' Q' E' q=>?_) λs go' A' Q' E' q=>?_
   ·refine q7l go' gd T.fits hB led hD rfl ?_
    rw[q7A T.rise i ∅,yg hi,yg (show i<t.place.size by omega)];have:=getD_at es.toList i es[i] (by rw[yE,yg hi]);rw[this]at q;have e2:slotAt t.place (i+1)=t.place[i]'∅+1:=by
     show t.place.toList.getD i 0+1=_;rw[zY,yE,yg (show i<t.place.size by omega)];rfl
    rw[e2]at q;exact q
   ·refine q7l go' gd T.fits hB led hD rfl ?_
    rw[q7A T.rise es.size ∅,xS (zL _)];exact q
  | true=>
   refine vb (λ_=>?_) (λz=>vK (show (!false&&(!t.plain&&decide (es.size>1)))=true by rw[hD];rfl) z);refine vA (q67 es.size (ya es.size) _ _ yO λord d po=>?_);have hol:ord.length=es.size:=by rw[po.length_eq,yO]
   refine vA (u9 ?_ (by rw[zB,hol];exact y8 (xH gb) (by decide)));refine vA ?_;unfold setEpoch;have go2:(s.heap.push { cls:=.type "tuple", data:=.seq (ord.map λ(i:Nat)=>v5 i).toArray }).get? a=some o:=zE _ go;refine vA (vx go2 gd T.fits (vF ?_));refine vA (vj (vF ⟨_,rfl, "set_iterator", _,⟨_,zP _ rfl,rfl⟩,F.slotSetNext.lookup,?_⟩));have hs1:(s.heap.push { cls:=.type "tuple", data:=.seq (ord.map λ(i:Nat)=>v5 i).toArray }).objs.size=s.heap.objs.size+1:=xE _ _;have ht1:(s.heap.push { cls:=.type "tuple", data:=.seq (ord.map λ(i:Nat)=>v5 i).toArray }).get? s.heap.objs.size=some { cls:=.type "tuple", data:=.seq (ord.map λ(i:Nat)=>v5 i).toArray }:=zP _ rfl;refine k _ d _ [(s.heap.push { cls:=.type "tuple", data:=.seq (ord.map λ(i:Nat)=>v5 i).toArray }).objs.size,a,s.heap.objs.size] (λi v=>∃p x,ord[i]?=some p/\es[p]?=some x/\v=x.2)
    (λi h=>h.get? (s.heap.push { cls:=.type "tuple", data:=.seq (ord.map λ(i:Nat)=>v5 i).toArray }).objs.size=some (WG (.ref s.heap.objs.size) i a es.size ep)/\h.get? a=some o/\h.get? s.heap.objs.size=some { cls:=.type "tuple", data:=.seq (ord.map λ(i:Nat)=>v5 i).toArray }) (λb u e=>zE _ (zE _ e)) (by rw[hs1];exact wI _) (λb hb=>?_) (λA hh=>by
    rw[<- hl];exact q9J (tp:=s.heap.objs.size) hh (by rw[hs1];exact zo (yw hlt)) (by rw[hs1];exact zo (xA _)) gd T.fits ord po rfl)
    ⟨zP _ rfl,zE _ go2,zE _ ht1⟩ (λacc hacc=>?_) (λb hb=>?_)
   ·simp only[zF,zv,or_false]at hb
    rcases hb with rfl|rfl|rfl
    ·exact .inr (by rw[hs1];exact wI _)
    ·exact .inl rfl
    ·exact .inr (zL _)
   ·have e:acc.toList=(ord.map λp=>es.toList.getD p (0,.none)).map (·.2):=by
     apply wG;intro i;rw[yE,zh,zh];rcases yt i acc.size with z|z
     ·obtain⟨p,x,h1,h2,h3⟩:=hacc.2 i acc[i] (yg z)
      rw[yg z,h1,h3];show _=some (es.toList.getD p (0,.none)).2;rw[zY,yE,h2];rfl
     ·rw[xS z,yL (by rw[hol,hl,<- hacc.1];exact z)];rfl
    have p2:(ord.map λp=>es.toList.getD p (0,.none)).Perm es.toList:=by
     refine(po.map _).trans ?_;have:(ya es.size).map (λp=>es.toList.getD p (0,Value.none))=es.toList:=by
      apply wG;intro i;rw[zh];rcases yt i es.size with z|z
      ·rw[xw z]
       show some (es.toList.getD i (0,Value.none))=_;rw[zY,zG (by rw[zN];exact z)];rfl
      ·rw[yL (by rw[yO];exact z),yL (by rw[zN];exact z)];rfl
     rw[this]
    rw[e];exact perm_ok _ p2
   ·rw[xE,hs1]
    simp only[zF,zv,or_false]at hb;rcases hb with rfl|rfl|rfl
    ·rw[hs1];exact xA _
    ·exact yw (yw hlt)
    ·exact yw (xA _)
end
section
variable{prog:vS}{w:vY}{A:vZ}{E:Value->vB->Prop}{s:vB}
def qbo{R:tX->vB->Prop}{a:vC}{xs:List Int}(hh:A.handled=none)(SI:zAq s.heap a (Xi w) xs)(S:vC)(hSa:S≠a)(res:Value)(c₀:Nat)(hS:s.heap.get? S=some { cls:=.type "list", data:=.seq #[] c₀ })(hR:∀h' tk d acc' c',(∀b o,b≠S->s.heap.get? b=some o->h'.get? b=some o)->h'.get? S=some { cls:=.type "list", dict:=none,data:=.seq acc' c',slots:=#[] }->(∃ys,uC acc'.toList ys/\ys.Perm xs)->R (.ok (.ret res)) { s with heap:=h',toks:=tk,drawn:=d }):
  vL (model prog w) A.in1 (Builtin.List.listExtendWith (.ref S) (.ref a) res)
   (λfin s'=>match fin with|.done f=>R (.ok f) s'|.again c'=>c'.quiet=true/\ud (model prog w) A c' R s') (λe s'=>R (.error e) s') s:=by
 have hn:xs.length<=sizeLine:=y8 (xH SI.len) (by decide);obtain⟨o,es,ep,t,go,gx,gd,T,gl,gb,gg,gv,gn⟩:=id SI;have hTy:∀h:vf,h.get? a=some o->Shared.TypeIs { s with heap:=h } (.ref a) "set" := λh e=>⟨o,e,gx.1⟩;unfold Builtin.List.listExtendWith;refine vA (ui (T := "set") ⟨o,go,gx.1⟩ ?_);have h1:Builtin.List.listSameRef (.ref S) (.ref a)=false:=by simp[Builtin.List.listSameRef,hSa]
 have h2:(Value.type "set" == Value.type "list")=false:=by decide
 have h3:(Value.type "set" == Value.type "tuple")=false:=by decide
 simp only[h1,h2,h3,yH,zW,if_false];refine vA (qdv SI λh1 d I fp P St keep hI hfp W st items hlt=>?_);have hS1:h1.get? S=some { cls:=.type "list", data:=.seq #[] c₀ }:=keep _ _ hS;have hSlt:S<s.heap.objs.size:=zK hS;have hSf:S∉fp:=λhm=>by
  rcases hfp S hm with z|z
  ·exact hSa z
  ·exact vK hSlt (Nat.not_lt.mpr z)
 have key:∀(h:vf)(c₁ tk:Nat),St 0 h->(∀b o,b≠S->s.heap.get? b=some o->h.get? b=some o) ->
   h.get? S=some { cls:=.type "list", data:=.seq #[] c₁ }->ud (model prog w) A (.builtin "list.extend.loop" ⟨[.ref S,.ref I,res],[]⟩) R { s with heap:=h,toks:=tk,drawn:=d }:=by
  intro h c₁ tk hst hk hS₁;refine tZ (W A.in1 hh).toS hn S hSf res xs.length 0 _ #[] c₁ rfl (yq _) hst hS₁ (ItemsOf.nil _) λs' acc' c' hm hS' hacc=>?_;rw[Moved.eq_with hm];refine hR s'.heap s'.toks d acc' c' (λb o hb e=>hm.heap b o (λhmem=>?_) (hk b o hb e)) hS' (items acc' hacc);rcases zF.mp hmem with e'|hmem
  ·exact hb e'
  ·exact vK (zK e) (by rw[zb.mp hmem];exact Nat.not_lt.mpr hI)
 refine vA (vi (qdB ⟨o,keep _ _ go,gx.1⟩ ?_));refine vb (λ_=>?_) (λ_=>vF ⟨ub PySem.F.plain_extend_loop _,key _ c₀ _ st (λb o _ e=>keep b o e) hS1⟩);refine vA (v8 ?_);refine vA ?_;show vL _ _ (updateSeq S (·.push .none) >>= λ_=>updateSeq S (·.pop)) _ _ _;refine vA (uw hS1 rfl ?_);have hS₂:=wE (Obj.mapSeq (·.push Value.none)) hS1 rfl;refine uw (hz:=by seq_fits) hS₂ rfl ?_;have hS₃:=wE (Obj.mapSeq (·.pop)) hS₂ rfl;refine vF ⟨ub PySem.F.plain_extend_loop _,key _ _ _ ?_ (λb o hb e=>?_) hS₃⟩
 ·refine(W A.in1 hh).frame 0 _ _ st λb hb o e=>?_
  have hbS:b≠S:=λh=>hSf (h▸hb);exact(xK _ _ (Ne.symm hbS)).trans ((xK _ _ (Ne.symm hbS)).trans e)
 ·exact(xK _ _ (Ne.symm hb)).trans ((xK _ _ (Ne.symm hb)).trans (keep b o e))
def q9L{R:List Value->vB->Prop}{a:vC}{xs:List Int}(hh:A.handled=none)(SI:zAq s.heap a (Xi w) xs)(h:∀(h':vf)(tk:Nat)(d:sN)(vs:List Value)(ys:List Int),(∀b o,s.heap.get? b=some o->h'.get? b=some o)->s.heap.objs.size<h'.objs.size->uC vs ys->ys.Perm xs->R vs { s with heap:=h',toks:=tk,drawn:=d }):
  vL (model prog w) A (collect (.ref a)) R E s:=by
 obtain⟨o,es,ep,t,go,gx,gd,T,gl,gb,gg,gv,gn⟩:=id SI;have hlt:a<s.heap.objs.size:=zK go;unfold collect;refine vA (wpAny_runValue (uL entry_proto_collect' ?_));rw[Around.under_plainId PySem.F.plain_proto_collect _];show vL _ A.in1 (newList [] >>= λl=>again (.builtin "list.__iadd__" ⟨[l,.ref a],[]⟩)) _ _ s;refine vA (vj ?_);refine vF ⟨ub PySem.F.plain_list_iadd _,uL entry_list_iadd' ?_⟩;rw[Around.under_plainId PySem.F.plain_list_iadd _];have hS₁:(s.heap.push { cls:=.type "list", data:=.seq ([]:List Value).toArray }).get? s.heap.objs.size=some { cls:=.type "list", data:=.seq #[] }:=zP _ rfl;show vL _ A.in1 (Builtin.List.listExtendWith (.ref s.heap.objs.size) (.ref a) (.ref s.heap.objs.size)) _ _ _;have key:=qbo (prog:=prog) (A:=A) (s:={ s with heap:=s.heap.push { cls:=.type "list", data:=.seq ([]:List Value).toArray } })
  (R:=λ(q:tX) (s':vB)=>∃(h':vf) (tk:Nat) (d:sN) (acc':Array Value) (c':Nat),q=.ok (.ret (.ref s.heap.objs.size))/\s'={ s with heap:=h',toks:=tk,drawn:=d } /\
   (∀b o,s.heap.get? b=some o->h'.get? b=some o)/\h'.get? s.heap.objs.size=some { cls:=.type "list", dict:=none,data:=.seq acc' c',slots:=#[] }/\∃ys,uC acc'.toList ys/\ys.Perm xs)
  hh (SI.at λo e=>zE _ e) s.heap.objs.size (wY hlt) (.ref s.heap.objs.size) 0 hS₁
  (λh' tk d acc' c' hk hS' hacc=>⟨h',tk,d,acc',c',rfl,rfl,λb o e=>hk b o (zo (zK e)) (zE _ e),hS',hacc⟩)
 refine vg key (λfin s' x=>?_) λe s' x=>?_
 ·cases fin with
  | done f=>
   obtain⟨h',tk,d,acc',c',e,rfl,hk,hS',ys,y1,y2⟩:=x;cases e;show vL _ A (load s.heap.objs.size >>= _) _ _ _;refine vA (wpAny_load hS' ?_);exact vF (h h' tk d _ ys hk (zK hS') y1 y2)
  | again c₁=>
   refine⟨x.1,uX x.2 λq s₂ y=>?_⟩;obtain⟨h',tk,d,acc',c',rfl,rfl,hk,hS',ys,y1,y2⟩:=y;show vL _ A (load s.heap.objs.size >>= _) _ _ _;refine vA (wpAny_load hS' ?_);exact vF (h h' tk d _ ys hk (zK hS') y1 y2)
 ·obtain⟨_,_,_,_,_,e',_⟩:=x
  cases e'
def qb2{a:vC}{xs:List Int}{Q:Value->vB->Prop}(hh:A.handled=none)(SI:zAq s.heap a (Xi w) xs)(h64:xs.length<64)(h:∀(D:vC)(h':vf)(tk:Nat)(d:sN)(vs:List Value)(ys:List Int)(n:Nat),(∀b o,s.heap.get? b=some o->h'.get? b=some o)->s.heap.objs.size<=D->h'.get? D=some (uS "list" vs.toArray n)->uC vs ys->ys.Perm xs->ys.Pairwise (· <= ·)->Q (.ref D) { s with heap:=h',toks:=tk,drawn:=d }):
  vL (model prog w) A (call (.builtin "sorted") [.ref a]) Q E s:=by
 refine Calls.call_function_entry sS sH sI (sJ _) ?_;unfold Builtin.«sorted»;refine vA (m:=checkCount "sorted" 1 1 _) (vF ?_);refine vA (q9L (A:=A.in1) hh SI λh1 tk d vs ys hk hz y1 y2=>?_);have hlen:vs.length=xs.length:=by rw[IntsAre.length y1,y2.length_eq]
 refine vA (tG ?_ (y8 (by rw[hlen];exact xH h64) (by decide)));have hoL:(h1.push (uS "list" vs.toArray 0)).get? h1.objs.size=some (uS "list" vs.toArray 0):=zP _ rfl;refine vA (vi (vc slot_list_sort ⟨_,hoL,rfl⟩ entry_list_sort (list_sort_tree hoL y1 (by rw[hlen];exact h64) λout ns' a1 a2 a3=>⟨_,rfl,?_⟩) (tf _)));obtain⟨n,hn⟩:=sortedHeap_at (vs:=vs) (out:=out) hoL;refine vF ⟨_,rfl,h h1.objs.size _ tk d out.toList ns' n (λb o e=>?_) ?_ ?_ a1 (a2.trans y2) a3⟩
 ·have e1:=hk b o e
  rw[sortedHeap_old (zo (zK e1)) (by rw[xE];exact yw (zK e1))];exact zE _ e1
 ·exact xH hz
 ·rw[wm];exact hn
end
end Hk
namespace L2
open PySem PySem.Spec PyProof.Rows
noncomputable def Wq(names:List (Str×uQ))(cells:List (Str×vC))(cs:List (Str×vC)):List (Str×vC) :=
 match names with
 | []=>cs
 | p::r=>Wq r cells (if p.2 == .free then (p.1,(cells.lookup p.1).getD 0)::cs else cs)
def q5F{scope:uZ}{env:Env}(h:∀p∈scope.names,p.2=NameKind.free->(env.cells.lookup p.1).isSome=true):
  closureFor scope env=pure (Wq scope.names env.cells []):=by
 simp only[closureFor];generalize scope.names=l at h ⊢;have key:∀(l:List (Str×uQ))(cs:List (Str×vC)),(∀p∈l,p.2=NameKind.free->(env.cells.lookup p.1).isSome=true) ->
   (forIn l cs (λ(p:Str×uQ) (r:List (Str×vC))=>if (p.2==NameKind.free)=true then (do let a <- cellOf env p.1;pure (ForInStep.yield ((p.1,a)::r)))else pure (ForInStep.yield r)):Sem _)=pure (Wq l env.cells cs):=by
  intro l
  induction l with
  | nil=>intro cs _;rfl
  | cons p r ih=>
   intro cs hp;rw[wW];have hr:=λq hq=>hp q (zI _ hq)
   by_cases hf:p.2=NameKind.free
   ·have hs:=hp p zJ hf
    obtain⟨a,ha⟩:=xF.mp hs;have e:cellOf env p.1=pure a:=by unfold cellOf;rw[ha]
    have hb:(p.2==NameKind.free)=true:=by rw[hf];rfl
    rw[vG hb,e,pure_bind,pure_bind];show forIn r _ _=_;rw[ih _ hr];show _=pure (Wq r env.cells (if p.2 == .free then _ else _));rw[vG hb,ha];rfl
   ·have hb:¬(p.2==NameKind.free)=true:=by intro z;exact hf (by cases hk:p.2 <;> simp_all)
    rw[vH hb,pure_bind];show forIn r _ _=_;rw[ih _ hr];show _=pure (Wq r env.cells (if p.2 == .free then _ else _));rw[vH hb]
 rw[key l [] h];rfl
def qa7{k:uQ}(h:(k==NameKind.free)=true):k=NameKind.free:=by cases k <;> first|rfl|cases h
theorem q5S{cells:List (Str×vC)}:∀(l:List (Str×uQ))(cs:List (Str×vC)),(∀p∈l,p.2=NameKind.free->(cells.lookup p.1).isSome=true) ->
  (∀x c,cs.lookup x=some c->cells.lookup x=some c)->∀x c,(Wq l cells cs).lookup x=some c->cells.lookup x=some c
 | [],cs,_,h,x,c,e=>h x c e
 | p::r,cs,hp,h,x,c,e=>by
  refine q5S r _ (λq hq=>hp q (zI _ hq)) (λy d hy=>?_) x c e
  by_cases hb:(p.2==NameKind.free)=true
  ·rw[vG hb,xL]at hy
   cases hyp:y==p.1 with
   | true=>
    rw[hyp]at hy;have hy':(cells.lookup p.1).getD 0=d:=z0 hy;obtain⟨a,ha⟩:=xF.mp (hp p zJ (qa7 hb));rw[ha]at hy';rw[eq_of_beq hyp,ha,<- hy'];rfl
   | false=>rw[hyp]at hy;exact h y d hy
  ·rw[vH hb]at hy;exact h y d hy
theorem q66{cells:List (Str×vC)}:∀(l:List (Str×uQ))(cs:List (Str×vC))(x:Str),((x,NameKind.free)∈l\/(cs.lookup x).isSome=true)->((Wq l cells cs).lookup x).isSome=true
 | [],cs,x,h=>by
  rcases h with h|h
  ·cases h
  ·exact h
 | p::r,cs,x,h=>by
  refine q66 r _ x ?_;rcases h with h|h
  ·rcases zF.mp h with rfl|h
   ·right
    show (List.lookup x (if (NameKind.free==NameKind.free)=true then _ else _)).isSome=true;rw[vG (by rfl),xL,beq_self_eq_true];rfl
   ·exact .inl h
  ·right
   by_cases hb:(p.2==NameKind.free)=true
   ·rw[vG hb,xL]
    cases hx:x==p.1 with
    | true=>rfl
    | false=>exact h
   ·rw[vH hb];exact h
noncomputable def Xv(X:Cx)(N:List Str)(scope:uZ)(C:vC)(s:vB)(H:Hp)(fp:List vC):Cx :=
 { X with N:=N,s₀:=s,H₀:=H,env:=compEnvC scope (Wq scope.names X.env.cells []) C X.env,outer:=X.stack,stack:=X.stack,ex:=fp,fn:=λ_=>false,pn:=[],xe:=λ_ _=>False }
noncomputable def zB1(M:Nat)(frees:List Nat)(σ:St):St:=zj M none++frees.map λj=>(σ[j]?).getD none
structure BlkOk (X:Cx) (N:List Str) (M:Nat) (frees:List Nat) (scope:uZ):Prop where
 kind:scope.kind=.function
 nocell:∀y∈scope.names,y.2≠.cell
 own:∀y∈scope.names,y.2=.local->scope.names.lookup y.1=some .local
 cells:∀p∈scope.names,p.2=NameKind.free->(X.env.cells.lookup p.1).isSome=true
 fr:∀(k:Nat)(x:Str),N[M+k]?=some x->∃j,frees[k]?=some j/\X.N[j]?=some x/\(X.env.kindOf x=some .cell\/X.env.kindOf x=some .free)/\scope.names.lookup x=some .free
 len:N.length=M+frees.length
theorem q4d{env:Env}{x:Str}:∀{names:List (Str×uQ)}{k:uQ},(∀y∈names,y.2≠.cell)->(k=.cell\/k=.free) ->
  (names.map λ(n,k)=>if (k==NameKind.free&&env.scope.kind == .function&&env.kindOf n==some .cell)then (n,NameKind.cell)else (n,k)).lookup x=some k->(x,NameKind.free)∈names
 | [],_,_,_,h=>by cases h
 | (n,k0)::r,k,hc,hk,h=>by
  have ih:=@q4d env x r k (λy hy=>hc y (zI _ hy)) hk;rw[zO]at h
  by_cases hb:(k0==NameKind.free&&env.scope.kind == .function&&env.kindOf n==some .cell)=true
  ·have hf:k0=NameKind.free:=qa7 (by rw[zc,zc]at hb;exact hb.1.1)
   dsimp only at h
   rw[vG hb,xL]at h;cases hx:x==n with
   | true=>rw[eq_of_beq hx,hf];exact zJ
   | false=>rw[hx]at h;exact zI _ (ih h)
  ·dsimp only at h
   rw[vH hb,xL]at h;cases hx:x==n with
   | true=>
    rw[hx]at h;have e:k0=k:=z0 h;have z:=hc (n,k0) zJ;rw[eq_of_beq hx];rcases hk with rfl|rfl
    ·exact vK e z
    ·rw[e];exact zJ
   | false=>rw[hx]at h;exact zI _ (ih h)
theorem q62{env:Env}{x:Str}:∀{names:List (Str×uQ)},names.lookup x=some .free ->
  (names.map λ(n,k)=>if (k==NameKind.free&&env.scope.kind == .function&&env.kindOf n==some .cell)then (n,NameKind.cell)else (n,k)).lookup x=some .cell \/
  (names.map λ(n,k)=>if (k==NameKind.free&&env.scope.kind == .function&&env.kindOf n==some .cell)then (n,NameKind.cell)else (n,k)).lookup x=some .free
 | [],h=>by cases h
 | (n,k0)::r,h=>by
  have ih:=@q62 env x r;rw[zO]
  dsimp only
  rw[xL]at h
  by_cases hb:(k0==NameKind.free&&env.scope.kind == .function&&env.kindOf n==some .cell)=true
  ·rw[vG hb,xL]
   cases hx:x==n with
   | true=>exact .inl rfl
   | false=>rw[hx]at h;exact ih h
  ·rw[vH hb,xL]
   cases hx:x==n with
   | true=>rw[hx]at h;exact .inr h
   | false=>rw[hx]at h;exact ih h
section
variable{X:Cx}{pins:List (vC×Obj)}{σ:St}{H:Hp}{s:vB}{N:List Str}{M:Nat}{frees:List Nat}{scope:uZ}{fp:List vC}
def Inv.enter{h1:vf}{C D tk:Nat}{m1:Str->Option Value}(I:Inv X pins σ H s)(B:BlkOk X N M frees scope)(f:∀b∈fp,zBv X pins H b)(lt:∀b∈fp,b<s.heap.objs.size)(hC:s.heap.objs.size<C)(hD:s.heap.objs.size<=D)(hDC:C≠D)(k:∀b u,s.heap.get? b=some u->h1.get? b=some u)(hns:h1.Ns C m1)(hl:h1.get? D=some { cls:=.type "list", data:=.seq ([]:List Value).toArray }):
  Inv (Xv X N scope C s H fp) [] (zB1 M frees σ) (upd H D (.lst [])) { s with heap:=h1,toks:=tk }:=by
 have sub:=q5S (cells:=X.env.cells) scope.names [] B.cells (λx c e=>by cases e);have hfr:H D=none:=I.hok.fresh hD;have hfc:H C=none:=I.hok.fresh (xH hC);have clt:∀x c,(Wq scope.names X.env.cells []).lookup x=some c->c<s.heap.objs.size:=λx c e=>by
  obtain⟨v,q⟩:=I.cell x c (sub x c e);exact q.lt
 refine⟨⟨I.ok.mod,B.kind,I.ok.glob,I.ok.blt,xH hC,λx y c e1 e2=>I.ok.inj x y c (sub x c e1) (sub y c e2),λx hx=>?_,λx c e=>vK e (by intro z;cases z),I.ok.hd,I.ok.frames,.inl rfl,λb hb=>?_,I.bs,y8 I.ok.bsz I.sz,λb o e hb=>?_,
  λb hb hf=>?_,I.stack,I.stkFree⟩,rfl,I.bare,Un.laid k hD hfr,⟨m1,hns,λi x v e1 e2 e3=>?_⟩,λx c e=>?_,?_,λx c e=>?_,λp hp=>vK (show p∈([]:List (vC×Obj))from hp) (by simp),I.hok.laid k hD ⟨yq _,[],0,.nil,hl⟩,?_⟩
 ·have hm:(x,NameKind.free)∈scope.names:=by
   rcases hx with hx|hx
   ·exact q4d B.nocell (.inl rfl) hx
   ·exact q4d B.nocell (.inr rfl) hx
  exact xF.mp (q66 scope.names [] x (.inl hm))
 ·exact⟨zo (Z3 (lt b hb) hC),λx c e=>(f b hb).2.2.2.2.1 x c (sub x c e)⟩
 ·rcases (f b hb).2.2.2.1 with z|z
  ·exact I.ok.noex b o e z
  ·exact vK (zy (zK e) (y8 I.ok.bsz z)) (xY _)
 ·rcases zF.mp (I.stkSub b hf)with z|z
  ·exact(f b hb).2.1 z
  ·exact(f b hb).2.2.1 z
 ·have hi:M<=i:=by
   rcases yt i M with z|z
   ·unfold zB1 at e2
    rw[yf ⇑z,xO,vG z]at e2;cases e2
   ·exact z
  obtain⟨q,rfl⟩:∃q,i=M+q:=⟨i-M,∅⟩;obtain⟨j,h1',h2',h3',h4'⟩:=B.fr q x e1;have ev:σ[j]?=some (some v):=by
   unfold zB1 at e2;rw[yC (by simp),yk,ZH,zh,h1']at e2;cases e:σ[j]? with
   | none=>rw[zd,e]at e2;cases e2
   | some o=>rw[zd,e]at e2;exact e2
  obtain⟨m,hn,hl'⟩:=I.loc;have vis:Vis X.env.scope x:=by
   rcases h3' with z|z
   ·exact .inr (.inl z)
   ·exact .inr (.inr z)
  obtain⟨u,ru,lk⟩:=hl' j x v h2' ev vis;refine⟨u,ru,.inr ?_⟩;rcases lk with⟨z,_⟩|⟨_,c,ec,ic⟩
  ·rcases h3' with y|y <;> (rw[z]at y;cases y)
  ·obtain⟨c',ec'⟩:=xF.mp (q66 (cells:=X.env.cells) scope.names [] x (.inl (PySem.mem_of_lookup h4')))
   have:c'=c:=z0 ((sub x c' ec').symm.trans ec);subst this;exact⟨q62 h4',c',ec',ic.keeps k⟩
 ·obtain⟨v,q⟩:=I.cell x c (sub x c e)
  exact⟨v,q.keeps k⟩
 ·show upd H D (.lst []) C=none
  rw[qc hDC];exact hfc
 ·show upd H D (.lst []) c=none
  rw[qc (zo (zy (clt x c e) hD))];exact I.freeC x c (sub x c e)
 ·show (zB1 M frees σ).length=N.length
  unfold zB1;rw[zD,yk,zB,B.len]
end
section
variable{prog:vS}{w:vY}{A:vZ}{R:tX->vB->Prop}{s:vB}
theorem q9R{elt target iter:vW}{ifs:List vW}{scope:uZ}{pos:Pos}{it acc:Value}{env:Env}(J:Nat->vB->Prop)(turn:∀n s,J n s->vL (model prog w) A (uD it) (λr s1=>match r with
   | none=>R (.ok .next) s1
   | some v=>vL (model prog w) A (uu target it v) (λ_ s2=>vL (model prog w) A (assign target env v) (λ_ s3=>
     vL (model prog w) A (forIn ifs true λc r=>if r=true then do let ok <- sZ c env (eval c env);pure (ForInStep.yield ok)else pure (ForInStep.yield r)) (λok s4=>
      if ok=true then vL (model prog w) A (eval elt env) (λx s5=>vL (model prog w) A (call (.builtin "list.append") [acc,x]) (λ_ s6=>∃m,m<n/\J m s6) (λ_ _=>False) s5) (λ_ _=>False) s4
      else ∃m,m<n/\J m s4) (λ_ _=>False) s3) (λ_ _=>False) s2) (λ_ _=>False) s1) (λ_ _=>False) s)
  (n:Nat) (h:J n s):ud (model prog w) A (.compLoop (.ListComp elt [⟨target,iter,ifs,0⟩] scope pos) 0 it acc env) R s:=by
 refine codeAny_loop rfl J (λn s hJ=>?_) n h;show vL _ A ((compTurn (.ListComp elt [⟨target,iter,ifs,0⟩] scope pos) 0 it acc env).onRaise (λx=>do noteFrame x env;theTreesLotGoes x)) _ _ s;refine wpAny_noted (vg (Q:=λfin s'=>match fin with|.done f=>R (.ok f) s'|.again c'=>c'=.compLoop (.ListComp elt [⟨target,iter,ifs,0⟩] scope pos) 0 it acc env/\∃m,m<n/\J m s') ?_ (λ_ _ q=>q) λ_ _ (z:False)=>z.elim);rw[compTurn_list];refine vA (t6 (vA (vg (turn n s hJ) (λr s1 h1=>?_) λ_ _ q=>q)));cases r with
 | none=>exact vF h1
 | some v=>
  refine vA (vg h1 (λ_ s2 h2=>vA (vg h2 (λ_ s3 h3=>vA (vg h3 (λok s4 h4=>?_) λ_ _ q=>q)) λ_ _ q=>q)) λ_ _ q=>q);cases ok with
  | false=>exact vF ⟨rfl,h4⟩
  | true=>exact vA (vA (vg h4 (λx s5 h5=>vA (vg h5 (λ_ s6 h6=>vF (vF ⟨rfl,h6⟩)) λ_ _ q=>q)) λ_ _ q=>q))
end
def PTs(X:Cx)(ifs:List vW)(t:TT):Prop :=
 ∀(pins:List (vC×Obj))(s:vB)(σ:St)(H:Hp)(Q:Bool->Hp->Prop),Inv X pins σ H s->t σ H Q ->
  vL (model X.prog X.w) X.A (forIn ifs true λc r=>if r=true then do let ok <- sZ c X.env (eval c X.env);pure (ForInStep.yield ok)else pure (ForInStep.yield r)) (TP X pins σ Q) X.xe s
def qeq{X:Cx}:PTs X [] (λ_ H Q=>Q true H):=λ_ _ _ H _ I q=>wpAny_tests_nil ⟨H,I,q⟩
def qf3{X:Cx}{c:vW}{t:TT}(h:PT X c t):PTs X [c] t:=λpins s σ H Q I q=>wpAny_tests_one (h pins s σ H Q I q)
noncomputable def zCI(M:Nat)(frees:List Nat)(wi:TI)(g:TG)(tc:TT)(te:TE):TE:=λσ H Q=>wi σ H λJ H1=>∀D,H1 D=none ->
 ∃W:Nat->Nat->St->Hp->Prop,(∃m,W 0 m (zB1 M frees σ) (upd H1 D (.lst [])))/\∀i m σ' H',W i m σ' H' ->
  (J.stop i H'/\Q (.ref D) H')\/(J.go i H'/\∀x H2,J.yld i H' x H2->g x σ' H2 λσ2 H3=>tc σ2 H3 λb H4=>
   if b=true then te σ2 H4 λv H5=>∃acc,H5 D=some (.lst acc)/\acc.length<sizeLine/\∃m',m'<m/\W (i+1) m' σ2 (upd H5 D (.lst (acc++[v])))
   else ∃m',m'<m/\W (i+1) m' σ2 H4)
section
variable{X:Cx}{N:List Str}{M:Nat}{frees:List Nat}{scope:uZ}{tg iter elt:vW}{ifs:List vW}{pos:Pos}{wi:TI}{g:TG}{tc:TT}{te:TE}
theorem q99(hc:X.calm=true)(B:BlkOk X N M frees scope)(hb:∀C s H fp,PG (Xv X N scope C s H fp) tg g/\PTs (Xv X N scope C s H fp) ifs tc/\PE (Xv X N scope C s H fp) elt te){pins:List (vC×Obj)}{σ:St}{Q:VK}{s2:vB}{itv:Value}{E:Value->vB->Prop}{RR:Value->vC->tX->vB->Prop}(h2:PIE X pins σ tg (λJ H1=>∀D,H1 D=none ->
   ∃W:Nat->Nat->St->Hp->Prop,(∃m,W 0 m (zB1 M frees σ) (upd H1 D (.lst [])))/\∀i m σ' H',W i m σ' H' ->
    (J.stop i H'/\Q (.ref D) H')\/(J.go i H'/\∀x H2,J.yld i H' x H2->g x σ' H2 λσ2 H3=>tc σ2 H3 λb H4=>
     if b=true then te σ2 H4 λv H5=>∃acc,H5 D=some (.lst acc)/\acc.length<sizeLine/\∃m',m'<m/\W (i+1) m' σ2 (upd H5 D (.lst (acc++[v])))
     else ∃m',m'<m/\W (i+1) m' σ2 H4)) itv s2)
  (hR:∀D C s' H' m,Inv X pins σ H' s'->Q (.ref D) H'->s'.heap.Ns C m->H' C=none->C≠X.env.locals->X.s₀.heap.objs.size<=C->(∀x c,X.env.cells.lookup x=some c->c≠C)->(∀p∈X.pn++pins,p.1≠C)->RR (.ref D) C (.ok .next) s') :
  vL (model X.prog X.w) X.A (newList []) (λacc s3=>vL (model X.prog X.w) X.A (newFunctionEnv scope X.env.globals (Wq scope.names X.env.cells []) [] X.env.qual none .none (some X.env)) (λcenv s4=>
   ud (model X.prog X.w) X.A (.compStart (.ListComp elt [⟨tg,iter,ifs,0⟩] scope pos) 0 itv acc { cenv with scope:=relabel scope X.env }) (RR acc cenv.locals) s4) E s3) E s2:=by
 obtain⟨it,fp,tn,J,H2,e,I2,T,st2,f2,q⟩:=h2;subst e;refine vj (wpAny_newFunctionEnv B.nocell (by intro y hy;simp at hy) (λh1 hns hsb=>?_) B.kind)
 dsimp only at hns hsb ⊢
 generalize hP:s2.heap.push { cls:=.type "list", dict:=none,data:=.seq ([]:List Value).toArray }=P1 at hns hsb ⊢;have hsz:P1.objs.size=s2.heap.objs.size+1:=by rw[<- hP,xE]
 have below:∀b,b<s2.heap.objs.size->b≠P1.objs.size:=λb z=>by rw[hsz];exact zo (yw z)
 have keep:∀b u,s2.heap.get? b=some u->h1.get? b=some u:=λb u z=>hsb.extBut b u (below b (zK z)) (zE _ (hP▸zE _ z));have hne:s2.heap.objs.size≠P1.objs.size:=by rw[hsz];exact zo (xA _)
 have hl:h1.get? s2.heap.objs.size=some { cls:=.type "list", data:=.seq ([]:List Value).toArray }:=hsb.extBut _ _ hne (zE _ (hP▸zP _ rfl));have lt2:∀b∈fp,b<s2.heap.objs.size:=λb z=>by
  obtain⟨o,eo,_⟩:=T.obj _ _ st2 b z;exact zK eo
 have hD0:H2 s2.heap.objs.size=none:=I2.hok.fresh (zL _);obtain⟨W,⟨m0,w0⟩,turn⟩:=q s2.heap.objs.size hD0;have I4:=I2.enter (N:=N) (M:=M) (frees:=frees) (scope:=scope) (fp:=fp) (h1:=h1) (C:=P1.objs.size) (D:=s2.heap.objs.size) (tk:=s2.toks+([]:List (Str×Value)).length) B f2 lt2 (by rw[hsz];exact xA _) (zL _) (Ne.symm hne) keep hns hl;have hcx:∀(C:vC),(Xv X N scope C s2 H2 fp).calm=true:=λ_=>hc;have stat:∀{H':Hp},(∀b∈fp,H' b=none)->∀b∈fp,zBv (Xv X N scope P1.objs.size s2 H2 fp) [] H' b:=λ{H'} hn b z=>by
  refine⟨hn b z,below b (lt2 b z),λy=>?_,.inl z,λx c y=>?_,λp y=>vK (show p∈([]:List (vC×Obj))from y) (by simp)⟩
  ·rcases zF.mp (I2.stkSub b y)with u|u
   ·exact(f2 b z).2.1 u
   ·exact(f2 b z).2.2.1 u
  ·exact(f2 b z).2.2.2.2.1 x c (q5S (cells:=X.env.cells) scope.names [] B.cells (λx c e=>by cases e) x c y)
 have fr4:∀b∈fp,(upd H2 s2.heap.objs.size (HO.lst [])) b=none:=λb z=>by
  rw[qc (zo (lt2 b z))];exact(f2 b z).1
 have st4:tn 0 h1:=T.keep _ _ _ st2 λb _ o z=>keep b o z;have fin:∀(s':vB)(σ':St)(H':Hp),Inv (Xv X N scope P1.objs.size s2 H2 fp) [] σ' H' s'->Q (.ref s2.heap.objs.size) H'->RR (.ref s2.heap.objs.size) P1.objs.size (.ok .next) s':=λs' σ' H' I' q'=>by
  obtain⟨m,hm,_⟩:=I'.loc;have u':Un (frs X.stack) fp H2 H' s2.heap s'.heap:=I'.base;have I0:Inv X pins σ H' s':=I2.call' (ch:=fp) I'.os u' I'.hok I'.bare λb z=>⟨(f2 b z).2.2.2.1,(f2 b z).2.1,(f2 b z).2.2.2.2.1,(f2 b z).2.2.2.2.2⟩;refine hR _ _ s' H' m I0 q' hm I'.free (wY (zy I2.lt (by rw[hsz];exact wI _))) (y8 I2.sz (by rw[hsz];exact wI _)) (λx c z=>?_) λp z=>?_
  ·obtain⟨v,y⟩:=I2.cell x c z
   exact below c y.lt
  ·exact below p.1 (zK (I2.pin p z).1)
 have loop:∀s4:vB,s4={ s2 with heap:=h1,toks:=s2.toks+([]:List (Str×Value)).length } ->
   ud (model X.prog X.w) X.A (.compLoop (.ListComp elt [⟨tg,iter,ifs,0⟩] scope pos) 0 (.ref it) (.ref s2.heap.objs.size) (compEnvC scope (Wq scope.names X.env.cells []) P1.objs.size X.env)) (RR (.ref s2.heap.objs.size) P1.objs.size) s4:=by
  rintro s4 rfl;refine q9R (λn s'=>∃i σ' H',Inv (Xv X N scope P1.objs.size s2 H2 fp) [] σ' H' s'/\tn i s'.heap/\(∀b∈fp,H' b=none)/\W i n σ' H') ?_ m0 ⟨0,_,_,I4,st4,fr4,w0⟩;rintro n s5 ⟨i,σ5,H5,I5,st5,fr5,w5⟩;rcases turn i n σ5 H5 w5 with⟨stop,qn⟩|⟨go,step⟩
  ·refine thn (T.done (Xv X N scope P1.objs.size s2 H2 fp) rfl rfl rfl hc i [] s5 σ5 H5 _ I5 (stat fr5) st5 stop) λr s6 ⟨hr,I6⟩=>?_
   subst hr;exact fin s6 σ5 H5 I6 qn
  ·refine thn (T.item (Xv X N scope P1.objs.size s2 H2 fp) rfl rfl rfl hc i [] s5 σ5 H5 _ I5 (stat fr5) st5 go) λr s6 ⟨u,hr,h6⟩=>?_
   subst hr;refine thn h6 λ_ s7 ⟨x,H7,I7,r7,y7,st7,fr7⟩=>?_;have I7':=I7.pinned (stat fr7) (T.obj _ _ st7);have B7:=hb P1.objs.size s2 H2 fp;refine thn (B7.1 _ s7 σ5 H7 x u _ I7' r7 (step x H7 y7)) λ_ s8 ⟨σ8,H8,I8,q8⟩=>?_;refine thn (B7.2.1 _ s8 σ8 H8 _ I8 q8) λok s9 ⟨H9,I9,q9⟩=>?_;have again:∀{σa:St}{Ha:Hp}{sa:vB},Inv (Xv X N scope P1.objs.size s2 H2 fp) ([]++zAh fp s7.heap) σa Ha sa->(∃m',m'<n/\W (i+1) m' σa Ha) ->
     ∃m,m<n/\∃i σ' H',Inv (Xv X N scope P1.objs.size s2 H2 fp) [] σ' H' sa/\tn i sa.heap/\(∀b∈fp,H' b=none)/\W i m σ' H':=λ{σa Ha sa} Ia ⟨m',hm,wa⟩=>by
    refine⟨m',hm,i+1,σa,Ha,Ia.unpinned,T.keep _ _ _ st7 λb z o eo=>(Ia.pin (b,o) (zu _ (zu _ (q4a z eo)))).1,λb z=>?_,wa⟩;obtain⟨o,eo,d⟩:=T.obj _ _ st7 b z;exact(Ia.pin (b,o) (zu _ (zu _ (q4a z eo)))).2.1
   cases ok with
   | false=>exact again I9 q9
   | true=>
    rw[vG rfl];refine thn (B7.2.2 _ s9 σ8 H9 _ I9 q9) λy s10 ⟨v,H10,I10,r10,acc,ha,hz,m',hm,wn⟩=>?_;refine thn (q2W (X:=Xv X N scope P1.objs.size s2 H2 fp) _ s10 σ8 H10 (.ref s2.heap.objs.size) [v] (.ref s2.heap.objs.size) [y] (λ_ Hn=>∃m',m'<n/\W (i+1) m' σ8 Hn) I10 rfl (.cons r10 .nil) ⟨_,acc,v,rfl,rfl,ha,hz,m',hm,wn⟩) λ_ s11 ⟨_,H11,I11,_,q11⟩=>?_;exact again I11 q11
 exact codeAny_compStart_list (loop _ rfl) (T.self _ 0 _ _ _ st4 (loop _ rfl))
def qa6(hc:X.calm=true)(B:BlkOk X N M frees scope)(hi:PI X tg iter wi)(hb:∀C s H fp,PG (Xv X N scope C s H fp) tg g/\PTs (Xv X N scope C s H fp) ifs tc/\PE (Xv X N scope C s H fp) elt te)(hs:∀x,vt iter X.env x=pure x:=by intro _;rfl):PE X (.ListComp elt [⟨tg,iter,ifs,0⟩] scope pos) (zCI M frees wi g tc te):=by
 intro pins s σ H Q I h;rw[eval_ListComp];refine tH (use:=none) rfl hs (q5F B.cells) B.kind B.own (vg (hi pins s σ H _ I h) (λv s1 h1=>vg h1 (λitv s2 h2=>?_) λ_ _ q=>q) λ_ _ q=>q);refine q99 (RR:=λacc C=>compPost (model X.prog X.w) X.A X.xe none (EP X pins σ Q) acc C) hc B hb h2 λD C s' H' m I' q' hm hC h1 h3 h4 h5=>?_;exact⟨m,hm,λh' hs'=>⟨.ref D,H',I'.turned (t':=s'.toks) (λb o z y=>hs'.extBut b o z y) hC h1 (.inr h3) h4 h5,rfl,q'⟩⟩
def qev{i:Nat}{x:Str}{pos' spos:Pos}(hc:X.calm=true)(hN:X.N.Nodup)(hi':X.N[i]?=some x)(hx:X.env.scope.names.lookup x=some .local)(B:BlkOk X N M frees scope)(hi:PI X tg iter wi)(hb:∀C s H fp,PG (Xv X N scope C s H fp) tg g/\PTs (Xv X N scope C s H fp) ifs tc/\PE (Xv X N scope C s H fp) elt te)(hsw:vy (.ListComp elt [⟨tg,iter,ifs,0⟩] scope pos) (some (.Name x pos')) spos.line X.env=pure true:=by rfl)(hs:∀x,vt iter X.env x=pure x:=by intro _;rfl):PS X (.Assign [.Name x pos'] (.ListComp elt [⟨tg,iter,ifs,0⟩] scope pos) spos) (zA9 (zCI M frees wi g tc te) (Xy i)):=by
 intro pins s σ H D I h;rw[exec_Assign_Name_used _ _ _ _ hsw];refine vA (t6 (vA ?_));show vL _ X.A (do let _ <- comprehension (.ListComp elt [⟨tg,iter,ifs,0⟩] scope pos) scope X.env _ (newList []) false (eval iter X.env) (some (assign (.Name x pos') X.env))) _ _ s;refine vA (vg (tH (use:=some (assign (.Name x pos') X.env)) (Q:=λ_ s'=>SP X pins D .next s') rfl hs (q5F B.cells) B.kind B.own
  (vg (hi pins s σ H _ I h) (λv s1 h1=>vg h1 (λitv s2 h2=>?_) λ_ _ q=>q) λ_ _ q=>q)) (λ_ s' hq=>vF (vF hq)) λ_ _ q=>q)
 refine q99 (Q:=λy H1=>Xy i y σ H1 D.nx) (RR:=λacc C=>compPost (model X.prog X.w) X.A X.xe (some (assign (.Name x pos') X.env)) (λ_ s'=>SP X pins D .next s') acc C) hc B hb h2 λDd C s' H' m I' q' hm hC h1 h3 h4 h5=>?_;show vL _ X.A (assign (.Name x pos') X.env (.ref Dd)) _ _ _;refine wpAny_assign_Name (q8c I' hN hi' (.inl hx) (v:=.ref Dd) (u:=.ref Dd) rfl (λs'' I'' ⟨a,hsb,ha⟩=>?_) (.inr hx));have hCa:C≠a:=by
  rcases ha with rfl|ha
  ·exact h1
  ·exact Ne.symm (h4 x a ha)
 refine⟨m,hm.sameBut hsb hCa,λh' hs'=>⟨_,H',I''.turned (t':=s''.toks) (λb o z y=>hs'.extBut b o z y) hC h1 (.inr h3) h4 h5,q'⟩⟩
end
end L2
namespace Hk
open PySem L2
inductive D where
 | non|bl (b:Bool)|int (i:Int)|str (x:Str)|lst (xs:List D)|tup (xs:List D)|scr (ns:List Int)|exc (c:Str)|dic (ks:List Int) (xs:List D)
noncomputable def kvsOf:List Int->List V->List (Key×V)
 | k::ks,v::vs=>(.inl k,v)::kvsOf ks vs
 | _,_=>[]
def excP(a C:vC)(h:vf):Prop:=∃o,h.get? a=some o/\o.cls=.ref C
mutual
def Rep(K:zA)(H:Hp):D->V->Prop
 | .non,v=>v=.non
 | .bl b,v=>v=.bl b
 | .int i,v=>v=.int i
 | .str x,v=>v=.str x
 | .lst ds,v=>∃a vs,v=.ref a/\H a=some (.lst vs)/\Yt K H ds vs
 | .tup ds,v=>∃a vs,v=.ref a/\H a=some (.tup vs)/\Yt K H ds vs
 | .scr ns,v=>∃a,v=.ref a/\SqL K H a (ns.map V.int)
 | .exc c,v=>∃a C,v=.ref a/\zx K vP c=some (some (.ref C))/\H a=some (.ext (excP a C))
 | .dic ks ds,v=>∃a vs,v=.ref a/\(∃o,H a=some (.frz o (.dK (kvsOf ks vs))))/\ks.length=ds.length/\Yt K H ds vs
def Yt(K:zA)(H:Hp):List D->List V->Prop
 | [],vs=>vs=[]
 | d::ds,vs=>∃v r,vs=v::r/\Rep K H d v/\Yt K H ds r
end
mutual
theorem Rep.mono{K:zA}{H H':Hp}(e:Y1 H H'):∀{d:D}{v:V},Rep K H d v->Rep K H' d v
 | .non,_,h=>h
 | .bl _,_,h=>h
 | .int _,_,h=>h
 | .str _,_,h=>h
 | .lst _,_,⟨a,vs,h1,h2,h3⟩=>⟨a,vs,h1,e _ _ h2,Yt.mono e h3⟩
 | .tup _,_,⟨a,vs,h1,h2,h3⟩=>⟨a,vs,h1,e _ _ h2,Yt.mono e h3⟩
 | .scr _,_,⟨a,h1,h2⟩=>⟨a,h1,e.seq h2⟩
 | .exc _,_,⟨a,C,h1,h2,h3⟩=>⟨a,C,h1,h2,e _ _ h3⟩
 | .dic _ _,_,⟨a,vs,h1,⟨o,h2⟩,h4,h3⟩=>⟨a,vs,h1,⟨o,e _ _ h2⟩,h4,Yt.mono e h3⟩
theorem Yt.mono{K:zA}{H H':Hp}(e:Y1 H H'):∀{ds:List D}{vs:List V},Yt K H ds vs->Yt K H' ds vs
 | [],_,h=>h
 | _::_,_,⟨v,r,h1,h2,h3⟩=>⟨v,r,h1,Rep.mono e h2,Yt.mono e h3⟩
end
section
variable{K:zA}{H:Hp}
def Yt.nil:Yt K H [] []:=rfl
def Yt.cons{d:D}{ds:List D}{v:V}{vs:List V}(h:Rep K H d v)(t:Yt K H ds vs):Yt K H (d::ds) (v::vs):=⟨v,vs,rfl,h,t⟩
theorem Yt.len:∀{ds:List D}{vs:List V},Yt K H ds vs->ds.length=vs.length
 | [],_,h=>by cases (show _=_ from h);rfl
 | _::_,_,⟨v,r,h1,_,h3⟩=>by rw[h1,zC,zC,Yt.len h3]
theorem Yt.app:∀{ds es:List D}{vs us:List V},Yt K H ds vs->Yt K H es us->Yt K H (ds++es) (vs++us)
 | [],_,_,_,h,t=>by cases (show _=_ from h);exact t
 | _::_,_,_,_,⟨v,r,h1,h2,h3⟩,t=>by rw[h1];exact⟨v,_,rfl,h2,Yt.app h3 t⟩
theorem Yt.get:∀{ds:List D}{vs:List V}{i:Nat}{d:D},Yt K H ds vs->ds[i]?=some d->∃v,vs[i]?=some v/\Rep K H d v
 | [],_,_,_,_,e=>by simp at e
 | _::_,_,0,_,⟨v,r,h1,h2,h3⟩,e=>by simp at e;subst e;rw[h1];exact⟨v,rfl,h2⟩
 | _::_,_,i+1,d,⟨v,r,h1,h2,h3⟩,e=>by
  obtain⟨u,e1,e2⟩:=Yt.get (i:=i) (d:=d) h3 ⇑e;exact⟨u,by rw[h1];simpa using e1,e2⟩
theorem Yt.take:∀{ds:List D}{vs:List V}(n:Nat),Yt K H ds vs->Yt K H (ds.take n) (vs.take n)
 | _,_,0,_=>rfl
 | [],_,_+1,h=>by cases (show _=_ from h);rfl
 | _::_,_,n+1,⟨v,r,h1,h2,h3⟩=>by rw[h1];exact⟨v,_,rfl,h2,Yt.take n h3⟩
theorem Yt.drop:∀{ds:List D}{vs:List V}(n:Nat),Yt K H ds vs->Yt K H (ds.drop n) (vs.drop n)
 | _,_,0,h=>h
 | [],_,_+1,h=>by cases (show _=_ from h);rfl
 | _::_,_,n+1,⟨v,r,h1,h2,h3⟩=>by rw[h1];exact Yt.drop n h3
theorem Yt.ints:∀(ns:List Int),Yt K H (ns.map D.int) (ns.map V.int)
 | []=>rfl
 | n::r=>⟨.int n,_,rfl,rfl,Yt.ints r⟩
theorem Yt.of_ints:∀{ns:List Int}{vs:List V},Yt K H (ns.map D.int) vs->vs=ns.map V.int
 | [],_,h=>h
 | n::r,_,⟨v,vs,h1,h2,h3⟩=>by
  have:=Yt.of_ints h3;have e:v=.int n:=h2;rw[h1,this,e];rfl
def Yt.one{d:D}{vs:List V}(h:Yt K H [d] vs):∃v,vs=[v]/\Rep K H d v:=by
 obtain⟨v,r,h1,h2,h3⟩:=h;cases (show r=[]from h3);exact⟨v,h1,h2⟩
def Yt.two{d e:D}{vs:List V}(h:Yt K H [d,e] vs):∃v u,vs=[v,u]/\Rep K H d v/\Rep K H e u:=by
 obtain⟨v,r,h1,h2,h3⟩:=h;obtain⟨u,rfl,h4⟩:=Yt.one h3;exact⟨v,u,h1,h2,h4⟩
end
structure Ext (G H G' H':Hp):Prop where
 gg:Y1 G G'
 gh:Y1 G' H'
 hh:Y1 H H'
 new:∀b,G b=none->H b≠none->G' b=none
theorem Ext.refl{G H:Hp}(h:Y1 G H):Ext G H G H:=⟨Y1.refl _,h,Y1.refl _,λ_ e _=>e⟩
theorem Ext.trans{G H G1 H1 G2 H2:Hp}(a:Ext G H G1 H1)(b:Ext G1 H1 G2 H2):Ext G H G2 H2:=by
 refine⟨a.gg.trans b.gg,b.gh,a.hh.trans b.hh,λc h1 h2=>?_⟩;have e1:=a.new c h1 h2;refine b.new c e1 λz=>h2 ?_;exact a.hh.free z
def Xe{H:Hp}{p:vC}(h:H p=none)(o:HO):Y1 H (upd H p o):=λb u q=>by rw[qc (q2y q h)];exact q
def zAk{G H:Hp}{p:vC}(e:Y1 G H)(o:HO):Y1 (upd G p o) (upd H p o):=λb u q=>by
 by_cases z:b=p
 ·subst z;rw[qe]at q ⊢;exact q
 ·rw[qc z]at q ⊢;exact e b u q
def Yx{G H:Hp}{p:vC}(e:Y1 G H)(h:G p=none)(o:HO):Y1 G (upd H p o):=λb u q=>by rw[qc (q2y q h)];exact e b u q
def Ext.lay{G H:Hp}{p:vC}(e:Y1 G H)(h:H p=none)(o:HO):Ext G H (upd G p o) (upd H p o):=by
 have g:G p=none:=e.free h;refine⟨Xe g o,zAk e o,Xe h o,λb h1 h2=>?_⟩
 by_cases z:b=p
 ·subst z;exact vK h h2
 ·rw[qc z];exact h1
def Ext.hide{G H:Hp}{p:vC}(e:Y1 G H)(h:H p=none)(o:HO):Ext G H G (upd H p o) :=
 ⟨Y1.refl _,Yx e (e.free h) o,Xe h o,λ_ z _=>z⟩
inductive W where
 | sh (d:D)|ow (ds:List D)|od (ks:List Int) (ds:List D)|pw (ds:List D)
noncomputable abbrev WSt:=List (Option W)
structure Fr where
 hp:Hp
 pin:Nat->vC
noncomputable instance:CoeFun Fr λ_=>Hp:=⟨Fr.hp⟩
noncomputable instance:Coe Fr Hp:=⟨Fr.hp⟩
noncomputable def fr(H:Hp):Fr:=⟨H,λ_=>0⟩
def Xo(K:zA)(F:Fr)(G:Hp)(ω:WSt)(σ:St)(H:Hp):Prop:=∀(i:Nat)ds,ω[i]?=some (some (.pw ds))->∃vs,σ[i]?=some (some (.ref (F.pin i)))/\H (F.pin i)=some (.lst vs)/\G (F.pin i)=none/\F.hp (F.pin i)=none/\Yt K G ds vs /\
 (∀(j:Nat)es,ω[j]?=some (some (.pw es))->F.pin j=F.pin i->j=i)/\∀(j:Nat)es,ω[j]?=some (some (.ow es))->σ[j]?≠some (some (.ref (F.pin i)))
def Xo.keep{K:zA}{F:Fr}{G G':Hp}{ω:WSt}{σ:St}{H H':Hp}(o:Xo K F G ω σ H)(e:Ext G H G' H'):Xo K F G' ω σ H':=λi ds h=>by
 obtain⟨vs,h1,h2,h3,h4,h5,h6⟩:=o i ds h;exact⟨vs,h1,e.hh _ _ h2,e.new _ h3 (by rw[h2];exact λz=>by cases z),h4,h5.mono e.gg,h6⟩
def Xo.no{K:zA}{F:Fr}{G:Hp}{ω:WSt}{σ:St}{H:Hp}(h:∀(i:Nat)ds,ω[i]?≠some (some (.pw ds))):Xo K F G ω σ H:=λi ds e=>vK e (h i ds)
structure Own (K:zA) (G0:Hp) (H0:Fr) (G:Hp) (ω:WSt) (σ:St) (H:Hp):Prop where
 ext:Ext G0 H0.hp G H
 len:ω.length=σ.length
 sh:∀(i:Nat)d,ω[i]?=some ↥d->∃v,σ[i]?=some (some v)/\Rep K G d v
 ow:∀(i:Nat)ds,ω[i]?=some (some (.ow ds))->∃l vs,σ[i]?=some (some (.ref l))/\H l=some (.lst vs)/\G l=none/\H0 l=none/\Yt K G ds vs
 nd:∀(i j:Nat)ds es l,ω[i]?=some (some (.ow ds))->ω[j]?=some (some (.ow es))->σ[i]?=some (some (.ref l))->σ[j]?=some (some (.ref l))->i=j
 od:∀(i:Nat)ks ds,ω[i]?=some (some (.od ks ds))->∃p vs,σ[i]?=some (some (.ref p))/\H p=some (.dK (kvsOf ks vs))/\G p=none/\H0 p=none/\ks.length=ds.length/\Yt K G ds vs /\
  ∀(j:Nat)ks' es,ω[j]?=some (some (.od ks' es))->σ[j]?=some (some (.ref p))->i=j
 pw:Xo K H0 G ω σ H
inductive R where
 | sh (d:D)|fr (ds:List D)|vw (ds:List D)
noncomputable def R.d:R->D
 | .sh d=>d
 | .fr ds=>.lst ds
 | .vw ds=>.lst ds
def zCV(K:zA)(H G' H':Hp):R->V->Prop
 | .sh d,v=>Rep K G' d v
 | .fr ds,v=>∃l vs,v=.ref l/\H l=none/\G' l=none/\H' l=some (.lst vs)/\Yt K G' ds vs
 | .vw ds,v=>∃l vs,v=.ref l/\H' l=some (.lst vs)/\Yt K G' ds vs
def Vw(K:zA)(G H:Hp)(d:D)(v:V):Prop:=Rep K G d v\/∃ds l vs,d=.lst ds/\v=.ref l/\H l=some (.lst vs)/\Yt K G ds vs
theorem Own.keep{K:zA}{G0:Hp}{H0:Fr}{G G':Hp}{ω:WSt}{σ:St}{H H':Hp}(o:Own K G0 H0 G ω σ H)(e:Ext G H G' H'):Own K G0 H0 G' ω σ H':=by
 refine⟨o.ext.trans e,o.len,λi d h=>?_,λi ds h=>?_,o.nd,λi ks ds h=>?_,o.pw.keep e⟩
 ·obtain⟨v,h1,h2⟩:=o.sh i d h
  exact⟨v,h1,h2.mono e.gg⟩
 ·obtain⟨l,vs,h1,h2,h3,h4,h5⟩:=o.ow i ds h
  exact⟨l,vs,h1,e.hh _ _ h2,e.new l h3 (by rw[h2];exact λz=>by cases z),h4,h5.mono e.gg⟩
 ·obtain⟨l,vs,h1,h2,h3,h4,h6,h5,h7⟩:=o.od i ks ds h
  exact⟨l,vs,h1,e.hh _ _ h2,e.new l h3 (by rw[h2];exact λz=>by cases z),h4,h6,h5.mono e.gg,h7⟩
theorem Own.gh{K:zA}{G0:Hp}{H0:Fr}{G:Hp}{ω:WSt}{σ:St}{H:Hp}(o:Own K G0 H0 G ω σ H):Y1 G H:=o.ext.gh
noncomputable abbrev FE:=WSt->Option R
noncomputable abbrev FD:=WSt->Option D
noncomputable abbrev FT:=WSt->Option Bool
noncomputable abbrev FA:=WSt->Option (List D)
def zC7(K:zA)(t:TE)(f:FE):Prop:=∀G0 H0 G ω σ H r(Q:VK),Own K G0 H0 G ω σ H->f ω=some r ->
 (∀v G' H',Ext G H G' H'->zCV K H G' H' r v->Q v H')->t σ H Q
def zBZ(K:zA)(t:TE)(f:FD):Prop:=∀G0 H0 G ω σ H d(Q:VK),Own K G0 H0 G ω σ H->f ω=some d ->
 (∀v G' H',Ext G H G' H'->Rep K G' d v->Q v H')->t σ H Q
def SimV(K:zA)(t:TE)(f:FD):Prop:=∀G0 H0 G ω σ H d(Q:VK),Own K G0 H0 G ω σ H->f ω=some d ->
 (∀v G' H',Ext G H G' H'->Vw K G' H' d v->Q v H')->t σ H Q
def zBi(K:zA)(t:TT)(f:FT):Prop:=∀G0 H0 G ω σ H b(Q:Bool->Hp->Prop),Own K G0 H0 G ω σ H->f ω=some b ->
 (∀G' H',Ext G H G' H'->Q b H')->t σ H Q
def SimA(K:zA)(t:TA)(f:FA):Prop:=∀G0 H0 G ω σ H ds(Q:List V->Hp->Prop),Own K G0 H0 G ω σ H->f ω=some ds ->
 (∀vs G' H',Ext G H G' H'->Yt K G' ds vs->Q vs H')->t σ H Q
def XE(X:Cx)(e:vW)(f:FE):Prop:=∃t,PE X e t/\zC7 X.K t f
def XD(X:Cx)(e:vW)(f:FD):Prop:=∃t,PE X e t/\zBZ X.K t f
def XV(X:Cx)(e:vW)(f:FD):Prop:=∃t,PE X e t/\SimV X.K t f
def XT(X:Cx)(e:vW)(f:FT):Prop:=∃t,PT X e t/\zBi X.K t f
def XW(X:Cx)(e:vW)(f:FT):Prop:=∃t,PW X e t/\zBi X.K t f
def XA(X:Cx)(es:List vW)(f:FA):Prop:=(∃t,PA X es t/\SimA X.K t f)/\∀ω ds,f ω=some ds->ds.length=es.length
noncomputable def eOf(f:FD):FE:=λω=>(f ω).map R.sh
noncomputable def dOf(f:FE):FD:=λω=>match f ω with
 | ↥d=>some d
 | some (.fr ds)=>some (.lst ds)
 | _=>none
noncomputable def vOf(f:FE):FD:=λω=>(f ω).map R.d
section
variable{X:Cx}{e:vW}
def XD.toE{f:FD}(h:XD X e f):XE X e (eOf f):=by
 obtain⟨t,h1,h2⟩:=h;refine⟨t,h1,λG0 H0 G ω σ H r Q o e k=>?_⟩;unfold eOf at e;cases q:f ω with
 | none=>rw[q]at e;cases e
 | some d=>rw[q]at e;cases e;exact h2 G0 H0 G ω σ H d Q o q k
def XE.toD{f:FE}(h:XE X e f):XD X e (dOf f):=by
 obtain⟨t,h1,h2⟩:=h;refine⟨t,h1,λG0 H0 G ω σ H d Q o e k=>?_⟩;unfold dOf at e;cases q:f ω with
 | none=>rw[q]at e;cases e
 | some r=>
  rw[q]at e;cases r with
  | sh d'=>cases e;exact h2 G0 H0 G ω σ H _ Q o q k
  | fr ds=>
   cases e;refine h2 G0 H0 G ω σ H _ Q o q λv G' H' x ⟨l,vs,e1,e2,e3,e4,e5⟩=>?_;have s1:Y1 G' (upd G' l (.lst vs)):=Xe e3 _;refine k v (upd G' l (.lst vs)) H' ⟨x.gg.trans s1,λb u z=>?_,x.hh,λb z1 z2=>?_⟩ ⟨l,vs,e1,qe,e5.mono s1⟩
   ·by_cases hb:b=l
    ·subst hb;rw[qe]at z;rw[e4];exact z
    ·rw[qc hb]at z;exact x.gh b u z
   ·rw[qc (λhb=>z2 (by rw[hb];exact e2))];exact x.new b z1 z2
  | vw ds=>cases e
def XE.toV{f:FE}(h:XE X e f):XV X e (vOf f):=by
 obtain⟨t,h1,h2⟩:=h;refine⟨t,h1,λG0 H0 G ω σ H d Q o e k=>?_⟩;unfold vOf at e;cases q:f ω with
 | none=>rw[q]at e;cases e
 | some r=>
  rw[q]at e;have e':r.d=d:=z0 e;subst e';refine h2 G0 H0 G ω σ H r Q o q λv G' H' x y=>k v G' H' x ?_;cases r with
  | sh d'=>exact .inl y
  | fr ds=>obtain⟨l,vs,e1,e2,e3,e4,e5⟩:=y;exact .inr ⟨ds,l,vs,rfl,e1,e4,e5⟩
  | vw ds=>obtain⟨l,vs,e1,e2,e3⟩:=y;exact .inr ⟨ds,l,vs,rfl,e1,e2,e3⟩
def XD.toV{f:FD}(h:XD X e f):XV X e f:=by
 obtain⟨t,h1,h2⟩:=h;exact⟨t,h1,λG0 H0 G ω σ H d Q o e k=>h2 G0 H0 G ω σ H d Q o e λv G' H' x y=>k v G' H' x (.inl y)⟩
end
noncomputable def Yn(i:Nat):FE:=λω=>match ω[i]? with
 | some ↥d=>↥d
 | some (some (.ow ds))=>some (.vw ds)
 | some (some (.pw ds))=>some (.vw ds)
 | _=>none
noncomputable def fC(d:D):FD:=λ_=>some d
section
variable{X:Cx}
def zBx{e:vW}(i:Nat)(h:PE X e (XZ i)):XE X e (Yn i):=by
 refine⟨_,h,λG0 H0 G ω σ H r Q o e k=>?_⟩;unfold Yn at e;cases q:ω[i]? with
 | none=>rw[q]at e;cases e
 | some w=>
  rw[q]at e;cases w with
  | none=>cases e
  | some w=>
   cases w with
   | sh d=>
    cases e;obtain⟨v,h1,h2⟩:=o.sh i d q;exact⟨v,h1,k v G H (Ext.refl o.gh) h2⟩
   | ow ds=>
    cases e;obtain⟨l,vs,h1,h2,h3,h4,h5⟩:=o.ow i ds q;exact⟨_,h1,k _ G H (Ext.refl o.gh) ⟨l,vs,rfl,h2,h5⟩⟩
   | od ks ds=>cases e
   | pw ds=>
    cases e;obtain⟨vs,h1,h2,h3,h4,h5,_⟩:=o.pw i ds q;exact⟨_,h1,k _ G H (Ext.refl o.gh) ⟨_,vs,rfl,h2,h5⟩⟩
def xd_c{e:vW}{v:V}{d:D}(h:PE X e (tC v))(hr:∀K H,Rep K H d v):XD X e (fC d):=by
 refine⟨_,h,λG0 H0 G ω σ H r Q o e k=>?_⟩;cases e;exact k v G H (Ext.refl o.gh) (hr _ _)
def Yk{i j pos}:XD X (.Constant (.int i) j pos) (fC (.int i)):=xd_c qfx λ_ _=>rfl
def Xc{b j pos}:XD X (.Constant (.bool b) j pos) (fC (.bl b)):=xd_c qgg λ_ _=>rfl
def Wj{j pos}:XD X (.Constant .none j pos) (fC .non):=xd_c qfI λ_ _=>rfl
def XC{x j pos}:XD X (.Constant (.str x) j pos) (fC (.str x)):=xd_c qfg λ_ _=>rfl
end
def bnd{α β:Type}{o:Option α}{f:α->Option β}{r:β}(h:o.bind f=some r):∃a,o=some a/\f a=some r:=Option.bind_eq_some_iff.mp h
def mpd{α β:Type}{o:Option α}{f:α->β}{r:β}(h:o.map f=some r):∃a,o=some a/\f a=r:=wZ.mp h
noncomputable def Yr:FA:=λ_=>some []
noncomputable def Yj(f:FD)(g:FA):FA:=λω=>(f ω).bind λd=>(g ω).map λds=>d::ds
section
variable{X:Cx}{e:vW}{es:List vW}
def Yl:XA X [] Yr:=⟨⟨_,qN,λG0 H0 G ω σ H ds Q o e k=>by cases e;exact k [] G H (Ext.refl o.gh) rfl⟩,λω ds e=>by cases e;rfl⟩
def Yi{f:FD}{g:FA}(h:XD X e f)(hr:XA X es g)(hs:vJ (e::es) X.env=(false,eval e X.env)::vJ es X.env:=by rfl):XA X (e::es) (Yj f g):=by
 obtain⟨t,h1,h2⟩:=h;obtain⟨⟨u,h3,h4⟩,h5⟩:=hr;refine⟨⟨_,qo h1 h3 hs,λG0 H0 G ω σ H ds Q o e k=>?_⟩,λω ds e=>?_⟩
 ·obtain⟨d,q,e⟩:=bnd e
  obtain⟨r,q2,e⟩:=mpd e;subst e;refine h2 G0 H0 G ω σ H d _ o q λv G1 H1 x1 y1=>?_;refine h4 G0 H0 G1 ω σ H1 r _ (o.keep x1) q2 λvs G2 H2 x2 y2=>?_;exact k _ G2 H2 (x1.trans x2) (Yt.cons (y1.mono x2.gg) y2)
 ·obtain⟨d,q,e⟩:=bnd e
  obtain⟨r,q2,e⟩:=mpd e;subst e;rw[zC,zC,h5 ω r q2]
noncomputable def W2(g:FA):FD:=λω=>(g ω).map D.tup
noncomputable def X8(g:FA):FE:=λω=>(g ω).map R.fr
def zAt{n:Nat}(h:n<=1000):n<=sizeLine:=xH (zBn h)
def Y9{x1 pos}{g:FA}(h:XA X es g)(hl:es.length<=1000:=by decide):XD X (.Tuple es x1 pos) (W2 g):=by
 obtain⟨⟨t,h1,h2⟩,h5⟩:=h;refine⟨_,qbC h1,λG0 H0 G ω σ H d Q o e k=>?_⟩;obtain⟨ds,q,e⟩:=mpd e;subst e;refine h2 G0 H0 G ω σ H ds _ o q λvs G1 H1 x1 y1=>⟨zAt (by rw[<- y1.len,h5 ω ds q];exact hl),λp hp=>?_⟩;have x2:=Ext.lay x1.gh hp (.tup vs);exact k _ _ _ (x1.trans x2) ⟨p,vs,rfl,qe,y1.mono x2.gg⟩
def Yy{pos}{g:FA}(h:XA X es g)(hl:es.length<=1000:=by decide):XE X (.List es pos) (X8 g):=by
 obtain⟨⟨t,h1,h2⟩,h5⟩:=h;refine⟨_,q4p h1,λG0 H0 G ω σ H d Q o e k=>?_⟩;obtain⟨ds,q,e⟩:=mpd e;subst e;refine h2 G0 H0 G ω σ H ds _ o q λvs G1 H1 x1 y1=>⟨zAt (by rw[<- y1.len,h5 ω ds q];exact hl),λp hp=>?_⟩;have x2:=Ext.hide x1.gh hp (.lst vs);exact k _ _ _ (x1.trans x2) ⟨p,vs,rfl,x1.hh.free hp,x1.gh.free hp,qe,y1⟩
inductive O where
 | sh (d:D)|fr (ds:List D)
noncomputable def O.r:O->R
 | .sh d=>.sh d
 | .fr ds=>.fr ds
noncomputable def spD(K:zA)(n:Nat)(m:List D->Option O):Sp:=λvs H Q _=>∃G ds r,m ds=some r/\ds.length=n/\Y1 G H/\Yt K G ds vs/\∀v G' H',Ext G H G' H'->zCV K H G' H' r.r v->Q v H'
noncomputable def Ys(m:List D->Option O)(g:FA):FE:=λω=>(g ω).bind λds=>(m ds).map O.r
def zC1{CX:CXT}{k:Nat}{f:vC}{fd:vN}{ps:List Str}{m:List D->Option O}{E:XK}{x:Str}{p pos:Pos}{g:FA}(F:FnOk X.prog X.w X.K X.mg X.base CX k f fd ps (spD X.K (e::es).length m))(hr:Room k X.A)(hg:Gl X x)(hm:X.mg x=some (.ref f))(hk:xa X.K (.ref f)=true)(hb:Binds X.K fd ps [])(hx:zAK CX X E)(ha:XA X (e::es) g)(hdb:(x==("__debug__" : Str))=false:=by decide)(he:vJ (e::es) X.env=(false,eval e X.env)::vJ es X.env:=by rfl)(hpl:(vp pos (vJ es X.env)).any (·.1)=false:=by rfl):
  XE X (.Call (.Name x p) (e::es) [] pos) (Ys m g):=by
 obtain⟨⟨t,h1,h2⟩,h5⟩:=ha;refine⟨_,q7F F hr hg hm hk hb .nil hx h1 hdb he hpl,λG0 H0 G ω σ H r Q o e k=>?_⟩;obtain⟨ds,q,e⟩:=bnd e;obtain⟨r',q2,e⟩:=mpd e;subst e;refine h2 G0 H0 G ω σ H ds _ o q λvs G1 H1 x1 y1=>?_;refine⟨G1,ds,r',q2,h5 ω ds q,x1.gh,by rw[yu];exact y1,λv G2 H2 x2 y2=>k v G2 H2 (x1.trans x2) ?_⟩;cases r' with
 | sh d=>exact y2
 | fr ds=>obtain⟨l,vs,e1,e2,e3⟩:=y2;exact⟨l,vs,e1,x1.hh.free e2,e3⟩
end
open PySem.Spec PyProof.Rows PySem.SeqAt PySem.MeetsSeq PySem.MeetsSeq2 PySem.MeetsSeq3 in
def q8D{prog:vS}{w:vY}{A:vZ}{E:Value->vB->Prop}{s:vB}{t sl:vC}{items:Array Value}{vl vu:Value}{lo hi:Option Int}{Q:Value->vB->Prop}(ht:IsTup s.heap t items)(hs:s.heap.IsSliceOf sl vl vu .none)(pl:tQ vl lo)(pu:tQ vu hi)(hw:HT.sIx items.size 0 lo=0/\HT.sIx items.size items.size hi=items.size)(h:Q (.ref t) s):vL (model prog w) A (uz (.ref t) (.ref sl)) Q E s:=by
 obtain⟨os,hos,hcs,hds⟩:=id hs;have hTs:s.TypeIs (.ref sl) "slice" := ⟨os,hos,hcs⟩;unfold uz
 try with_reducible refine vi ?_
 first|refine vA (vF ?_)|skip
 refine vA (wpAny_sequenceKey ht.typeIs (by decide) ?_);refine vA (wpAny_callSpecial?_slot (name:=Str.ofString "__getitem__") ht.typeIs PyProof.Rows.slot_tuple_getitem
  (vc PyProof.Rows.slot_tuple_getitem ht.typeIs entry_tuple_getitem ?_ (sD _ _)))
 show vL _ _ (Builtin.Tuple.tupleItemsOf (.ref t) >>= _) _ _ s;refine vA (tupleItemsOf_ ht ?_);refine vA (ui hTs ?_);rw[vG (by decide)];refine vA (HT.q4y hs pl pu ?_);have hy:(((HT.sIx items.size 0 lo:Nat):Int)==0&&(1:Int)==1&&(HT.sIx items.size items.size hi-HT.sIx items.size 0 lo)==items.size)=true:=by
  rw[hw.1,hw.2];simp
 show vL _ _ (if (((HT.sIx items.size 0 lo:Nat):Int)==0&&(1:Int)==1&&(HT.sIx items.size items.size hi-HT.sIx items.size 0 lo)==items.size)=true then _ else _) _ _ s;rw[vG hy];have hb:∀{R:Bool->vB->Prop},R true s->vL (model prog w) A.in1 (Builtin.Tuple.tupleIsExact (.ref t)) R E s:=λr=>by
  unfold Builtin.Tuple.tupleIsExact;refine vA (ui ht.typeIs ?_);exact vF r
 refine vA (hb ?_);rw[vG rfl];refine vA (v8 ?_);exact vF ⟨_,rfl,vF h⟩
section
variable{X:Cx}
def rSlW(K:zA):V->Option Int->Option Int->Hp->VK->Prop:=λx lo hi H Q=>∃a xs,x=.ref a/\SqT K H a xs /\
 (HT.sIx xs.length 0 lo=0/\HT.sIx xs.length xs.length hi=xs.length)/\Q (.ref a) H
def qdF:SlR X (rSlW X.K):=by
 intro pins s σ H x v vl vu lo hi sl Q I rx hs pl pu h;obtain⟨a,xs,rfl,hx,hw,q⟩:=h;cases rx;obtain⟨its,r,ht,hz⟩:=I.tuple hx;have hlen:its.toArray.size=xs.length:=by rw[zM];exact r.length.symm
 refine⟨"tuple", _,PyProof.Rows.slot_tuple_getitem.lookup,ht.typeIs,?_⟩;exact q8D ht hs pl pu (by rw[hlen];exact hw) ⟨.ref a,H,I,rfl,q⟩
end
def Vw.rep{K:zA}{G H:Hp}{d:D}{v:V}(h:Vw K G H d v)(e:Y1 G H):Rep K H d v:=by
 rcases h with h|⟨ds,l,vs,rfl,rfl,h1,h2⟩
 ·exact h.mono e
 ·exact⟨l,vs,rfl,h1,h2.mono e⟩
def Vw.keep{K:zA}{G H G' H':Hp}{d:D}{v:V}(h:Vw K G H d v)(e:Ext G H G' H'):Vw K G' H' d v:=by
 rcases h with h|⟨ds,l,vs,h0,h1,h2,h3⟩
 ·exact .inl (h.mono e.gg)
 ·exact .inr ⟨ds,l,vs,h0,h1,e.hh _ _ h2,h3.mono e.gg⟩
theorem Vw.lst{K:zA}{G H:Hp}{ds:List D}{v:V}(h:Vw K G H (.lst ds) v)(e:Y1 G H):∃a vs,v=.ref a/\H a=some (.lst vs)/\Yt K G ds vs:=by
 rcases h with⟨a,vs,h1,h2,h3⟩|⟨ds',l,vs,h0,h1,h2,h3⟩
 ·exact⟨a,vs,h1,e _ _ h2,h3⟩
 ·cases h0;exact⟨l,vs,h1,h2,h3⟩
def Vw.of_ne{K:zA}{G H:Hp}{d:D}{v:V}(h:Vw K G H d v)(n:∀ds,d≠.lst ds):Rep K G d v:=by
 rcases h with h|⟨ds',l,vs,h0,h1,h2,h3⟩
 ·exact h
 ·exact vK h0 (n _)
def VwA(K:zA)(G H:Hp):List D->List V->Prop
 | [],vs=>vs=[]
 | d::ds,vs=>∃v r,vs=v::r/\Vw K G H d v/\VwA K G H ds r
def SimVA(K:zA)(t:TA)(f:FA):Prop:=∀G0 H0 G ω σ H ds(Q:List V->Hp->Prop),Own K G0 H0 G ω σ H->f ω=some ds ->
 (∀vs G' H',Ext G H G' H'->VwA K G' H' ds vs->Q vs H')->t σ H Q
def XVA(X:Cx)(es:List vW)(f:FA):Prop:=∃t,PA X es t/\SimVA X.K t f
section
variable{X:Cx}{e:vW}{es:List vW}
def qF:XVA X [] Yr:=⟨_,qN,λG0 H0 G ω σ H ds Q o e k=>by cases e;exact k [] G H (Ext.refl o.gh) rfl⟩
def qv{f:FD}{g:FA}(h:XV X e f)(hr:XVA X es g)(hs:vJ (e::es) X.env=(false,eval e X.env)::vJ es X.env:=by rfl):XVA X (e::es) (Yj f g):=by
 obtain⟨t,h1,h2⟩:=h;obtain⟨u,h3,h4⟩:=hr;refine⟨_,qo h1 h3 hs,λG0 H0 G ω σ H ds Q o e k=>?_⟩;obtain⟨d,q,e⟩:=bnd e;obtain⟨r,q2,e⟩:=mpd e;subst e;refine h2 G0 H0 G ω σ H d _ o q λv G1 H1 x1 y1=>?_;refine h4 G0 H0 G1 ω σ H1 r _ (o.keep x1) q2 λvs G2 H2 x2 y2=>?_;exact k _ G2 H2 (x1.trans x2) ⟨v,vs,rfl,y1.keep x2,y2⟩
noncomputable def Yq(op:D->D->Option R)(f g:FD):FE:=λω=>(f ω).bind λx=>(g ω).bind λy=>op x y
def OpV(K:zA)(r:R2)(op:D->D->Option R):Prop:=∀G H x y d v u(Q:VK),Y1 G H->op x y=some d->Vw K G H x v->Vw K G H y u ->
 (∀w G' H',Ext G H G' H'->zCV K H G' H' d w->Q w H')->r v u H Q
def q6r{r:R2}{o:D->D->Option R}{f g:FD}{t u:TE}(hd:OpV X.K r o)(h2:SimV X.K t f)(h4:SimV X.K u g):zC7 X.K (tOp r t u) (Yq o f g):=by
 intro G0 H0 G ω σ H d Q ow e k;obtain⟨x,q,e⟩:=bnd e;obtain⟨y,q2,e⟩:=bnd e;refine h2 G0 H0 G ω σ H x _ ow q λv G1 H1 x1 y1=>?_;refine h4 G0 H0 G1 ω σ H1 y _ (ow.keep x1) q2 λv2 G2 H2 x2 y2=>?_;refine hd G2 H2 x y d v v2 Q x2.gh e (y1.keep x2) y2 λw G3 H3 x3 z=>k w G3 H3 ((x1.trans x2).trans x3) ?_;cases d with
 | sh d=>exact z
 | fr ds=>obtain⟨l,vs,e1,e2,e3⟩:=z;exact⟨l,vs,e1,(x1.trans x2).hh.free e2,e3⟩
 | vw ds=>exact z
variable{a b:vW}{pos:Pos}{f g:FD}
def q4C{op:Operator}{r:R2}{o:D->D->Option R}(ho:OpR X (uO op) r)(hd:OpV X.K r o)(ha:XV X a f)(hb:XV X b g):XE X (.BinOp a op b pos) (Yq o f g):=by
 obtain⟨t,h1,h2⟩:=ha;obtain⟨u,h3,h4⟩:=hb;exact⟨_,qgm ho h1 h3,q6r hd h2 h4⟩
def q6f{op:sO}{r:R2}{o:D->D->Option R}(ho:OpR X (uJ op) r)(hd:OpV X.K r o)(ha:XV X a f)(hb:XV X b g)(hm:vz op b=false):XE X (.Compare a [op] [b] pos) (Yq o f g):=by
 obtain⟨t,h1,h2⟩:=ha;obtain⟨u,h3,h4⟩:=hb;exact⟨_,qew ho h1 h3 hm,q6r hd h2 h4⟩
def qge{r:R2}{o:D->D->Option R}(ho:IxR X r)(hd:OpV X.K r o)(ha:XV X a f)(hb:XV X b g)(hs:zAw b):XE X (.Subscript a b pos) (Yq o f g):=by
 obtain⟨t,h1,h2⟩:=ha;obtain⟨u,h3,h4⟩:=hb;exact⟨_,qgr ho h1 h3 hs,q6r hd h2 h4⟩
noncomputable def tOf(f:FE):FT:=λω=>match f ω with
 | ↥(.bl k)=>some k
 | _=>none
def qbx{t:TE}{f:FE}(h:zC7 X.K t f):zBi X.K (tTest t) (tOf f):=by
 intro G0 H0 G ω σ H b Q o e k;unfold tOf at e;cases q:f ω with
 | none=>rw[q]at e;cases e
 | some r=>
  rw[q]at e;cases r with
  | sh d=>
   cases d with
   | bl c=>
    cases e;refine h G0 H0 G ω σ H _ _ o q λv G' H' x y=>?_;cases (show v=V.bl b from y);exact⟨b,rfl,k G' H' x⟩
   | _=>cases e
  | _=>cases e
def q5Q{op:sO}{r:R2}{o:D->D->Option R}(ho:OpR X (uJ op) r)(hd:OpV X.K r o)(ha:XV X a f)(hb:XV X b g)(hm:vz op b=false):XT X (.Compare a [op] [b] pos) (tOf (Yq o f g)):=by
 obtain⟨t,h1,h2⟩:=ha;obtain⟨u,h3,h4⟩:=hb;exact⟨_,qeO ho h1 h3 hm,qbx (q6r hd h2 h4)⟩
noncomputable def zBU(c:Int->Int->Bool)(g:Int->Int->D):D->D->Option R
 | .int i,.int j=>if c i j=true then ↥(g i j)else none
 | _,_=>none
theorem Vw.int{K:zA}{G H:Hp}{i:Int}{v:V}(h:Vw K G H (.int i) v):v=.int i:=h.of_ne (λ_ z=>by cases z)
theorem Vw.bl{K:zA}{G H:Hp}{i:Bool}{v:V}(h:Vw K G H (.bl i) v):v=.bl i:=h.of_ne (λ_ z=>by cases z)
theorem Vw.str{K:zA}{G H:Hp}{i:Str}{v:V}(h:Vw K G H (.str i) v):v=.str i:=h.of_ne (λ_ z=>by cases z)
theorem Vw.non{K:zA}{G H:Hp}{v:V}(h:Vw K G H .non v):v=.non:=h.of_ne (λ_ z=>by cases z)
theorem Vw.tup{K:zA}{G H:Hp}{ds:List D}{v:V}(h:Vw K G H (.tup ds) v):∃a vs,v=.ref a/\G a=some (.tup vs)/\Yt K G ds vs:=h.of_ne (λ_ z=>by cases z)
theorem Vw.scr{K:zA}{G H:Hp}{ns:List Int}{v:V}(h:Vw K G H (.scr ns) v):∃a,v=.ref a/\SqL K G a (ns.map V.int):=h.of_ne (λ_ z=>by cases z)
def q6s{K:zA}{C:Int->Int->Prop}{c:Int->Int->Bool}{gV:Int->Int->V}{g:Int->Int->D}(hc:∀i j,c i j=true->C i j)(hg:∀H i j,Rep K H (g i j) (gV i j)):OpV K (rI C gV) (zBU c g):=by
 intro G H x y d v u Q s e hx hy k;cases x with
 | int i=>
  cases y with
  | int j=>
   cases hx.int;cases hy.int;unfold zBU at e
   dsimp only at e
   by_cases z:c i j=true
   ·rw[vG z]at e
    cases e;exact⟨i,j,rfl,rfl,hc i j z,k _ G H (Ext.refl s) (hg _ i j)⟩
   ·rw[vH z]at e;cases e
  | _=>cases e
 | _=>cases e
def q4h{K:zA}{gV:Int->Int->V}{g:Int->Int->D}(hg:∀H i j,Rep K H (g i j) (gV i j)):OpV K (rI0 gV) (zBU (λ_ _=>true) g):=by
 intro G H x y d v u Q s e hx hy k;cases x with
 | int i=>
  cases y with
  | int j=>
   cases hx.int;cases hy.int;cases e;exact⟨i,j,rfl,rfl,k _ G H (Ext.refl s) (hg _ i j)⟩
  | _=>cases e
 | _=>cases e
noncomputable def zCp(i j:Int):Bool:=(decide (-(2^64)<i)&&decide (i<2^64)) || (decide (-(2^64)<j)&&decide (j<2^64))
noncomputable def cDiv(_ j:Int):Bool:=decide (0<j)&&decide (j<1073741824)
noncomputable def cMod(_ j:Int):Bool:=decide (0<j)
noncomputable def cPow(i j:Int):Bool:=decide (0<=j)&&decide (j<=1000000)&&decide (i.natAbs<2^64)
noncomputable abbrev zB5:D->D->Option R:=zBU (λ_ _=>true) λi j=>.int (i-j)
noncomputable abbrev zCA:D->D->Option R:=zBU zCp λi j=>.int (i*j)
noncomputable abbrev oDiv:D->D->Option R:=zBU cDiv λi j=>.int (i/j)
noncomputable abbrev oMod:D->D->Option R:=zBU cMod λi j=>.int (i%j)
noncomputable abbrev zCe:D->D->Option R:=zBU cPow λi j=>.int (i^j.toNat)
noncomputable abbrev oLt:D->D->Option R:=zBU (λ_ _=>true) λi j=>.bl (decide (i<j))
noncomputable abbrev oLe:D->D->Option R:=zBU (λ_ _=>true) λi j=>.bl (decide (i<=j))
noncomputable abbrev oGe:D->D->Option R:=zBU (λ_ _=>true) λi j=>.bl (decide (j<=i))
noncomputable def X5:D->D->Option R
 | .int i,.int j=>↥(.int (i+j))
 | .lst xs,.lst ys=>if xs.length+ys.length<=1000000 then some (.fr (xs++ys))else none
 | .tup [],.tup ys=>↥(.tup ys)
 | .tup (x::xs),.tup ys=>if (x::xs).length+ys.length<=1000000 then ↥(.tup ((x::xs)++ys))else none
 | _,_=>none
def q74{n:Nat}(h:n<=1000000):n<=sizeLine:=by rw[vo];omega
noncomputable def rCat0(K:zA):R2:=λx y H Q=>∃a b ys,x=.ref a/\y=.ref b/\SqT K H a []/\SqT K H b ys/\Q (.ref b) H
def qec:OpR X (uO .Add) (rCat0 X.K):=by
 intro pins s σ H x y v u Q I rx ry h;obtain⟨a,b,ys,rfl,rfl,ha,hb,q⟩:=h;cases rx;cases ry;obtain⟨its,r1,p1,_⟩:=I.tuple ha;obtain⟨its2,r2,p2,_⟩:=I.tuple hb;have e0:its=[]:=r1.nil_iff.mpr rfl;subst e0;obtain⟨⟨cls,dd,data,sl⟩,ho,hc,n,hd⟩:=id p1;obtain⟨⟨cls2,dd2,data2,sl2⟩,ho2,hc2,n2,hd2⟩:=id p2;simp only at hc hd hc2 hd2;subst hc hd hc2 hd2;exact PySem.concat_meets ⟨_,ho,rfl⟩ ⟨_,ho2,rfl⟩ PySem.noFill_tuple_add PySem.seq_tuple_add PySem.F.slot_tuple_add PySem.F.entry_tuple_add (PySem.F.args_tuple_add_2 _ _)
  (PyProof.Rows.tuple_addW0 a b _ its2.toArray n n2 dd dd2 sl sl2 (by simp)) ⟨ho,ho2,⟨.ref b,H,I,rfl,q⟩⟩
noncomputable def zBr(K:zA):R2:=λx y H Q=>rI0 (λi j=>.int (i+j)) x y H Q\/rCat x y H Q\/rCatT K x y H Q\/rCat0 K x y H Q
def qcF:OpR X (uO .Add) (zBr X.K):=qfh.or (qfm.or (qey.or qec))
def qeg{K:zA}:OpV K (zBr K) X5:=by
 intro G H x y d v u Q s e hx hy k;cases x with
 | int i=>
  cases y with
  | int j=>
   cases hx.int;cases hy.int;cases e;exact .inl ⟨i,j,rfl,rfl,k _ G H (Ext.refl s) rfl⟩
  | _=>cases e
 | lst xs=>
  cases y with
  | lst ys=>
   unfold X5 at e
   dsimp only at e
   by_cases z:xs.length+ys.length<=1000000
   ·rw[vG z]at e
    cases e;obtain⟨a,vs,rfl,h1,h2⟩:=hx.lst s;obtain⟨b,us,rfl,h3,h4⟩:=hy.lst s;refine .inr (.inl ⟨a,b,vs,us,rfl,rfl,h1,h3,q74 (by rw[<- h2.len,<- h4.len];exact z),λp hp=>?_⟩);exact k _ G _ (Ext.hide s hp _) ⟨p,_,rfl,hp,s.free hp,qe,h2.app h4⟩
   ·rw[vH z]at e;cases e
  | _=>cases e
 | tup xs=>
  cases y with
  | tup ys=>
   obtain⟨a,vs,rfl,h1,h2⟩:=hx.tup;obtain⟨b,us,rfl,h3,h4⟩:=hy.tup;cases xs with
   | nil=>
    cases e;have ev:vs=[]:=xM h2.len.symm;subst ev;exact .inr (.inr (.inr ⟨a,b,us,rfl,rfl,SqT.of (s _ _ h1),SqT.of (s _ _ h3),k _ G H (Ext.refl s) ⟨b,us,rfl,h3,h4⟩⟩))
   | cons x0 xs=>
    unfold X5 at e
    dsimp only at e
    by_cases z:(x0::xs).length+ys.length<=1000000
    ·rw[vG z]at e
     cases e;refine .inr (.inr (.inl ⟨a,b,vs,us,rfl,rfl,SqT.of (s _ _ h1),SqT.of (s _ _ h3),λw=>?_,q74 (by rw[<- h2.len,<- h4.len];exact z),λw=>?_,λ_ p hp=>?_⟩))
     ·have:=h2.len
      rw[w]at this;cases this
     ·have:=h4.len
      rw[w]at this;have ey:ys=[]:=xM this;subst ey;rw[yu]at k;exact k _ G H (Ext.refl s) ⟨a,vs,rfl,h1,h2⟩
     ·have x2:=Ext.lay s hp (.tup (vs++us))
      exact k _ _ _ x2 ⟨p,_,rfl,qe,(h2.app h4).mono x2.gg⟩
    ·rw[vH z]at e;cases e
  | _=>cases xs <;> cases e
 | _=>cases e
def q1I(ha:XV X a f)(hb:XV X b g):XE X (.BinOp a .Add b pos) (Yq X5 f g):=q4C qcF qeg ha hb
def q4w(ha:XV X a f)(hb:XV X b g):XE X (.BinOp a .Sub b pos) (Yq zB5 f g):=q4C qfZ (q4h λ_ _ _=>rfl) ha hb
def mulOk{i j:Int}(h:zCp i j=true):CMul i j:=by
 unfold zCp at h;rw[Bool.or_eq_true,zc,zc,decide_eq_true_iff,decide_eq_true_iff,decide_eq_true_iff,decide_eq_true_iff]at h;exact h
def divOk{i j:Int}(h:cDiv i j=true):CDiv i j:=by
 unfold cDiv at h;rw[zc,decide_eq_true_iff,decide_eq_true_iff]at h;exact h
def powOk{i j:Int}(h:cPow i j=true):CPow i j:=by
 unfold cPow at h;rw[zc,zc,decide_eq_true_iff,decide_eq_true_iff,decide_eq_true_iff]at h;exact⟨h.1.1,h.1.2,h.2⟩
def q9j(ha:XV X a f)(hb:XV X b g):XE X (.BinOp a .Mult b pos) (Yq zCA f g):=q4C qf8 (q6s (λ_ _ h=>mulOk h) λ_ _ _=>rfl) ha hb
def q1N(ha:XV X a f)(hb:XV X b g):XE X (.BinOp a .FloorDiv b pos) (Yq oDiv f g):=q4C qe0 (q6s (λ_ _ h=>divOk h) λ_ _ _=>rfl) ha hb
def q0R(ha:XV X a f)(hb:XV X b g):XE X (.BinOp a .Mod b pos) (Yq oMod f g):=q4C qfW (q6s (λ_ _ h=>of_decide_eq_true h) λ_ _ _=>rfl) ha hb
def q7i(ha:XV X a f)(hb:XV X b g):XE X (.BinOp a .Pow b pos) (Yq zCe f g):=q4C qgb (q6s (λ_ _ h=>powOk h) λ_ _ _=>rfl) ha hb
noncomputable def oNeg:D->Option R
 | .int i=>↥(.int (-i))
 | _=>none
noncomputable def zB2(f:FD):FE:=λω=>(f ω).bind oNeg
def q4s(ha:XV X a f):XE X (.UnaryOp .USub a pos) (zB2 f):=by
 obtain⟨t,h1,h2⟩:=ha;refine⟨_,qgt qfr h1,λG0 H0 G ω σ H d Q ow e k=>?_⟩;obtain⟨x,q,e⟩:=bnd e;refine h2 G0 H0 G ω σ H x _ ow q λv G1 H1 x1 y1=>?_;cases x with
 | int i=>cases e;cases y1.int;exact⟨i,rfl,k _ G1 H1 x1 rfl⟩
 | _=>cases e
def qb5(ha:XV X a f)(hb:XV X b g):XE X (.Compare a [.Lt] [b] pos) (Yq oLt f g):=q6f qdQ (q4h λ_ _ _=>rfl) ha hb (WJ _)
def qaP(ha:XV X a f)(hb:XV X b g):XE X (.Compare a [.LtE] [b] pos) (Yq oLe f g):=q6f qgo (q4h λ_ _ _=>rfl) ha hb (WJ _)
def qgw(ha:XV X a f)(hb:XV X b g):XE X (.Compare a [.GtE] [b] pos) (Yq oGe f g):=q6f qgu (q4h λ_ _ _=>rfl) ha hb (WJ _)
def qdL(ha:XV X a f)(hb:XV X b g):XT X (.Compare a [.Lt] [b] pos) (tOf (Yq oLt f g)):=q5Q qdQ (q4h λ_ _ _=>rfl) ha hb (WJ _)
end
mutual
noncomputable def D.py:D->PyData
 | .non=>.none
 | .bl b=>.bool b
 | .int i=>.int i
 | .str x=>.str x
 | .lst xs=>.list (D.pys xs)
 | .tup xs=>.tuple (D.pys xs)
 | .scr ns=>.list (ns.map PyData.int)
 | .exc _=>.dict []
 | .dic _ _=>.dict []
noncomputable def D.pys:List D->List PyData
 | []=>[]
 | d::ds=>d.py::D.pys ds
end
section
variable{X:Cx}{pins:List (vC×Obj)}{σ:St}{H:Hp}{s:vB}
theorem zAA{h:vf}:∀{ns:List Int}{us:List Value},Y3 (ns.map V.int) us->∃as,ReadsAll h us (ns.map PyData.int) as
 | [],_,r=>by cases r;exact⟨_,.nil⟩
 | n::ns,_,r=>by
  rw[zO]at r;cases r with
  | cons r1 r2=>
   obtain⟨t,rfl⟩:=r1;obtain⟨as,q⟩:=zAA (h:=h) r2;exact⟨_,.cons (.int n t) q⟩
mutual
theorem X9(I:Inv X pins σ H s):∀{d:D}{v:V}{u:Value},d.py.canLay0=true->Rep X.K H d v->RelV v u->∃as,Reads s.heap u d.py as
 | .non,_,_,_,h,r=>by cases (show _=V.non from h);cases r;exact⟨_,.none⟩
 | .bl b,_,_,_,h,r=>by cases (show _=V.bl b from h);cases r;exact⟨_,.bool b⟩
 | .int i,_,_,_,h,r=>by cases (show _=V.int i from h);obtain⟨t,rfl⟩:=r;exact⟨_,.int i t⟩
 | .str x,_,_,_,h,r=>by cases (show _=V.str x from h);obtain⟨t,rfl⟩:=r;exact⟨_,.str x t⟩
 | .lst ds,_,_,hc,⟨a,vs,rfl,h2,h3⟩,r=>by
  cases r;obtain⟨its,n,rv,e,_⟩:=I.lst h2;obtain⟨as,q⟩:=Wb I (show PyData.canLayAll0 (D.pys ds)=true from hc) h3 rv;exact⟨_,.list e rfl rfl ⇑q⟩
 | .tup ds,_,_,hc,⟨a,vs,rfl,h2,h3⟩,r=>by
  cases r;obtain⟨its,rv,⟨o,e,c,n,dd⟩,_⟩:=I.tuple (SqT.of h2);obtain⟨as,q⟩:=Wb I (show PyData.canLayAll0 (D.pys ds)=true from hc) h3 rv;exact⟨_,.tuple e c dd ⇑q⟩
 | .exc _,_,_,hc,_,_=>by cases hc
 | .dic _ _,_,_,hc,_,_=>by cases hc
 | .scr ns,_,_,_,⟨a,rfl,h2⟩,r=>by
  cases r;obtain⟨its,rv,pl,_⟩:=I.list h2;obtain⟨o,e,c,n,dd⟩:=pl.isList;obtain⟨as,q⟩:=zAA (h:=s.heap) rv;exact⟨_,.list e c dd ⇑q⟩
theorem Wb(I:Inv X pins σ H s):∀{ds:List D}{vs:List V}{us:List Value},PyData.canLayAll0 (D.pys ds)=true->Yt X.K H ds vs->Y3 vs us->∃as,ReadsAll s.heap us (D.pys ds) as
 | [],_,_,_,h,r=>by cases (show _=[]from h);cases r;exact⟨_,.nil⟩
 | d::ds,_,_,hc,⟨v,vr,h1,h2,h3⟩,r=>by
  have hc':=wJ.mp (show (d.py.canLay0&&PyData.canLayAll0 (D.pys ds))=true from hc);subst h1;cases r with
  | cons r1 r2=>
   obtain⟨as,q1⟩:=X9 I hc'.1 h2 r1;obtain⟨bs,q2⟩:=Wb I hc'.2 h3 r2;exact⟨_,.cons q1 q2⟩
end
end
noncomputable def shp(d:D):Bool:=SeqAt.shaped d.py
noncomputable def eqD(x y:D):Bool:=PyData.eqv x.py y.py
noncomputable def rEqD(K:zA)(neg:Bool):R2:=λx y H Q=>∃d e,Rep K H d x/\Rep K H e y/\shp d=true/\shp e=true/\Q (.bl (if neg then !eqD d e else eqD d e)) H
noncomputable def oEq(neg:Bool):D->D->Option R:=λx y=>if shp x&&shp y then ↥(.bl (if neg then !eqD x y else eqD x y))else none
section
variable{X:Cx}{a b:vW}{pos:Pos}{f g:FD}
def zCa(hu:X.A.units+64<ua):OpR X (uJ .Eq) (rEqD X.K false):=by
 intro pins s σ H x y v u Q I rx ry h;obtain⟨d,e,h1,h2,h3,h4,q⟩:=h;obtain⟨as,ra⟩:=X9 I (SeqAt.canLay_of_shaped h3) h1 rx;obtain⟨bs,rb⟩:=X9 I (SeqAt.canLay_of_shaped h4) h2 ry;exact SeqAt.compareEq_shaped ra rb h3 h4 hu ⟨.bl _,H,I,rfl,q⟩
def zCZ(hu:X.A.units+64<ua):OpR X (uJ .NotEq) (rEqD X.K true):=by
 intro pins s σ H x y v u Q I rx ry h;obtain⟨d,e,h1,h2,h3,h4,q⟩:=h;obtain⟨as,ra⟩:=X9 I (SeqAt.canLay_of_shaped h3) h1 rx;obtain⟨bs,rb⟩:=X9 I (SeqAt.canLay_of_shaped h4) h2 ry;exact SeqAt.compareNe_shaped ra rb h3 h4 hu ⟨.bl _,H,I,rfl,q⟩
def zBC{K:zA}{neg:Bool}:OpV K (rEqD K neg) (oEq neg):=by
 intro G H x y d v u Q s e hx hy k;unfold oEq at e
 by_cases z:(shp x&&shp y)=true
 ·rw[vG z]at e
  cases e;rw[zc]at z;exact⟨x,y,hx.rep s,hy.rep s,z.1,z.2,k _ G H (Ext.refl s) rfl⟩
 ·rw[vH z]at e;cases e
def zB6(hu:X.A.units+64<ua)(ha:XV X a f)(hb:XV X b g):XE X (.Compare a [.Eq] [b] pos) (Yq (oEq false) f g):=q6f (zCa hu) zBC ha hb (WJ _)
def xe_ne(hu:X.A.units+64<ua)(ha:XV X a f)(hb:XV X b g):XE X (.Compare a [.NotEq] [b] pos) (Yq (oEq true) f g):=q6f (zCZ hu) zBC ha hb (WJ _)
def WA(hu:X.A.units+64<ua)(ha:XV X a f)(hb:XV X b g):XT X (.Compare a [.Eq] [b] pos) (tOf (Yq (oEq false) f g)):=q5Q (zCa hu) zBC ha hb (WJ _)
def Wc(hu:X.A.units+64<ua)(ha:XV X a f)(hb:XV X b g):XT X (.Compare a [.NotEq] [b] pos) (tOf (Yq (oEq true) f g)):=q5Q (zCZ hu) zBC ha hb (WJ _)
noncomputable def Xp:D->Bool
 | .non=>true
 | .bl _=>true
 | .int _=>true
 | .str _=>true
 | _=>false
noncomputable def D.v:D->V
 | .bl b=>.bl b
 | .int i=>.int i
 | .str x=>.str x
 | _=>.non
def zAN{K:zA}{H:Hp}{d:D}{v:V}(h:Rep K H d v)(f:Xp d=true):v=d.v/\W6 v=true:=by
 cases d with
 | non=>cases (show v=V.non from h);exact⟨rfl,rfl⟩
 | bl b=>cases (show v=V.bl b from h);exact⟨rfl,rfl⟩
 | int b=>cases (show v=V.int b from h);exact⟨rfl,rfl⟩
 | str b=>cases (show v=V.str b from h);exact⟨rfl,rfl⟩
 | _=>cases f
theorem Wx{K:zA}{H:Hp}:∀{ds:List D}{vs:List V},Yt K H ds vs->ds.all Xp=true->vs=ds.map D.v/\vs.all W6=true
 | [],_,h,_=>by cases (show _=[]from h);exact⟨rfl,rfl⟩
 | d::ds,_,⟨v,r,h1,h2,h3⟩,f=>by
  rw[xv,zc]at f;obtain⟨e1,e2⟩:=zAN h2 f.1;obtain⟨e3,e4⟩:=Wx h3 f.2;subst h1;refine⟨by rw[zO,<- e1,<- e3],by rw[xv,e2,e4];rfl⟩
noncomputable def inD(x:D)(ds:List D):Bool:=inV x.v (ds.map D.v)
noncomputable def oIn(neg:Bool):D->D->Option R
 | x,.lst ys=>if Xp x&&ys.all Xp then ↥(.bl (if neg then !inD x ys else inD x ys))else none
 | x,.tup ys=>if Xp x&&ys.all Xp then ↥(.bl (if neg then !inD x ys else inD x ys))else none
 | _,_=>none
def zCX{K:zA}{neg:Bool}:OpV K (rIn K neg) (oIn neg):=by
 intro G H x y d v u Q s e hx hy k;cases y with
 | lst ys=>
  unfold oIn at e
  dsimp only at e
  by_cases z:(Xp x&&ys.all Xp)=true
  ·rw[vG z]at e
   cases e;rw[zc]at z;obtain⟨p,vs,rfl,h1,h2⟩:=hy.lst s;obtain⟨e1,e2⟩:=zAN (hx.rep s) z.1;obtain⟨e3,e4⟩:=Wx h2 z.2;refine⟨p,vs,rfl,.inl (SqL.of h1),e2,e4,?_⟩;rw[e1,e3];exact k _ G H (Ext.refl s) rfl
  ·rw[vH z]at e;cases e
 | tup ys=>
  unfold oIn at e
  dsimp only at e
  by_cases z:(Xp x&&ys.all Xp)=true
  ·rw[vG z]at e
   cases e;rw[zc]at z;obtain⟨p,vs,rfl,h1,h2⟩:=hy.tup;obtain⟨e1,e2⟩:=zAN (hx.rep s) z.1;obtain⟨e3,e4⟩:=Wx h2 z.2;refine⟨p,vs,rfl,.inr (SqT.of (s _ _ h1)),e2,e4,?_⟩;rw[e1,e3];exact k _ G H (Ext.refl s) rfl
  ·rw[vH z]at e;cases e
 | _=>cases x <;> cases e
def xt_in(ha:XV X a f)(hb:XV X b g)(hm:vz .In b=false:=by with_unfolding_all rfl):XT X (.Compare a [.In] [b] pos) (tOf (Yq (oIn false) f g)):=q5Q qcG zCX ha hb hm
def zB4(ha:XV X a f)(hb:XV X b g)(hm:vz .NotIn b=false:=by with_unfolding_all rfl):XT X (.Compare a [.NotIn] [b] pos) (tOf (Yq (oIn true) f g)):=q5Q q9o zCX ha hb hm
noncomputable def oIx:D->D->Option R
 | .lst ds,.int i=>(atI ds i).map R.sh
 | .tup ds,.int i=>(atI ds i).map R.sh
 | .scr ns,.int i=>(atI ns i).map λn=>.sh (.int n)
 | _,_=>none
def zA7{K:zA}{H:Hp}{ds:List D}{vs:List V}{i:Int}{d:D}(h:Yt K H ds vs)(e:atI ds i=some d):∃v,atI vs i=some v/\Rep K H d v:=by
 unfold atI at e ⊢;rw[<- h.len];cases q:ixN ds.length i with
 | none=>rw[q]at e;cases e
 | some j=>
  rw[q]at e;obtain⟨v,e1,e2⟩:=h.get e;exact⟨v,e1,e2⟩
def zCF{ns:List Int}{i n:Int}(e:atI ns i=some n):atI (ns.map V.int) i=some (.int n):=by
 unfold atI at e ⊢;rw[zB];cases q:ixN ns.length i with
 | none=>rw[q]at e;cases e
 | some j=>
  rw[q]at e;have e':ns[j]?=some n:=e;show (ns.map V.int)[j]?=_;rw[zh,e'];rfl
def opv_ix{K:zA}:OpV K (rIx K) oIx:=by
 intro G H x y d v u Q s e hx hy k;cases y with
 | int i=>
  cases hy.int;cases x with
  | lst ds=>
   obtain⟨d',q,e'⟩:=mpd e;subst e';obtain⟨p,vs,rfl,h1,h2⟩:=hx.lst s;obtain⟨w,e1,e2⟩:=zA7 h2 q;exact .inl ⟨p,vs,i,w,rfl,rfl,SqL.of h1,e1,k _ G H (Ext.refl s) e2⟩
  | tup ds=>
   obtain⟨d',q,e'⟩:=mpd e;subst e';obtain⟨p,vs,rfl,h1,h2⟩:=hx.tup;obtain⟨w,e1,e2⟩:=zA7 h2 q;exact .inr (.inl ⟨p,vs,i,w,rfl,rfl,SqT.of (s _ _ h1),e1,k _ G H (Ext.refl s) e2⟩)
  | scr ns=>
   obtain⟨n,q,e'⟩:=mpd e;subst e';obtain⟨p,rfl,h1⟩:=hx.scr;exact .inl ⟨p,_,i,.int n,rfl,rfl,s.seq h1,zCF q,k _ G H (Ext.refl s) rfl⟩
  | _=>cases e
 | _=>cases x <;> cases e
def Yp(ha:XV X a f)(hb:XV X b g)(hs:zAw b:=by exact λ_ _=>rfl):XE X (.Subscript a b pos) (Yq oIx f g):=qge qfB opv_ix ha hb hs
noncomputable abbrev FO:=WSt->Option (Option Int)
def SimO(K:zA)(t:TO)(f:FO):Prop:=∀G0 H0 G ω σ H o(Q:Option Int->Hp->Prop),Own K G0 H0 G ω σ H->f ω=some o->(∀G' H',Ext G H G' H'->Q o H')->t σ H Q
def XO(X:Cx)(e:Option vW)(f:FO):Prop:=∃t,PO X e t/\SimO X.K t f
noncomputable def pNo:FO:=λ_=>some none
noncomputable def pAt(f:FD):FO:=λω=>(f ω).bind λd=>match d with|.int i=>some (some i)|_=>none
def XJ:XO X none pNo:=⟨_,qeR,λG0 H0 G ω σ H o Q ow e k=>by cases e;exact k G H (Ext.refl ow.gh)⟩
def XB(h:XV X a f):XO X (some a) (pAt f):=by
 obtain⟨t,h1,h2⟩:=h;refine⟨_,qem h1,λG0 H0 G ω σ H o Q ow e k=>?_⟩;obtain⟨d,q,e⟩:=bnd e;refine h2 G0 H0 G ω σ H d _ ow q λv G1 H1 x1 y1=>?_;cases d with
 | int i=>cases e;cases y1.int;exact⟨i,rfl,k G1 H1 x1⟩
 | _=>cases e
noncomputable def cutD{α:Type}(xs:List α)(lo hi:Option Int):List α:=(xs.drop (HT.sIx xs.length 0 lo)).take (HT.sIx xs.length xs.length hi-HT.sIx xs.length 0 lo)
def zA1{K:zA}{H:Hp}{ds:List D}{vs:List V}(h:Yt K H ds vs)(lo hi:Option Int):Yt K H (cutD ds lo hi) (zBk vs lo hi):=by
 unfold cutD zBk;rw[h.len];exact(h.drop _).take _
def zCP(ns:List Int)(lo hi:Option Int):zBk (ns.map V.int) lo hi=(cutD ns lo hi).map V.int:=by
 unfold cutD zBk;rw[zB,Yd,Zp]
noncomputable def oSl:D->Option Int->Option Int->Option R
 | .lst ds,lo,hi=>some (.fr (cutD ds lo hi))
 | .scr ns,lo,hi=>some (.fr ((cutD ns lo hi).map D.int))
 | .tup ds,lo,hi=>if HT.sIx ds.length 0 lo=0/\HT.sIx ds.length ds.length hi=ds.length then ↥(.tup ds)else ↥(.tup (cutD ds lo hi))
 | _,_,_=>none
noncomputable def fSl(f:FD)(l h:FO):FE:=λω=>(f ω).bind λd=>(l ω).bind λlo=>(h ω).bind λhi=>oSl d lo hi
def Y8{lo hi:Option vW}{l h:FO}{p2:Pos}(ha:XV X a f)(hl:XO X lo l)(hh:XO X hi h):XE X (.Subscript a (.Slice lo hi none p2) pos) (fSl f l h):=by
 obtain⟨t,h1,h2⟩:=ha;obtain⟨tl,h3,h4⟩:=hl;obtain⟨th,h5,h6⟩:=hh;refine⟨_,qdr (qeD.or (qfV.or qdF)) h1 h3 h5,λG0 H0 G ω σ H r Q ow e k=>?_⟩;obtain⟨d,q,e⟩:=bnd e;obtain⟨lo',q2,e⟩:=bnd e;obtain⟨hi',q3,e⟩:=bnd e;refine h2 G0 H0 G ω σ H d _ ow q λv G1 H1 x1 y1=>?_;refine h4 G0 H0 G1 ω σ H1 lo' _ (ow.keep x1) q2 λG2 H2 x2=>?_;refine h6 G0 H0 G2 ω σ H2 hi' _ ((ow.keep x1).keep x2) q3 λG3 H3 x3=>?_;have y3:=(y1.keep x2).keep x3;have x13:=(x1.trans x2).trans x3;cases d with
 | lst ds=>
  cases e;obtain⟨p,vs,rfl,h1,h2⟩:=y3.lst x3.gh;refine .inl ⟨p,vs,rfl,SqL.of h1,λn hn=>?_⟩;exact k _ G3 _ (x13.trans (Ext.hide x3.gh hn _)) ⟨n,_,rfl,x13.hh.free hn,x3.gh.free hn,qe,zA1 h2 _ _⟩
 | scr ns=>
  cases e;obtain⟨p,rfl,h1⟩:=y3.scr;refine .inl ⟨p,_,rfl,x3.gh.seq h1,λn hn=>?_⟩;refine k _ G3 _ (x13.trans (Ext.hide x3.gh hn _)) ⟨n,_,rfl,x13.hh.free hn,x3.gh.free hn,qe,?_⟩;rw[zCP];exact Yt.ints _
 | tup ds=>
  unfold oSl at e
  dsimp only at e
  obtain⟨p,vs,rfl,h1,h2⟩:=y3.tup
  by_cases z:HT.sIx ds.length 0 lo'=0/\HT.sIx ds.length ds.length hi'=ds.length
  ·rw[vG z]at e
   cases e;exact .inr (.inr ⟨p,vs,rfl,SqT.of (x3.gh _ _ h1),by rw[<- h2.len];exact z,k _ G3 H3 x13 ⟨p,vs,rfl,h1,h2⟩⟩)
  ·rw[vH z]at e
   cases e;refine .inr (.inl ⟨p,vs,rfl,SqT.of (x3.gh _ _ h1),by rw[<- h2.len];exact z,λn hn=>?_⟩);have x4:=Ext.lay x3.gh hn (.tup (zBk vs lo' hi'));exact k _ _ _ (x13.trans x4) ⟨n,_,rfl,qe,(zA1 h2 _ _).mono x4.gg⟩
 | _=>cases e
end
section
variable{X:Cx}{a b c:vW}{pos:Pos}{rest:List vW}{f g:FT}
noncomputable def zCE(f g:FT):FT:=λω=>(f ω).bind λc=>if c=true then some true else g ω
noncomputable def X4(f:FT):FT:=λω=>(f ω).map (!·)
def qeJ{t u:TT}(h:zBi X.K t f)(h':zBi X.K u g):zBi X.K (tOr t u) (zCE f g):=by
 intro G0 H0 G ω σ H b Q o e k;obtain⟨c,q,e⟩:=bnd e;refine h G0 H0 G ω σ H c _ o q λG1 H1 x1=>?_;cases c with
 | true=>cases e;exact k G1 H1 x1
 | false=>exact h' G0 H0 G1 ω σ H1 b Q (o.keep x1) e λG2 H2 x2=>k G2 H2 (x1.trans x2)
def q9c(h:XT X a f):XW X (.BoolOp .Or [a] pos) f:=let ⟨t,h1,h2⟩:=h;⟨t,qcA h1,h2⟩
def q6n(h:XT X a f)(h':XW X (.BoolOp .Or (b::rest) pos) g):XW X (.BoolOp .Or (a::b::rest) pos) (zCE f g):=let ⟨_,h1,h2⟩:=h;let ⟨_,h3,h4⟩:=h';⟨_,qdN h1 h3,qeJ h2 h4⟩
def XW.toT(h:XW X a f):XT X a f:=let ⟨t,h1,h2⟩:=h;⟨t,h1.pt,h2⟩
def q2j(h:XT X a f):XT X (.UnaryOp .Not a pos) (X4 f):=by
 obtain⟨t,h1,h2⟩:=h;refine⟨_,qf9 h1,λG0 H0 G ω σ H b Q o e k=>?_⟩;obtain⟨c,q,e⟩:=mpd e;subst e;exact h2 G0 H0 G ω σ H c _ o q k
noncomputable def truD:D->Option Bool
 | .non=>some false
 | .bl b=>some b
 | .int i=>some (i != 0)
 | .lst xs=>some (!xs.isEmpty)
 | .tup xs=>some (!xs.isEmpty)
 | _=>none
noncomputable def zAT(f:FD):FT:=λω=>(f ω).bind truD
def q6D{α β:Type}{xs:List α}{ys:List β}(h:xs.length=ys.length):xs.isEmpty=ys.isEmpty:=by
 cases xs <;> cases ys <;> first|rfl|cases h
def q1H{f:FD}(h:XV X a f)(he:∀whole,sZ a X.env whole=(do let v <- whole;standAt a.pos;holding [v] (truthy v)):=by intro _;rfl):XT X a (zAT f):=by
 obtain⟨t,h1,h2⟩:=h;refine⟨_,q5i h1 he,λG0 H0 G ω σ H b Q o e k=>?_⟩;obtain⟨d,q,e⟩:=bnd e;refine h2 G0 H0 G ω σ H d _ o q λv G1 H1 x1 y1=>⟨b,?_,k G1 H1 x1⟩;cases d with
 | non=>cases e;cases y1.non;rfl
 | bl c=>cases e;cases y1.bl;rfl
 | int i=>cases e;cases y1.int;rfl
 | lst xs=>
  cases e;obtain⟨p,vs,rfl,h1,h2⟩:=y1.lst x1.gh;exact .inl ⟨vs,SqL.of h1,by rw[q6D h2.len]⟩
 | tup xs=>
  cases e;obtain⟨p,vs,rfl,h1,h2⟩:=y1.tup;exact .inr (.inl ⟨vs,SqT.of (x1.gh _ _ h1),by rw[q6D h2.len]⟩)
 | _=>cases e
noncomputable def blOf:D->Option Bool
 | .bl b=>some b
 | _=>none
noncomputable def zAl(f g:FD):FD:=λω=>(f ω).bind λd=>(blOf d).bind λc=>if c=true then g ω else some (.bl false)
noncomputable def vOr(f g:FD):FD:=λω=>(f ω).bind λd=>(blOf d).bind λc=>if c=true then some (.bl true)else g ω
noncomputable def vNot(f:FD):FD:=λω=>(f ω).bind λd=>(blOf d).map λc=>.bl (!c)
variable{fa fb:FD}
def q2U{op}(h:XD X a fa):XD X (.BoolOp op [a] pos) fa:=let ⟨t,h1,h2⟩:=h;⟨t,qfy h1,h2⟩
def q2q(h:XD X a fa)(h':XD X (.BoolOp .And (b::rest) pos) fb):XD X (.BoolOp .And (a::b::rest) pos) (zAl fa fb):=by
 obtain⟨t,h1,h2⟩:=h;obtain⟨u,h3,h4⟩:=h';refine⟨_,qfM h1 h3,λG0 H0 G ω σ H d Q o e k=>?_⟩;obtain⟨x,q,e⟩:=bnd e;obtain⟨c,q2,e2⟩:=bnd e;clear e;refine h2 G0 H0 G ω σ H x _ o q λv G1 H1 x1 y1=>?_;cases x with
 | bl z=>
  cases q2;cases (show v=V.bl c from y1);refine⟨c,rfl,?_⟩;cases c with
  | true=>rw[vG rfl]at e2 ⊢;exact h4 G0 H0 G1 ω σ H1 d Q (o.keep x1) e2 λv G2 H2 x2 y2=>k v G2 H2 (x1.trans x2) y2
  | false=>cases e2;exact k _ G1 H1 x1 rfl
 | _=>cases q2
def qgk(h:XD X a fa)(h':XD X (.BoolOp .Or (b::rest) pos) fb):XD X (.BoolOp .Or (a::b::rest) pos) (vOr fa fb):=by
 obtain⟨t,h1,h2⟩:=h;obtain⟨u,h3,h4⟩:=h';refine⟨_,qgl h1 h3,λG0 H0 G ω σ H d Q o e k=>?_⟩;obtain⟨x,q,e⟩:=bnd e;obtain⟨c,q2,e2⟩:=bnd e;clear e;refine h2 G0 H0 G ω σ H x _ o q λv G1 H1 x1 y1=>?_;cases x with
 | bl z=>
  cases q2;cases (show v=V.bl c from y1);refine⟨c,rfl,?_⟩;cases c with
  | true=>cases e2;exact k _ G1 H1 x1 rfl
  | false=>exact h4 G0 H0 G1 ω σ H1 d Q (o.keep x1) e2 λv G2 H2 x2 y2=>k v G2 H2 (x1.trans x2) y2
 | _=>cases q2
def qfj(h:XD X a fa):XD X (.UnaryOp .Not a pos) (vNot fa):=by
 obtain⟨t,h1,h2⟩:=h;refine⟨_,qg8 h1,λG0 H0 G ω σ H d Q o e k=>?_⟩;obtain⟨x,q,e⟩:=bnd e;obtain⟨c,q2,e⟩:=mpd e;subst e;refine h2 G0 H0 G ω σ H x _ o q λv G1 H1 x1 y1=>?_;cases x with
 | bl z=>cases q2;cases (show v=V.bl c from y1);exact⟨c,rfl,k _ G1 H1 x1 rfl⟩
 | _=>cases q2
def zCV.after{K:zA}{G H G1 H1 G2 H2:Hp}{r:R}{v:V}(x:Ext G H G1 H1)(y:zCV K H1 G2 H2 r v):zCV K H G2 H2 r v:=by
 cases r with
 | sh d=>exact y
 | fr ds=>obtain⟨l,vs,e1,e2,e3⟩:=y;exact⟨l,vs,e1,x.hh.free e2,e3⟩
 | vw ds=>exact y
end
def zAW(K:zA)(r:List V->Hp->VK->Prop)(op:List D->Option R):Prop:=∀G H ds vs d(Q:VK),Y1 G H->op ds=some d->VwA K G H ds vs ->
 (∀w G' H',Ext G H G' H'->zCV K H G' H' d w->Q w H')->r vs H Q
noncomputable def WE(op:List D->Option R)(g:FA):FE:=λω=>(g ω).bind op
section
variable{X:Cx}{e:vW}{es:List vW}{x:Str}{p pos:Pos}{r:List V->Hp->VK->Prop}{op:List D->Option R}{g:FA}{id T:String}
def qa4{t:TA}(hd:zAW X.K r op)(h:SimVA X.K t g):zC7 X.K (tCB r t) (WE op g):=by
 intro G0 H0 G ω σ H d Q o e k;obtain⟨ds,q,e⟩:=bnd e;refine h G0 H0 G ω σ H ds _ o q λvs G1 H1 x1 y1=>?_;exact hd G1 H1 ds vs d Q x1.gh e y1 λw G2 H2 x2 y2=>k w G2 H2 (x1.trans x2) (y2.after x1)
def q0C(hc:Xn X (.builtin id) r)(hd:zAW X.K r op)(hg:Gl X x)(hm:X.mg x=none)(hv:ve x=some (.builtin id))(ha:XVA X (e::es) g)(hn:x ≠ "__name__" := by decide)(hdb:(x==("__debug__" : Str))=false:=by decide)(he:vJ (e::es) X.env=(false,eval e X.env)::vJ es X.env:=by rfl)(hpl:(vp pos (vJ es X.env)).any (·.1)=false:=by rfl):XE X (.Call (.Name x p) (e::es) [] pos) (WE op g):=by
 obtain⟨t,h1,h2⟩:=ha;exact⟨_,q2J hc hg hm hv h1 hn hdb he hpl,qa4 hd h2⟩
def qgf(hc:Xn X (.type T) r)(hd:zAW X.K r op)(hg:Gl X x)(hm:X.mg x=none)(hv:ve x=some (.type T))(ha:XVA X (e::es) g)(hn:x ≠ "__name__" := by decide)(hdb:(x==("__debug__" : Str))=false:=by decide)(he:vJ (e::es) X.env=(false,eval e X.env)::vJ es X.env:=by rfl)(hpl:(vp pos (vJ es X.env)).any (·.1)=false:=by rfl):XE X (.Call (.Name x p) (e::es) [] pos) (WE op g):=by
 obtain⟨t,h1,h2⟩:=ha;exact⟨_,q7Z hc hg hm hv h1 hn hdb he hpl,qa4 hd h2⟩
def VwA.one{K:zA}{G H:Hp}{d:D}{vs:List V}(h:VwA K G H [d] vs):∃v,vs=[v]/\Vw K G H d v:=by
 obtain⟨v,r,h1,h2,h3⟩:=h;cases (show r=[]from h3);exact⟨v,h1,h2⟩
noncomputable def zAY:List D->Option R
 | [.lst ds]=>↥(.int ds.length)
 | [.tup ds]=>↥(.int ds.length)
 | [.scr ns]=>↥(.int ns.length)
 | _=>none
def q23{K:zA}:zAW K (λxs H Q=>∃p ys,xs=[.ref p]/\(SqL K H p ys\/SqT K H p ys)/\Q (.int ys.length) H) zAY:=by
 intro G H ds vs d Q s e hv k
 match ds,e with
 | [.lst ds],e=>
  cases e;obtain⟨v,rfl,h⟩:=hv.one;obtain⟨p,us,rfl,h1,h2⟩:=h.lst s;exact⟨p,us,rfl,.inl (SqL.of h1),k _ G H (Ext.refl s) (by show V.int _=V.int _;rw[h2.len])⟩
 | [.tup ds],e=>
  cases e;obtain⟨v,rfl,h⟩:=hv.one;obtain⟨p,us,rfl,h1,h2⟩:=h.tup;exact⟨p,us,rfl,.inr (SqT.of (s _ _ h1)),k _ G H (Ext.refl s) (by show V.int _=V.int _;rw[h2.len])⟩
 | [.scr ns],e=>
  cases e;obtain⟨v,rfl,h⟩:=hv.one;obtain⟨p,rfl,h1⟩:=h.scr;exact⟨p,_,rfl,.inl (s.seq h1),k _ G H (Ext.refl s) (by show V.int _=V.int _;rw[zB])⟩
noncomputable def zBe:List D->Option R
 | [.lst ds]=>↥(.tup ds)
 | [.tup ds]=>↥(.tup ds)
 | _=>none
def qd8{K:zA}:zAW K (λxs H Q=>∃p ys,xs=[.ref p]/\((SqL K H p ys/\∀l,H l=none->Q (.ref l) (upd H l (.tup ys)))\/(SqT K H p ys/\Q (.ref p) H))) zBe:=by
 intro G H ds vs d Q s e hv k
 match ds,e with
 | [.lst ds],e=>
  cases e;obtain⟨v,rfl,h⟩:=hv.one;obtain⟨p,us,rfl,h1,h2⟩:=h.lst s;refine⟨p,us,rfl,.inl ⟨SqL.of h1,λl hl=>?_⟩⟩;have x2:=Ext.lay s hl (.tup us);exact k _ _ _ x2 ⟨l,us,rfl,qe,h2.mono x2.gg⟩
 | [.tup ds],e=>
  cases e;obtain⟨v,rfl,h⟩:=hv.one;obtain⟨p,us,rfl,h1,h2⟩:=h.tup;exact⟨p,us,rfl,.inr ⟨SqT.of (s _ _ h1),k _ G H (Ext.refl s) ⟨p,us,rfl,h1,h2⟩⟩⟩
noncomputable def allB:List D->Option Bool
 | []=>some true
 | .bl b::r=>(allB r).map λc=>b&&c
 | _=>none
noncomputable def zB0:List D->Option R
 | [.lst ds]=>(allB ds).map λb=>.sh (.bl b)
 | _=>none
noncomputable def zC9:List D->Option Int
 | []=>some 0
 | .int i::r=>(zC9 r).map λc=>i+c
 | _=>none
noncomputable def bSum:List D->Option R
 | [.lst ds]=>(zC9 ds).map λb=>.sh (.int b)
 | _=>none
end
def rAll:List V->Hp->VK->Prop:=λxs H Q=>∃(p:vC) (bs:List Bool),xs=[.ref p]/\H p=some (.lst (bs.map V.bl))/\Q (.bl (bs.all id)) H
def rSum:List V->Hp->VK->Prop:=λxs H Q=>∃(p:vC) (ns:List Int),xs=[.ref p]/\H p=some (.lst (ns.map V.int))/\Q (.int ns.sum) H
section
variable{X:Cx}
theorem qas:∀{bs:List Bool}{us:List Value},Y3 (bs.map V.bl) us->us=bs.map Value.bool
 | [],_,r=>by cases r;rfl
 | b::bs,_,r=>by
  rw[zO]at r;cases r with
  | cons r1 r2=>cases r1;rw[qas r2];rfl
def qcc{bs:List Bool}:(ya bs.length).all (λi=>bs.getD i false)=bs.all id:=by
 induction bs with
 | nil=>rfl
 | cons b r ih=>
  rw[zC,ZR,xv,wN,xv];have e:((λi=>(b::r).getD i false) ∘ Nat.succ)=λi=>r.getD i false:=by funext i;rfl
  rw[e,ih];rfl
def q4G(hc:X.calm=true):Xn X (.builtin "all") rAll:=by
 intro pins s σ H xs us Q I r h;obtain⟨p,bs,rfl,hp,q⟩:=h;obtain⟨u,rfl,rx⟩:=vals1 r;cases rx;obtain⟨its,n,rv,e,hz⟩:=I.lst hp;have ei:=qas rv;have hlt:p<s.heap.objs.size:=zK e;refine call_all_walk (uh (items:=its.toArray) ⟨_,e,rfl,n,rfl⟩ ?_);refine⟨s.heap.objs.size,_,_,its.toArray.size,_,_,λi=>bs.getD i false,rfl,Walks.list (by first|exact I.ok.hd hc|(show X.A.handled=none;exact I.ok.hd hc)) _ p (zo hlt) its.toArray,⟨⟨_,zP _ rfl,rfl,rfl⟩,⟨_,zE _ e,rfl,n,rfl⟩⟩,λi v s' Q' E' hv hq=>?_,λh' tk hk=>?_⟩
 ·have hv':its[i]?=some v:=by simpa using hv
  rw[ei,zh]at hv';cases eb:bs[i]? with
  | none=>rw[eb]at hv';cases hv'
  | some b=>
   rw[eb]at hv';cases hv';have:bs.getD i false=b:=by rw[zY,eb];rfl
   have hq':Q' b s':=by rw[<- this];exact hq
   exact uB hq'
 ·have hl:its.toArray.size=bs.length:=by rw[zM,ei,zB]
  rw[hl,qcc];exact⟨.bl _,H,I.kept (λb o z=>hk b o (λhm=>by
   have:b=s.heap.objs.size:=by simpa using hm
   subst this;exact vK (zK z) (xY _)) (zE _ z)),rfl,q⟩
theorem qax:∀{ds:List D}{b:Bool},allB ds=some b->∃bs:List Bool,ds=bs.map D.bl/\bs.all id=b
 | [],_,e=>by cases e;exact⟨[],rfl,rfl⟩
 | .bl c::r,b,e=>by
  obtain⟨k,q,e⟩:=mpd e;obtain⟨bs,h1,h2⟩:=qax q;exact⟨c::bs,by rw[h1];rfl,by rw[xv,h2];exact e⟩
 | .non::_,_,e=>by cases e
 | .int _::_,_,e=>by cases e
 | .str _::_,_,e=>by cases e
 | .lst _::_,_,e=>by cases e
 | .tup _::_,_,e=>by cases e
 | .scr _::_,_,e=>by cases e
 | .exc _::_,_,e=>by cases e
 | .dic _ _::_,_,e=>by cases e
theorem qaJ:∀{ds:List D}{b:Int},zC9 ds=some b->∃bs:List Int,ds=bs.map D.int/\bs.sum=b
 | [],_,e=>by cases e;exact⟨[],rfl,rfl⟩
 | .int c::r,b,e=>by
  obtain⟨k,q,e⟩:=mpd e;obtain⟨bs,h1,h2⟩:=qaJ q;exact⟨c::bs,by rw[h1];rfl,by rw[wU,h2];exact e⟩
 | .non::_,_,e=>by cases e
 | .bl _::_,_,e=>by cases e
 | .str _::_,_,e=>by cases e
 | .lst _::_,_,e=>by cases e
 | .tup _::_,_,e=>by cases e
 | .scr _::_,_,e=>by cases e
 | .exc _::_,_,e=>by cases e
 | .dic _ _::_,_,e=>by cases e
theorem qaG{K:zA}{H:Hp}:∀{bs:List Bool}{vs:List V},Yt K H (bs.map D.bl) vs->vs=bs.map V.bl
 | [],_,h=>h
 | n::r,_,⟨v,vs,h1,h2,h3⟩=>by
  have:=qaG h3;have e:v=.bl n:=h2;rw[h1,this,e];rfl
def q7r{K:zA}:zAW K rAll zB0:=by
 intro G H ds vs d Q s e hv k
 match ds,e with
 | [.lst ds],e=>
  obtain⟨b,q,e⟩:=mpd e;subst e;obtain⟨bs,rfl,rfl⟩:=qax q;obtain⟨v,rfl,h⟩:=hv.one;obtain⟨p,us,rfl,h1,h2⟩:=h.lst s;exact⟨p,bs,rfl,by rw[h1,qaG h2],k _ G H (Ext.refl s) rfl⟩
theorem q7q:∀(ns:List Int)(k:Nat),k<=ns.length->preSum (λi=>ns.getD i 0) k=(ns.take k).sum
 | _,0,_=>rfl
 | ns,k+1,h=>by
  have e:ns.take (k+1)=ns.take k++[ns.getD k 0]:=by
   rw[Z5,zG ∅,zY,zG ∅];rfl
  show preSum (λi=>ns.getD i 0) k+ns.getD k 0=_;rw[q7q ns k ∅,e,List.sum_append];simp
def q8i(hc:X.calm=true):Xn X (.builtin "sum") rSum:=by
 intro pins s σ H xs us Q I r h;obtain⟨p,ns,rfl,hp,q⟩:=h;obtain⟨u,rfl,rx⟩:=vals1 r;cases rx;obtain⟨its,n,rv,e,hz⟩:=I.lst hp;have ia:=q3r rv;have hlen:its.length=ns.length:=by rw[<- rv.length,zB]
 have hlt:p<s.heap.objs.size:=zK e;refine call_sum_walkAnyS (uh (items:=its.toArray) ⟨_,e,rfl,n,rfl⟩ ?_);refine⟨s.heap.objs.size,_,_,_,its.toArray.size,_,_,λi=>ns.getD i 0,rfl,(Walks.list (by first|exact I.ok.hd hc|(show X.A.handled=none;exact I.ok.hd hc)) _ p (zo hlt) its.toArray).toS,⟨⟨_,zP _ rfl,rfl,rfl⟩,⟨_,zE _ e,rfl,n,rfl⟩⟩,λb hb=>?_,λi v hv=>PyProof.Rows.IntsAre.int_at ia i v ⇑hv,λs' t' hm=>?_⟩
 ·show b<(s.heap.push _).objs.size
  rw[xE];rcases zF.mp hb with rfl|hb
  ·exact xA _
  ·rw[zb.mp hb];exact yw hlt
 ·rw[Moved.eq_with hm]
  have es:preSum (λi=>ns.getD i 0) its.toArray.size=ns.sum:=by
   rw[zM,hlen,q7q ns _ (zL _),wg]
  rw[es];exact⟨.int _,H,I.kept (λb o z=>hm.heap b o (λhmm=>by
   have:b=s.heap.objs.size:=by simpa using hmm
   subst this;exact vK (zK z) (xY _)) (zE _ z)),⟨_,rfl⟩,q⟩
def qfK{K:zA}:zAW K rSum bSum:=by
 intro G H ds vs d Q s e hv k
 match ds,e with
 | [.lst ds],e=>
  obtain⟨b,q,e⟩:=mpd e;subst e;obtain⟨bs,rfl,rfl⟩:=qaJ q;obtain⟨v,rfl,h⟩:=hv.one;obtain⟨p,us,rfl,h1,h2⟩:=h.lst s;exact⟨p,bs,rfl,by rw[h1,h2.of_ints],k _ G H (Ext.refl s) rfl⟩
end
inductive Ty where
 | non|bl|int|str|lst|tup|dic
noncomputable def Ty.n:Ty->String
 | .non => "NoneType"
 | .bl => "bool"
 | .int => "int"
 | .str => "str"
 | .lst => "list"
 | .tup => "tuple"
 | .dic => "dict"
noncomputable def tyD:D->Ty
 | .non=>.non
 | .bl _=>.bl
 | .int _=>.int
 | .str _=>.str
 | .lst _=>.lst
 | .tup _=>.tup
 | .scr _=>.lst
 | .exc _=>.non
 | .dic _ _=>.non
noncomputable def Xq:Ty->Ty->Bool
 | .non,.non=>true
 | .bl,.bl=>true
 | .bl,.int=>true
 | .int,.int=>true
 | .str,.str=>true
 | .lst,.lst=>true
 | .tup,.tup=>true
 | _,_=>false
noncomputable def zCK(c:Ty)(f:FD):FE:=λω=>(f ω).bind λd=>match d with
 | .scr _=>none
 | .exc _=>none
 | .dic _ _=>none
 | d=>↥(.bl (Xq (tyD d) c))
def IsT(K:zA)(c:Ty):Prop:=∀t:Ty,t≠.dic->zw K (.type t.n) (.type c.n)=some (Xq t c)
def rIsi(K:zA):List V->Hp->VK->Prop:=λxs H Q=>∃x c T b,xs=[x,.ty c]/\TyOf K H x (.type T)/\zw K (.type T) (.type c)=some b/\Q (.bl b) H
section
variable{X:Cx}{a:vW}{f:FD}
def qdy:Xn X (.builtin "isinstance") (rIsi X.K):=by
 intro pins s σ H xs us Q I r h;obtain⟨x,c,T,b,rfl,ty,e,q⟩:=h;obtain⟨u1,u2,rfl,r2,r3⟩:=vals2 r;cases (show u2=Value.type c from r3);exact qcK I r2 ty e λtk=>⟨.bl b,H,I.tok tk,rfl,q⟩
def qex{K:zA}{G H:Hp}{d:D}{v:V}(h:Vw K G H d v)(s:Y1 G H)(n:∀ns,d≠.scr ns)(n':∀c,d≠.exc c)(n'':∀ks ds,d≠.dic ks ds):TyOf K H v (.type (tyD d).n):=by
 cases d with
 | non=>cases h.non;exact .non
 | bl b=>cases h.bl;exact .bl b
 | int i=>cases h.int;exact .int i
 | str x=>cases h.str;exact .str x
 | lst ds=>obtain⟨p,us,rfl,h1,_⟩:=h.lst s;exact .lst h1
 | tup ds=>obtain⟨p,us,rfl,h1,_⟩:=h.tup;exact .tup (s _ _ h1)
 | scr ns=>exact vK rfl (n ns)
 | exc c=>exact vK rfl (n' c)
 | dic ks ds=>exact vK rfl (n'' ks ds)
def qfL(d:D):tyD d≠.dic:=by cases d <;> exact λz=>nomatch z
def q4m{c:Ty}{x:Str}{p q pos:Pos}(ha:XV X a f)(hk:IsT X.K c)(hg:Gl X "isinstance")(hm:X.mg "isinstance" = none)(hgc:Gl X x)(hmc:X.mg x=none)(hvc:ve x=some (.type c.n))(hnx:x ≠ "__name__" := by decide)(hdx:(x==("__debug__" : Str))=false:=by decide)(he:vJ [a,.Name x q] X.env=(false,eval a X.env)::vJ [.Name x q] X.env:=by rfl)(he2:vJ [.Name x q] X.env=(false,eval (.Name x q) X.env)::vJ [] X.env:=by rfl)(hpl:(vp pos (vJ [.Name x q] X.env)).any (·.1)=false:=by rfl):
  XE X (.Call (.Name "isinstance" p) [a,.Name x q] [] pos) (zCK c f):=by
 obtain⟨t,h1,h2⟩:=ha;refine⟨_,q2J qdy hg hm PyProof.Rows.boot_isinstance (qo h1 (qo (qa3 hgc hmc hvc (v:=.ty c.n) rfl hnx hdx) qN he2) he) (by decide) (by decide) he hpl,λG0 H0 G ω σ H r Q o e k=>?_⟩;obtain⟨d,q,e⟩:=bnd e;refine h2 G0 H0 G ω σ H d _ o q λv G1 H1 x1 y1=>?_;have n:∀ns,d≠.scr ns:=λns z=>by subst z;cases e
 have n':∀c,d≠.exc c:=λns z=>by subst z;cases e
 have n'':∀ks ds,d≠.dic ks ds:=λks ds z=>by subst z;cases e
 have e':r=.sh (.bl (Xq (tyD d) c)):=by
  cases d <;> first|(cases e;rfl)|cases e
 subst e';exact⟨v,c.n,(tyD d).n,Xq (tyD d) c,rfl,qex y1 x1.gh n n' n'',hk _ (qfL d),k _ G1 H1 x1 rfl⟩
end
inductive Out where
 | nx|bk|ct|rt (r:O)
noncomputable abbrev FS:=WSt->Option (Out×WSt)
def zBH(K:zA)(H0 G':Hp)(E:Ends):Out->St->Hp->Prop
 | .nx,σ,H=>E.nx σ H
 | .bk,σ,H=>E.bk σ H
 | .ct,σ,H=>E.ct σ H
 | .rt r,_,H=>∀v,zCV K H0 G' H r.r v->E.rt v H
def SimS(K:zA)(t:TS)(f:FS):Prop:=∀G0 H0 G ω σ H out ω'(E:Ends),Own K G0 H0 G ω σ H->f ω=some (out,ω') ->
 (∀G' σ' H',Own K G0 H0 G' ω' σ' H'->Y1 G G'->zBH K H0.hp G' E out σ' H')->t E σ H
def XS(X:Cx)(st:vn)(f:FS):Prop:=∃t,PS X st t/\SimS X.K t f
def XSs(X:Cx)(st:List vn)(f:FS):Prop:=∃t,PSs X st t/\SimS X.K t f
noncomputable def X2:FS:=λω=>some (.nx,ω)
noncomputable def Y4(f g:FS):FS:=λω=>(f ω).bind λp=>match p.1 with
 | .nx=>g p.2
 | o=>some (o,p.2)
section
variable{X:Cx}{st:vn}{rest:List vn}{f g:FS}
def qx:XSs X [] X2:=⟨_,qe3,λG0 H0 G ω σ H out ω' E o e k=>by cases e;exact k G σ H o (Y1.refl _)⟩
def qb(h:XS X st f):XSs X [st] f:=let ⟨t,h1,h2⟩:=h;⟨t,q2F h1,h2⟩
def qa(h:XS X st f)(h':XSs X rest g):XSs X (st::rest) (Y4 f g):=by
 obtain⟨t,h1,h2⟩:=h;obtain⟨u,h3,h4⟩:=h';refine⟨_,q0k h1 h3,λG0 H0 G ω σ H out ω' E o e k=>?_⟩;obtain⟨⟨o1,ω1⟩,q,e⟩:=bnd e;refine h2 G0 H0 G ω σ H o1 ω1 _ o q λG1 σ1 H1 w1 g1=>?_;cases o1 with
 | nx=>exact h4 G0 H0 G1 ω1 σ1 H1 out ω' E w1 e λG2 σ2 H2 w2 g2=>k G2 σ2 H2 w2 (g1.trans g2)
 | bk=>cases e;exact k G1 σ1 H1 w1 g1
 | ct=>cases e;exact k G1 σ1 H1 w1 g1
 | rt r=>cases e;exact k G1 σ1 H1 w1 g1
end
section
variable{K:zA}{G0:Hp}{H0:Fr}{G:Hp}{ω:WSt}{σ:St}{H:Hp}
def qd{α:Type}{l:List α}{i j:Nat}{x y:α}(h:(l.set i x)[j]?=some y):(i=j/\i<l.length/\y=x)\/(i≠j/\l[j]?=some y):=by
 rw[List.getElem?_set]at h
 by_cases e:i=j
 ·rw[vG e]at h
  by_cases z:i<l.length
  ·rw[vG z]at h;exact .inl ⟨e,z,(z0 h).symm⟩
  ·rw[vH z]at h;cases h
 ·rw[vH e]at h;exact .inr ⟨e,h⟩
def q3C{α:Type}{l:List α}{i:Nat}{x:α}(h:i<l.length):(l.set i x)[i]?=some x:=yr h
theorem Xo.set{i:Nat}{w:Option W}{v:Option V}(o:Xo K H0 G ω σ H)(hw:∀ds,w≠some (.pw ds))(hv:∀ds,w=some (.ow ds)->∀(j:Nat)es,ω[j]?=some (some (.pw es))->v≠some (.ref (H0.pin j))):Xo K H0 G (ω.set i w) (σ.set i v) H:=by
 intro j ds hj;rcases qd hj with⟨rfl,hl,z⟩|⟨ne,z⟩
 ·exact vK z.symm (hw ds)
 ·obtain⟨vs,h1,h2,h3,h4,h5,h6,h7⟩:=o j ds z
  refine⟨vs,by rw[zH ne];exact h1,h2,h3,h4,h5,λk es hk=>?_,λk es hk sk=>?_⟩
  ·rcases qd hk with⟨rfl,hl',z'⟩|⟨ne',z'⟩
   ·exact vK z'.symm (hw es)
   ·exact h6 k es z'
  ·rcases qd hk with⟨rfl,hl',z'⟩|⟨ne',z'⟩
   ·rcases qd sk with⟨_,_,e⟩|⟨ne2,_⟩
    ·exact hv es z'.symm j ds z e.symm
    ·exact ne2 rfl
   ·rw[zH ne']at sk;exact h7 k es z' sk
def Xo.setW{i:Nat}{w:Option W}(o:Xo K H0 G ω σ H)(hw:∀ds,w≠some (.pw ds))(ho:∀ds,w≠some (.ow ds)):Xo K H0 G (ω.set i w) σ H:=by
 intro j ds hj;rcases qd hj with⟨rfl,hl,z⟩|⟨ne,z⟩
 ·exact vK z.symm (hw ds)
 ·obtain⟨vs,h1,h2,h3,h4,h5,h6,h7⟩:=o j ds z
  refine⟨vs,h1,h2,h3,h4,h5,λk es hk=>?_,λk es hk=>?_⟩
  ·rcases qd hk with⟨rfl,hl',z'⟩|⟨ne',z'⟩
   ·exact vK z'.symm (hw es)
   ·exact h6 k es z'
  ·rcases qd hk with⟨rfl,hl',z'⟩|⟨ne',z'⟩
   ·exact vK z'.symm (ho es)
   ·exact h7 k es z'
def Xo.upd{p:vC}{ob:HO}(o:Xo K H0 G ω σ H)(hp:∀(j:Nat)es,ω[j]?=some (some (.pw es))->H0.pin j≠p):Xo K H0 G ω σ (upd H p ob):=by
 intro j ds hj;obtain⟨vs,h1,h2,h3⟩:=o j ds hj;exact⟨vs,h1,by rw[qc (hp j ds hj)];exact h2,h3⟩
def Xo.grow{p:vC}{ob:HO}(o:Xo K H0 G ω σ H)(g:G p=none)(hp:∀(j:Nat)es,ω[j]?=some (some (.pw es))->H0.pin j≠p):Xo K H0 (L2.upd G p ob) ω σ H:=by
 intro j ds hj;obtain⟨vs,h1,h2,h3,h4,h5,h6⟩:=o j ds hj;exact⟨vs,h1,h2,by rw[qc (hp j ds hj)];exact h3,h4,h5.mono (Xe g _),h6⟩
def Xo.ne_ow{i:Nat}{ds:List D}{l:vC}(o:Xo K H0 G ω σ H)(hi:ω[i]?=some (some (.ow ds)))(hσ:σ[i]?=some (some (.ref l))):∀(j:Nat)es,ω[j]?=some (some (.pw es))->H0.pin j≠l:=λj es hj y=>by
 obtain⟨_,_,_,_,_,_,_,h7⟩:=o j es hj;exact h7 i ds hi (by rw[y];exact hσ)
def Xo.ne_ob{l:vC}(o:Xo K H0 G ω σ H)(h:∀vs,H l≠some (.lst vs)):∀(j:Nat)es,ω[j]?=some (some (.pw es))->H0.pin j≠l:=λj es hj y=>by
 obtain⟨vs,_,h2,_⟩:=o j es hj;exact h vs (by rw[<- y];exact h2)
def Xo.setL{i:Nat}{ds es:List D}(o:Xo K H0 G ω σ H)(hi:ω[i]?=some (some (.ow ds))):Xo K H0 G (ω.set i (some (.ow es))) σ H:=by
 intro j ds' hj;rcases qd hj with⟨rfl,hl,z⟩|⟨ne,z⟩
 ·cases z
 ·obtain⟨vs,h1,h2,h3,h4,h5,h6,h7⟩:=o j ds' z
  refine⟨vs,h1,h2,h3,h4,h5,λk es hk=>?_,λk es hk=>?_⟩
  ·rcases qd hk with⟨rfl,hl',z'⟩|⟨ne',z'⟩
   ·cases z'
   ·exact h6 k es z'
  ·rcases qd hk with⟨rfl,hl',z'⟩|⟨ne',z'⟩
   ·exact h7 i ds hi
   ·exact h7 k es z'
def Own.od_set{i:Nat}{w:Option W}{v:Option V}(o:Own K G0 H0 G ω σ H)(h:∀ks ds,w≠some (.od ks ds)):∀(j:Nat)ks ds,(ω.set i w)[j]?=some (some (.od ks ds))->∃p vs,(σ.set i v)[j]?=some (some (.ref p))/\H p=some (.dK (kvsOf ks vs))/\G p=none/\H0 p=none/\ks.length=ds.length/\Yt K G ds vs /\
  ∀(k:Nat)ks' es,(ω.set i w)[k]?=some (some (.od ks' es))->(σ.set i v)[k]?=some (some (.ref p))->j=k:=by
 intro j ks ds hj;rcases qd hj with⟨rfl,hl,z⟩|⟨ne,z⟩
 ·exact vK z.symm (h ks ds)
 ·obtain⟨p,vs,h1,h2,h3,h4,h5,h6,h7⟩:=o.od j ks ds z
  refine⟨p,vs,by rw[zH ne];exact h1,h2,h3,h4,h5,h6,λk ks' es hk sk=>?_⟩;rcases qd hk with⟨rfl,hl',z'⟩|⟨ne',z'⟩
  ·exact vK z'.symm (h ks' es)
  ·rw[zH ne']at sk
   exact h7 k ks' es z' sk
def Own.setSh{i:Nat}{d:D}{v:V}(o:Own K G0 H0 G ω σ H)(h:Rep K G d v):Own K G0 H0 G (ω.set i ↥d) (σ.set i (some v)) H:=by
 refine⟨o.ext,by rw[yp,yp,o.len],λj e hj=>?_,λj ds hj=>?_,λj k ds es l hj hk sj sk=>?_,o.od_set (λ_ _ z=>by cases z),o.pw.set (λ_ z=>by cases z) (λ_ z=>by cases z)⟩
 ·rcases qd hj with⟨rfl,hl,z⟩|⟨ne,z⟩
  ·cases z;exact⟨v,q3C (by rw[<- o.len];exact hl),h⟩
  ·obtain⟨u,h1,h2⟩:=o.sh j e z
   exact⟨u,by rw[zH ne];exact h1,h2⟩
 ·rcases qd hj with⟨rfl,hl,z⟩|⟨ne,z⟩
  ·cases z
  ·obtain⟨l,vs,h1,h2⟩:=o.ow j ds z
   exact⟨l,vs,by rw[zH ne];exact h1,h2⟩
 ·rcases qd hj with⟨rfl,hl,z⟩|⟨ne,z⟩
  ·cases z
  ·rcases qd hk with⟨rfl,hl',z'⟩|⟨ne',z'⟩
   ·cases z'
   ·rw[zH ne]at sj
    rw[zH ne']at sk;exact o.nd j k ds es l z z' sj sk
def Own.setOw{i:Nat}{ds:List D}{l:vC}{vs:List V}(o:Own K G0 H0 G ω σ H)(h1:H l=some (.lst vs))(h2:G l=none)(h3:H0 l=none)(h4:Yt K G ds vs)(h5:∀(j:Nat)es,ω[j]?=some (some (.ow es))->σ[j]?≠some (some (.ref l)))(h6:∀(j:Nat)es,ω[j]?=some (some (.pw es))->H0.pin j≠l):Own K G0 H0 G (ω.set i (some (.ow ds))) (σ.set i (some (.ref l))) H:=by
 refine⟨o.ext,by rw[yp,yp,o.len],λj e hj=>?_,λj es hj=>?_,λj k es fs m hj hk sj sk=>?_,o.od_set (λ_ _ z=>by cases z),o.pw.set (λ_ z=>by cases z) (λ_ _ j es hj y=>h6 j es hj (by cases y;rfl))⟩
 ·rcases qd hj with⟨rfl,hl,z⟩|⟨ne,z⟩
  ·cases z
  ·obtain⟨u,q1,q2⟩:=o.sh j e z
   exact⟨u,by rw[zH ne];exact q1,q2⟩
 ·rcases qd hj with⟨rfl,hl,z⟩|⟨ne,z⟩
  ·cases z;exact⟨l,vs,q3C (by rw[<- o.len];exact hl),h1,h2,h3,h4⟩
  ·obtain⟨m,us,q1,q2⟩:=o.ow j es z
   exact⟨m,us,by rw[zH ne];exact q1,q2⟩
 ·rcases qd hj with⟨e1,hl,z⟩|⟨ne,z⟩
  ·rcases qd hk with⟨e2,hl',z'⟩|⟨ne',z'⟩
   ·exact e1.symm.trans e2
   ·rw[zH ne']at sk
    subst e1;rw[q3C (by rw[<- o.len];exact hl)]at sj;cases sj;exact vK sk (h5 k fs z')
  ·rcases qd hk with⟨e2,hl',z'⟩|⟨ne',z'⟩
   ·rw[zH ne]at sj
    subst e2;rw[q3C (by rw[<- o.len];exact hl')]at sk;cases sk;exact vK sj (h5 j es z)
   ·rw[zH ne]at sj
    rw[zH ne']at sk;exact o.nd j k es fs m z z' sj sk
def Own.mut{i:Nat}{ds es:List D}{l:vC}{vs us:List V}(o:Own K G0 H0 G ω σ H)(hi:ω[i]?=some (some (.ow ds)))(hσ:σ[i]?=some (some (.ref l)))(h1:H l=some (.lst vs))(h2:G l=none)(h3:H0 l=none)(h4:Yt K G es us):
  Own K G0 H0 G (ω.set i (some (.ow es))) σ (upd H l (.lst us)):=by
 have ho:i<ω.length:=(yF.mp hi).1;refine⟨⟨o.ext.gg,Yx o.ext.gh h2 _,Yx o.ext.hh h3 _,o.ext.new⟩,by rw[yp,o.len],λj e hj=>?_,λj fs hj=>?_,λj k fs gs m hj hk sj sk=>?_,λj ks fs hj=>?_,(o.pw.upd (o.pw.ne_ow hi hσ)).setL hi⟩
 ·rcases qd hj with⟨rfl,hl,z⟩|⟨ne,z⟩
  ·cases z
  ·exact o.sh j e z
 ·rcases qd hj with⟨rfl,hl,z⟩|⟨ne,z⟩
  ·cases z;exact⟨l,us,hσ,qe,h2,h3,h4⟩
  ·obtain⟨m,ws,q1,q2,q3,q4,q5⟩:=o.ow j fs z
   have hm:m≠l:=λy=>ne (o.nd i j ds fs l hi z hσ (by rw[<- y];exact q1));exact⟨m,ws,q1,by rw[qc hm];exact q2,q3,q4,q5⟩
 ·rcases qd hj with⟨e1,hl,z⟩|⟨ne,z⟩
  ·rcases qd hk with⟨e2,hl',z'⟩|⟨ne',z'⟩
   ·exact e1.symm.trans e2
   ·subst e1;exact o.nd i k ds gs m hi z' sj sk
  ·rcases qd hk with⟨e2,hl',z'⟩|⟨ne',z'⟩
   ·subst e2;exact o.nd j i fs ds m z hi sj sk
   ·exact o.nd j k fs gs m z z' sj sk
 ·rcases qd hj with⟨e1,hl,z⟩|⟨ne,z⟩
  ·cases z
  ·obtain⟨p,ws,q1,q2,q3,q4,q5,q6,q7⟩:=o.od j ks fs z
   have hp:p≠l:=λy=>by rw[y,h1]at q2;cases q2
   refine⟨p,ws,q1,by rw[qc hp];exact q2,q3,q4,q5,q6,λk ks' es hk sk=>?_⟩;rcases qd hk with⟨e2,hl',z'⟩|⟨ne',z'⟩
   ·cases z'
   ·exact q7 k ks' es z' sk
def Own.setOd{i:Nat}{ks:List Int}{ds:List D}{p:vC}{vs:List V}(o:Own K G0 H0 G ω σ H)(h1:H p=some (.dK (kvsOf ks vs)))(h2:G p=none)(h3:H0 p=none)(h4:ks.length=ds.length)(h5:Yt K G ds vs)(h6:∀(j:Nat)ks' es,ω[j]?=some (some (.od ks' es))->σ[j]?≠some (some (.ref p))):Own K G0 H0 G (ω.set i (some (.od ks ds))) (σ.set i (some (.ref p))) H:=by
 refine⟨o.ext,by rw[yp,yp,o.len],λj e hj=>?_,λj es hj=>?_,λj k es fs m hj hk sj sk=>?_,λj ks' es hj=>?_,o.pw.set (λ_ z=>by cases z) (λ_ z=>by cases z)⟩
 ·rcases qd hj with⟨rfl,hl,z⟩|⟨ne,z⟩
  ·cases z
  ·obtain⟨u,q1,q2⟩:=o.sh j e z
   exact⟨u,by rw[zH ne];exact q1,q2⟩
 ·rcases qd hj with⟨rfl,hl,z⟩|⟨ne,z⟩
  ·cases z
  ·obtain⟨m,us,q1,q2⟩:=o.ow j es z
   exact⟨m,us,by rw[zH ne];exact q1,q2⟩
 ·rcases qd hj with⟨e1,hl,z⟩|⟨ne,z⟩
  ·cases z
  ·rcases qd hk with⟨e2,hl',z'⟩|⟨ne',z'⟩
   ·cases z'
   ·rw[zH ne]at sj
    rw[zH ne']at sk;exact o.nd j k es fs m z z' sj sk
 ·rcases qd hj with⟨rfl,hl,z⟩|⟨ne,z⟩
  ·cases z
   refine⟨p,vs,q3C (by rw[<- o.len];exact hl),h1,h2,h3,h4,h5,λk ks'' fs hk sk=>?_⟩;rcases qd hk with⟨e2,hl',z'⟩|⟨ne',z'⟩
   ·exact e2
   ·rw[zH ne']at sk
    exact vK sk (h6 k ks'' fs z')
  ·obtain⟨p',vs',q1,q2,q3,q4,q5,q6,q7⟩:=o.od j ks' es z
   refine⟨p',vs',by rw[zH ne];exact q1,q2,q3,q4,q5,q6,λk ks'' fs hk sk=>?_⟩;rcases qd hk with⟨e2,hl',z'⟩|⟨ne',z'⟩
   ·subst e2
    rw[q3C (by rw[<- o.len];exact hl')]at sk;cases sk;exact vK q1 (h6 j ks' es z)
   ·rw[zH ne']at sk
    exact q7 k ks'' fs z' sk
def Own.mutD{i:Nat}{ks ks2:List Int}{ds es:List D}{p:vC}{vs us:List V}(o:Own K G0 H0 G ω σ H)(hi:ω[i]?=some (some (.od ks ds)))(hσ:σ[i]?=some (some (.ref p)))(h1:H p=some (.dK (kvsOf ks vs)))(h2:G p=none)(h3:H0 p=none)(h4:ks2.length=es.length)(h5:Yt K G es us):
  Own K G0 H0 G (ω.set i (some (.od ks2 es))) σ (upd H p (.dK (kvsOf ks2 us))):=by
 have ho:i<ω.length:=(yF.mp hi).1;refine⟨⟨o.ext.gg,Yx o.ext.gh h2 _,Yx o.ext.hh h3 _,o.ext.new⟩,by rw[yp,o.len],λj e hj=>?_,λj fs hj=>?_,λj k fs gs m hj hk sj sk=>?_,λj ks' fs hj=>?_,(o.pw.upd (o.pw.ne_ob λvs z=>by rw[h1]at z;cases z)).setW (λ_ z=>by cases z) (λ_ z=>by cases z)⟩
 ·rcases qd hj with⟨rfl,hl,z⟩|⟨ne,z⟩
  ·cases z
  ·exact o.sh j e z
 ·rcases qd hj with⟨rfl,hl,z⟩|⟨ne,z⟩
  ·cases z
  ·obtain⟨m,ws,q1,q2,q3,q4,q5⟩:=o.ow j fs z
   have hm:m≠p:=λy=>by rw[y,h1]at q2;cases q2
   exact⟨m,ws,q1,by rw[qc hm];exact q2,q3,q4,q5⟩
 ·rcases qd hj with⟨e1,hl,z⟩|⟨ne,z⟩
  ·cases z
  ·rcases qd hk with⟨e2,hl',z'⟩|⟨ne',z'⟩
   ·cases z'
   ·exact o.nd j k fs gs m z z' sj sk
 ·obtain⟨p0,vs0,r1,r2,r3,r4,r5,r6,r7⟩:=o.od i ks ds hi
  rw[hσ]at r1;cases r1;rcases qd hj with⟨rfl,hl,z⟩|⟨ne,z⟩
  ·cases z
   refine⟨p,us,hσ,qe,h2,h3,h4,h5,λk ks'' gs hk sk=>?_⟩;rcases qd hk with⟨e2,hl',z'⟩|⟨ne',z'⟩
   ·exact e2
   ·exact r7 k ks'' gs z' sk
  ·obtain⟨q,ws,q1,q2,q3,q4,q5,q6,q7⟩:=o.od j ks' fs z
   have hp:q≠p:=λy=>ne (r7 j ks' fs z (by rw[<- y];exact q1));refine⟨q,ws,q1,by rw[qc hp];exact q2,q3,q4,q5,q6,λk ks'' gs hk sk=>?_⟩;rcases qd hk with⟨e2,hl',z'⟩|⟨ne',z'⟩
   ·subst e2
    rw[hσ]at sk;cases sk;exact vK rfl hp
   ·exact q7 k ks'' gs z' sk
noncomputable def share(i:Nat)(ω:WSt):WSt:=match ω[i]? with
 | some (some (.ow ds))=>ω.set i ↥(.lst ds)
 | some (some (.od ks ds))=>ω.set i ↥(.dic ks ds)
 | _=>ω
theorem Own.share(i:Nat)(o:Own K G0 H0 G ω σ H):(∃G',Y1 G G'/\Own K G0 H0 G' (share i ω) σ H)\/∃p kvs,σ[i]?=some (some (.ref p))/\H p=some (.dK kvs)/\∀ob,∃G',Y1 G G'/\Own K G0 H0 G' (share i ω) σ (upd H p (.frz ob (.dK kvs))):=by
 unfold Hk.share;cases q:ω[i]? with
 | none=>exact .inl ⟨G,Y1.refl _,o⟩
 | some w=>
  cases w with
  | none=>exact .inl ⟨G,Y1.refl _,o⟩
  | some w=>
   cases w with
   | sh d=>exact .inl ⟨G,Y1.refl _,o⟩
   | pw ds=>exact .inl ⟨G,Y1.refl _,o⟩
   | ow ds=>
    obtain⟨l,vs,q1,q2,q3,q4,q5⟩:=o.ow i ds q;have s1:Y1 G (upd G l (.lst vs)):=Xe q3 _;have ho:i<ω.length:=(yF.mp q).1;refine .inl ⟨upd G l (.lst vs),s1,⟨o.ext.gg.trans s1,λb u z=>?_,o.ext.hh,λb z1 z2=>?_⟩,by rw[yp,o.len],λj e hj=>?_,λj fs hj=>?_,λj k fs gs m hj hk sj sk=>?_,λj ks fs hj=>?_,(o.pw.grow q3 (o.pw.ne_ow q q1)).setW (λ_ z=>by cases z) (λ_ z=>by cases z)⟩
    ·by_cases hb:b=l
     ·subst hb;rw[qe]at z;rw[q2];exact z
     ·rw[qc hb]at z;exact o.ext.gh b u z
    ·rw[qc (λhb=>z2 (by rw[hb];exact q4))];exact o.ext.new b z1 z2
    ·rcases qd hj with⟨rfl,hl,z⟩|⟨ne,z⟩
     ·cases z;exact⟨_,q1,l,vs,rfl,qe,q5.mono s1⟩
     ·obtain⟨u,r1,r2⟩:=o.sh j e z
      exact⟨u,r1,r2.mono s1⟩
    ·rcases qd hj with⟨rfl,hl,z⟩|⟨ne,z⟩
     ·cases z
     ·obtain⟨m,ws,r1,r2,r3,r4,r5⟩:=o.ow j fs z
      have hm:m≠l:=λy=>ne (o.nd i j ds fs l q z q1 (by rw[<- y];exact r1));exact⟨m,ws,r1,r2,by rw[qc hm];exact r3,r4,r5.mono s1⟩
    ·rcases qd hj with⟨e1,hl,z⟩|⟨ne,z⟩
     ·cases z
     ·rcases qd hk with⟨e2,hl',z'⟩|⟨ne',z'⟩
      ·cases z'
      ·exact o.nd j k fs gs m z z' sj sk
    ·rcases qd hj with⟨e1,hl,z⟩|⟨ne,z⟩
     ·cases z
     ·obtain⟨m,ws,r1,r2,r3,r4,r5,r6,r7⟩:=o.od j ks fs z
      have hm:m≠l:=λy=>by rw[y,q2]at r2;cases r2
      refine⟨m,ws,r1,r2,by rw[qc hm];exact r3,r4,r5,r6.mono s1,λk ks' es hk sk=>?_⟩;rcases qd hk with⟨e2,hl',z'⟩|⟨ne',z'⟩
      ·cases z'
      ·exact r7 k ks' es z' sk
   | od ks0 ds=>
    obtain⟨l,vs,q1,q2,q3,q4,q6,q5,q7⟩:=o.od i ks0 ds q;refine .inr ⟨l,_,q1,q2,λob=>?_⟩;have s1:Y1 G (upd G l (.frz ob (.dK (kvsOf ks0 vs)))):=Xe q3 _;have ho:i<ω.length:=(yF.mp q).1;refine⟨upd G l (.frz ob (.dK (kvsOf ks0 vs))),s1,⟨o.ext.gg.trans s1,zAk o.ext.gh _,Yx o.ext.hh q4 _,λb z1 z2=>?_⟩,by rw[yp,o.len],λj e hj=>?_,λj fs hj=>?_,λj k fs gs m hj hk sj sk=>?_,λj ks fs hj=>?_,((o.pw.upd (o.pw.ne_ob λvs z=>by rw[q2]at z;cases z)).grow q3 (o.pw.ne_ob λvs z=>by rw[q2]at z;cases z)).setW (λ_ z=>by cases z) (λ_ z=>by cases z)⟩
    ·rw[qc (λhb=>z2 (by rw[hb];exact q4))];exact o.ext.new b z1 z2
    ·rcases qd hj with⟨rfl,hl,z⟩|⟨ne,z⟩
     ·cases z;exact⟨_,q1,l,vs,rfl,⟨ob,qe⟩,q6,q5.mono s1⟩
     ·obtain⟨u,r1,r2⟩:=o.sh j e z
      exact⟨u,r1,r2.mono s1⟩
    ·rcases qd hj with⟨rfl,hl,z⟩|⟨ne,z⟩
     ·cases z
     ·obtain⟨m,ws,r1,r2,r3,r4,r5⟩:=o.ow j fs z
      have hm:m≠l:=λy=>by rw[y,q2]at r2;cases r2
      exact⟨m,ws,r1,by rw[qc hm];exact r2,by rw[qc hm];exact r3,r4,r5.mono s1⟩
    ·rcases qd hj with⟨e1,hl,z⟩|⟨ne,z⟩
     ·cases z
     ·rcases qd hk with⟨e2,hl',z'⟩|⟨ne',z'⟩
      ·cases z'
      ·exact o.nd j k fs gs m z z' sj sk
    ·rcases qd hj with⟨e1,hl,z⟩|⟨ne,z⟩
     ·cases z
     ·obtain⟨m,ws,r1,r2,r3,r4,r5,r6,r7⟩:=o.od j ks fs z
      have hm:m≠l:=λy=>ne (q7 j ks fs z (by rw[<- y];exact r1));refine⟨m,ws,r1,by rw[qc hm];exact r2,by rw[qc hm];exact r3,r4,r5,r6.mono s1,λk ks' es hk sk=>?_⟩;rcases qd hk with⟨e2,hl',z'⟩|⟨ne',z'⟩
      ·cases z'
      ·exact r7 k ks' es z' sk
end
def Inv.freeze{X:Cx}{pins:List (vC×Obj)}{σ:St}{H:Hp}{s:vB}{p:vC}{kvs:List (Key×V)}(I:Inv X pins σ H s)(hp:H p=some (.dK kvs)):∃ob,Inv X pins σ (upd H p (.frz ob (.dK kvs))) s:=by
 have ok:=I.hok p _ hp;obtain⟨_,_,_,_,ob,_,_,e,_⟩:=id ok;have stay:∀b u,Y5 X.prog X.w H s.heap b u->Y5 X.prog X.w (upd H p (.frz ob (.dK kvs))) s.heap b u:=λb u x=>
  x.stay (λ_ _ _ q=>q) (λc q=>by rw[qc (λz=>by rw[z,hp]at q;cases q)];exact q) λc xs q=>by rw[qc (λz=>by rw[z,hp]at q;cases q)];exact q
 refine⟨ob,I.step (H':=upd H p (.frz ob (.dK kvs))) (h':=s.heap) (g':=s.gens) (d':=s.drawn) (t':=s.toks) (ch:=[]) (λ_ z=>nomatch z) (λ_ _ _ _ _ e _=>e) (λ_ o _ _ _ e _=>⟨o.slots,e⟩) (λb o _ _ n=>by rw[qc (λz=>by rw[z,hp]at n;cases n)];exact n) (λ_ o _ e=>⟨o,e⟩)
  (λb xs q=>by rw[qc (λz=>by rw[z,hp]at q;cases q)];exact q) (λb o u q=>by rw[qc (λz=>by rw[z,hp]at q;cases q)];exact q) (λb ps q=>⟨#[],by rw[qc (λz=>by rw[z,hp]at q;cases q),q];simp⟩) (λ_ hm=>hm) (λb u q=>?_) I.bare⟩
 by_cases z:b=p
 ·subst z
  rw[qe]at q;cases q;exact⟨e,stay _ _ ok⟩
 ·rw[qc z]at q
  exact stay b u (I.hok b u q)
def q7m{X:Cx}{sts:List vn}{t:TS}(i:Nat)(h:PSs X sts t):PSs X sts (λD σ H=>∃p kvs,σ[i]?=some (some (.ref p))/\H p=some (.dK kvs)/\∀ob,t D σ (upd H p (.frz ob (.dK kvs)))):=by
 intro pins s σ H D I q;obtain⟨p,kvs,_,hp,q⟩:=q;obtain⟨ob,I'⟩:=Inv.freeze I hp;exact h pins s σ _ D I' (q ob)
noncomputable def zAf(i:Nat)(f:FS):FS:=λω=>f (share i ω)
def q6e{X:Cx}{sts:List vn}{f:FS}(i:Nat)(h:XSs X sts f):XSs X sts (zAf i f):=by
 obtain⟨t,h1,h2⟩:=h;refine⟨λD σ H=>t D σ H\/∃p kvs,σ[i]?=some (some (.ref p))/\H p=some (.dK kvs)/\∀ob,t D σ (upd H p (.frz ob (.dK kvs))),λpins s σ H D I q=>?_,λG0 H0 G ω σ H out ω' E o e k=>?_⟩
 ·rcases q with q|q
  ·exact h1 pins s σ H D I q
  ·exact q7m i h1 pins s σ H D I q
 ·rcases o.share i with⟨G1,g1,o1⟩|⟨p,kvs,z1,z2,z3⟩
  ·exact .inl (h2 G0 H0 G1 _ σ H out ω' E o1 e λG2 σ2 H2 w2 g2=>k G2 σ2 H2 w2 (g1.trans g2))
  ·refine .inr ⟨p,kvs,z1,z2,λob=>?_⟩
   obtain⟨G1,g1,o1⟩:=z3 ob;exact h2 G0 H0 G1 _ σ _ out ω' E o1 e λG2 σ2 H2 w2 g2=>k G2 σ2 H2 w2 (g1.trans g2)
noncomputable def setR(i:Nat)(r:R)(ω:WSt):Option WSt:=match r with
 | .sh d=>some (ω.set i ↥d)
 | .fr ds=>some (ω.set i (some (.ow ds)))
 | .vw _=>none
noncomputable def XR(i:Nat)(f:FE):FS:=λω=>(f ω).bind λr=>(setR i r ω).map λw=>(.nx,w)
section
variable{X:Cx}{e:vW}{f:FE}{pos pos':Pos}
def qak{i:Nat}{t:TE}(h:zC7 X.K t f):SimS X.K (zA9 t (Xy i)) (XR i f):=by
 intro G0 H0 G ω σ H out ω' E o e k;obtain⟨r,q,e⟩:=bnd e;obtain⟨w,q2,e⟩:=mpd e;cases e;refine h G0 H0 G ω σ H r _ o q λv G1 H1 x1 y1=>?_;have o1:=o.keep x1;show E.nx (σ.set i (some v)) H1;cases r with
 | sh d=>cases q2;exact k G1 _ H1 (o1.setSh y1) x1.gg
 | fr ds=>
  cases q2;obtain⟨l,vs,rfl,e2,e3,e4,e5⟩:=y1;refine k G1 _ H1 (o1.setOw e4 e3 (o.ext.hh.free e2) e5 (λj es hj z=>?_) λj es hj y=>?_) x1.gg
  ·obtain⟨m,us,q1,q2,_⟩:=o.ow j es hj
   rw[q1]at z;cases z;rw[e2]at q2;cases q2
  ·obtain⟨us,_,q2,_⟩:=o.pw j es hj
   rw[y,e2]at q2;cases q2
 | vw ds=>cases q2
def qj{i:Nat}{x:Str}(hN:X.N.Nodup)(hi:X.N[i]?=some x)(hx:Loc X.env.scope x)(he:XE X e f)(hs:vy e (some (.Name x pos')) pos.line X.env=pure false:=by rfl)(hf:X.fn x=true\/X.env.scope.names.lookup x=some .local:=by first|exact .inl rfl|exact .inr rfl|assumption):
  XS X (.Assign [.Name x pos'] e pos) (XR i f):=let ⟨_,h1,h2⟩:=he;⟨_,q2m hN hi hx h1 hs hf,qak h2⟩
noncomputable abbrev FG:=D->WSt->Option WSt
def SimG(K:zA)(g:TG)(fg:FG):Prop:=∀G0 H0 G ω σ H d v ω'(Q:St->Hp->Prop),Own K G0 H0 G ω σ H->fg d ω=some ω'->Rep K G d v->(∀σ',Own K G0 H0 G ω' σ' H->Q σ' H)->g v σ H Q
def XG(X:Cx)(tg:vW)(fg:FG):Prop:=∃g,PG X tg g/\SimG X.K g fg
noncomputable def gN(i:Nat):FG:=λd ω=>some (ω.set i ↥d)
def qk{i:Nat}{x:Str}(hN:X.N.Nodup)(hi:X.N[i]?=some x)(hx:Loc X.env.scope x)(hf:X.fn x=true\/X.env.scope.names.lookup x=some .local:=by first|exact .inl rfl|exact .inr rfl|assumption):XG X (.Name x pos) (gN i) :=
 ⟨_,q56 hN hi hx hf,λG0 H0 G ω σ H d v ω' Q o e h k=>by cases e;exact k _ (o.setSh h)⟩
def SimGs(K:zA)(g:TGs)(fg:List D->WSt->Option WSt):Prop:=∀G0 H0 G ω σ H ds vs ω'(Q:St->Hp->Prop),Own K G0 H0 G ω σ H->fg ds ω=some ω'->Yt K G ds vs->(∀σ',Own K G0 H0 G ω' σ' H->Q σ' H)->g vs σ H Q
def XGs(X:Cx)(tg:List vW)(fg:List D->WSt->Option WSt):Prop:=∃g,PGs X tg g/\SimGs X.K g fg
noncomputable def Xz:List D->WSt->Option WSt
 | [],ω=>some ω
 | _,_=>none
noncomputable def Yw(f:FG)(g:List D->WSt->Option WSt):List D->WSt->Option WSt
 | d::ds,ω=>(f d ω).bind λw=>g ds w
 | [],_=>none
def q55:XGs X [] Xz:=⟨_,qaC,λG0 H0 G ω σ H ds vs ω' Q o e h k=>by
 cases ds with
 | nil=>cases e;cases (show vs=[]from h);exact⟨rfl,k σ o⟩
 | cons d r=>cases e⟩
def q1R{es:List vW}{fg:FG}{gs:List D->WSt->Option WSt}(h:XG X e fg)(h':XGs X es gs)(hs:(uM (e::es) X.env).map (·.2)=assign e X.env::(uM es X.env).map (·.2):=by rfl):XGs X (e::es) (Yw fg gs):=by
 obtain⟨g,h1,h2⟩:=h;obtain⟨u,h3,h4⟩:=h';refine⟨_,q6X h1 h3 hs,λG0 H0 G ω σ H ds vs ω' Q o e h k=>?_⟩;cases ds with
 | nil=>cases e
 | cons d r=>
  obtain⟨w1,q,e1⟩:=bnd e;obtain⟨v,vr,rfl,r1,r2⟩:=h;exact⟨v,vr,rfl,h2 G0 H0 G ω σ H d v w1 _ o q r1 λσ1 o1=>h4 G0 H0 G w1 σ1 H r vr ω' Q o1 e1 r2 k⟩
noncomputable def gT(n:Nat)(g:List D->WSt->Option WSt):FG:=λd ω=>match d with
 | .tup ds=>if ds.length=n then g ds ω else none
 | _=>none
def q5P{es:List vW}{k n:Nat}{gs:List D->WSt->Option WSt}(hc:X.calm=true)(h:XGs X es gs)(hn:(uM es X.env).length=n:=by rfl)(hst:(uM es X.env).findIdx? (·.1)=none:=by rfl):XG X (.Tuple es k pos) (gT n gs):=by
 obtain⟨g,h1,h2⟩:=h;refine⟨_,qcB hc h1 hn hst,λG0 H0 G ω σ H d v ω' Q o e h k=>?_⟩;unfold gT at e;cases d with
 | tup ds=>
  dsimp only at e
  obtain⟨a,vs,rfl,r1,r2⟩:=h
  by_cases z:ds.length=n
  ·rw[vG z]at e
   exact⟨a,vs,rfl,SqT.of (o.gh _ _ r1),by rw[<- r2.len];exact z,h2 G0 H0 G ω σ H ds vs ω' Q o e r2 k⟩
  ·rw[vH z]at e;cases e
 | _=>cases e
end
noncomputable def sIf(c:FT)(f g:FS):FS:=λω=>(c ω).bind λb=>if b=true then f ω else g ω
noncomputable def XN(f:FE):FS:=λω=>(f ω).bind λr=>match r with
 | .sh d=>some (.rt (.sh d),ω)
 | .fr ds=>some (.rt (.fr ds),ω)
 | .vw _=>none
noncomputable def zAn(i:Nat):FS:=λω=>match ω[i]? with
 | some ↥d=>some (.rt (.sh d),ω)
 | some (some (.ow ds))=>some (.rt (.fr ds),ω)
 | _=>none
noncomputable def sNo:FS:=λ_=>none
noncomputable def zAi(f:FE):FS:=λω=>(f ω).map λ_=>(.nx,ω)
section
variable{X:Cx}{c e:vW}{a b:List vn}{st:vn}{pos:Pos}{fc:FT}{f g:FS}{fe:FE}
def q0m(hc:XT X c fc)(ha:XSs X a f)(hb:XSs X b g):XS X (.If c a b pos) (sIf fc f g):=by
 obtain⟨t,h1,h2⟩:=hc;obtain⟨u,h3,h4⟩:=ha;obtain⟨w,h5,h6⟩:=hb;refine⟨_,qbe h1 h3 h5,λG0 H0 G ω σ H out ω' E o e k=>?_⟩;obtain⟨z,q,e⟩:=bnd e;refine h2 G0 H0 G ω σ H z _ o q λG1 H1 x1=>?_;cases z with
 | true=>rw[vG rfl]at e ⊢;exact h4 G0 H0 G1 ω σ H1 out ω' E (o.keep x1) e λG2 σ2 H2 o2 g2=>k G2 σ2 H2 o2 (x1.gg.trans g2)
 | false=>exact h6 G0 H0 G1 ω σ H1 out ω' E (o.keep x1) e λG2 σ2 H2 o2 g2=>k G2 σ2 H2 o2 (x1.gg.trans g2)
def qf(he:XE X e fe):XS X (.Return (some e) pos) (XN fe):=by
 obtain⟨t,h1,h2⟩:=he;refine⟨_,q57 h1,λG0 H0 G ω σ H out ω' E o e k=>?_⟩;obtain⟨r,q,e⟩:=bnd e;refine h2 G0 H0 G ω σ H r _ o q λv G1 H1 x1 y1=>?_;cases r with
 | sh d=>cases e;exact k G1 σ H1 (o.keep x1) x1.gg v y1
 | fr ds=>
  cases e;obtain⟨l,vs,e1,e2,e3⟩:=y1;exact k G1 σ H1 (o.keep x1) x1.gg v ⟨l,vs,e1,o.ext.hh.free e2,e3⟩
 | vw ds=>cases e
def q7S{i:Nat}(he:PE X e (XZ i)):XS X (.Return (some e) pos) (zAn i):=by
 refine⟨_,q57 he,λG0 H0 G ω σ H out ω' E o e k=>?_⟩;unfold zAn at e;cases q:ω[i]? with
 | none=>rw[q]at e;cases e
 | some w=>
  rw[q]at e;cases w with
  | none=>cases e
  | some w=>
   cases w with
   | sh d=>
    cases e;obtain⟨v,q1,q2⟩:=o.sh i d q;exact⟨v,q1,k G σ H o (Y1.refl _) v q2⟩
   | ow ds=>
    cases e;obtain⟨l,vs,q1,q2,q3,q4,q5⟩:=o.ow i ds q;exact⟨_,q1,k G σ H o (Y1.refl _) _ ⟨l,vs,rfl,q4,q3,q2,q5⟩⟩
   | od ks ds=>cases e
   | pw ds=>cases e
def q8E:XS X st sNo:=⟨_,q8R,λG0 H0 G ω σ H out ω' E o e k=>by cases e⟩
def q53(he:XE X e fe)(hs:vy e none pos.line X.env=pure false:=by rfl):XS X (.Expr e pos) (zAi fe):=by
 obtain⟨t,h1,h2⟩:=he;refine⟨_,q30 h1 hs,λG0 H0 G ω σ H out ω' E o e k=>?_⟩;obtain⟨r,q,e⟩:=mpd e;cases e;exact h2 G0 H0 G ω σ H r _ o q λv G1 H1 x1 y1=>k G1 σ H1 (o.keep x1) x1.gg
noncomputable def sApp(i:Nat)(f:FD):FS:=λω=>(f ω).bind λd=>match ω[i]? with
 | some (some (.ow ds))=>if ds.length<1000000 then some (.nx,ω.set i (some (.ow (ds++[d]))))else none
 | _=>none
def q9i{i:Nat}{o e:vW}{fd:FD}{apos cpos:Pos}(ho:PE X o (XZ i))(he:XD X e fd)(hbase:uN o "append" X.env (eval o X.env)=eval o X.env:=by rfl)(hfew:((vp cpos (vJ [e] X.env)).all (λx=>!x.1)&&(tL cpos (ug [] X.env)).all (λx=>x.1.isSome)
   && decide (([e]:List vW).length+([]:List uU).length+(if ([]:List uU).isEmpty then 0 else 1)<30))=true:=by rfl)
  (hline:(apos.endLine==cpos.line)=true:=by rfl) (hs:vJ [e] X.env=(false,eval e X.env)::vJ [] X.env:=by rfl) (hplain:(vp cpos (vJ [] X.env)).any (·.1)=false:=by rfl)
  (hsw:vy (.Call (.Attribute o "append" apos) [e] [] cpos) none pos.line X.env=pure false:=by rfl) :
  XS X (.Expr (.Call (.Attribute o "append" apos) [e] [] cpos) pos) (sApp i fd):=by
 obtain⟨t,h1,h2⟩:=he;refine⟨_,q30 (q5x PySem.F.plainAttrs_list PySem.F.slot_list_append PySem.F.type_list_append q2W ho (qo h1 qN hs) hbase hfew hline hs hplain) hsw,λG0 H0 G ω σ H out ω' E ow e k=>?_⟩;obtain⟨d,q,e⟩:=bnd e;cases q2:ω[i]? with
 | none=>rw[q2]at e;cases e
 | some w=>
  rw[q2]at e;cases w with
  | none=>cases e
  | some w=>
   cases w with
   | sh d=>cases e
   | od ks ds=>cases e
   | pw ds=>cases e
   | ow ds=>
    dsimp only at e
    by_cases z:ds.length<1000000
    ·rw[vG z]at e
     cases e;obtain⟨l,vs,r1,r2,r3,r4,r5⟩:=ow.ow i ds q2;refine⟨.ref l,r1,.inl ⟨rfl,vs,SqL.of r2⟩,h2 G0 H0 G ω σ H d _ ow q λv G1 H1 x1 y1=>?_⟩;have o1:=ow.keep x1;have hz:vs.length<sizeLine:=by rw[<- r5.len,vo];omega
     refine⟨l,vs,v,rfl,rfl,x1.hh _ _ r2,hz,?_⟩;exact k G1 σ _ (o1.mut q2 r1 (x1.hh _ _ r2) (x1.new l r3 (by rw[r2];exact λz=>by cases z)) r4 ((r5.mono x1.gg).app (Yt.cons y1 Yt.nil))) x1.gg
    ·rw[vH z]at e;cases e
end
end Hk
namespace PySem
open AutoSeq1 MeetsSeq MeetsSeq2 MeetsSeq3
def extTup(l b:vC)(xs ys:Array Value)(n m:Nat)(dd:Option vC)(sl:Array (Option Value))(h1:¬(!xs.isEmpty&&Builtin.List.listTooLong (xs.size+ys.size))=true)(h2:xs.size<=sizeLine)(h3:xs.size+ys.size<=sizeLine+1):
  Meets (Builtin.«list.extend» ⟨[.ref l,.ref b],[]⟩) (λ_ R s=>s.heap.get? l=some { cls:=.type "list", data:=.seq xs n }/\s.heap.get? b=some { cls:=.type "tuple", dict:=dd,data:=.seq ys m,slots:=sl } /\
   R (.ok (.ret Value.none)) { s with heap:=s.heap.update l (Obj.mapSeq λz=>z++ys),toks:=s.toks }) :=
 .of_wp λprog w A R s h=>by
  obtain⟨hp,g,d,tk,os⟩:=s;obtain⟨e1,e2,q⟩:=h;have p1:=idx_int;have p2:=sub_tuple_tuple;have p3:=sub_list_list;have p4:=sub_tuple_list;have p5:=sub_list_tuple;have fit:(xs++ys).size<=sizeLine+1:=by rw[Array.size_append];exact h3
  wp_walk using (uw e1 rfl (hz:=h2) (_hz':=fit)),wpAny_loadPart' e1,wpAny_loadPart' e2
  exact⟨_,rfl,q⟩
end PySem
namespace Hk
open PySem L2
section
variable{X:Cx}{pos:Pos}
def rExtA:V->List V->Hp->VK->Prop:=λx vs H Q=>zBX x vs H Q\/∃l b xs zs,x=.ref l/\vs=[.ref b]/\H l=some (.lst xs)/\H b=some (.tup zs)/\xs.length+zs.length<=sizeLine/\Q .non (upd H l (.lst (xs++zs)))
def qeN:MtR X "list.extend" rExtA:=by
 intro pins s σ H x vs v us Q I rx rv h;rcases h with h|h
 ·exact qbz pins s σ H x vs v us Q I rx rv h
 obtain⟨l,b,xs,zs,rfl,rfl,hH,hB,hz,q⟩:=h;cases rx;obtain⟨u,rfl,ru⟩:=rv.one;cases ru;obtain⟨z,its,n,r,hl,e⟩:=I.lstM hH;obtain⟨its2,r2,⟨o2,e2,c2,n2,d2⟩,z2⟩:=I.tuple (SqT.of hB);have hl2:=r2.length;obtain⟨cls,dd,dt,sl⟩:=o2;cases c2;cases d2;have hsz:its.toArray.size+its2.toArray.size<=sizeLine:=by rw[zM,zM];omega
 have hlong:¬(!its.toArray.isEmpty&&Builtin.List.listTooLong (its.toArray.size+its2.toArray.size))=true:=by
  rw[zAS hsz,zt];exact ym
 refine u6 F.slot_list_extend ⟨_,e,rfl⟩ F.entry_list_extend (F.args_list_extend_2 _ _)
  (extTup l b its.toArray its2.toArray n n2 dd sl hlong (by rw[zM];omega) ∅) ⟨e,e2,?_⟩
 refine⟨.non,_,I.lset (its':=its++its2) hH e (by simp) (r.append r2) ?_,rfl,q⟩;rw[zD];omega
noncomputable def itemsOf:D->Option (List D)
 | .lst ds=>some ds
 | .tup ds=>some ds
 | _=>none
noncomputable def zC5(i:Nat)(f:FD):FS:=λω=>(f ω).bind λd=>(itemsOf d).bind λes=>match ω[i]? with
 | some (some (.ow ds))=>if ds.length+es.length<=1000000 then some (.nx,ω.set i (some (.ow (ds++es))))else none
 | _=>none
def q7y{i:Nat}{o e:vW}{fd:FD}{apos cpos:Pos}(ho:PE X o (XZ i))(he:XD X e fd)(hbase:uN o "extend" X.env (eval o X.env)=eval o X.env:=by rfl)(hfew:((vp cpos (vJ [e] X.env)).all (λx=>!x.1)&&(tL cpos (ug [] X.env)).all (λx=>x.1.isSome)
   && decide (([e]:List vW).length+([]:List uU).length+(if ([]:List uU).isEmpty then 0 else 1)<30))=true:=by rfl)
  (hline:(apos.endLine==cpos.line)=true:=by rfl) (hs:vJ [e] X.env=(false,eval e X.env)::vJ [] X.env:=by rfl) (hplain:(vp cpos (vJ [] X.env)).any (·.1)=false:=by rfl)
  (hsw:vy (.Call (.Attribute o "extend" apos) [e] [] cpos) none pos.line X.env=pure false:=by rfl) :
  XS X (.Expr (.Call (.Attribute o "extend" apos) [e] [] cpos) pos) (zC5 i fd):=by
 obtain⟨t,h1,h2⟩:=he;refine⟨_,q30 (q5x PySem.F.plainAttrs_list PySem.F.slot_list_extend PySem.F.type_list_extend qeN ho (qo h1 qN hs) hbase hfew hline hs hplain) hsw,λG0 H0 G ω σ H out ω' E ow e k=>?_⟩;obtain⟨d,q,e⟩:=bnd e;obtain⟨es,q3,e⟩:=bnd e;cases q2:ω[i]? with
 | none=>rw[q2]at e;cases e
 | some w=>
  rw[q2]at e;cases w with
  | none=>cases e
  | some w=>
   cases w with
   | sh d=>cases e
   | od ks ds=>cases e
   | pw ds=>cases e
   | ow ds=>
    dsimp only at e
    by_cases z:ds.length+es.length<=1000000
    ·rw[vG z]at e
     cases e;obtain⟨l,vs,r1,r2,r3,r4,r5⟩:=ow.ow i ds q2;refine⟨.ref l,r1,.inl ⟨rfl,vs,SqL.of r2⟩,h2 G0 H0 G ω σ H d _ ow q λv G1 H1 x1 y1=>?_⟩;have o1:=ow.keep x1;have fin:∀us:List V,Yt X.K G1 es us->vs.length+us.length<=sizeLine/\zBH X.K H0 G1 E .nx σ (upd H1 l (.lst (vs++us))):=λus hu=>
      ⟨by rw[<- r5.len,<- hu.len];exact q74 z,k G1 σ _ (o1.mut q2 r1 (x1.hh _ _ r2) (x1.new l r3 (by rw[r2];exact λz=>by cases z)) r4 ((r5.mono x1.gg).app hu)) x1.gg⟩
     cases d with
     | lst ds'=>
      cases q3;obtain⟨b,us,rfl,r6,r7⟩:=y1;obtain⟨f1,f2⟩:=fin us r7;exact .inl ⟨l,b,vs,us,rfl,rfl,x1.hh _ _ r2,x1.gh _ _ r6,f1,f2⟩
     | tup ds'=>
      cases q3;obtain⟨b,us,rfl,r6,r7⟩:=y1;obtain⟨f1,f2⟩:=fin us r7;exact .inr ⟨l,b,vs,us,rfl,rfl,x1.hh _ _ r2,x1.gh _ _ r6,f1,f2⟩
     | _=>cases q3
    ·rw[vH z]at e;cases e
end
structure IterOf (K:zA) (J:It) (G:Hp) (ds:List D):Prop where
 go:∀H i,Y1 G H->i<ds.length->J.go i H
 yld:∀G2 H i x H' d,Y1 G G2->Y1 G2 H->ds[i]?=some d->J.yld i H x H'->∃G3,Ext G2 H G3 H'/\Rep K G3 d x
 stop:∀H,Y1 G H->J.stop ds.length H
noncomputable abbrev FI:=WSt->Option (List D)
def SimI(K:zA)(wi:TI)(f:FI):Prop:=∀G0 H0 G ω σ H ds(R:It->Hp->Prop),Own K G0 H0 G ω σ H->f ω=some ds->(∀J G' H',Ext G H G' H'->IterOf K J G' ds->R J H')->wi σ H R
def XI(X:Cx)(tg iter:vW)(f:FI):Prop:=∃wi,PI X tg iter wi/\SimI X.K wi f
section
variable{X:Cx}{tg e:vW}
def qcX{K:zA}{G:Hp}{a:vC}{ds:List D}{vs:List V}(h1:G a=some (.lst vs))(h2:Yt K G ds vs):IterOf K (Itl K a) G ds:=by
 refine⟨λH i s hi=>?_,λG2 H i x H' d s0 s1 hd hy=>?_,λH s=>⟨vs,SqL.of (s _ _ h1),by rw[h2.len];exact zL _⟩⟩
 ·have:i<vs.length:=by rw[<- h2.len];exact hi
  exact⟨vs,vs[i],SqL.of (s _ _ h1),zG this⟩
 ·obtain⟨e,y⟩:=hy
  obtain⟨v,q1,q2⟩:=h2.get hd;have:=y vs (SqL.of (s1 _ _ (s0 _ _ h1)));rw[q1]at this;cases this;subst e;exact⟨G2,Ext.refl s1,q2.mono s0⟩
def qcT{K:zA}{G:Hp}{a:vC}{ds:List D}{vs:List V}(h1:G a=some (.tup vs))(h2:Yt K G ds vs):IterOf K (Itt K a) G ds:=by
 refine⟨λH i s hi=>?_,λG2 H i x H' d s0 s1 hd hy=>?_,λH s=>⟨vs,SqT.of (s _ _ h1),by rw[h2.len];exact zL _⟩⟩
 ·have:i<vs.length:=by rw[<- h2.len];exact hi
  exact⟨vs,vs[i],SqT.of (s _ _ h1),zG this⟩
 ·obtain⟨e,y⟩:=hy
  obtain⟨v,q1,q2⟩:=h2.get hd;have:=y vs (SqT.of (s1 _ _ (s0 _ _ h1)));rw[q1]at this;cases this;subst e;exact⟨G2,Ext.refl s1,q2.mono s0⟩
noncomputable def WP(f:FD):FI:=λω=>(f ω).bind itemsOf
def q0Q{f:FD}(h:XD X e f):XI X tg e (WP f):=by
 obtain⟨t,h1,h2⟩:=h;refine⟨λσ H R=>zCo X.K t σ H R\/iTup X.K t σ H R,λpins s σ H R I q=>?_,λG0 H0 G ω σ H ds R o e k=>?_⟩
 ·rcases q with q|q
  ·exact q6k h1 pins s σ H R I q
  ·exact qfT h1 pins s σ H R I q
 ·obtain⟨d,q,e⟩:=bnd e
  cases d with
  | lst es=>
   cases e;refine .inl (h2 G0 H0 G ω σ H _ _ o q λv G1 H1 x1 ⟨a,vs,e1,e2,e3⟩=>⟨a,e1,⟨vs,SqL.of (x1.gh _ _ e2)⟩,k _ G1 H1 x1 (qcX e2 e3)⟩)
  | tup es=>
   cases e;refine .inr (h2 G0 H0 G ω σ H _ _ o q λv G1 H1 x1 ⟨a,vs,e1,e2,e3⟩=>⟨a,e1,⟨vs,SqT.of (x1.gh _ _ e2)⟩,k _ G1 H1 x1 (qcT e2 e3)⟩)
  | _=>cases e
noncomputable def upTo(lo:Int)(n:Nat):List D:=(ya n).map λ(i:Nat)=>D.int (lo+(i:Int))
def qdz{K:zA}{G:Hp}(lo:Int)(n:Nat):IterOf K (Itr lo n) G (upTo lo n):=by
 have hl:(upTo lo n).length=n:=by unfold upTo;rw[zB,yO]
 refine⟨λH i s hi=>by rw[hl]at hi;exact hi,λG2 H i x H' d s0 s1 hd hy=>?_,λH s=>by rw[hl];exact zL _⟩;obtain⟨e,y⟩:=hy;subst e;refine⟨G2,Ext.refl s1,?_⟩;unfold upTo at hd;rw[zh]at hd;have hi:i<n:=by
  rcases yt i n with z|z
  ·exact z
  ·rw[yL (by rw[yO];exact z)]at hd;cases hd
 rw[xw hi]at hd;cases hd;exact y
noncomputable def iRg1(g:FA):FI:=λω=>(g ω).bind λds=>match ds with
 | [.int j]=>if -(2^62)<=j/\j<2^62 then some (upTo 0 j.toNat)else none
 | _=>none
def q80{a:vW}{g:FA}{p pos:Pos}(hg:Gl X "range")(hm:X.mg "range" = none)(ha:XVA X [a] g)(hs:vJ [a] X.env=[(false,eval a X.env)]:=by rfl):XI X tg (.Call (.Name "range" p) [a] [] pos) (iRg1 g):=by
 obtain⟨t,h1,h2⟩:=ha;refine⟨_,qbv hg hm h1 hs,λG0 H0 G ω σ H ds R o e k=>?_⟩;obtain⟨vs,q,e⟩:=bnd e;refine h2 G0 H0 G ω σ H vs _ o q λus G1 H1 x1 y1=>?_
 match vs,e with
 | [.int j],e=>
  dsimp only at e
  by_cases z:-(2^62)<=j/\j<2^62
  ·rw[vG z]at e
   cases e;obtain⟨v,rfl,y2⟩:=y1.one;cases y2.int;exact⟨j,rfl,z.1,z.2,k _ G1 H1 x1 (qdz _ _)⟩
  ·rw[vH z]at e;cases e
end
noncomputable def Wy(g:FG)(b:FS):List D->FS
 | [],ω=>some (.nx,ω)
 | d::ds,ω=>(g d ω).bind λw=>(b w).bind λp=>match p.1 with
  | .nx=>Wy g b ds p.2
  | .ct=>Wy g b ds p.2
  | .bk=>some (.nx,p.2)
  | .rt r=>some (.rt r,p.2)
noncomputable def zBP(fi:FI)(g:FG)(b:FS):FS:=λω=>(fi ω).bind λds=>Wy g b ds ω
section
variable{X:Cx}{tg iter:vW}{body:List vn}{pos:Pos}{fi:FI}{fg:FG}{fb:FS}
def q2R(hp:tK (model X.prog X.w) X.A X.env X.xe)(hc:X.calm=true)(hi:XI X tg iter fi)(hg:XG X tg fg)(hb:XSs X body fb)(hs:∀x,vt iter X.env x=pure x:=by intro _;rfl):XS X (.For tg iter body [] pos) (zBP fi fg fb):=by
 obtain⟨wi,h1,h2⟩:=hi;obtain⟨g,h3,h4⟩:=hg;obtain⟨tb,h5,h6⟩:=hb;refine⟨_,q7v hp hc h1 h3 h5 hs,λG0 H0 G ω σ H out ω' E o e k=>?_⟩;obtain⟨ds,q,e⟩:=bnd e;refine h2 G0 H0 G ω σ H ds _ o q λJ G1 H1 x1 it=>?_;refine⟨λi m σ2 H2=>∃G2 ω2,Own X.K G0 H0 G2 ω2 σ2 H2/\Y1 G1 G2/\Wy fg fb (ds.drop i) ω2=some (out,ω')/\i<=ds.length/\m=ds.length-i,⟨_,G1,ω,o.keep x1,Y1.refl _,e,yq _,rfl⟩,?_⟩;rintro i m σ2 H2 ⟨G2,ω2,o2,s2,f2,hi2,rfl⟩
 by_cases hlt:i<ds.length
 ·refine .inr ⟨it.go H2 i (s2.trans o2.gh) hlt,λσ3 H3=>∃G3 ω3,Own X.K G0 H0 G3 ω3 σ3 H3/\Y1 G1 G3/\Wy fg fb (ds.drop (i+1)) ω3=some (out,ω'),λσ3 H3 ⟨G3,ω3,a1,a2,a3⟩=>⟨ds.length-(i+1),∅,G3,ω3,a1,a2,a3,hlt,rfl⟩,λx H3 hy=>?_⟩
  have hd:ds[i]?=some ds[i]:=zG hlt;obtain⟨G4,x4,rx⟩:=it.yld G2 H2 i x H3 ds[i] s2 o2.gh hd hy;have o2:=o2.keep x4;have s2:=s2.trans x4.gg;rw[xp hlt]at f2;obtain⟨w,q1,f2⟩:=bnd f2;obtain⟨⟨o3,ω3⟩,q2,f2⟩:=bnd f2;refine h4 G0 H0 G4 ω2 σ2 H3 ds[i] x w _ o2 q1 rx λσ4 o4=>?_;refine h6 G0 H0 G4 w σ4 H3 o3 ω3 _ o4 q2 λG5 σ5 H5 o5 s5=>?_;cases o3 with
  | nx=>exact⟨G5,ω3,o5,s2.trans s5,f2⟩
  | ct=>exact⟨G5,ω3,o5,s2.trans s5,f2⟩
  | bk=>cases f2;exact k G5 σ5 H5 o5 (x1.gg.trans (s2.trans s5))
  | rt r=>cases f2;exact k G5 σ5 H5 o5 (x1.gg.trans (s2.trans s5))
 ·have ei:i=ds.length:=∅
  subst ei;rw[ZI]at f2;cases f2;exact .inl ⟨it.stop H2 (s2.trans o2.gh),k G2 σ2 H2 o2 (x1.gg.trans s2)⟩
end
noncomputable def XH(g:FG)(c:FT)(f:FD):List D->WSt->Option (List D)
 | [],_=>some []
 | d::ds,ω=>(g d ω).bind λw=>(c w).bind λb=>if b=true then (f w).bind λx=>(XH g c f ds w).map λr=>x::r else XH g c f ds w
noncomputable def zAg:Option (Option W)->Option W
 | some ↥d=>↥d
 | _=>none
noncomputable def inW(M:Nat)(frees:List Nat)(ω:WSt):WSt:=zj M none++frees.map λj=>zAg ω[j]?
noncomputable def Xg(M:Nat)(frees:List Nat)(fi:FI)(g:FG)(c:FT)(f:FD):FE:=λω=>(fi ω).bind λds=>if ds.length<=1000000 then (XH g c f ds (inW M frees ω)).map R.fr else none
def XTs(X:Cx)(ifs:List vW)(f:FT):Prop:=∃t,PTs X ifs t/\zBi X.K t f
noncomputable def XF:FT:=λ_=>some true
def q20{X:Cx}:XTs X [] XF:=⟨_,qeq,λG0 H0 G ω σ H b Q o e k=>by cases e;exact k G H (Ext.refl o.gh)⟩
def q6t{X:Cx}{c:vW}{f:FT}(h:XT X c f):XTs X [c] f:=let ⟨t,h1,h2⟩:=h;⟨t,qf3 h1,h2⟩
section
variable{X:Cx}{N:List Str}{M:Nat}{frees:List Nat}{scope:uZ}{tg iter elt:vW}{ifs:List vW}{pos:Pos}{fi:FI}{fg:FG}{fc:FT}{fe:FD}
def X6(ω:WSt):Prop:=∀(i:Nat)w,ω[i]?=some (some w)->∃d,w=.sh d
theorem X6.ow{ω:WSt}(h:X6 ω)(i:Nat)(ds:List D):ω[i]?≠some (some (.ow ds)):=λz=>by obtain⟨d,e⟩:=h i _ z;cases e
theorem X6.od{ω:WSt}(h:X6 ω)(i:Nat)(ks:List Int)(ds:List D):ω[i]?≠some (some (.od ks ds)):=λz=>by obtain⟨d,e⟩:=h i _ z;cases e
theorem X6.pw{ω:WSt}(h:X6 ω)(i:Nat)(ds:List D):ω[i]?≠some (some (.pw ds)):=λz=>by obtain⟨d,e⟩:=h i _ z;cases e
def q94{wi:TI}{g:TG}{tc:TT}{te:TE}(h2:SimI X.K wi fi)(h4:SimG X.K g fg)(h6:zBi X.K tc fc)(h8:zBZ X.K te fe)(hg:∀d ω ω',X6 ω->fg d ω=some ω'->X6 ω'):zC7 X.K (zCI M frees wi g tc te) (Xg M frees fi fg fc fe):=by
 intro G0 H0 G ω σ H r Q o e k;obtain⟨ds,q,e⟩:=bnd e
 by_cases hz:ds.length<=1000000
 ·rw[vG hz]at e
  obtain⟨rs,q2,e⟩:=mpd e;subst e;refine h2 G0 H0 G ω σ H ds _ o q λJ G1 H1 x1 it=>?_;intro A hA;have ow0:X6 (inW M frees ω):=by
   intro i es z;unfold inW at z;rcases yt i M with y|y
   ·rw[yf ⇑y,xO,vG y]at z;cases z
   ·rw[yC ⇑y,yk,zh]at z
    cases e1:frees[i-M]? with
    | none=>rw[e1]at z;cases z
    | some j=>
     rw[e1]at z;have z':zAg ω[j]?=some es:=z0 z;generalize ω[j]?=u at z';unfold zAg at z'
     split at z'
     ·cases z';exact⟨_,rfl⟩
     ·cases z'
  have own0:∀G2 H2,Y1 G1 G2->Y1 G2 H2->Own X.K G2 (fr H2) G2 (inW M frees ω) (zB1 M frees σ) H2:=λG2 H2 s1 s2=>by
   have o1:=o.keep x1;refine⟨Ext.refl s2,by unfold inW zB1;simp,λi d hi=>?_,λi ds' hi=>vK hi (ow0.ow i ds'),λi j ds' es l hi=>vK hi (ow0.ow i ds'),λi ks ds' hi=>vK hi (ow0.od i ks ds'),Xo.no ow0.pw⟩;unfold inW at hi;unfold zB1;rcases yt i M with y|y
   ·rw[yf ⇑y,xO,vG y]at hi;cases hi
   ·rw[yC ⇑y,yk,zh]at hi ⊢
    cases e1:frees[i-M]? with
    | none=>rw[e1]at hi;cases hi
    | some j=>
     rw[e1]at hi;have hi':zAg ω[j]?=↥d:=z0 hi;cases e2:ω[j]? with
     | none=>rw[e2]at hi';cases hi'
     | some w=>
      rw[e2]at hi';cases w with
      | none=>cases hi'
      | some w=>
       cases w with
       | ow _=>cases hi'
       | od _ _=>cases hi'
       | pw _=>cases hi'
       | sh d'=>
        cases hi';obtain⟨v,q3,q4⟩:=o1.sh j _ e2;exact⟨v,by rw[zd,q3];rfl,q4.mono s1⟩
  refine⟨λi m σ2 H2=>∃G2 ω2 accd accv,Own X.K G2 (fr H2) G2 ω2 σ2 H2/\X6 ω2/\Ext G1 H1 G2 H2/\G2 A=none/\H2 A=some (.lst accv)/\Yt X.K G2 accd accv/\accd.length<=i/\i<=ds.length/\m=ds.length-i /\
   ∃rest,XH fg fc fe (ds.drop i) ω2=some rest/\accd++rest=rs,⟨_,G1,inW M frees ω,[],[],own0 _ _ (Y1.refl _) (Yx x1.gh (x1.gh.free hA) _),ow0,Ext.hide x1.gh hA _,x1.gh.free hA,qe,Yt.nil,zL _,yq _,rfl,rs,q2,rfl⟩,?_⟩
  rintro i m σ2 H2 ⟨G2,ω2,accd,accv,o2,no2,x2,gA,hA2,ra,la,li,rfl,rest,cd,er⟩
  by_cases hlt:i<ds.length
  ·refine .inr ⟨it.go H2 i (x2.gg.trans x2.gh) hlt,λx H3 hy=>?_⟩
   have hd:ds[i]?=some ds[i]:=zG hlt;obtain⟨G4,x4,rx⟩:=it.yld G2 H2 i x H3 ds[i] x2.gg x2.gh hd hy;have o2':=o2.keep x4;have o2:Own X.K G4 (fr H3) G4 ω2 σ2 H3:=⟨Ext.refl x4.gh,o2'.len,o2'.sh,λi ds' hi=>vK hi (no2.ow i ds'),λi j ds' es l hi=>vK hi (no2.ow i ds'),λi ks ds' hi=>vK hi (no2.od i ks ds'),Xo.no no2.pw⟩;have gA:G4 A=none:=x4.new A gA (by rw[hA2];exact λz=>by cases z);have hA2:H3 A=some (.lst accv):=x4.hh _ _ hA2;have x2:=x2.trans x4;have ra:=ra.mono x4.gg;rw[xp hlt]at cd;obtain⟨w,q1,cd⟩:=bnd cd;obtain⟨b,q3,cd⟩:=bnd cd;have now:=hg _ _ _ no2 q1;refine h4 G4 (fr H3) G4 ω2 σ2 H3 ds[i] x w _ o2 q1 rx λσ4 o4=>?_;refine h6 G4 (fr H3) G4 w σ4 H3 b _ o4 q3 λG5 H5 x5=>?_;have o5:=o4.keep x5;have gA5:G5 A=none:=x5.new A gA (by rw[hA2];exact λz=>by cases z);have hA5:H5 A=some (.lst accv):=x5.hh _ _ hA2;cases b with
   | false=>
    rw[vH ym];rw[vH ym]at cd;have o6:Own X.K G5 (fr H5) G5 w σ4 H5:=⟨Ext.refl x5.gh,o5.len,o5.sh,λi ds' hi=>vK hi (now.ow i ds'),λi j ds' es l hi=>vK hi (now.ow i ds'),λi ks ds' hi=>vK hi (now.od i ks ds'),Xo.no now.pw⟩;exact⟨ds.length-(i+1),∅,G5,w,accd,accv,o6,now,x2.trans x5,gA5,hA5,ra.mono x5.gg,∅,hlt,rfl,rest,cd,er⟩
   | true=>
    rw[vG rfl]at cd ⊢;obtain⟨d,q4,cd⟩:=bnd cd;obtain⟨rest',q5,cd⟩:=mpd cd;subst cd;refine h8 G4 (fr H3) G5 w σ4 H5 d _ o5 q4 λv G6 H6 x6 y6=>?_;have gA6:G6 A=none:=x6.new A gA5 (by rw[hA5];exact λz=>by cases z);have hA6:H6 A=some (.lst accv):=x6.hh _ _ hA5;have x26:=(x2.trans x5).trans x6;have raa:=ra.mono (x5.gg.trans x6.gg);have hl:accv.length<sizeLine:=by rw[<- raa.len,vo];omega
    refine⟨accv,hA6,hl,ds.length-(i+1),∅,G6,w,accd++[d],accv++[v],?_,now,⟨x26.gg,Yx x26.gh gA6 _,Yx x26.hh hA _,x26.new⟩,gA6,qe,raa.app (Yt.cons y6 Yt.nil),by rw[zD,zz];omega,hlt,rfl,rest',q5,by rw[zR];exact er⟩;have o6:=o5.keep x6;exact⟨Ext.refl (Yx x6.gh gA6 _),o6.len,o6.sh,λi ds' hi=>vK hi (now.ow i ds'),λi j ds' es l hi=>vK hi (now.ow i ds'),λi ks ds' hi=>vK hi (now.od i ks ds'),Xo.no now.pw⟩
  ·have ei:i=ds.length:=∅
   subst ei;rw[ZI]at cd;cases cd;rw[yu]at er;subst er;refine .inl ⟨it.stop H2 (x2.gg.trans x2.gh),k _ G2 H2 (x1.trans x2) ⟨A,accv,rfl,x1.hh.free hA,gA,hA2,ra⟩⟩
 ·rw[vH hz]at e;cases e
def qdD{ω:WSt}{i:Nat}{d:D}(h:X6 ω):X6 (ω.set i ↥d):=by
 intro j ds z;rcases qd z with⟨_,_,y⟩|⟨_,y⟩
 ·cases y;exact⟨d,rfl⟩
 ·exact h j ds y
def Tame(fg:FG):Prop:=∀d ω ω',X6 ω->fg d ω=some ω'->X6 ω'
def zCD(gs:List D->WSt->Option WSt):Prop:=∀ds ω ω',X6 ω->gs ds ω=some ω'->X6 ω'
def q1b(i:Nat):Tame (gN i):=λd ω ω' h e=>by cases e;exact qdD h
def q82:zCD Xz:=λds ω ω' h e=>by
 cases ds with
 | nil=>cases e;exact h
 | cons _ _=>cases e
def q3v{fg:FG}{gs:List D->WSt->Option WSt}(h:Tame fg)(h':zCD gs):zCD (Yw fg gs):=λds ω ω' n e=>by
 cases ds with
 | nil=>cases e
 | cons d r=>obtain⟨w,q,e⟩:=bnd e;exact h' _ _ _ (h _ _ _ n q) e
def qbY{n:Nat}{gs:List D->WSt->Option WSt}(h:zCD gs):Tame (gT n gs):=λd ω ω' no e=>by
 unfold gT at e;cases d with
 | tup ds=>
  dsimp only at e
  by_cases z:ds.length=n
  ·rw[vG z]at e;exact h _ _ _ no e
  ·rw[vH z]at e;cases e
 | _=>cases e
noncomputable def canD(K:zA)(f:FD):TE:=λσ H Q=>∃G0 H0 G ω d,Own K G0 H0 G ω σ H/\f ω=some d/\∀v G' H',Ext G H G' H'->Rep K G' d v->Q v H'
noncomputable def canT(K:zA)(f:FT):TT:=λσ H Q=>∃G0 H0 G ω b,Own K G0 H0 G ω σ H/\f ω=some b/\∀G' H',Ext G H G' H'->Q b H'
noncomputable def canG(K:zA)(f:FG):TG:=λv σ H Q=>∃G0 H0 G ω d ω',Own K G0 H0 G ω σ H/\f d ω=some ω'/\Rep K G d v/\∀σ',Own K G0 H0 G ω' σ' H->Q σ' H
def XD.can{X:Cx}{e:vW}{f:FD}(h:XD X e f):PE X e (canD X.K f):=λpins s σ H Q I ⟨G0,H0,G,ω,d,o,e,k⟩=>let ⟨_,h1,h2⟩:=h;h1 pins s σ H Q I (h2 G0 H0 G ω σ H d Q o e k)
def XTs.can{X:Cx}{e:List vW}{f:FT}(h:XTs X e f):PTs X e (canT X.K f):=λpins s σ H Q I ⟨G0,H0,G,ω,d,o,e,k⟩=>let ⟨_,h1,h2⟩:=h;h1 pins s σ H Q I (h2 G0 H0 G ω σ H d Q o e k)
def XG.can{X:Cx}{e:vW}{f:FG}(h:XG X e f):PG X e (canG X.K f):=λpins s σ H v u Q I r ⟨G0,H0,G,ω,d,ω',o,e,y,k⟩=>let ⟨_,h1,h2⟩:=h;h1 pins s σ H v u Q I r (h2 G0 H0 G ω σ H d v ω' Q o e y k)
def q9D{K:zA}{f:FD}:zBZ K (canD K f) f:=λG0 H0 G ω σ H d Q o e k=>⟨G0,H0,G,ω,d,o,e,k⟩
def q9F{K:zA}{f:FT}:zBi K (canT K f) f:=λG0 H0 G ω σ H d Q o e k=>⟨G0,H0,G,ω,d,o,e,k⟩
def q95{K:zA}{f:FG}:SimG K (canG K f) f:=λG0 H0 G ω σ H d v ω' Q o e y k=>⟨G0,H0,G,ω,d,ω',o,e,y,k⟩
def q1Z(hc:X.calm=true)(B:BlkOk X N M frees scope)(hi:XI X tg iter fi)(ht:Tame fg)(hb:∀C s H fp,XG (Xv X N scope C s H fp) tg fg/\XTs (Xv X N scope C s H fp) ifs fc/\XD (Xv X N scope C s H fp) elt fe)(hs:∀x,vt iter X.env x=pure x:=by intro _;rfl):XE X (.ListComp elt [⟨tg,iter,ifs,0⟩] scope pos) (Xg M frees fi fg fc fe):=by
 obtain⟨wi,h1,h2⟩:=hi;have b4:∀C s H fp,PG (Xv X N scope C s H fp) tg (canG X.K fg)/\PTs (Xv X N scope C s H fp) ifs (canT X.K fc)/\PE (Xv X N scope C s H fp) elt (canD X.K fe):=λC s H fp=>⟨(hb C s H fp).1.can,(hb C s H fp).2.1.can,(hb C s H fp).2.2.can⟩;exact⟨_,qa6 hc B h1 b4 hs,q94 h2 q95 q9F q9D ht⟩
def q6j{i:Nat}{x:Str}{pos' spos:Pos}(hc:X.calm=true)(hN:X.N.Nodup)(hi':X.N[i]?=some x)(hx:X.env.scope.names.lookup x=some .local)(B:BlkOk X N M frees scope)(hi:XI X tg iter fi)(ht:Tame fg)(hb:∀C s H fp,XG (Xv X N scope C s H fp) tg fg/\XTs (Xv X N scope C s H fp) ifs fc/\XD (Xv X N scope C s H fp) elt fe)(hsw:vy (.ListComp elt [⟨tg,iter,ifs,0⟩] scope pos) (some (.Name x pos')) spos.line X.env=pure true:=by rfl)(hs:∀x,vt iter X.env x=pure x:=by intro _;rfl):XS X (.Assign [.Name x pos'] (.ListComp elt [⟨tg,iter,ifs,0⟩] scope pos) spos) (XR i (Xg M frees fi fg fc fe)):=by
 obtain⟨wi,h1,h2⟩:=hi;have b4:∀C s H fp,PG (Xv X N scope C s H fp) tg (canG X.K fg)/\PTs (Xv X N scope C s H fp) ifs (canT X.K fc)/\PE (Xv X N scope C s H fp) elt (canD X.K fe):=λC s H fp=>⟨(hb C s H fp).1.can,(hb C s H fp).2.1.can,(hb C s H fp).2.2.can⟩;exact⟨_,qev hc hN hi' hx B h1 b4 hsw hs,qak (q94 h2 q95 q9F q9D ht)⟩
def zAX(X:Cx)(scope:uZ):List Str->List Nat->Prop
 | [],[]=>True
 | x::xs,j::js=>(X.N[j]?=some x/\(X.env.kindOf x=some .cell\/X.env.kindOf x=some .free)/\scope.names.lookup x=some .free)/\zAX X scope xs js
 | _,_=>False
theorem q7e{X:Cx}{scope:uZ}:∀{xs:List Str}{js:List Nat},zAX X scope xs js->∀(k:Nat)(x:Str),xs[k]?=some x->∃j,js[k]?=some j/\X.N[j]?=some x/\(X.env.kindOf x=some .cell\/X.env.kindOf x=some .free)/\scope.names.lookup x=some .free
 | [],_,_,_,_,e=>by simp at e
 | _::_,[],h,_,_,_=>h.elim
 | y::ys,i::is,⟨h1,h2⟩,0,x,e=>by
  have:y=x:=by simpa using e
  subst this;exact⟨i,rfl,h1⟩
 | y::ys,i::is,⟨h1,h2⟩,k+1,x,e=>by
  obtain⟨j,q⟩:=q7e h2 k x ⇑e;exact⟨j,by simpa using q.1,q.2⟩
theorem q6C{X:Cx}{scope:uZ}:∀{xs:List Str}{js:List Nat},zAX X scope xs js->xs.length=js.length
 | [],[],_=>rfl
 | [],_::_,h=>h.elim
 | _::_,[],h=>h.elim
 | _::ys,_::is,⟨_,h2⟩=>by rw[zC,zC,q6C h2]
def blk{X:Cx}{scope:uZ}(own free:List Str)(frees:List Nat)(h1:scope.kind=.function)(h2:∀y∈scope.names,y.2≠.cell)(h3:∀y∈scope.names,y.2=.local->scope.names.lookup y.1=some .local)(h4:(scope.names.all λp=>p.2 != .free || (X.env.cells.lookup p.1).isSome)=true)(h5:zAX X scope free frees):BlkOk X (own++free) own.length frees scope:=by
 refine⟨h1,h2,h3,λp hp hf=>?_,λk x e=>?_,by rw[zD,q6C h5]⟩
 ·have:=yz.mp h4 p hp
  rw[hf]at this;simpa using this
 ·rw[yC (Nat.le_add_right _ _),ZH]at e
  exact q7e h5 k x e
end
noncomputable def entry(n:Nat)(ds:List D):WSt:=ds.map (λd=>↥d)++zj (n-ds.length) none
noncomputable def mir(n:Nat)(body:FS)(ds:List D):Option O:=match body (entry n ds)with
 | some (.rt r,_)=>some r
 | some (.nx,_)=>some (.sh .non)
 | _=>none
def q79{K:zA}{H:Hp}{N:List Str}{ds:List D}{vs:List V}(h:Yt K H ds vs)(i:Nat)(d:D)(e:(entry N.length ds)[i]?=some ↥d):∃v,(L2.start N vs)[i]?=some (some v)/\Rep K H d v:=by
 unfold entry at e;unfold L2.start;have hl:=h.len;rcases yt i ds.length with y|y
 ·rw[yf ⇑y,zh]at e
  have e1:ds[i]?=some d:=by
   cases q:ds[i]? with
   | none=>rw[q]at e;cases e
   | some d'=>rw[q]at e;cases e;rfl
  obtain⟨v,q1,q2⟩:=h.get e1;refine⟨v,?_,q2⟩;rw[yf ⇑((∅:i<vs.length)),zh,q1];rfl
 ·rw[yC ⇑y,xO]at e
  split at e <;> cases e
def q2a{n:Nat}{ds:List D}:X6 (entry n ds):=by
 intro i es z;unfold entry at z;rcases yt i ds.length with y|y
 ·rw[yf ⇑y,zh]at z
  cases q:ds[i]? with
  | none=>rw[q]at z;cases z
  | some d=>rw[q]at z;cases z;exact⟨d,rfl⟩
 ·rw[yC ⇑y,xO]at z
  split at z <;> cases z
def fnD{P:vS}{w:vY}{K:zA}{mg:Str->Option Value}{base:vf}{x qual:Str}{st:vn}{f:vC}{fd:vN}{N ps:List Str}{k:Nat}{body:FS}(F:Fun K x qual st f fd)(S:FnScope N ps (Yo st))(hb:∀(cdv:Value)(A:vZ)(outer:List Env)(s:vB)(H:Hp)(E:XK),Room k (A.deeper (PyProof.Rows.envOfC qual (Yo st) s.heap.objs.size f cdv))->XSs (zAm CX0 P w K mg base N qual (Yo st) f cdv A outer s H E).nox (Xf st) body):
  FnOk P w K mg base CX0 (k+1) f fd ps (spD K ps.length (mir N.length body)):=by
 refine F.ok S (λvs H Q E h=>?_) (λcdv A outer s H vs Q E hr h=>?_)
 ·obtain⟨G,ds,r,_,h2,_,h4,_⟩:=h
  rw[<- h4.len];exact h2
 ·obtain⟨G,ds,r,h1,h2,h3,h4,h5⟩:=h
  obtain⟨t,p1,p2⟩:=hb cdv A outer s H E hr;refine⟨t,p1,?_⟩;unfold mir at h1;have hl:=h4.len;have hpl:ps.length<=N.length:=by have:=uG wH S.pre;rw[yK]at this;omega
  have o0:Own K G (fr H) G (entry N.length ds) (L2.start N vs) H:=by
   refine⟨Ext.refl h3,?_,λi d e=>q79 h4 i d e,λi es e=>vK e (q2a.ow i es),λi j es fs l e=>vK e (q2a.ow i es),λi ks es e=>vK e (q2a.od i ks es),Xo.no q2a.pw⟩;unfold entry L2.start;simp only[zD,zB,yk];omega
  cases q:body (entry N.length ds)with
  | none=>rw[q]at h1;cases h1
  | some p=>
   obtain⟨out,ω'⟩:=p;rw[q]at h1;refine p2 G (fr H) G _ _ H out ω' _ o0 q λG' σ' H' o' s'=>?_;cases out with
   | nx=>cases h1;exact h5 _ G' H' o'.ext rfl
   | bk=>cases h1
   | ct=>cases h1
   | rt r'=>cases h1;exact λv y=>h5 v G' H' o'.ext y
def q25:ve "len" = some (.builtin "len"):=⋯
def q7o:ve "all" = some (.builtin "all"):=⋯
def qcL:ve "sum" = some (.builtin "sum"):=⋯
def qcs:ve "min" = some (.builtin "min"):=⋯
def qc1:ve "max" = some (.builtin "max"):=⋯
def q63:ve "sorted" = some (.builtin "sorted"):=⋯
def qfu:ve "int" = some (.type "int"):=⋯
def qeA:ve "bool" = some (.type "bool"):=⋯
def q7E:ve "list" = some (.type "list"):=⋯
def q5r:ve "tuple" = some (.type "tuple"):=⋯
def qg7:ve "set" = some (.type "set"):=⋯
noncomputable def zCC(o:Option (Out×WSt))(g:FS):Option (Out×WSt):=o.bind λp=>match p.1 with
 | .nx=>g p.2
 | o=>some (o,p.2)
noncomputable def setS(i:Nat)(ω:WSt)(o:Option R):Option (Out×WSt):=o.bind λr=>(setR i r ω).map λw=>(.nx,w)
noncomputable def ifS(c:Option Bool)(f g:FS)(ω:WSt):Option (Out×WSt):=c.bind λb=>if b=true then f ω else g ω
noncomputable def retS(ω:WSt)(o:Option R):Option (Out×WSt):=o.bind λr=>match r with
 | .sh d=>some (.rt (.sh d),ω)
 | .fr ds=>some (.rt (.fr ds),ω)
 | .vw _=>none
noncomputable def retV(ω:WSt)(o:Option (Option W)):Option (Out×WSt):=match o with
 | some ↥d=>some (.rt (.sh d),ω)
 | some (some (.ow ds))=>some (.rt (.fr ds),ω)
 | _=>none
noncomputable def appS(i:Nat)(ω:WSt)(o:Option D)(l:Option (Option W)):Option (Out×WSt):=o.bind λd=>match l with
 | some (some (.ow ds))=>if ds.length<1000000 then some (.nx,ω.set i (some (.ow (ds++[d]))))else none
 | _=>none
noncomputable def extS(i:Nat)(ω:WSt)(o:Option D)(l:Option (Option W)):Option (Out×WSt):=o.bind λd=>(itemsOf d).bind λes=>match l with
 | some (some (.ow ds))=>if ds.length+es.length<=1000000 then some (.nx,ω.set i (some (.ow (ds++es))))else none
 | _=>none
noncomputable def shrS(i:Nat)(ω:WSt)(o:Option (Option W)):WSt:=match o with
 | some (some (.ow ds))=>ω.set i ↥(.lst ds)
 | some (some (.od ks ds))=>ω.set i ↥(.dic ks ds)
 | _=>ω
noncomputable def forS(o:Option (List D))(g:FG)(b:FS)(ω:WSt):Option (Out×WSt):=o.bind λds=>Wy g b ds ω
noncomputable def zCs(o:Option (Option W)):Option R:=match o with
 | some ↥d=>↥d
 | some (some (.ow ds))=>some (.vw ds)
 | some (some (.pw ds))=>some (.vw ds)
 | _=>none
noncomputable def eD(o:Option D):Option R:=o.map R.sh
noncomputable def dR(o:Option R):Option D:=match o with
 | ↥d=>some d
 | some (.fr ds)=>some (.lst ds)
 | _=>none
noncomputable def vR(o:Option R):Option D:=o.map R.d
noncomputable def op2(op:D->D->Option R)(x y:Option D):Option R:=x.bind λx=>y.bind λy=>op x y
noncomputable def callR(m:List D->Option O)(o:Option (List D)):Option R:=o.bind λds=>(m ds).map O.r
noncomputable def consA(o:Option D)(r:Option (List D)):Option (List D):=o.bind λd=>r.map λds=>d::ds
noncomputable def bltR(op:List D->Option R)(o:Option (List D)):Option R:=o.bind op
noncomputable def slR(o:Option D)(l h:Option (Option Int)):Option R:=o.bind λd=>l.bind λlo=>h.bind λhi=>oSl d lo hi
noncomputable def atP(o:Option D):Option (Option Int):=o.bind λd=>match d with|.int i=>some (some i)|_=>none
noncomputable def zCU(c:Ty)(o:Option D):Option R:=o.bind λd=>match d with
 | .scr _=>none
 | .exc _=>none
 | .dic _ _=>none
 | d=>↥(.bl (Xq (tyD d) c))
noncomputable def tR(o:Option R):Option Bool:=match o with
 | ↥(.bl k)=>some k
 | _=>none
noncomputable def orT(o:Option Bool)(g:FT)(ω:WSt):Option Bool:=o.bind λc=>if c=true then some true else g ω
noncomputable def notT(o:Option Bool):Option Bool:=o.map (!·)
noncomputable def truT(o:Option D):Option Bool:=o.bind truD
noncomputable def andV(o:Option D)(g:FD)(ω:WSt):Option D:=o.bind λd=>(blOf d).bind λc=>if c=true then g ω else some (.bl false)
noncomputable def orV(o:Option D)(g:FD)(ω:WSt):Option D:=o.bind λd=>(blOf d).bind λc=>if c=true then some (.bl true)else g ω
noncomputable def seqI(o:Option D):Option (List D):=o.bind itemsOf
noncomputable def rg1I(o:Option (List D)):Option (List D):=o.bind λds=>match ds with
 | [.int j]=>if -(2^62)<=j/\j<2^62 then some (upTo 0 j.toNat)else none
 | _=>none
noncomputable def compR(M:Nat)(fr:List Nat)(o:Option (List D))(g:FG)(c:FT)(f:FD)(ω:WSt):Option R:=o.bind λds=>if ds.length<=1000000 then (XH g c f ds (inW M fr ω)).map R.fr else none
noncomputable def outM(o:Option (Out×WSt)):Option O:=match o with
 | some (.rt r,_)=>some r
 | some (.nx,_)=>some (.sh .non)
 | _=>none
section
variable{f g:FS}{ω w:WSt}{i:Nat}{fe fe':FE}{fd fd':FD}{ft ft':FT}{r:O}{d d':D}{ds ds':List D}{a b:Int}{p q:Bool}{fa:FA}{fg:FG}{fi:FI}{n:Nat}
def q18:mir n f ds=outM (f (entry n ds)):=rfl
def qM:outM (some (.rt r,w))=some r:=rfl
def q08:outM (some (.nx,w))=some (.sh .non):=rfl
def qE:Y4 f g ω=zCC (f ω) g:=rfl
def qL:zCC (some (.nx,w)) g=g w:=rfl
def q00:zCC (some (.rt r,w)) g=some (.rt r,w):=rfl
def q1c:X2 ω=some (.nx,ω):=rfl
def q1y:XR i fe ω=setS i ω (fe ω):=rfl
def qP:setS i ω ↥d=some (.nx,ω.set i ↥d):=rfl
def qV:setS i ω (some (.fr ds))=some (.nx,ω.set i (some (.ow ds))):=rfl
def Wp:sIf ft f g ω=ifS (ft ω) f g ω:=rfl
def q0L:ifS (some true) f g ω=f ω:=rfl
def q0E:ifS (some false) f g ω=g ω:=rfl
def q1h:XN fe ω=retS ω (fe ω):=rfl
def q09:retS ω ↥d=some (.rt (.sh d),ω):=rfl
def q03:retS ω (some (.fr ds))=some (.rt (.fr ds),ω):=rfl
def q0n:zAn i ω=retV ω ω[i]?:=rfl
def qJ:retV ω (some (some (.ow ds)))=some (.rt (.fr ds),ω):=rfl
def q0Y:sApp i fd ω=appS i ω (fd ω) ω[i]?:=rfl
def WK(h:ds.length<1000000):appS i ω (some d) (some (some (.ow ds)))=some (.nx,ω.set i (some (.ow (ds++[d])))):=vG h
def q1B:zC5 i fd ω=extS i ω (fd ω) ω[i]?:=rfl
def q0o(h:ds.length+ds'.length<=1000000):extS i ω (some (.tup ds')) (some (some (.ow ds)))=some (.nx,ω.set i (some (.ow (ds++ds')))):=vG h
def q0h(h:ds.length+ds'.length<=1000000):extS i ω (some (.lst ds')) (some (some (.ow ds)))=some (.nx,ω.set i (some (.ow (ds++ds')))):=vG h
def qX:zAf i f ω=f (shrS i ω ω[i]?):=rfl
def qY:shrS i ω (some (some (.ow ds)))=ω.set i ↥(.lst ds):=rfl
def q1p:zBP fi fg f ω=forS (fi ω) fg f ω:=rfl
def Wd:forS (some ds) fg f ω=Wy fg f ds ω:=rfl
def q1k:Yn i ω=zCs ω[i]?:=rfl
def q0d:zCs (some ↥d)=↥d:=rfl
def qU:zCs (some (some (.ow ds)))=some (.vw ds):=rfl
def e_c:fC d ω=some d:=rfl
def e_e:eOf fd ω=eD (fd ω):=rfl
def We:eD (some d)=↥d:=rfl
def e_d:dOf fe ω=dR (fe ω):=rfl
def q07:dR ↥d=some d:=rfl
def q01:dR (some (.fr ds))=some (.lst ds):=rfl
def e_v:vOf fe ω=vR (fe ω):=rfl
def q0b:vR ↥d=some d:=rfl
def qT:vR (some (.fr ds))=some (.lst ds):=rfl
def q0a:vR (some (.vw ds))=some (.lst ds):=rfl
def Wa{op}:Yq op fd fd' ω=op2 op (fd ω) (fd' ω):=rfl
def WU{op}:op2 op (some d) (some d')=op d d':=rfl
def q0z{m}:Ys m fa ω=callR m (fa ω):=rfl
def Wn{m}:callR m (some ds)=(m ds).map O.r:=rfl
def q0e:(O.sh d).r=.sh d:=rfl
def qQ:(O.fr ds).r=.fr ds:=rfl
def WR:Yj fd fa ω=consA (fd ω) (fa ω):=rfl
def WW:consA (some d) (some ds)=some (d::ds):=rfl
def Ws:Yr ω=some []:=rfl
def q1v:X8 fa ω=(fa ω).map R.fr:=rfl
def q1j:W2 fa ω=(fa ω).map D.tup:=rfl
def q16{op}:WE op fa ω=bltR op (fa ω):=rfl
def Wu{op}:bltR op (some ds)=op ds:=rfl
def q1t{l h:FO}:fSl fd l h ω=slR (fd ω) (l ω) (h ω):=rfl
def WZ{lo hi:Option Int}:slR (some d) (some lo) (some hi)=oSl d lo hi:=rfl
def Wm:pNo ω=some none:=rfl
def WS:pAt fd ω=atP (fd ω):=rfl
def Wl:atP (some (.int a))=some (some a):=rfl
def q17{c}:zCK c fd ω=zCU c (fd ω):=rfl
def qu{c}:zCU c (some (.int a))=↥(.bl (Xq .int c)):=rfl
def qB{c}:zCU c (some (.bl p))=↥(.bl (Xq .bl c)):=rfl
def qp{c}:zCU c (some .non)=↥(.bl (Xq .non c)):=rfl
def qr{c x}:zCU c (some (.str x))=↥(.bl (Xq .str c)):=rfl
def qw{c}:zCU c (some (.lst ds))=↥(.bl (Xq .lst c)):=rfl
def qt{c}:zCU c (some (.tup ds))=↥(.bl (Xq .tup c)):=rfl
def e_t:tOf fe ω=tR (fe ω):=rfl
def Wz:tR ↥(.bl p)=some p:=rfl
def q1f:(if p=true then some q else some false)=some (p&&q):=by cases p <;> rfl
def q1i:zCE ft ft' ω=orT (ft ω) ft' ω:=rfl
def WY:orT (some p) ft ω=if p=true then some true else ft ω:=rfl
def q1A:(if p=true then some true else some q)=some (p || q):=by cases p <;> rfl
def q0H:X4 ft ω=notT (ft ω):=rfl
def Wi:notT (some p)=some (!p):=rfl
def q0w:zAT fd ω=truT (fd ω):=rfl
def qS:truT (some (.bl p))=some p:=rfl
def qC:truT (some (.lst ds))=some (!ds.isEmpty):=rfl
def q0F:zAl fd fd' ω=andV (fd ω) fd' ω:=rfl
def WV:andV (some (.bl p)) fd ω=if p=true then fd ω else some (.bl false):=rfl
def q1d:(if p=true then some (D.bl q)else some (D.bl false))=some (.bl (p&&q)):=by cases p <;> rfl
def q1a:vOr fd fd' ω=orV (fd ω) fd' ω:=rfl
def Wk:orV (some (.bl p)) fd ω=if p=true then some (.bl true)else fd ω:=rfl
def q0O:WP fd ω=seqI (fd ω):=rfl
def q0D:seqI (some (.lst ds))=some ds:=rfl
def q1m:iRg1 fa ω=rg1I (fa ω):=rfl
def q0I{M fr}:Xg M fr fi fg ft fd ω=compR M fr (fi ω) fg ft fd ω:=rfl
def Xk{M fr}(h:ds.length<=1000000):compR M fr (some ds) fg ft fd ω=(XH fg ft fd ds (inW M fr ω)).map R.fr:=vG h
def q1z:zB2 fd ω=(fd ω).bind oNeg:=rfl
def Wh:oNeg (.int a)=↥(.int (-a)):=rfl
def q0g:zAY [.lst ds]=↥(.int ds.length):=rfl
def q02:zAY [.tup ds]=↥(.int ds.length):=rfl
def qW{ns}:zAY [.scr ns]=↥(.int ns.length):=rfl
def q0G:oEq false (.int a) (.int b)=↥(.bl (a==b)):=rfl
def q0A:oEq true (.int a) (.int b)=↥(.bl (!(a==b))):=rfl
def qO:zB5 (.int a) (.int b)=↥(.int (a-b)):=rfl
def q0K:oLt (.int a) (.int b)=↥(.bl (decide (a<b))):=rfl
def q0B:oLe (.int a) (.int b)=↥(.bl (decide (a<=b))):=rfl
def q04:X5 (.int a) (.int b)=↥(.int (a+b)):=rfl
def q0Z:oIx (.lst ds) (.int a)=(atI ds a).map R.sh:=rfl
def q1q:oIx (.tup ds) (.int a)=(atI ds a).map R.sh:=rfl
def q1x{ns:List Int}:oIx (.scr ns) (.int a)=(atI ns a).map λn=>.sh (.int n):=rfl
def q38{α:Type}{xs:List α}{i:Int}(h0:0<=i)(h1:i<xs.length):atI xs i=some (xs[i.toNat]'∅):=by
 unfold atI ixN;rw[vG h0,vG h1];show xs[i.toNat]?=_;rw[zG ∅]
def at0{α:Type}{x:α}{xs:List α}:atI (x::xs) 0=some x:=by
 rw[q38 (by decide) (by rw[zC];omega)];rfl
def at1{α:Type}{x y:α}{xs:List α}:atI (x::y::xs) 1=some y:=by
 rw[q38 (by decide) (by rw[zC,zC];omega)];rfl
def at2{α:Type}{x y z:α}{xs:List α}:atI (x::y::z::xs) 2=some z:=by
 rw[q38 (by decide) (by rw[zC,zC,zC];omega)];rfl
def qeY{i j:Int}(h0:0<j)(h1:j<1073741824):cDiv i j=true:=by unfold cDiv;rw[vQ h0,vQ h1];rfl
def qet{i j:Int}(h0:0<j):cMod i j=true:=by unfold cMod;rw[vQ h0]
def qdp{i j:Int}(h0:-(2^64)<j)(h1:j<2^64):zCp i j=true:=by unfold zCp;rw[vQ h0,vQ h1];simp
def qcZ{i j:Int}(h0:-(2^64)<i)(h1:i<2^64):zCp i j=true:=by unfold zCp;rw[vQ h0,vQ h1];simp
def qz(h:0<b):oMod (.int a) (.int b)=↥(.int (a%b)):=vG (qet h)
def q0c(h:0<b)(h':b<1073741824):oDiv (.int a) (.int b)=↥(.int (a/b)):=vG (qeY h h')
def qdf(h:-(2^64)<b)(h':b<2^64):zCA (.int a) (.int b)=↥(.int (a*b)):=vG (qdp h h')
def q9k(h:-(2^64)<a)(h':a<2^64):zCA (.int a) (.int b)=↥(.int (a*b)):=vG (qcZ h h')
end
def zBl(o:Option (Out×WSt))(P:WSt->Prop):Prop:=match o with
 | some (.nx,ω)=>P ω
 | some (.ct,ω)=>P ω
 | _=>False
def qK{ω:WSt}{P:WSt->Prop}:zBl (some (.nx,ω)) P=P ω:=rfl
def q2V{α:Type}{g:FG}{b:FS}(F:α->D)(xs:List α)(I:List α->WSt->Prop)(turn:∀pre x post ω,xs=pre++x::post->I pre ω->∃w,g (F x) ω=some w/\zBl (b w) (I (pre++[x]))){ω:WSt}(h0:I [] ω):∃ω',Wy g b (xs.map F) ω=some (.nx,ω')/\I xs ω':=by
 have key:∀(post pre:List α)(ω:WSt),xs=pre++post->I pre ω->∃ω',Wy g b (post.map F) ω=some (.nx,ω')/\I xs ω':=by
  intro post
  induction post with
  | nil=>intro pre ω e h;exact⟨ω,rfl,by rw[e,yu];exact h⟩
  | cons d post ih=>
   intro pre ω e h;obtain⟨w,h1,h2⟩:=turn pre d post ω e h;rw[zO,Wy,h1,zX]
   match hb:b w,h2 with
   | some (.nx,ω2),h2=>exact ih (pre++[d]) ω2 (by rw[e,zR];rfl) h2
   | some (.ct,ω2),h2=>exact ih (pre++[d]) ω2 (by rw[e,zR];rfl) h2
 exact key xs [] ω rfl h0
def q8f{g:FG}{b:FS}(lo:Int)(n:Nat)(I:Nat->WSt->Prop)(turn:∀i ω,i<n->I i ω->∃w,g (.int (lo+i)) ω=some w/\zBl (b w) (I (i+1))){ω:WSt}(h0:I 0 ω):∃ω',Wy g b (Hk.upTo lo n) ω=some (.nx,ω')/\I n ω':=by
 unfold Hk.upTo;obtain⟨ω',e,h⟩:=q2V (g:=g) (b:=b) (λ(i:Nat)=>D.int (lo+(i:Int))) (ya n) (λpre ω=>I pre.length ω) (λpre x post ω e h=>by
  have hx:x=pre.length:=by
   have:=uG (λl=>l[pre.length]?) e;rw[yC (zL _),Z6]at this;rcases yt pre.length n with z|z
   ·rw[xw z]at this;simpa using this.symm
   ·rw[yL (by rw[yO];exact z)]at this;cases this
  have hlt:pre.length<n:=by
   have:=uG wH e;rw[yO,zD,zC]at this;omega
  subst hx;obtain⟨w,h1,h2⟩:=turn pre.length ω hlt h;refine⟨w,h1,?_⟩;rw[zD];exact h2) h0
 rw[yO]at h;exact⟨ω',e,h⟩
theorem q61{g:FG}{c:FT}{f:FD}(P:WSt->Prop)(q:D->Bool)(F:D->D):∀(ds:List D){ω:WSt},P ω ->
  (∀d∈ds,∀ω,P ω->∃w,g d ω=some w/\P w/\c w=some (q d)/\(q d=true->f w=some (F d)))->XH g c f ds ω=some ((ds.filter q).map F)
 | [],_,_,_=>rfl
 | d::ds,ω,h,t=>by
  obtain⟨w,h1,h2,h3,h4⟩:=t d zJ ω h;have ih:=q61 P q F ds h2 (λe he=>t e (zI _ he));rw[XH,h1,zX,h3,zX];cases hq:q d with
  | true=>rw[vG rfl,h4 hq,zX,ih,ZJ hq];rfl
  | false=>rw[vH (by decide),ih,ZK (by rw[hq];decide)]
def q7Y{i:Nat}{f:FD}(F:D->D)(ds:List D){ω:WSt}(h:∀d∈ds,f (ω.set i ↥d)=some (F d)):XH (gN i) XF f ds ω=some (ds.map F):=by
 have:=q61 (g:=gN i) (c:=XF) (f:=f) (λw=>∀x,w.set i x=ω.set i x) (λ_=>true) F ds (ω:=ω) (λx=>rfl) λd hd w hw=>
  ⟨w.set i ↥d,rfl,λx=>by rw[ZT,hw],rfl,λ_=>by rw[hw];exact h d hd⟩
 rw[this,Zj.mpr (λ_ _=>rfl)]
def q8j{i:Nat}{c:FT}{f:FD}(q:D->Bool)(F:D->D)(ds:List D){ω:WSt}(h:∀d∈ds,c (ω.set i ↥d)=some (q d)/\(q d=true->f (ω.set i ↥d)=some (F d))):XH (gN i) c f ds ω=some ((ds.filter q).map F) :=
 q61 (g:=gN i) (c:=c) (f:=f) (λw=>∀x,w.set i x=ω.set i x) q F ds (ω:=ω) (λx=>rfl) λd hd w hw=>
  ⟨w.set i ↥d,rfl,λx=>by rw[ZT,hw],by rw[hw];exact(h d hd).1,λz=>by rw[hw];exact(h d hd).2 z⟩
def qbn{ds:List D}{lo hi:Option Int}:oSl (.lst ds) lo hi=some (.fr (cutD ds lo hi)):=rfl
def qgj{ns:List Int}{lo hi:Option Int}:oSl (.scr ns) lo hi=some (.fr ((cutD ns lo hi).map D.int)):=rfl
def q4c{xs ys:List D}(h:xs.length+ys.length<=1000000):X5 (.lst xs) (.lst ys)=some (.fr (xs++ys)):=vG h
theorem q9C(a:Int):∀(ns:List Int),inD (.int a) (ns.map D.int)=decide (a∈ns)
 | []=>rfl
 | n::r=>by
  have ih:=q9C a r;unfold inD inV at ih ⊢;rw[zO,zO,wT,ih];have e:eqV (D.int n).v (D.int a).v=decide (a=n):=by
   show (n==a)=_
   by_cases h:a=n
   ·subst h;simp
   ·rw[vX h];simpa using λz=>h z.symm
  rw[e]
  by_cases h:a=n
  ·simp[h]
  ·by_cases h':a∈r <;> simp[h,h']
def qd3(ns:List Int):(ns.map D.int).all Xp=true:=by
 rw[wN];exact yz.mpr λ_ _=>rfl
def q7z{a:Int}{ns:List Int}:oIn false (.int a) (.lst (ns.map D.int))=↥(.bl (decide (a∈ns))):=by
 show (if (Xp (.int a)&&(ns.map D.int).all Xp)=true then _ else _)=_;rw[qd3];show some (R.sh (D.bl (inD _ _)))=_;rw[q9C]
def q8F{ns:List Int}{i:Nat}(h:i<ns.length):atI (ns.map D.int) (i:Int)=some (.int ns[i]):=by
 rw[q38 ∅ (by rw[zB];omega)];simp
def qdA{d:D}(h:shp d=true):eqD d d=true:=SeqAt.eqv_refl d.py (SeqAt.canLay_of_shaped h)
def q9r{d:D}(h:shp d=true):oEq true d d=↥(.bl false):=by
 unfold oEq;rw[h];show some (R.sh (D.bl (!eqD d d)))=_;rw[qdA h];rfl
def qer{ds:List D}(n:Nat)(hn:n<64)(h:∀d∈ds,d.py.canLay0=true/\d.py.depth<=n):shp (.lst ds)=true:=by
 unfold shp SeqAt.shaped;have:∀ds:List D,(∀d∈ds,d.py.canLay0=true/\d.py.depth<=n)->PyData.canLayAll0 (D.pys ds)=true/\PyData.depthAll (D.pys ds)<=n:=by
  intro ds
  induction ds with
  | nil=>intro _;exact⟨rfl,yq _⟩
  | cons d ds ih=>
   intro h;obtain⟨a,b⟩:=ih λe he=>h e (zI _ he);obtain⟨a',b'⟩:=h d zJ;refine⟨?_,?_⟩
   ·rw[D.pys,PyData.canLayAll0,a,a'];rfl
   ·rw[D.pys,PyData.depthAll];exact Nat.max_le.mpr ⟨b',b⟩
 obtain⟨a,b⟩:=this ds h;show (PyData.canLayAll0 (D.pys ds)&&decide (PyData.depthAll (D.pys ds)+1<=64))=true;rw[a,vQ ∅];rfl
noncomputable def zBK(x:Int):List Int->List Int
 | []=>[x]
 | y::r=>if x<y then x::y::r else if x=y then y::r else y::zBK x r
noncomputable def XX(ns:List Int):List Int:=ns.foldr zBK []
theorem q75{x y:Int}:∀{l:List Int},y∈zBK x l↔y=x\/y∈l
 | []=>by simp[zBK]
 | z::r=>by
  unfold zBK
  split
  ·simp
  ·split
   ·rename_i h;subst h;simp
   ·simp only[zF,q75 (l:=r)]
    constructor
    ·rintro(h|h|h) <;> simp[h]
    ·rintro(h|h|h) <;> simp[h]
theorem q8h{x:Int}:∀{l:List Int},l.Pairwise (· < ·)->(zBK x l).Pairwise (· < ·)
 | [],_=>by simp[zBK]
 | z::r,h=>by
  obtain⟨h1,h2⟩:=zi.mp h;unfold zBK
  split
  ·rename_i hx
   refine zi.mpr ⟨λy hy=>?_,h⟩;rcases zF.mp hy with rfl|hy
   ·exact hx
   ·exact Z7 hx (h1 y hy)
  ·split
   ·exact h
   ·refine zi.mpr ⟨λy hy=>?_,q8h h2⟩
    rcases q75.mp hy with rfl|hy
    ·omega
    ·exact h1 y hy
theorem q4I{y:Int}:∀{ns:List Int},y∈XX ns↔y∈ns
 | []=>by simp[XX]
 | x::r=>by
  show y∈zBK x (XX r)↔_;rw[q75,q4I (ns:=r),zF]
theorem q2Y:∀{ns:List Int},(XX ns).Pairwise (· < ·)
 | []=>xf
 | x::r=>q8h (q2Y (ns:=r))
theorem q9z{x:Int}:∀(l:List Int),(zBK x l).length<=l.length+1
 | []=>by simp[zBK]
 | z::r=>by
  have:=q9z (x:=x) r;unfold zBK
  split
  ·simp
  ·split
   ·simp
   ·rw[zC,zC];omega
theorem q3X:∀(l:List Int),(XX l).length<=l.length
 | []=>zL _
 | x::r=>by
  have h1:=q9z (x:=x) (XX r);have h2:=q3X r;show (zBK x (XX r)).length<=_;rw[zC];omega
theorem q7Q:∀{l m:List Int},l.Pairwise (· < ·)->m.Pairwise (· < ·)->(∀x,x∈l↔x∈m)->l=m
 | [],[],_,_,_=>rfl
 | [],y::r,_,_,h=>vK ((h y).mpr zJ) (by simp)
 | x::r,[],_,_,h=>vK ((h x).mp zJ) (by simp)
 | x::r,y::q,hl,hm,h=>by
  obtain⟨a1,a2⟩:=zi.mp hl;obtain⟨b1,b2⟩:=zi.mp hm;have e:x=y:=by
   rcases zF.mp ((h x).mp zJ)with e|e
   ·exact e
   ·rcases zF.mp ((h y).mpr zJ)with f|f
    ·exact f.symm
    ·have:=b1 x e;have:=a1 y f;omega
  subst e;rw[q7Q a2 b2 λz=>?_]
  constructor
  ·intro hz
   rcases zF.mp ((h z).mp (zI _ hz))with f|f
   ·have:=a1 z hz;omega
   ·exact f
  ·intro hz
   rcases zF.mp ((h z).mpr (zI _ hz))with f|f
   ·have:=b1 z hz;omega
   ·exact f
def q9I{l:List Int}(h:l.Pairwise (· <= ·))(n:l.Nodup):l.Pairwise (· < ·):=by
 induction l with
 | nil=>exact xf
 | cons x r ih=>
  obtain⟨h1,h2⟩:=zi.mp h;obtain⟨n1,n2⟩:=xh.mp n;refine zi.mpr ⟨λy hy=>?_,ih h2 n2⟩;have:=h1 y hy;have:x≠y:=λe=>n1 (e▸hy);omega
def setP(w:vY)(S:vC)(ns:List Int):vf->Prop:=λh=>zB7 h S (Xi w) (λi=>ns.getD i 0) ns.length
def rSet(w:vY):List V->Hp->VK->Prop:=λxs H Q=>∃p ns,xs=[.ref p]/\H p=some (.lst (ns.map V.int))/\ns.length+1<4096/\∀S,H S=none->Q (.ref S) (upd H S (.ext (setP w S ns)))
def fewS(ns:List Int):Prop:=(XX ns).length<64/\ns.length<4000
noncomputable instance (ns:List Int):Decidable (fewS ns):=inferInstanceAs (Decidable (_/\_))
def qfR{ns:List Int}(h:ns.length<64):fewS ns:=⟨Zt (q3X ns) h,∅⟩
def rSortS(w:vY):List V->Hp->VK->Prop:=λxs H Q=>∃S ns,xs=[.ref S]/\H S=some (.ext (setP w S ns))/\fewS ns/\∀l,H l=none->Q (.ref l) (upd H l (.lst ((XX ns).map V.int)))
section
variable{X:Cx}
def qcD{pins:List (vC×Obj)}{σ:St}{H:Hp}{s:vB}(I:L2.Inv X pins σ H s)(d:sN):L2.Inv X pins σ H { s with drawn:=d } :=
 ⟨I.ok,I.os,I.bare,I.base,I.loc,I.cell,I.free,I.freeC,I.pin,I.hok,I.len⟩
def qdq(hc:X.calm=true):Xn X (.type "set") (rSet X.w):=by
 intro pins s σ H xs us Q I r h;obtain⟨p,ns,rfl,hp,hz,q⟩:=h;obtain⟨u,rfl,rx⟩:=vals1 r;cases rx;obtain⟨its,n,rv,e,_⟩:=I.lst hp;have ia:=q3r rv;have hlen:its.length=ns.length:=by rw[<- rv.length,zB]
 refine q9M (items:=its.toArray) (ns:=ns) (I.ok.hd hc) ⟨_,e,rfl,n,rfl⟩ ⇑ia (by rw[zM,hlen];exact hz) λh' tk sv kp=>?_;have hsz:its.toArray.size=ns.length:=by rw[zM,hlen]
 rw[hsz]at sv;refine⟨.ref s.heap.objs.size,_,I.laid (t':=tk) (λb o e=>kp b o (zK e) e) (zL _) (show Y5 X.prog X.w _ h' _ (.ext (setP X.w s.heap.objs.size ns))from ⟨sv,?_,λh1 h2 a1 a2=>a1.at a2⟩),rfl,q _ (I.hok.fresh (zL _))⟩;obtain⟨_,⟨o,_,_,_,e,_⟩,_⟩:=sv;exact⟨o,e⟩
def qb6(hc:X.calm=true):Xn X (.builtin "sorted") (rSortS X.w):=by
 intro pins s σ H xs us Q I r h;obtain⟨S,ns,rfl,hp,hz,q⟩:=h;obtain⟨u,rfl,rx⟩:=vals1 r;cases rx;obtain⟨⟨zs,SI,hl,hm⟩,_⟩:=I.hok S _ hp;obtain⟨o,es,ep,t,go,gx,gd,T,gl,gb,gg,gv,gn⟩:=id SI;have mz:∀x,x∈zs↔x∈XX ns:=λx=>by
  rw[hm,q4I]
  constructor
  ·rintro⟨i,hi,rfl⟩
   dsimp only
   rw[zY,zG hi];exact xX hi
  ·intro hx
   obtain⟨i,hi,e⟩:=ye.mp hx;exact⟨i,hi,by dsimp only;rw[zY,zG hi];exact e⟩
 have zl:=((List.perm_ext_iff_of_nodup gn ((q2Y (ns:=ns)).imp λh=>∅)).mpr mz).length_eq;refine qb2 (I.ok.hd hc) SI (by rw[zl];exact hz.1) λD h' tk d vs ys n kp hD hg ia pm pw=>?_;have ey:ys=XX ns:=q7Q (q9I pw (pm.nodup_iff.mpr gn)) q2Y λx=>by rw[pm.mem_iff,mz]
 subst ey;have hvl:vs.length=(XX ns).length:=PyProof.Rows.IntsAre.length ia;have hsl:(XX ns).length<=sizeLine:=by
  have:=pm.length_eq;exact y8 (show (XX ns).length<=64 from xH hz.1) (by decide)
 have I2:=qcD (I.laid (a:=D) (o:=.lst ((XX ns).map V.int)) (t':=tk) kp hD (show Y5 X.prog X.w _ h' _ (.lst _)from ⟨by rw[zB];exact hsl,vs,n,q3U ia,hg⟩)) d;exact⟨.ref D,_,I2,rfl,q _ (I.hok.fresh hD)⟩
noncomputable def intsOf:List D->Option (List Int)
 | []=>some []
 | .int i::r=>(intsOf r).map λl=>i::l
 | _=>none
theorem q3g:∀{ds:List D}{ns:List Int},intsOf ds=some ns->ds=ns.map D.int
 | [],_,e=>by cases e;rfl
 | .int c::r,b,e=>by
  obtain⟨k,q,e⟩:=mpd e;subst e;rw[q3g q];rfl
 | .non::_,_,e=>by cases e
 | .bl _::_,_,e=>by cases e
 | .str _::_,_,e=>by cases e
 | .lst _::_,_,e=>by cases e
 | .tup _::_,_,e=>by cases e
 | .scr _::_,_,e=>by cases e
 | .exc _::_,_,e=>by cases e
 | .dic _ _::_,_,e=>by cases e
theorem q2w:∀(ns:List Int),intsOf (ns.map D.int)=some ns
 | []=>rfl
 | n::r=>by show (intsOf (r.map D.int)).map _=_;rw[q2w r];rfl
noncomputable def zAV:D->Option R
 | .lst ds=>(intsOf ds).bind λns=>if fewS ns then some (.fr ((XX ns).map D.int))else none
 | _=>none
noncomputable def WB(f:FD):FE:=λω=>(f ω).bind zAV
def q78{a:vW}{f:FD}{p1 p2 q1 q2:Pos}(hg1:Gl X "sorted")(hm1:X.mg "sorted" = none)(hg2:Gl X "set")(hm2:X.mg "set" = none)(ha:XV X a f)(hc:X.calm=true:=by rfl)(he1:vJ [a] X.env=(false,eval a X.env)::vJ [] X.env:=by rfl)(hpl1:(vp q2 (vJ [] X.env)).any (·.1)=false:=by rfl)(he2:vJ [.Call (.Name "set" p2) [a] [] q2] X.env=(false,eval (.Call (.Name "set" p2) [a] [] q2) X.env)::vJ [] X.env:=by rfl)(hpl2:(vp q1 (vJ [] X.env)).any (·.1)=false:=by rfl):
  XE X (.Call (.Name "sorted" p1) [.Call (.Name "set" p2) [a] [] q2] [] q1) (WB f):=by
 obtain⟨t,h1,h2⟩:=ha;refine⟨_,q2J (qb6 hc) hg1 hm1 q63 (qo (q7Z (qdq hc) hg2 hm2 qg7 (qo h1 qN he1) (by decide) (by decide) he1 hpl1) qN he2) (by decide) (by decide) he2 hpl2,λG0 H0 G ω σ H r Q o e k=>?_⟩;obtain⟨d,q,e⟩:=bnd e;refine h2 G0 H0 G ω σ H d _ o q λv G1 H1 x1 y1=>?_;cases d with
 | lst ds=>
  obtain⟨ns,e1,e2⟩:=bnd (show (intsOf ds).bind _=some r from e);have hds:=q3g e1;subst hds
  by_cases hz:fewS ns
  ·rw[vG hz]at e2
   cases e2;obtain⟨p,vs,rfl,g1,g2⟩:=y1.lst x1.gh;have hv:=g2.of_ints;subst hv;refine⟨p,ns,rfl,g1,by have:=hz.2;omega,λS hS=>?_⟩;refine⟨S,ns,rfl,qe,hz,λl hl=>?_⟩;have x2:=Ext.hide x1.gh hS (.ext (setP X.w S ns));have x3:=Ext.hide x2.gh hl (.lst ((XX ns).map V.int));exact k _ G1 _ ((x1.trans x2).trans x3) ⟨l,_,rfl,(x1.trans x2).hh.free hl,x2.gh.free hl,qe,Yt.ints _⟩
  ·rw[vH hz]at e2;cases e2
 | _=>cases e
end
end Hk
namespace PySem.F
end PySem.F
namespace Hk
open PySem PySem.Spec PyProof.Rows
section
variable{prog:vS}{w:vY}{A:vZ}{E:Value->vB->Prop}{s:vB}
abbrev Xb(h:vf)(z TI TO:vC)(f0 f1:Value):Prop:=h.get? z=some { cls:=.type "zip", dict:=none,data:=.fields #[f0,f1,.bool false,.ref TI,.ref TO],slots:=#[] }
def q8Z{a:vC}{Q:Option Obj->vB->Prop}(h:Q (s.heap.get? a) s):vL (model prog w) A (sT a) Q E s:=λ_ _ _=>h
def qaD{z TI TO t:vC}{ot:Obj}{f1:Value}{Q:Bool->vB->Prop}(hz:Xb s.heap z TI TO (v5 t) f1)(ht:s.heap.get? t=some ot)(k:∀h' f1',Xb h' z TI TO (v5 t) f1'->xq z s.heap h'->Q false { s with heap:=h' }):vL (model prog w) A (Builtin.SmallTypes.ownedTupleIsFree (.ref z)) Q E s:=by
 unfold Builtin.SmallTypes.ownedTupleIsFree;refine vA (vq hz rfl (x:=v5 t) rfl ?_);show vL _ _ (sT ((t:Int)).toNat >>= _) _ _ _;rw[xI];refine vA (q8Z ?_);rw[ht];show vL _ _ (field (.ref z) 1 >>= _) _ _ _;refine vA (vq hz rfl (x:=f1) rfl ?_);refine vb (λ_=>?_) (λ_=>?_)
 ·refine vA (vh hz (by simp) λh1 e1 sb=>vF (k h1 (.bool true) e1 sb))
 ·exact vF (k s.heap f1 hz (Z4 z s.heap))
def qco{z TI TO i1 i2 l1 l2 t:vC}{ot:Obj}{f1:Value}{k1 k2:Nat}{xs ys:Array Value}{x y:Value}{Q:Option Value->vB->Prop}(D:tD z TI TO i1 i2 l1 l2)(hz:Xb s.heap z TI TO (v5 t) f1)(ht:s.heap.get? t=some ot)(hTI:uI s.heap TI (.ref i1) (.ref i2))(h1:s.heap.IsListIter i1 l1 k1)(h2:s.heap.IsListIter i2 l2 k2)(hl1:s.heap.IsList l1 xs)(hl2:s.heap.IsList l2 ys)(hx:xs[k1]?=some x)(hy:ys[k2]?=some y)(hQ:∀h' f1',Xb h' z TI TO (v5 t) f1'->h'.IsListIter i1 l1 (k1+1)->h'.IsListIter i2 l2 (k2+1)->uI h' s.heap.objs.size x y ->
   (∀c o,c≠z->c≠i1->c≠i2->s.heap.get? c=some o->h'.get? c=some o)->Q (some (.ref s.heap.objs.size)) { s with heap:=h' }) :
  vL (model prog w) A (uD (.ref z)) Q E s:=by
 have hT:s.TypeIs (.ref z) "zip" := ⟨_,hz,rfl⟩;unfold uD;refine vA (uE (wpAny_callSpecial?_slot (name:=Str.ofString "__next__") hT PySem.F.slot_zip_next (vc PySem.F.slot_zip_next hT PySem.F.entry_zip_next ?_ (PySem.F.args_zip_next_1 _))));show vL _ _ (field (.ref z) 2 >>= _) _ _ _;refine vA (vq hz rfl (x:=.bool false) rfl ?_);show vL _ _ (field (.ref z) 3 >>= _) _ _ _;refine vA (vq hz rfl (x:=.ref TI) rfl ?_);refine vA (v3 hTI rfl ?_);show vL _ _ (Builtin.SmallTypes.ownedTupleIsFree (.ref z) >>= _) _ _ _;refine vA (qaD hz ht λh' f1' hz1 sb1=>?_);simp only[zW,if_false];have a1:=h1.extBut sb1.extBut D.i1z;have a2:=h2.extBut sb1.extBut D.i2z;have b1:=hl1.extBut sb1.extBut D.l1z;have b2:=hl2.extBut sb1.extBut D.l2z;rw[<- Zu];simp only[wW,wv];refine vA (vA (vA (vi ?_)));show vL _ _ (Builtin.SmallTypes.nextOf (.ref i1) >>= _) _ _ _;refine vA (v6 a1 b1 hx λh₂ c1 sb2=>vF ?_);refine vF ?_;refine vA (vA (vi ?_));show vL _ _ (Builtin.SmallTypes.nextOf (.ref i2) >>= _) _ _ _;refine vA (v6 (a2.extBut sb2.extBut D.i12.symm) (b2.extBut sb2.extBut D.l2i1) hy λh₃ c2 sb3=>vF ?_);refine vF (vF ?_);show vL _ _ (newTuple [x,y] >>= _) _ _ _;refine vA (u9 ?_);have hsz:h₃.objs.size=s.heap.objs.size:=by rw[sb3.1,sb2.1,sb1.1]
 refine vF ⟨_,rfl,vF ?_⟩
 dsimp only
 rw[hsz];refine hQ _ f1' ?_ ?_ ?_ ?_ ?_
 ·exact zE _ (sb3.extBut _ _ D.i2z.symm (sb2.extBut _ _ D.i1z.symm hz1))
 ·exact(c1.extBut sb3.extBut D.i12).at λo e=>zE _ e
 ·exact c2.at λo e=>zE _ e
 ·have:=zP h₃ (o:={ cls:=.type "tuple", data:=.seq [x,y].toArray }) rfl
  rw[hsz]at this;exact this
 ·exact λc o n1 n2 n3 e=>zE _ (sb3.extBut _ _ n3 (sb2.extBut _ _ n2 (sb1.extBut _ _ n1 e)))
def qdb{z TI TO i1 i2 l1 l2 t:vC}{ot:Obj}{f1:Value}{k1 k2:Nat}{xs ys:Array Value}{Q:Option Value->vB->Prop}(hh:A.handled=none)(D:tD z TI TO i1 i2 l1 l2)(hz:Xb s.heap z TI TO (v5 t) f1)(ht:s.heap.get? t=some ot)(hTI:uI s.heap TI (.ref i1) (.ref i2))(h1:s.heap.IsListIter i1 l1 k1)(h2:s.heap.IsListIter i2 l2 k2)(hl1:s.heap.IsList l1 xs)(hl2:s.heap.IsList l2 ys)(hend:xs[k1]?=none\/ys[k2]?=none)(hQ:∀h',(∀c o,c≠z->c≠i1->c≠i2->s.heap.get? c=some o->h'.get? c=some o)->Q none { s with heap:=h' }):
  vL (model prog w) A (uD (.ref z)) Q E s:=by
 have hT:s.TypeIs (.ref z) "zip" := ⟨_,hz,rfl⟩;unfold uD;refine vA (uE (wpAny_callSpecial?_slot (name:=Str.ofString "__next__") hT PySem.F.slot_zip_next (vc PySem.F.slot_zip_next hT PySem.F.entry_zip_next ?_ (PySem.F.args_zip_next_1 _))));show vL _ _ (field (.ref z) 2 >>= _) _ _ _;refine vA (vq hz rfl (x:=.bool false) rfl ?_);show vL _ _ (field (.ref z) 3 >>= _) _ _ _;refine vA (vq hz rfl (x:=.ref TI) rfl ?_);refine vA (v3 hTI rfl ?_);show vL _ _ (Builtin.SmallTypes.ownedTupleIsFree (.ref z) >>= _) _ _ _;refine vA (qaD hz ht λh' f1' hz1 sb1=>?_);simp only[zW,if_false];have a1:=h1.extBut sb1.extBut D.i1z;have a2:=h2.extBut sb1.extBut D.i2z;have b1:=hl1.extBut sb1.extBut D.l1z;have b2:=hl2.extBut sb1.extBut D.l2z;rw[<- Zu];simp only[wW,wv];refine vA (vA (vA (vi ?_)));show vL _ _ (Builtin.SmallTypes.nextOf (.ref i1) >>= _) _ _ _;cases hx:xs[k1]? with
 | none=>
  refine vA (uT hh a1 b1 hx λh₂ e sb2 he=>?_);obtain⟨o,ho,hc⟩:=he;refine vA (v9 (T := "StopIteration") (b:=true) ⟨o,ho,hc⟩ uV ?_);exact vF (hQ _ λc o n1 n2 n3 e=>sb2 _ _ n2 (sb1.extBut _ _ n1 e))
 | some x=>
  have hy:ys[k2]?=none:=by rcases hend with h|h;rw[hx]at h;cases h;exact h
  refine vA (v6 a1 b1 hx λh₂ c1 sb2=>vF ?_);refine vF ?_;refine vA (vA (vi ?_));show vL _ _ (Builtin.SmallTypes.nextOf (.ref i2) >>= _) _ _ _;refine vA (uT hh (a2.extBut sb2.extBut D.i12.symm) (b2.extBut sb2.extBut D.l2i1) hy λh₃ e sb3 he=>?_);obtain⟨o,ho,hc⟩:=he;refine vA (v9 (T := "StopIteration") (b:=true) ⟨o,ho,hc⟩ uV ?_);exact vF (hQ _ λc o n1 n2 n3 e=>sb3 _ _ n3 (sb2.extBut _ _ n2 (sb1.extBut _ _ n1 e)))
end
end Hk
namespace Hk
open PySem PySem.Spec PySem.W PyProof.Rows
section
variable{prog:vS}{w:vY}{A:vZ}{E:Value->vB->Prop}{R:tX->vB->Prop}{s:vB}
abbrev zCk(h:vf)(S:vC)(acc:Array Value)(c:Nat):Prop:=h.get? S=some { cls:=.type "list", dict:=none,data:=.seq acc c,slots:=#[] }
end
end Hk
namespace Hk
open PySem L2
section
variable{X:Cx}{pins:List (vC×Obj)}{σ:St}{H H':Hp}{s:vB}
theorem q8n{K:zA}{G:Hp}:∀{ds:List D}{ts:List vC},ds.length=ts.length->(∀(j:Nat)d t,ds[j]?=some d->ts[j]?=some t->Rep K G d (.ref t))->Yt K G ds (ts.map V.ref)
 | [],[],_,_=>rfl
 | [],_::_,h,_=>by simp at h
 | _::_,[],h,_=>by simp at h
 | d::ds,t::ts,h,f=>⟨.ref t,_,rfl,f 0 d t rfl rfl,q8n ⇑h λj e u h1 h2=>f (j+1) e u ⇑h1 ⇑h2⟩
end
noncomputable def zA0:List Int->Int
 | []=>0
 | [x]=>x
 | x::y::r=>if x<=zA0 (y::r)then zA0 (y::r)else x
noncomputable def zAs:List Int->Int
 | []=>0
 | [x]=>x
 | x::y::r=>if zAs (y::r)<=x then zAs (y::r)else x
theorem qav:∀{ns:List Int},ns≠[]->zA0 ns∈ns/\∀a∈ns,a<=zA0 ns
 | [x],_=>⟨by simp[zA0],λa h=>by simp at h;subst h;exact yn _⟩
 | x::y::r,_=>by
  obtain⟨h1,h2⟩:=qav (ns:=y::r) (by simp);unfold zA0
  split
  ·rename_i h
   refine⟨zI _ h1,λa ha=>?_⟩;rcases zF.mp ha with rfl|ha
   ·exact h
   ·exact h2 a ha
  ·rename_i h
   refine⟨zJ,λa ha=>?_⟩;rcases zF.mp ha with rfl|ha
   ·exact yn _
   ·have:=h2 a ha;omega
theorem qaz:∀{ns:List Int},ns≠[]->zAs ns∈ns/\∀a∈ns,zAs ns<=a
 | [x],_=>⟨by simp[zAs],λa h=>by simp at h;subst h;exact yn _⟩
 | x::y::r,_=>by
  obtain⟨h1,h2⟩:=qaz (ns:=y::r) (by simp);unfold zAs
  split
  ·rename_i h
   refine⟨zI _ h1,λa ha=>?_⟩;rcases zF.mp ha with rfl|ha
   ·exact h
   ·exact h2 a ha
  ·rename_i h
   refine⟨zJ,λa ha=>?_⟩;rcases zF.mp ha with rfl|ha
   ·exact yn _
   ·have:=h2 a ha;omega
section
variable{X:Cx}
end
noncomputable def whD(c:FT)(b:FS):Nat->FS
 | 0=>λ_=>none
 | n+1=>λω=>(c ω).bind λk=>if k=true then (b ω).bind (λp=>match p.1 with
   | .nx=>whD c b n p.2
   | .ct=>whD c b n p.2
   | .bk=>some (.nx,p.2)
   | .rt r=>some (.rt r,p.2))else some (.nx,ω)
noncomputable def sWh(n:Nat)(c:FT)(b:FS):FS:=whD c b n
section
variable{X:Cx}{c:vW}{body:List vn}{fc:FT}{fb:FS}{pos:Pos}{n:Nat}
def qcJ{K:zA}{t:TT}{u:TS}(h2:zBi K t fc)(h4:SimS K u fb):SimS K (zBV t u) (sWh n fc fb):=by
 intro G0 H0 G ω σ H out ω' E o e k;refine⟨λm σ1 H1=>∃G1 ω1,Own K G0 H0 G1 ω1 σ1 H1/\Y1 G G1/\whD fc fb m ω1=some (out,ω'),⟨n,G,ω,o,Y1.refl _,e⟩,λm σ1 H1 ⟨G1,ω1,o1,g1,e1⟩=>?_⟩;cases m with
 | zero=>cases e1
 | succ m=>
  obtain⟨b,q,e1⟩:=bnd e1;refine h2 G0 H0 G1 ω1 σ1 H1 b _ o1 q λG2 H2 x2=>?_;cases b with
  | false=>cases e1;exact k G2 σ1 H2 (o1.keep x2) (g1.trans x2.gg)
  | true=>
   rw[vG rfl];rw[vG rfl]at e1;obtain⟨⟨o3,ω3⟩,q3,e1⟩:=bnd e1;refine⟨λσ' H'=>∃G1 ω1,Own K G0 H0 G1 ω1 σ' H'/\Y1 G G1/\whD fc fb m ω1=some (out,ω'),λσ' H' z=>⟨m,xA m,z⟩,?_⟩;refine h4 G0 H0 G2 ω1 σ1 H2 o3 ω3 _ (o1.keep x2) q3 λG4 σ4 H4 o4 g4=>?_;have gg:=(g1.trans x2.gg).trans g4;cases o3 with
   | nx=>exact⟨G4,ω3,o4,gg,e1⟩
   | ct=>exact⟨G4,ω3,o4,gg,e1⟩
   | bk=>cases e1;exact k G4 σ4 H4 o4 gg
   | rt r=>cases e1;exact k G4 σ4 H4 o4 gg
def q9b(hp:tK (model X.prog X.w) X.A X.env X.xe)(hc:XT X c fc)(hb:XSs X body fb):XS X (.While c body [] pos) (sWh n fc fb):=by
 obtain⟨t,h1,h2⟩:=hc;obtain⟨u,h3,h4⟩:=hb;exact⟨_,q96 hp h1 h3,qcJ h2 h4⟩
end
section
variable{fc:FT}{fb:FS}
end
section
variable{X:Cx}{pos:Pos}{o:vW}{apos cpos:Pos}{i:Nat}
end
noncomputable abbrev FM:=WSt->Option (D×WSt)
def SimM(K:zA)(t:TE)(f:FM):Prop:=∀G0 H0 G ω σ H d ω'(Q:VK),Own K G0 H0 G ω σ H->f ω=some (d,ω') ->
 (∀v G' H',Own K G0 H0 G' ω' σ H'->Y1 G G'->Rep K G' d v->Q v H')->t σ H Q
def XM(X:Cx)(e:vW)(f:FM):Prop:=∃t,PE X e t/\SimM X.K t f
section
variable{X:Cx}{pos:Pos}{o e:vW}{apos cpos pos':Pos}{i:Nat}{fd:FD}{f:FM}
noncomputable def zCB(i:Nat)(f:FM):FS:=λω=>(f ω).map λp=>(.nx,p.2.set i (some (.sh p.1)))
def qef{x:Str}(hN:X.N.Nodup)(hi:X.N[i]?=some x)(hx:Loc X.env.scope x)(he:XM X e f)(hs:vy e (some (.Name x pos')) pos.line X.env=pure false:=by rfl)(hf:X.fn x=true\/X.env.scope.names.lookup x=some .local:=by first|exact .inl rfl|exact .inr rfl|assumption):
  XS X (.Assign [.Name x pos'] e pos) (zCB i f):=by
 obtain⟨t,h1,h2⟩:=he;refine⟨_,q2m hN hi hx h1 hs hf,λG0 H0 G ω σ H out ω' E o e k=>?_⟩;unfold zCB at e;cases q:f ω with
 | none=>rw[q]at e;cases e
 | some p=>
  obtain⟨d,ω1⟩:=p;rw[q]at e;cases e;exact h2 G0 H0 G ω σ H d ω1 _ o q λv G1 H1 o1 g1 r1=>k G1 _ H1 (o1.setSh r1) g1
end
section
variable{X:Cx}{a b c:vW}{pos:Pos}{fa fb fc:FD}{op op':sO}{p p':Int->Int->Bool}
end
noncomputable def zC8(x:Int):List Int->List Int
 | []=>[x]
 | y::r=>if x<=y then x::y::r else y::zC8 x r
noncomputable def Y7(ns:List Int):List Int:=ns.foldr zC8 []
theorem q68{x:Int}:∀{l:List Int},(zC8 x l).Perm (x::l)
 | []=>.refl _
 | y::r=>by
  unfold zC8
  by_cases h:x<=y
  ·rw[vG h]
  ·rw[vH h];exact(q68.cons y).trans (.swap x y r)
theorem q1F:∀{l:List Int},(Y7 l).Perm l
 | []=>.refl _
 | y::r=>q68.trans ((q1F (l:=r)).cons y)
theorem qa5{x:Int}:∀{l:List Int},l.Pairwise (· <= ·)->(zC8 x l).Pairwise (· <= ·)
 | [],_=>List.pairwise_singleton _ _
 | y::r,h=>by
  obtain⟨h1,h2⟩:=zi.mp h;unfold zC8
  by_cases z:x<=y
  ·rw[vG z]
   refine zi.mpr ⟨λa ha=>?_,h⟩;cases ha with
   | head=>exact z
   | tail _ ha=>exact y9 z (h1 a ha)
  ·rw[vH z]
   refine zi.mpr ⟨λa ha=>?_,qa5 h2⟩;cases (q68.mem_iff.mp ha:a∈x::r)with
   | head=>omega
   | tail _ ha=>exact h1 a ha
theorem q4j:∀{l:List Int},(Y7 l).Pairwise (· <= ·)
 | []=>.nil
 | y::r=>qa5 (q4j (l:=r))
theorem q49:∀{l m:List Int},l.Pairwise (· <= ·)->m.Pairwise (· <= ·)->l.Perm m->l=m
 | [],m,_,_,p=>(List.Perm.nil_eq p)
 | a::l,m,h,h',p=>by
  cases m with
  | nil=>exact vK p.length_eq (by simp)
  | cons b m=>
   obtain⟨h1,h2⟩:=zi.mp h;obtain⟨h3,h4⟩:=zi.mp h';have hab:a=b:=by
    have x1:a∈b::m:=p.mem_iff.mp (.head _);have x2:b∈a::l:=p.mem_iff.mpr (.head _);cases x1 with
    | head=>rfl
    | tail _ x1=>
     cases x2 with
     | head=>rfl
     | tail _ x2=>have:=h3 a x1;have:=h1 b x2;omega
   subst hab;rw[q49 h2 h4 p.cons_inv]
def q7X(l:List Int):(Y7 l).length=l.length:=q1F.length_eq
def qcW{l m:List Int}:Y7 l=Y7 m↔l.Perm m :=
 ⟨λh=>q1F.symm.trans (h▸q1F),λh=>q49 q4j q4j ((q1F.trans h).trans q1F.symm)⟩
section
variable{X:Cx}
end
end Hk
namespace Hk
open PySem PySem.Spec PyProof.Rows
def zCL:tS (.type "list_reverseiterator") "__len__" = pure none:=by rw[uR,v7];kernel_rfl
def zCt:tS (.type "list_reverseiterator") "__length_hint__" = pure (some (.builtin "list_reverseiterator.__length_hint__")):=by rw[uR,v7];kernel_rfl
section
variable{prog:vS}{w:vY}{A:vZ}{E:Value->vB->Prop}{s:vB}
def qd2{r:vC}{Q:Bool->vB->Prop}(hT:s.TypeIs (.ref r) "list_reverseiterator")(h:Q false s):vL (model prog w) A (Builtin.List.listLengthHint (.ref r)) Q E s:=by
 unfold Builtin.List.listLengthHint;refine vA (uv hT zCL ?_);show vL _ A (specialOf (Value.ref r) (Str.ofString "__length_hint__") >>= _) _ _ _;refine vA (uv hT zCt ?_);generalize hid:("list_reverseiterator.__length_hint__" : String)=id0
 wp_delta
 rw[show splitId id0=some ("list_reverseiterator", "__length_hint__")from by subst hid;decide +kernel];subst hid;refine vA (v9 (T := "list_reverseiterator") (b:=true) hT (by rw[uj];kernel_rfl) ?_);refine vb (λhab=>vK hab (by decide)) (λ_=>?_);refine vb (λ_=>?_) (λhab=>vK ⋯ hab);refine vb (λhab=>vK hab ⋯) (λ_=>?_);exact vF h
def qbr{R:tX->vB->Prop}{S I l:vC}{items:Array Value}{res:Value}{c₀:Nat}(hh:A.handled=none)(hn:items.size<=sizeLine)(hSI:S≠I)(hSl:S≠l)(hne:l≠I)(hit:s.heap.IsRevIter I l ((items.size:Int)-1))(hl:s.heap.IsList l items)(hS:zCk s.heap S #[] c₀)(hR:∀(h':vf)(tk:Nat)(c:Nat),(∀b o,b≠S->b≠I->s.heap.get? b=some o->h'.get? b=some o)->zCk h' S items.reverse c->R (.ok (.ret res)) { s with heap:=h',toks:=tk }):
  vL (model prog w) A.in1 (Builtin.List.listExtendWith (.ref S) (.ref I) res)
   (λfin s'=>match fin with|.done f=>R (.ok f) s'|.again c'=>c'.quiet=true/\ud (model prog w) A c' R s') (λe s'=>R (.error e) s') s:=by
 have W:=Walks.listRev (prog:=prog) (w:=w) (A:=A.in1) hh I l hne items;have hT:=hit.typeIs;have hSf:S∉[I,l]:=by simp[hSI,hSl]
 unfold Builtin.List.listExtendWith;refine vA (ui (T := "list_reverseiterator") hT ?_);rw[show Builtin.List.listSameRef (.ref S) (.ref I)=false by simp[Builtin.List.listSameRef,hSI],show (Value.type "list_reverseiterator" == Value.type "list")=false by decide,show (Value.type "list_reverseiterator" == Value.type "tuple")=false by decide];refine vb (λhab=>vK hab (by decide)) (λ_=>?_);refine vA (wpAny_pyIter_revIter hit ?_);refine vA (vi (qd2 hT ?_));refine vb (λhab=>vK hab (by decide)) (λ_=>?_);have st:0<=items.size/\s.heap.IsRevIter I l ((items.size:Int)-1-((0:Nat):Int))/\s.heap.IsList l items:=⟨yq _,by simpa using hit,hl⟩;refine vF ⟨ub PySem.F.plain_extend_loop _,tZ W.toS hn S hSf res items.size 0 _ #[] c₀ rfl (yq _) st hS (ItemsOf.nil _) λs' acc' c' hm hS' hacc=>?_⟩;rw[Moved.eq_with hm];have e:acc'=items.reverse:=by
  apply Array.ext_getElem?;intro j;rcases yt j items.size with z|z
  ·have hz:j<acc'.size:=by rw[hacc.1];exact z
   have q:acc'[j]?=some acc'[j]:=yg hz;rw[q,Array.getElem?_reverse z];exact(hacc.2 j _ q).symm
  ·rw[xS (by rw[hacc.1];exact z),xS (by rw[Array.size_reverse];exact z)]
 subst e;exact hR s'.heap s'.toks c' (λb o b1 b2 e=>hm.heap b o (by simp[b1,b2]) e) hS'
def qd6{l:vC}{items:Array Value}{Q:Value->vB->Prop}(hh:A.handled=none)(hn:items.size<=sizeLine)(hl:s.heap.IsList l items)(hQ:∀(h':vf)(tk:Nat)(S:vC)(c:Nat),s.heap.objs.size<=S->(∀b o,s.heap.get? b=some o->h'.get? b=some o)->zCk h' S items.reverse c->Q (.ref S) { s with heap:=h',toks:=tk }):
  vL (model prog w) A (call (.type "list") [.ref s.heap.objs.size]) Q E { s with heap:=s.heap.push (revObj l ((items.size:Int)-1)) }:=by
 have hll:l<s.heap.objs.size:=by obtain⟨_,e,_⟩:=hl;exact zK e
 have gI:(s.heap.push (revObj l ((items.size:Int)-1))).get? s.heap.objs.size=some (revObj l ((items.size:Int)-1)):=zP _ rfl;have k1:∀b o,s.heap.get? b=some o->(s.heap.push (revObj l ((items.size:Int)-1))).get? b=some o:=λb o e=>zE _ e;generalize hI:s.heap.objs.size=I at *;generalize hp:s.heap.push (revObj l ((items.size:Int)-1))=h1 at *;have hI1:I<h1.objs.size:=zK gI;have hS:(h1.push { cls:=.type "list", data:=.seq #[] }).get? h1.objs.size=some { cls:=.type "list", data:=.seq #[] }:=zP _ rfl;refine callType_codes (s:={ s with heap:=h1 }) (Q₁:=λobj s₁=>obj=.ref h1.objs.size/\s₁={ s with heap:=h1.push { cls:=.type "list", data:=.seq #[] } }) PySem.F.called_list (PySem.F.typeCall_list_1 _) PySem.F.entry_list_init
  (code_list_new _ ⟨rfl,rfl⟩) λobj s₁ z=>?_
 obtain⟨rfl,rfl⟩:=z;refine⟨⟨_,hS,rfl⟩,PySem.F.args_list_init_2 _ _,?_⟩;generalize hS0:h1.objs.size=S at *;show vL _ _ (do let old <- Builtin.List.listItems (.ref S);Builtin.List.listUpdate (.ref S) (λ_=>#[]);letGo old.toList.reverse;Builtin.List.listExtendWith (.ref S) (.ref I) .none) _ _ _;apply vA;unfold Builtin.List.listItems;refine vA (v3 hS rfl (vF ?_));show vL _ _ (updateSeq S (λ_=>#[]) >>= λ_=>letGo (#[]:Array Value).toList.reverse >>= λ_=>Builtin.List.listExtendWith (.ref S) (.ref I) .none) _ _ _;refine vA (uw hS rfl ?_);have hS2:=get?_update_seq hS (λ_=>(#[]:Array Value));have oth:∀b o,b≠S->h1.get? b=some o->((h1.push { cls:=.type "list", data:=.seq #[] }).update S (Obj.mapSeq (λ_=>(#[]:Array Value)))).get? b=some o :=
  λb o hb e=>(xK _ _ (Ne.symm hb)).trans (zE _ e)
 refine vA (tj ?_);have n1:S≠I:=by simp only[vC]at *;omega
 have n2:S≠l:=by simp only[vC]at *;omega
 have n3:l≠I:=by simp only[vC]at *;omega
 refine qbr (A:=A.in1) (items:=items) (I:=I) (l:=l) hh hn n1 n2 n3 ⟨_,oth _ _ (Ne.symm n1) gI,rfl,rfl⟩ (hl.at λo e=>oth l o (Ne.symm n2) (k1 l o e)) hS2 λh' tk c kp e=>?_;refine⟨rfl,hQ h' tk S c (by simp only[vC]at *;omega) (λb o z=>?_) e⟩;have hb:b<I:=hI▸zK z;exact kp b o (by simp only[vC]at *;omega) (by simp only[vC]at *;omega) (oth b o (by simp only[vC]at *;omega) (k1 b o z))
end
open L2
def rLR:List V->Hp->VK->Prop:=λvs H Q=>∃p xs,vs=[.ref p]/\H p=some (.lst xs)/\∀S,H S=none->Q (.ref S) (upd H S (.lst xs.reverse))
section
variable{X:Cx}
def qbf{a:vW}{t:TA}{p1 p2 q1 q2:Pos}(hg1:Gl X "list")(hm1:X.mg "list" = none)(hg2:Gl X "reversed")(hm2:X.mg "reversed" = none)(ha:PA X [a] t)(hc:X.calm=true)(he1:vJ [a] X.env=(false,eval a X.env)::vJ [] X.env)(hpl1:(vp q2 (vJ [] X.env)).any (·.1)=false)(he2:vJ [.Call (.Name "reversed" p2) [a] [] q2] X.env=(false,eval (.Call (.Name "reversed" p2) [a] [] q2) X.env)::vJ [] X.env)(hpl2:(vp q1 (vJ [] X.env)).any (·.1)=false):
  PE X (.Call (.Name "list" p1) [.Call (.Name "reversed" p2) [a] [] q2] [] q1) (tCB rLR t):=by
 intro pins s σ H Q I h;refine uH (q3Y I hg1 hm1 q7E ?_ (by decide) (by decide));refine PyProof.Rows.callWith_type1 ?_ he2 hpl2;rw[he2];show vL _ _ (spliced ((false,eval _ X.env)::vp q1 (vJ [] X.env))) _ _ s;refine Calls.spliced_cons ?_;refine uH (q3Y I hg2 hm2 PyProof.Rows.boot_reversed ?_ (by decide) (by decide));refine PyProof.Rows.callWith_type1 (thn (ha q2 pins s σ H _ I h) λus s1 ⟨vs,H1,I1,r1,z1⟩=>?_) he1 hpl1;obtain⟨p,xs,rfl,hp,k⟩:=z1;obtain⟨u,rfl,e1⟩:=vals1 r1;cases e1;obtain⟨its,n,rv,g1,sz⟩:=I1.lst hp;have il:s1.heap.IsList p its.toArray:=⟨_,g1,rfl,n,rfl⟩;refine call_reversed_list il (Calls.spliced_nil ?_);refine qd6 (I1.ok.hd hc) (by rw[zM,<- rv.length];exact sz) il λh2 tk S c b1 b2 b3=>?_;refine⟨.ref S,_,I1.laid (t':=tk) b2 b1 (show Y5 X.prog X.w _ h2 S (.lst xs.reverse)from ⟨by rw[List.length_reverse];exact sz,its.reverse,c,rv.reverse,by rw[b3];simp⟩),rfl,k S (I1.hok.fresh b1)⟩
end
end Hk
namespace L2
open PySem PySem.Spec PyProof.Rows
def Inv.turnedL{X:Cx}{pins:List (vC×Obj)}{σ:List (Option V)}{H:Hp}{s:vB}{h':vf}{t':Nat}{fp:List vC}(I:Inv X pins σ H s)(k:∀b o,b∉fp->s.heap.get? b=some o->h'.get? b=some o)(hf:∀b∈fp,zBv X pins H b):
  Inv X pins σ H { s with heap:=h',toks:=t' }:=by
 have nit:∀b u,H b=some u->b∉fp:=λb u e z=>by have:=(hf b z).1;rw[e]at this;cases this
 refine I.step (g':=s.gens) (d':=s.drawn) (ch:=fp) (λb hb=>?_) (λb o _ _ hc e _=>k b o hc e) (λb o _ _ hc e _=>⟨o.slots,k b o hc e⟩) (λ_ _ _ _ n=>n)
  (λb o hc e=>⟨o,k b o hc e⟩) (λ_ _ e=>e) (λ_ _ _ e=>e) (λb ps e=>⟨#[],by rw[e];simp⟩) (λm hm=>?_) (λb u e=>?_) I.bare
 ·obtain⟨f0,f1,f2,f3,f4,f5⟩:=hf b hb
  exact⟨f3,f1,f4,f5⟩
 ·obtain⟨o,es,ep,ho,r⟩:=hm
  exact⟨o,es,ep,k _ o (λz=>(hf _ z).2.1 rfl) ho,r⟩
 ·refine(I.hok b u e).stay (λc v hc q=>k c v ?_ q) (λ_ q=>q) λ_ _ q=>q
  rcases hc with z|z
  ·rw[z];exact nit b u e
  ·exact nit c _ z
noncomputable def Itz(K:zA)(a b:vC):It :=
 ⟨λi H=>∃xs ys x y,SqL K H a xs/\SqL K H b ys/\xs[i]?=some x/\ys[i]?=some y,
  λi H x H'=>∃t x1 y1,H t=none/\x=.ref t/\H'=upd H t (.tup [x1,y1])/\∀xs ys,SqL K H a xs->SqL K H b ys->xs[i]?=some x1/\ys[i]?=some y1,
  λi H=>∃xs ys,SqL K H a xs/\SqL K H b ys/\(xs[i]?=none\/ys[i]?=none)⟩
noncomputable def iZip(K:zA)(ta:TA):TI:=λσ H R=>ta σ H λvs H1=>∃a b xs ys,vs=[.ref a,.ref b]/\SqL K H1 a xs/\SqL K H1 b ys/\R (Itz K a b) H1
end L2
namespace Hk
open PySem L2
noncomputable def zBF:List D->List D->List D
 | a::as,b::bs=>.tup [a,b]::zBF as bs
 | _,_=>[]
theorem q6Z:∀(as bs:List D),(zBF as bs).length=min as.length bs.length
 | a::as,b::bs=>by show (zBF as bs).length+1=_;rw[q6Z as bs,zC,zC];omega
 | [],bs=>by cases bs <;> simp[zBF]
 | a::as,[]=>by simp[zBF]
theorem q9g:∀(as bs:List D)(i:Nat)(d:D),(zBF as bs)[i]?=some d->∃a b,as[i]?=some a/\bs[i]?=some b/\d=.tup [a,b]
 | a::as,b::bs,0,d,h=>by cases h;exact⟨a,b,rfl,rfl,rfl⟩
 | a::as,b::bs,i+1,d,h=>q9g as bs i d h
 | [],bs,i,d,h=>by cases bs <;> cases h
 | a::as,[],i,d,h=>by cases h
def qdd{K:zA}{G:Hp}{a b:vC}{ds es:List D}{vs us:List V}(h1:G a=some (.lst vs))(h2:Yt K G ds vs)(h3:G b=some (.lst us))(h4:Yt K G es us):IterOf K (Itz K a b) G (zBF ds es):=by
 have l1:=h2.len;have l2:=h4.len;refine⟨λH i s hi=>?_,λG2 H i x H' d s0 s1 hd hy=>?_,λH s=>⟨vs,us,SqL.of (s _ _ h1),SqL.of (s _ _ h3),?_⟩⟩
 ·rw[q6Z]at hi
  exact⟨vs,us,vs[i]'∅,us[i]'∅,SqL.of (s _ _ h1),SqL.of (s _ _ h3),zG _,zG _⟩
 ·obtain⟨t,x1,y1,ht,rfl,rfl,y⟩:=hy
  obtain⟨e1,e2⟩:=y vs us (SqL.of (s1 _ _ (s0 _ _ h1))) (SqL.of (s1 _ _ (s0 _ _ h3)));obtain⟨p,q,f1,f2,rfl⟩:=q9g ds es i d hd;obtain⟨v,q1,q2⟩:=h2.get f1;obtain⟨u,q3,q4⟩:=h4.get f2;rw[e1]at q1;cases q1;rw[e2]at q3;cases q3;have x2:=Ext.lay s1 ht (.tup [x1,y1]);exact⟨_,x2,⟨t,_,rfl,qe,Yt.cons (q2.mono (s0.trans x2.gg)) (Yt.cons (q4.mono (s0.trans x2.gg)) Yt.nil)⟩⟩
 ·rw[q6Z]
  rcases Nat.le_total ds.length es.length with h|h
  ·exact .inl (yL ∅)
  ·exact .inr (yL ∅)
noncomputable def iZp(g:FA):FI:=λω=>(g ω).bind λds=>match ds with
 | [.lst a,.lst b]=>some (zBF a b)
 | _=>none
section
open PySem.Spec PyProof.Rows
variable{X:Cx}
end
end Hk
namespace Hk
open PySem L2 PyProof.Rows
section
variable{X:Cx}{pos:Pos}{o e:vW}{apos cpos:Pos}{i:Nat}{fd:FD}
end
end Hk
namespace Hk
open PySem L2
section
variable{X:Cx}{o c:vW}{body:List vn}{pos ipos npos:Pos}{i j:Nat}{fc:FT}{fb:FS}
end
noncomputable def dropW(o:Option R)(ω:WSt):Option (Out×WSt):=o.map λ_=>(.nx,ω)
noncomputable def zipI(o:Option (List D)):Option (List D):=o.bind λds=>match ds with
 | [.lst a,.lst b]=>some (zBF a b)
 | _=>none
section
variable{ω:WSt}{fe:FE}{fd:FD}{fa:FA}{r:R}{ds as bs:List D}{i j:Nat}{f:FS}{ft:FT}{m:List D->List D}
def qZ:zAi fe ω=dropW (fe ω) ω:=rfl
def Ww:dropW (some r) ω=some (.nx,ω):=rfl
def q0y:iZp fa ω=zipI (fa ω):=rfl
def Wf:zipI (some [.lst as,.lst bs])=some (zBF as bs):=rfl
end
end Hk
namespace L2
open PySem PySem.Spec PyProof.Rows
section
variable{κ:Type}[DecidableEq κ]
noncomputable def W0(kvs:List (κ×V))(k:κ):Option V:=(kvs.find? λkv=>decide (kv.1=k)).map (·.2)
noncomputable def putK(kvs:List (κ×V))(k:κ)(v:V):List (κ×V) :=
 if (kvs.any λkv=>decide (kv.1=k))=true then kvs.map (λkv=>if kv.1=k then (kv.1,v)else kv)else kvs++[(k,v)]
def q5q{p:κ×V}{r:List (κ×V)}{k:κ}(e:p.1=k):W0 (p::r) k=some p.2:=by simp[W0,wB,e]
def q5w{p:κ×V}{r:List (κ×V)}{k:κ}(e:¬p.1=k):W0 (p::r) k=W0 r k:=by simp[W0,wB,e]
theorem q72(k:κ):∀kvs:List (κ×V),(kvs.any λkv=>decide (kv.1=k))=(W0 kvs k).isSome
 | []=>rfl
 | p::r=>by
  rw[wT]
  by_cases e:p.1=k
  ·simp only[q5q e,vQ e,yb,Option.isSome_some]
  ·rw[q5w e,vX e,yM];exact q72 k r
def q4R(kvs:List (κ×V))(k:κ)(v:V):(putK kvs k v).length<=kvs.length+1:=by
 unfold putK
 split
 ·rw[zB];omega
 ·rw[zD,zC,zS];omega
def qd7{kvs:List (κ×V)}{k:κ}(v:V)(h:W0 kvs k=none):putK kvs k v=kvs++[(k,v)]:=by
 unfold putK;rw[q72,h];exact vH (by decide)
def zBI.isSome_eq{o:Option V}{u:Option Value}(r:zBI o u):o.isSome=u.isSome:=by
 cases o with
 | none=>cases u with
  | none=>rfl
  | some _=>exact(show False from r).elim
 | some _=>cases u with
  | none=>exact(show False from r).elim
  | some _=>rfl
theorem zBI.getD{o:Option V}{u:Option Value}{d:V}{d':Value}(r:zBI o u)(rd:RelV d d'):RelV (o.getD d) (u.getD d'):=by
 cases o with
 | none=>cases u with
  | none=>exact rd
  | some _=>exact(show False from r).elim
 | some _=>cases u with
  | none=>exact(show False from r).elim
  | some _=>exact r
def KV.val{kvs:List (κ×V)}{vs:List (κ×Value)}(r:KV kvs vs)(k:κ):zBI (W0 kvs k) (tw vs k):=by
 unfold KV at r
 induction r with
 | nil=>exact True.intro
 | @cons p q ps qs h t ih=>
  obtain⟨h1,h2⟩:=h
  by_cases e:p.1=k
  ·have e':q.1=k:=h1.symm.trans e
   have b:tw (q::qs) k=some q.2:=by simp[tw,wB,e']
   rw[q5q e,b];exact h2
  ·have e':¬q.1=k:=λz=>e (h1.trans z)
   have b:tw (q::qs) k=tw qs k:=by simp[tw,wB,e']
   rw[q5w e,b];exact ih
theorem KV.any{kvs:List (κ×V)}{vs:List (κ×Value)}(r:KV kvs vs)(k:κ):(kvs.any λkv=>decide (kv.1=k))=vs.any λkv=>decide (kv.1=k):=by
 unfold KV at r
 induction r with
 | nil=>rfl
 | cons h t ih=>rw[wT,wT,ih,h.1]
def KV.repl{kvs:List (κ×V)}{vs:List (κ×Value)}(r:KV kvs vs)(k:κ){y:V}{u:Value}(ry:RelV y u):
  KV (kvs.map λkv=>if kv.1=k then (kv.1,y)else kv) (vs.map λkv=>if kv.1=k then (kv.1,u)else kv):=by
 unfold KV at r ⊢
 induction r with
 | nil=>exact .nil
 | @cons p q ps qs h t ih=>
  rw[zO,zO];refine .cons ?_ ih;obtain⟨h1,h2⟩:=h
  by_cases e:p.1=k
  ·rw[vG e,vG (h1.symm.trans e)];exact⟨h1,ry⟩
  ·rw[vH e,vH (λz=>e (h1.trans z))];exact⟨h1,h2⟩
def KV.put{kvs:List (κ×V)}{vs:List (κ×Value)}(r:KV kvs vs)(k:κ){y:V}{u:Value}(ry:RelV y u):KV (putK kvs k y) (stored vs k u):=by
 unfold putK stored;rw[r.any k]
 by_cases e:(vs.any λkv=>decide (kv.1=k))=true
 ·rw[vG e,vG e];exact r.repl k ry
 ·rw[vH e,vH e];exact Paired.snoc r ⟨rfl,ry⟩
def KV.keys{kvs:List (κ×V)}{vs:List (κ×Value)}(r:KV kvs vs):kvs.map (·.1)=vs.map (·.1):=by
 unfold KV at r
 induction r with
 | nil=>rfl
 | cons h t ih=>rw[zO,zO,ih,h.1]
theorem KV.length{kvs:List (κ×V)}{vs:List (κ×Value)}(r:KV kvs vs):kvs.length=vs.length:=Paired.length r
end
def q5g{P:vS}{w:vY}{k:Key}{u:Value}(r:RelV (kV k) u):(Yz P w).is k u=true:=by
 cases k with
 | inl i=>obtain⟨t,e⟩:=(show ∃t,u=Value.int i t from r);subst e;exact q9S P w i t
 | inr x=>obtain⟨t,e⟩:=(show ∃t,u=Value.str x t from r);subst e;exact q9W P w x t
theorem q8o{P:vS}{w:vY}:∀{ks:List Key}{us:List Value},Y3 (ks.map kV) us->ItemsAre (Yz P w) ks us
 | [],_,r=>by rw[yA]at r;cases r;exact .nil
 | k::ks,_,r=>by
  rw[zO]at r;cases r with
  | cons h t=>exact .cons (q5g h) (q8o t)
abbrev KT(H:Hp):List (List Key×V)->List (List Key×vC×Value)->Prop:=sM λp q=>p.1=q.1/\H q.2.1=some (.tup (p.1.map kV))/\RelV p.2 q.2.2
def KT.val{H:Hp}{kvs:List (List Key×V)}{xs:List (List Key×vC×Value)}(r:KT H kvs xs)(k:List Key):zBI (W0 kvs k) ((sU xs k).map (·.2)):=by
 induction r with
 | nil=>exact True.intro
 | @cons p q ps qs h t ih=>
  obtain⟨h1,_,h2⟩:=h
  by_cases e:p.1=k
  ·have e':q.1=k:=h1.symm.trans e
   have b:sU (q::qs) k=some q.2:=by simp[sU,wB,e']
   rw[q5q e,b];exact h2
  ·have e':¬q.1=k:=λz=>e (h1.trans z)
   have b:sU (q::qs) k=sU qs k:=by simp[sU,wB,e']
   rw[q5w e,b];exact ih
def KT.repl{H:Hp}{kvs:List (List Key×V)}{xs:List (List Key×vC×Value)}(r:KT H kvs xs)(k:List Key){y:V}{u:Value}(ry:RelV y u):
  KT H (kvs.map λkv=>if kv.1=k then (kv.1,y)else kv) (xs.map (putAt k u)):=by
 induction r with
 | nil=>exact .nil
 | @cons p q ps qs h t ih=>
  rw[zO,zO];refine .cons ?_ ih;obtain⟨h1,h2,h3⟩:=h;unfold putAt
  by_cases e:p.1=k
  ·rw[vG e,vG (h1.symm.trans e)];exact⟨h1,h2,ry⟩
  ·rw[vH e,vH (λz=>e (h1.trans z))];exact⟨h1,h2,h3⟩
def KT.put{H:Hp}{kvs:List (List Key×V)}{xs:List (List Key×vC×Value)}(r:KT H kvs xs)(k:List Key){b:vC}{y:V}{u:Value}(hb:H b=some (.tup (k.map kV)))(ry:RelV y u):
  KT H (putK kvs k y) (storedH xs k b u):=by
 have e:(kvs.any λkv=>decide (kv.1=k))=(sU xs k).isSome:=by
  rw[q72,(r.val k).isSome_eq,Z8]
 unfold putK storedH;rw[e]
 by_cases q:(sU xs k).isSome=true
 ·rw[vG q,vG q];exact r.repl k ry
 ·rw[vH q,vH q];exact Paired.snoc r ⟨rfl,hb,ry⟩
def KT.keeps{H H':Hp}{kvs:List (List Key×V)}{xs:List (List Key×vC×Value)}(r:KT H kvs xs)(ht:∀b ys,H b=some (.tup ys)->H' b=some (.tup ys)):KT H' kvs xs :=
 Paired.mapP r λ_ _ z=>⟨z.1,ht _ _ z.2.1,z.2.2⟩
section
variable{P:vS}{w:vY}{H:Hp}{h:vf}{a:vC}
def qdV{u:HO}(ok:HOk P w H h)(e:Rd H a u):Y5 P w H h a u:=e.ok ok
def q5o{kvs:List (Key×V)}(ok:HOk P w H h)(e:Rd H a (.dK kvs)):kvs.length<=sizeLine/\(a==uF)=false/\∃vs,KV kvs vs/\h.DictOf (Yz P w) a vs :=
 show Y5 P w H h a (.dK kvs)from qdV ok e
def qaN{kvs:List (Key×V)}(ok:HOk P w H h)(e:H a=some (.dK kvs)):kvs.length<=sizeLine/\(a==uF)=false/\∃vs,KV kvs vs/\h.DictOf (Yz P w) a vs:=q5o ok (.inl e)
def q65{ks:List Key}(ok:HOk P w H h)(e:H a=some (.tup (ks.map kV))):(tI (Yz P w)).is h ks a:=by
 obtain⟨_,its,r,o,h1,h2,n,h3⟩:=(show Y5 P w H h a (.tup (ks.map kV))from ok a _ e);exact⟨o,its.toArray,n,h1,h2,h3,by simpa using q8o r⟩
def q6g{kvs:List (List Key×V)}(ok:HOk P w H h)(e:Rd H a (.dT kvs)):kvs.length<=sizeLine/\(a==uF)=false /\
  ∃xs,KT H kvs xs/\h.DictOfH (tI (Yz P w)) a xs:=by
 obtain⟨z,y,xs,r,o,es,ep,h1,h2,h3,h4,h5⟩:=(show Y5 P w H h a (.dT kvs)from qdV ok e);refine⟨z,y,xs,r,o,es,ep,h1,h2,h3,h4,λx hx=>?_,h5⟩;have all:∀{l:List (List Key×V)}{m:List (List Key×vC×Value)},KT H l m->∀x∈m,(tI (Yz P w)).is h x.1 x.2.1:=by
  intro l m q
  induction q with
  | nil=>intro x hx;exact nomatch hx
  | @cons p q ps qs hq t ih=>
   intro x hx;rcases zF.mp hx with e|hx
   ·subst e
    exact q65 ok (by rw[<- hq.1];exact hq.2.1)
   ·exact ih x hx
 exact all r x hx
def qgh{kvs:List (List Key×V)}(ok:HOk P w H h)(e:H a=some (.dT kvs)):kvs.length<=sizeLine/\(a==uF)=false /\
  ∃xs,KT H kvs xs/\h.DictOfH (tI (Yz P w)) a xs:=q6g ok (.inl e)
end
def zAZ(H:Hp)(a:vC)(y:V)(r:Option V):Prop :=
 (∃kvs k,Rd H a (.dK kvs)/\y=kV k/\r=W0 kvs k)\/∃kvs k b,Rd H a (.dT kvs)/\y=.ref b/\H b=some (.tup (k.map kV))/\r=W0 kvs k
def zCn(H:Hp)(a:vC)(y v:V)(H':Hp):Prop :=
 (∃kvs k,H a=some (.dK kvs)/\y=kV k/\kvs.length<sizeLine/\H'=upd H a (.dK (putK kvs k v))) \/
 ∃kvs k b,H a=some (.dT kvs)/\y=.ref b/\H b=some (.tup (k.map kV))/\kvs.length<sizeLine/\H'=upd H a (.dT (putK kvs k v))
def zAZ.k{H:Hp}{a:vC}{kvs:List (Key×V)}{k:Key}(e:H a=some (.dK kvs)):zAZ H a (kV k) (W0 kvs k):=.inl ⟨kvs,k,.inl e,rfl,rfl⟩
def zCn.k{H:Hp}{a:vC}{kvs:List (Key×V)}{k:Key}{v:V}(e:H a=some (.dK kvs))(hl:kvs.length<sizeLine):zCn H a (kV k) v (upd H a (.dK (putK kvs k v))):=.inl ⟨kvs,k,e,rfl,hl,rfl⟩
section
variable{X:Cx}{pins:List (vC×Obj)}{σ:St}{H:Hp}{s:vB}{a:vC}{y v:V}{u r:Value}{o:Option V}{A:vZ}{E:Value->vB->Prop}
def Inv.big(I:Inv X pins σ H s):uF<s.heap.objs.size:=by
 have h:vP<s.heap.objs.size:=(I.mod.glob.keeps I.bk).lt;exact Z3 (by decide) h
def qbF{Q:Value->vB->Prop}(hu:A.units+1<ua)(I:Inv X pins σ H s)(g:zAZ H a y (some v))(ry:RelV y u)(h:∀w' s',Inv X pins σ H s'->RelV v w'->Q w' s'):
  vL (model X.prog X.w) A (uz (.ref a) u) Q E s:=by
 rcases g with⟨kvs,k,e,ey,l⟩|⟨kvs,k,b,e,ey,eb,l⟩
 ·subst ey
  obtain⟨z,hd,vs,rel,dd⟩:=q5o I.hok e;obtain⟨w',hw,rw'⟩:=zBI.some_of (v:=v) (o:=tw vs k) (by rw[l];exact rel.val k);exact wpAny_getItem_of (q5g ry) dd.mapOf hw (h w' _ (I.tok _) rw')
 ·subst ey
  cases (show u=Value.ref b from ry);obtain⟨z,hd,xs,rel,dd⟩:=q6g I.hok e;obtain⟨w',hw,rw'⟩:=zBI.some_of (v:=v) (o:=(sU xs k).map (·.2)) (by rw[l];exact rel.val k);obtain⟨p,hp,hp2⟩:=wZ.mp hw;refine wpAny_getItem_heap (ue hu) (q65 I.hok eb) dd hp ?_;rw[hp2];exact h w' _ (I.tok _) rw'
def qeE{Q:Value->vB->Prop}(hu:A.units+1<ua)(I:Inv X pins σ H s)(g:zAZ H a y o)(ry:RelV y u)(h:∀s',Inv X pins σ H s'->Q (.bool (!o.isSome)) s'):
  vL (model X.prog X.w) A (uJ .NotIn u (.ref a)) Q E s:=by
 rcases g with⟨kvs,k,e,ey,l⟩|⟨kvs,k,b,e,ey,eb,l⟩
 ·subst ey
  obtain⟨z,hd,vs,rel,dd⟩:=q5o I.hok e;refine wpAny_notIn_of (q5g ry) hd dd.mapOf ?_;rw[<- (rel.val k).isSome_eq,<- l];exact h _ (I.tok _)
 ·subst ey
  cases (show u=Value.ref b from ry);obtain⟨z,hd,xs,rel,dd⟩:=q6g I.hok e;refine wpAny_notIn_heap (ue hu) (q65 I.hok eb) hd dd ?_;have q:=(rel.val k).isSome_eq;rw[Z8]at q;rw[<- q,<- l];exact h _ (I.tok _)
def q6p{h':vf}{t':Nat}{ob:HO}(I:Inv X pins σ H s)(mu:Mut (H a))(hs:xq a s.heap h')(he:∃q,h'.get? a=some q)(new:Y5 X.prog X.w (upd H a ob) h' a ob):
  Inv X pins σ (upd H a ob) { s with heap:=h',toks:=t' } :=
 I.write (x:=a) (e:=a) mu (.inl rfl) (λb q hb z=>(hs.2 b hb).trans z) he new
def q9v{P:vS}{w:vY}{H':Hp}{h':vf}{kvs:List (Key×V)}{vs:List (Key×Value)}(z:kvs.length<=sizeLine)(hd:(a==uF)=false)(rel:KV kvs vs)(dd:h'.DictOf (Yz P w) a vs):
  Y5 P w H' h' a (.dK kvs):=⟨z,hd,vs,rel,dd⟩
def qbW{H':Hp}{Q:Unit->vB->Prop}(hu:A.units+1<ua)(I:Inv X pins σ H s)(g:zCn H a y v H')(ry:RelV y u)(rv:RelV v r)(h:∀s',Inv X pins σ H' s'->Q () s'):
  vL (model X.prog X.w) A (setItem (.ref a) u r) Q E s:=by
 rcases g with⟨kvs,k,e,ey,l,eH⟩|⟨kvs,k,b,e,ey,eb,l,eH⟩
 ·subst ey eH
  obtain⟨z,hd,vs,rel,dd⟩:=qaN I.hok e;have hz:vs.length<=sizeLine:=by rw[<- rel.length];exact z
  have hl:(putK kvs k v).length<=sizeLine:=by have:=q4R kvs k v;omega
  refine wpAny_setItem_pairs (hsz:=hz) (q5g ry) dd λh' dd' hs=>h _ ?_;have he:∃q,h'.get? a=some q:=let ⟨q,_,_,hq,_⟩:=dd';⟨q,hq⟩
  exact q6p I (by rw[e];exact True.intro) hs he (q9v hl hd (rel.put k rv) dd')
 ·subst ey eH
  cases (show u=Value.ref b from ry);obtain⟨z,hd,xs,rel,dd⟩:=qgh I.hok e;have hz:xs.length<=sizeLine:=by rw[<- Paired.length rel];exact z
  have hl:(putK kvs k v).length<=sizeLine:=by have:=q4R kvs k v;omega
  refine wpAny_setItem_heap (hsz:=hz) (ue hu) (q65 I.hok eb) dd λh' dd' hs=>h _ ?_;obtain⟨q,es,ep,hq,h2,h3,h4,_,h5⟩:=dd';refine q6p I (by rw[e];exact True.intro) hs ⟨q,hq⟩ ⟨hl,hd,_,(rel.put k eb rv).keeps λc ys ec=>?_,q,es,ep,hq,h2,h3,h4,h5⟩;rw[qc (qgd ec e (λz=>nomatch z))];exact ec
end
section
variable{X:Cx}{pins:List (vC×Obj)}{σ:St}{H:Hp}{s:vB}{a:vC}{kvs:List (Key×V)}{k:Key}{u:Value}{A:vZ}{E:Value->vB->Prop}
end
def NoSl(i:vW):Prop:=∀ov iv,subscripted i false ov iv=operate [ov,iv] (uz ov iv)
def qe7{prog:vS}{w:vY}{A:vZ}{E:Value->vB->Prop}{s:vB}{env:Env}{value slice:vW}{pos:Pos}{T id:String}{Q:Value->vB->Prop}(hl:tS (.type T) "__getitem__" = pure (some (.builtin id)))(hs:NoSl slice)(h:vL (model prog w) A (eval value env) (λo s₁=>vL (model prog w) A (eval slice env) (λi s₂=>s₂.TypeIs o T/\vL (model prog w) A (uz o i) Q E s₂) E s₁) E s):
  vL (model prog w) A (eval (.Subscript value slice pos) env) Q E s:=by
 refine Subscript_ (vg h (λo s₁ h₁=>vg h₁ (λi s₂ h₂=>?_) λ_ _ x=>x) λ_ _ x=>x);obtain⟨hT,h₂⟩:=h₂;unfold t7;refine vA ?_;rw[getitemInPython_of_ne hT.not_modules];refine vA (uv hT hl ?_);have fin:vL (model prog w) A (subscripted slice false o i) (λr s₃=>vL (model prog w) A (letTemporaryGo value o r >>= λ_=>pure r) Q E s₃) E s₂:=by
  rw[hs o i];exact wpAny_operating (vg h₂ (λr s₃ h₃=>vA (wpAny_letTemporaryGo (vF h₃))) λ_ _ x=>x)
 first
  | exact vF (vA fin)
  | exact vA (vF (vA fin))
  | exact vA fin
def q9K{X:Cx}{pins:List (vC×Obj)}{σ:St}{H:Hp}{s:vB}{a:vC}{y:V}{o:Option V}(I:Inv X pins σ H s)(g:zAZ H a y o):s.TypeIs (.ref a) "dict" := by
 rcases g with⟨kvs,k,e,_,_⟩|⟨kvs,k,b,e,_,_,_⟩
 ·obtain⟨_,_,vs,_,dd⟩:=q5o I.hok e
  exact dd.typeIs
 ·obtain⟨_,_,xs,_,dd⟩:=q6g I.hok e
  exact dd.typeIs
noncomputable def zCu(td ty:TE):TE:=λσ H Q=>td σ H λx H1=>ty σ H1 λy H2=>∃a v,x=.ref a/\zAZ H2 a y (some v)/\Q v H2
noncomputable def tDIn(ty td:TE):TE:=λσ H Q=>ty σ H λy H1=>td σ H1 λx H2=>∃a o,x=.ref a/\zAZ H2 a y o/\Q (.bl o.isSome) H2
noncomputable def zBa(ty td:TE):TE:=λσ H Q=>ty σ H λy H1=>td σ H1 λx H2=>∃a o,x=.ref a/\zAZ H2 a y o/\Q (.bl (!o.isSome)) H2
noncomputable def sDPut(td ty tv:TE):TS:=λD σ H=>tv σ H λv H1=>td σ H1 λx H2=>ty σ H2 λy H3=>∃a H4,x=.ref a/\zCn H3 a y v H4/\D.nx σ H4
section
variable{X:Cx}{o i e value:vW}{pos pos' tpos:Pos}{td ty tv:TE}
def q6i(hu:X.A.units+1<ua)(ho:PE X o td)(hi:PE X i ty)(hs:NoSl i):PE X (.Subscript o i pos) (zCu td ty):=by
 intro pins s σ H Q I h;refine qe7 PySem.F.slot_dict_getitem.lookup hs (thn (ho pins s σ H _ I h) λu s1 ⟨x,H1,I1,rx,q1⟩=>thn (hi pins s1 σ H1 _ I1 q1) λiv s2 ⟨y,H2,I2,ry,a,v,ex,g,q2⟩=>?_);subst ex;obtain rfl:u=Value.ref a:=rx;exact⟨q9K I2 g,qbF hu I2 g ry λw' s3 I3 rw'=>⟨v,H2,I3,rw',q2⟩⟩
def qbB(hu:X.A.units+1<ua)(hi:PE X i ty)(ho:PE X o td):PC X .NotIn i o (zBa ty td):=by
 intro pins s σ H Q I h;refine thn (hi pins s σ H _ I h) λiv s1 ⟨y,H1,I1,ry,q1⟩=>thn (ho pins s1 σ H1 _ I1 q1) λu s2 ⟨x,H2,I2,rx,a,ov,ex,g,q2⟩=>?_;subst ex;obtain rfl:u=Value.ref a:=rx;exact qeE hu I2 g ry λs3 I3=>⟨.bl (!ov.isSome),H2,I3,rfl,q2⟩
def qab(hu:X.A.units+1<ua)(ho:PE X o td)(hi:PE X i ty)(hv:PE X value tv)(hs:vy value (some (.Subscript o i pos')) pos.line X.env=pure false):
  PS X (.Assign [.Subscript o i pos'] value pos) (sDPut td ty tv):=by
 intro pins s σ H D I h;refine wpAny_Assign_Subscript (thn (hv pins s σ H _ I h) λr s1 ⟨v,H1,I1,rv,q1⟩=>thn (ho pins s1 σ H1 _ I1 q1) λu s2 ⟨x,H2,I2,rx,q2⟩=>thn (hi pins s2 σ H2 _ I2 q2) λiv s3 ⟨y,H3,I3,ry,a,H4,ex,g,q3⟩=>?_) hs;subst ex;obtain rfl:u=Value.ref a:=rx;exact qbW hu I3 g ry rv λs4 I4=>⟨σ,H4,I4,q3⟩
end
def q9e{P:vS}{w:vY}{H:Hp}(h:vf)(hb:uF<h.objs.size):Y5 P w H (h.push { cls:=.type "dict", data:=.dict #[] }) h.objs.size (.dK []) :=
 ⟨yq _,beq_eq_false_iff_ne.mpr (Ne.symm (zo hb)),[],.nil,Heap.DictOf.new h⟩
noncomputable def tDNewK:TE:=λ_ H Q=>∀p,H p=none->Q (.ref p) (upd H p (.dK []))
section
variable{X:Cx}{pos:Pos}
def q8V:PE X (.Dict [] [] pos) tDNewK:=λpins s σ H Q I h=>
 wpAny_Dict_empty ⟨.ref s.heap.objs.size,_,I.laid (a:=s.heap.objs.size) (o:=.dK []) (t':=s.toks) (λ_ _ q=>zE _ q) (zL _) (q9e s.heap I.big),rfl,h _ (I.hok.fresh (zL _))⟩
end
def zBt:List (TE×TE)->St->Hp->(List (V×V)->Hp->Prop)->Prop
 | [],_,H,Q=>Q [] H
 | (tk,tv)::r,σ,H,Q=>tk σ H λx H1=>tv σ H1 λy H2=>zBt r σ H2 λps H3=>Q ((x,y)::ps) H3
abbrev VV:List (V×V)->List (Value×Value)->Prop:=sM λp q=>RelV p.1 q.1/\RelV p.2 q.2
def PPs(X:Cx)(pos:Pos)(keys:List (Option vW))(values:List vW)(trs:List (TE×TE)):Prop :=
 ∀(pins:List (vC×Obj))(s:vB)(σ:St)(H:Hp)(Q:List (V×V)->Hp->Prop),Inv X pins σ H s->zBt trs σ H Q ->
  vL (model X.prog X.w) X.A (evalPairs (pairTrees keys values X.env pos)) (λvs s'=>∃ps H',Inv X pins σ H' s'/\VV ps vs/\Q ps H') X.xe s
def qdX{X:Cx}{pos:Pos}:PPs X pos [] [] []:=λpins s σ H Q I h=>pairTrees_nil_walk ⟨[],H,I,.nil,h⟩
def qdm{X:Cx}{pos:Pos}{k v:vW}{ks:List (Option vW)}{vs:List vW}{tk tv:TE}{trs:List (TE×TE)}(hk:PE X k tk)(hv:PE X v tv)(hr:PPs X pos ks vs trs):
  PPs X pos (some k::ks) (v::vs) ((tk,tv)::trs):=λpins s σ H Q I h=>
 pairTrees_cons_walk (thn (hk pins s σ H _ I h) λu s1 ⟨x,H1,I1,rx,q1⟩=>thn (hv pins s1 σ H1 _ I1 q1) λw2 s2 ⟨y,H2,I2,ry,q2⟩=>
  thn (hr pins s2 σ H2 _ I2 q2) λws s3 ⟨ps,H3,I3,rel,q3⟩=>⟨(x,y)::ps,H3,I3,.cons ⟨rx,ry⟩ rel,q3⟩)
noncomputable def zAG(kvs more:List (Key×V)):List (Key×V):=more.foldl (λacc kv=>putK acc kv.1 kv.2) kvs
def KV.merge:∀{more:List (Key×V)}{rs:List (Key×Value)}{kvs:List (Key×V)}{vs:List (Key×Value)},KV more rs->KV kvs vs->KV (zAG kvs more) (merged vs rs):=by
 intro more rs kvs vs r;unfold KV at r
 induction r generalizing kvs vs with
 | nil=>intro q;exact q
 | @cons p q ps qs h t ih=>
  intro r0;have e:KV (putK kvs p.1 p.2) (stored vs q.1 q.2):=by
   have:=r0.put p.1 h.2;rw[<- h.1];exact this
  exact ih e
theorem q5E:∀(more kvs:List (Key×V)),(zAG kvs more).length<=kvs.length+more.length
 | [],kvs=>by show kvs.length<=kvs.length+0;omega
 | p::r,kvs=>by
  have h1:=q5E r (putK kvs p.1 p.2);have h2:=q4R kvs p.1 p.2;show (zAG (putK kvs p.1 p.2) r).length<=_;rw[zC];omega
theorem q7s{P:vS}{w:vY}:∀{kvs:List (Key×V)}{ws:List (Value×Value)},VV (kvs.map λkv=>(kV kv.1,kv.2)) ws->∃rs,Carries (Yz P w) ws rs/\KV kvs rs
 | [],_,r=>by rw[yA]at r;cases r;exact⟨[],True.intro,.nil⟩
 | p::kvs,_,r=>by
  rw[zO]at r;cases r with
  | @cons a b as bs h t=>
   obtain⟨rs,c,q⟩:=q7s (P:=P) (w:=w) t;obtain⟨b1,b2⟩:=b;exact⟨(p.1,b2)::rs,⟨q5g h.1,rfl,c⟩,.cons ⟨rfl,h.2⟩ q⟩
noncomputable def tDisp(trs:List (TE×TE)):TE:=λσ H Q=>∀p,H p=none->zBt trs σ (upd H p (.dK [])) λps H2=>H2 p=some (.dK [])/\∃kvs:List (Key×V),ps=kvs.map (λkv=>(kV kv.1,kv.2))/\kvs.length<=15/\Q (.ref p) (upd H2 p (.dK (zAG [] kvs)))
def qej{X:Cx}{pos:Pos}{keys:List (Option vW)}{values:List vW}{trs:List (TE×TE)}(h:PPs X pos keys values trs)(hall:keys.all (·.isSome)=true)(hl:keys.length=values.length)(h0:keys≠[])(h15:keys.length<=15):PE X (.Dict keys values pos) (tDisp trs):=by
 intro pins s σ H Q I q;have hn:=I.hok.fresh (zL s.heap.objs.size);have I1:=I.laid (a:=s.heap.objs.size) (o:=.dK []) (h':=s.heap.push { cls:=.type "dict", data:=.dict #[] }) (t':=s.toks) (λ_ _ q=>zE _ q) (zL _) (q9e s.heap I.big);refine wpAny_Dict_walk (knd:=Yz X.prog X.w) hall hl h0 h15 (thn (h pins _ σ _ _ I1 (q _ hn)) λws s2 ⟨ps,H2,I2,rel,e,kvs,ep,lk,q2⟩=>?_);subst ep;obtain⟨rs,c,rk⟩:=q7s (P:=X.prog) (w:=X.w) rel;obtain⟨z,hd,vs0,r0,dd⟩:=qaN I2.hok e;cases r0;refine⟨rs,c,dd,λh' dd' hs=>⟨.ref s.heap.objs.size,_,?_,rfl,q2⟩⟩;have hz:(zAG [] kvs).length<=sizeLine:=by
  have h1:=q5E kvs [];rw[zS]at h1;rw[vo];omega
 have he:∃q,h'.get? s.heap.objs.size=some q:=let ⟨q,_,_,hq,_⟩:=dd';⟨q,hq⟩
 exact q6p I2 (by rw[e];exact True.intro) hs he (q9v hz hd (rk.merge .nil) dd')
structure M2 (X:Cx) (o:vW) (m:Str) (apos:Pos) (e f:vW) (cpos:Pos):Prop where
 base:uN o m X.env (eval o X.env)=eval o X.env
 few:((vp cpos (vJ [e,f] X.env)).all (λx=>!x.1)&&(tL cpos (ug [] X.env)).all (λx=>x.1.isSome)
  && decide (([e,f]:List vW).length+([]:List uU).length+(if ([]:List uU).isEmpty then 0 else 1)<30))=true
 line:(apos.endLine==cpos.line)=true
 trees:vp cpos (vJ [e,f] X.env)=[(false,eval e X.env),(false,eval f X.env)]
def IsD(H:Hp)(a:vC):Prop:=(∃kvs,Rd H a (.dK kvs))\/∃kvs,Rd H a (.dT kvs)
def qbZ{X:Cx}{pins:List (vC×Obj)}{σ:St}{H:Hp}{s:vB}{a:vC}(I:Inv X pins σ H s)(d:IsD H a):
  s.TypeIs (.ref a) "dict" /\ (∀b,Value.ref a=.ref b->∃ob,s.heap.get? b=some ob/\ob.dict=none)/\(a==uF)=false:=by
 rcases d with⟨kvs,e⟩|⟨kvs,e⟩
 ·obtain⟨_,hd,vs,_,dd⟩:=q5o I.hok e
  refine⟨dd.typeIs,λb q=>?_,hd⟩;cases q;obtain⟨ob,_,_,h1,h2,_⟩:=dd;exact⟨ob,h1,h2.2.1⟩
 ·obtain⟨_,hd,xs,_,dd⟩:=q6g I.hok e
  refine⟨dd.typeIs,λb q=>?_,hd⟩;cases q;obtain⟨ob,_,_,h1,h2,_⟩:=dd;exact⟨ob,h1,h2.2.1⟩
section
variable{X:Cx}{pins:List (vC×Obj)}{σ:St}{H:Hp}{s:vB}{a:vC}{y d:V}{u r:Value}{o:Option V}{A:vZ}{E:Value->vB->Prop}
def qf6{Q:Value->vB->Prop}(hu:A.units+1<ua)(I:Inv X pins σ H s)(g:zAZ H a y o)(ry:RelV y u)(rd:RelV d r)(h:∀w' s',Inv X pins σ H s'->RelV (o.getD d) w'->Q w' s'):
  vL (model X.prog X.w) A (call (.builtin "dict.get") [.ref a,u,r]) Q E s:=by
 rcases g with⟨kvs,k,e,ey,l⟩|⟨kvs,k,b,e,ey,eb,l⟩
 ·subst ey
  obtain⟨z,hd,vs,rel,dd⟩:=q5o I.hok e;refine sK PySem.F.slot_dict_get dd.typeIs PySem.F.entry_dict_get (PySem.F.args_dict_get_3 _ _ _) (meets_dict_get_default (Yz X.prog X.w) a (q5g ry) hd r) ⟨_,dd.mapOf,h _ _ (I.tok _) ?_⟩;rw[l];exact(rel.val k).getD rd
 ·subst ey
  cases (show u=Value.ref b from ry);obtain⟨z,hd,xs,rel,dd⟩:=q6g I.hok e;refine sK PySem.F.slot_dict_get dd.typeIs PySem.F.entry_dict_get (PySem.F.args_dict_get_3 _ _ _) (meetsH_dict_get_default (tI (Yz X.prog X.w)) a b hd r) ⟨ue hu,k,xs,q65 I.hok eb,dd,h _ _ (I.tok _) ?_⟩;rw[l];exact(rel.val k).getD rd
end
noncomputable def zBp(td ty tx:TE):TE:=λσ H Q=>td σ H λx H1=>∃a,x=.ref a/\IsD H1 a/\ty σ H1 λy H2=>tx σ H2 λz H3=>∃o,zAZ H3 a y o/\Q (o.getD z) H3
section
variable{X:Cx}{o e f:vW}{apos cpos:Pos}{td ty tx:TE}
def q92(hu:X.A.units+1<ua)(ho:PE X o td)(he:PE X e ty)(hf:PE X f tx)(m:M2 X o "get" apos e f cpos):PE X (.Call (.Attribute o "get" apos) [e,f] [] cpos) (zBp td ty tx):=by
 intro pins s σ H Q I h;refine wpAny_Call_method m.base m.few m.line PySem.F.plainAttrs_dict PySem.F.slot_dict_get PySem.F.type_dict_get (thn (ho pins s σ H _ I h) λu s1 ⟨x,H1,I1,rx,a,ex,d,q1⟩=>?_);subst ex;obtain rfl:u=Value.ref a:=rx;obtain⟨t1,t2,_⟩:=qbZ I1 d;refine⟨t1,t2,?_⟩;rw[m.trees];refine Calls.callWith_builtin rfl (Calls.evalArgs_plain (Calls.spliced_cons (thn (he pins s1 σ H1 _ I1 q1) λiv s2 ⟨y,H2,I2,ry,q2⟩=>
  Calls.spliced_cons (thn (hf pins s2 σ H2 _ I2 q2) λfv s3 ⟨z,H3,I3,rz,ov,g,q3⟩=>Calls.spliced_nil ?_))))
 exact qf6 hu I3 g ry rz λw' s4 I4 rw'=>⟨_,H3,I4,rw',q3⟩
end
section
variable{X:Cx}{pins:List (vC×Obj)}{σ:St}{H:Hp}{s:vB}{a:vC}{kvs:List (Key×V)}{A:vZ}{E:Value->vB->Prop}
end
section
variable{X:Cx}{pins:List (vC×Obj)}{σ:St}{H:Hp}{s:vB}{a:vC}{y:V}{u:Value}{A:vZ}{E:Value->vB->Prop}
end
end L2
namespace Hk
open PySem L2
noncomputable def Y6{α:Type}:List Int->List α->Int->Option α
 | k'::ks,x::xs,k=>if k'=k then some x else Y6 ks xs k
 | _,_,_=>none
noncomputable def repA{α:Type}:List Int->List α->Int->α->List α
 | k'::ks,x::xs,k,y=>(if k'=k then y else x)::repA ks xs k y
 | _,xs,_,_=>xs
noncomputable def Wg(ks:List Int)(k:Int):List Int:=if k∈ks then ks else ks++[k]
noncomputable def putA{α:Type}(ks:List Int)(xs:List α)(k:Int)(y:α):List α:=if k∈ks then repA ks xs k y else xs++[y]
theorem q9h{α:Type}:∀(ks:List Int)(xs:List α)(k:Int)(y:α),(repA ks xs k y).length=xs.length
 | [],xs,_,_=>rfl
 | _::_,[],_,_=>rfl
 | k'::ks,x::xs,k,y=>by show (repA ks xs k y).length+1=xs.length+1;rw[q9h ks xs k y]
def qeL{α:Type}{ks:List Int}{xs:List α}(k:Int)(y:α)(h:ks.length=xs.length):(Wg ks k).length=(putA ks xs k y).length:=by
 unfold Wg putA
 by_cases z:k∈ks
 ·rw[vG z,vG z,q9h];exact h
 ·rw[vH z,vH z,zD,zD,h];rfl
theorem q24:∀{ks:List Int}{vs:List V},ks.length=vs.length->∀k,W0 (kvsOf ks vs) (Sum.inl k)=Y6 ks vs k
 | [],[],_,k=>rfl
 | [],_::_,h,_=>by simp at h
 | _::_,[],h,_=>by simp at h
 | k'::ks,v::vs,h,k=>by
  show W0 ((Sum.inl k',v)::kvsOf ks vs) (Sum.inl k)=if k'=k then some v else Y6 ks vs k
  by_cases z:k'=k
  ·rw[vG z,q5q (p:=((Sum.inl k':Key),v)) (by rw[z])]
  ·rw[vH z,q5w (p:=((Sum.inl k':Key),v)) (λe=>z (Sum.inl.inj e))]
   exact q24 ⇑h k
theorem q4K:∀{ks:List Int}{vs:List V},ks.length=vs.length->(kvsOf ks vs).length=ks.length
 | [],[],_=>rfl
 | [],_::_,h=>by simp at h
 | _::_,[],h=>by simp at h
 | k'::ks,v::vs,h=>by show (kvsOf ks vs).length+1=_;rw[q4K ⇑h];rfl
theorem q7w:∀{ks:List Int}{vs:List V},ks.length=vs.length->(kvsOf ks vs).map (·.1)=ks.map (Sum.inl:Int->Key)
 | [],[],_=>rfl
 | [],_::_,h=>by simp at h
 | _::_,[],h=>by simp at h
 | k'::ks,v::vs,h=>by show (Sum.inl k':Key)::(kvsOf ks vs).map (·.1)=_;rw[q7w ⇑h];rfl
theorem q8k:∀{ks:List Int}{vs:List V},ks.length=vs.length->∀k,(kvsOf ks vs).any (λkv=>decide (kv.1=(Sum.inl k:Key)))=decide (k∈ks)
 | [],[],_,_=>rfl
 | [],_::_,h,_=>by simp at h
 | _::_,[],h,_=>by simp at h
 | k'::ks,v::vs,h,k=>by
  show (decide ((Sum.inl k':Key)=Sum.inl k) || (kvsOf ks vs).any _)=_;rw[q8k ⇑h k];have e:decide ((Sum.inl k':Key)=Sum.inl k)=decide (k'=k):=by
   by_cases z:k'=k
   ·rw[z];simp
   ·rw[vX z,vX (λe=>z (Sum.inl.inj e))]
  rw[e];simp only[zF]
  by_cases z:k'=k
  ·simp[z]
  ·have:¬k=k':=λy=>z y.symm
   simp[z,this]
theorem q85:∀{ks:List Int}{vs:List V},ks.length=vs.length->∀(k:Int)(v:V),(kvsOf ks vs).map (λkv=>if kv.1=(Sum.inl k:Key)then (kv.1,v)else kv)=kvsOf ks (repA ks vs k v)
 | [],[],_,_,_=>rfl
 | [],_::_,h,_,_=>by simp at h
 | _::_,[],h,_,_=>by simp at h
 | k'::ks,u::vs,h,k,v=>by
  show (if (Sum.inl k':Key)=Sum.inl k then ((Sum.inl k':Key),v)else (Sum.inl k',u))::(kvsOf ks vs).map _=(Sum.inl k',if k'=k then v else u)::kvsOf ks (repA ks vs k v);rw[q85 ⇑h k v]
  by_cases z:k'=k
  ·rw[vG (by rw[z]),vG z]
  ·rw[vH (λe=>z (Sum.inl.inj e)),vH z]
theorem q7b:∀{ks:List Int}{vs:List V},ks.length=vs.length->∀(k:Int)(v:V),kvsOf ks vs++[(Sum.inl k,v)]=kvsOf (ks++[k]) (vs++[v])
 | [],[],_,_,_=>rfl
 | [],_::_,h,_,_=>by simp at h
 | _::_,[],h,_,_=>by simp at h
 | k'::ks,u::vs,h,k,v=>by show _::(kvsOf ks vs++[(Sum.inl k,v)])=_;rw[q7b ⇑h k v];rfl
def q5L{ks:List Int}{vs:List V}(h:ks.length=vs.length)(k:Int)(v:V):putK (kvsOf ks vs) (Sum.inl k) v=kvsOf (Wg ks k) (putA ks vs k v):=by
 unfold putK Wg putA;rw[q8k h]
 by_cases z:k∈ks
 ·rw[vG (vQ z),vG z,vG z];exact q85 h k v
 ·rw[vH (by rw[vX z];decide),vH z,vH z];exact q7b h k v
section
variable{K:zA}{G:Hp}
theorem Yt.val:∀{ks:List Int}{ds:List D}{vs:List V}{k:Int}{d:D},Yt K G ds vs->Y6 ks ds k=some d->∃v,Y6 ks vs k=some v/\Rep K G d v
 | [],_,_,_,_,_,e=>by cases e
 | _::_,[],_,_,_,_,e=>by cases e
 | k'::ks,d'::ds,_,k,d,⟨v,r,h1,h2,h3⟩,e=>by
  subst h1;have e:(if k'=k then some d' else Y6 ks ds k)=some d:=e;show ∃u,(if k'=k then some v else Y6 ks r k)=some u/\_
  by_cases z:k'=k
  ·rw[vG z]at e ⊢;cases e;exact⟨v,rfl,h2⟩
  ·rw[vH z]at e ⊢;exact Yt.val h3 e
theorem Yt.isVal:∀{ks:List Int}{ds:List D}{vs:List V}(k:Int),Yt K G ds vs->(Y6 ks vs k).isSome=(Y6 ks ds k).isSome
 | [],_,_,_,_=>rfl
 | _::_,[],_,_,h=>by cases (show _=[]from h);rfl
 | k'::ks,d'::ds,_,k,⟨v,r,h1,h2,h3⟩=>by
  subst h1;show (if k'=k then some v else Y6 ks r k).isSome=(if k'=k then some d' else Y6 ks ds k).isSome
  by_cases z:k'=k
  ·rw[vG z,vG z];rfl
  ·rw[vH z,vH z];exact Yt.isVal k h3
theorem Yt.repA:∀{ks:List Int}{ds:List D}{vs:List V}(k:Int){d:D}{v:V},Yt K G ds vs->Rep K G d v->Yt K G (Hk.repA ks ds k d) (Hk.repA ks vs k v)
 | [],_,_,_,_,_,h,_=>h
 | _::_,[],_,_,_,_,h,_=>by cases (show _=[]from h);rfl
 | k'::ks,d'::ds,_,k,d,v,⟨u,r,h1,h2,h3⟩,hv=>by
  subst h1;refine⟨_,_,rfl,?_,Yt.repA k h3 hv⟩
  by_cases z:k'=k
  ·rw[vG z,vG z];exact hv
  ·rw[vH z,vH z];exact h2
theorem Yt.putA{ks:List Int}{ds:List D}{vs:List V}(k:Int){d:D}{v:V}(h:Yt K G ds vs)(hv:Rep K G d v):Yt K G (Hk.putA ks ds k d) (Hk.putA ks vs k v):=by
 unfold Hk.putA
 by_cases z:k∈ks
 ·rw[vG z,vG z];exact h.repA k hv
 ·rw[vH z,vH z];exact h.app (Yt.cons hv Yt.nil)
end
noncomputable def W9:Option (Option W)->Option (List Int×List D)
 | some (some (.od ks ds))=>some (ks,ds)
 | some ↥(.dic ks ds)=>some (ks,ds)
 | _=>none
def qaf{H H':Hp}{p:vC}{u:HO}(e:Y1 H H')(h:Rd H p u):Rd H' p u:=by
 rcases h with h|⟨o,h⟩
 ·exact .inl (e _ _ h)
 ·exact .inr ⟨o,e _ _ h⟩
def qa9{H:Hp}{a:vC}{kvs:List (Key×V)}{k:Key}(e:Rd H a (.dK kvs)):zAZ H a (kV k) (W0 kvs k):=.inl ⟨kvs,k,e,rfl,rfl⟩
def Own.dic{K:zA}{G0:Hp}{H0:Fr}{G:Hp}{ω:WSt}{σ:St}{H:Hp}{i:Nat}{ks:List Int}{ds:List D}(o:Own K G0 H0 G ω σ H)(h:W9 ω[i]?=some (ks,ds)):
  ∃p vs,σ[i]?=some (some (.ref p))/\Rd H p (.dK (kvsOf ks vs))/\ks.length=ds.length/\Yt K G ds vs:=by
 unfold W9 at h
 split at h
 ·rename_i q
  cases h;obtain⟨p,vs,h1,h2,_,_,h5,h6,_⟩:=o.od i _ _ q;exact⟨p,vs,h1,.inl h2,h5,h6⟩
 ·rename_i q
  cases h;obtain⟨v,h1,p,vs,rfl,⟨ob,h2⟩,h3,h4⟩:=o.sh i _ q;exact⟨p,vs,h1,.inr ⟨ob,o.gh _ _ h2⟩,h3,h4⟩
 ·cases h
section
variable{X:Cx}{o k e:vW}{pos pos' dpos:Pos}{i:Nat}{fk fv:FD}
def hu1(hu:X.A.units+64<ua):X.A.units+1<ua:=∅
noncomputable def zCm(i:Nat)(fk fv:FD):FS:=λω=>(fv ω).bind λd=>(fk ω).bind λc=>match c,ω[i]? with
 | .int k,some (some (.od ks ds))=>if ks.length<1000000 then some (.nx,ω.set i (some (.od (Wg ks k) (putA ks ds k d))))else none
 | _,_=>none
def qeB(hu:X.A.units+64<ua)(ho:PE X o (XZ i))(hk:XD X k fk)(hv:XD X e fv)(hs:vy e (some (.Subscript o k pos')) pos.line X.env=pure false:=by rfl):XS X (.Assign [.Subscript o k pos'] e pos) (zCm i fk fv):=by
 obtain⟨tk,h1,h2⟩:=hk;obtain⟨tv,h3,h4⟩:=hv;refine⟨_,qab (hu1 hu) ho h1 h3 hs,λG0 H0 G ω σ H out ω' E ow e kk=>?_⟩;obtain⟨d,q1,e⟩:=bnd e;obtain⟨c,q2,e⟩:=bnd e;refine h4 G0 H0 G ω σ H d _ ow q1 λv G1 H1 x1 y1=>?_;cases c with
 | int k=>
  split at e
  ·rename_i _ _ _ k' ks ds ek q3
   cases ek
   by_cases z:ks.length<1000000
   ·rw[vG z]at e
    cases e;have o1:=ow.keep x1;obtain⟨p,vs,r1,r2,r3,r4,r5,r6,r7⟩:=o1.od i ks ds q3;refine⟨.ref p,r1,h2 G0 H0 G1 ω σ H1 _ _ o1 q2 λu G2 H2 x2 y2=>?_⟩;cases (show u=.int k from y2);have o2:=o1.keep x2;have hl:ks.length=vs.length:=by rw[r5];exact r6.len
    refine⟨p,_,rfl,zCn.k (k:=Sum.inl k) (x2.hh _ _ r2) (by rw[q4K hl,vo];omega),?_⟩;rw[q5L hl];exact kk G2 σ _ (o2.mutD q3 r1 (x2.hh _ _ r2) (x2.new p r3 (by rw[r2];exact λz=>by cases z)) r4 (qeL k d r5) ((r6.mono x2.gg).putA k (y1.mono x2.gg))) (x1.gg.trans x2.gg)
   ·rw[vH z]at e;cases e
  ·cases e
 | _=>cases e
noncomputable def zC0(i:Nat)(fk:FD):FE:=λω=>(W9 ω[i]?).bind λp=>(fk ω).bind λc=>match c with
 | .int k=>(Y6 p.1 p.2 k).map R.sh
 | _=>none
def qep(hu:X.A.units+64<ua)(ho:PE X o (XZ i))(hk:XD X k fk)(hs:NoSl k:=by intro _ _;rfl):XE X (.Subscript o k pos) (zC0 i fk):=by
 obtain⟨tk,h1,h2⟩:=hk;refine⟨_,q6i (hu1 hu) ho h1 hs,λG0 H0 G ω σ H r Q ow e kk=>?_⟩;obtain⟨⟨ks,ds⟩,q1,e⟩:=bnd e;obtain⟨c,q2,e⟩:=bnd e;obtain⟨p,vs,r1,r2,r3,r4⟩:=ow.dic q1;refine⟨.ref p,r1,h2 G0 H0 G ω σ H c _ ow q2 λu G1 H1 x1 y1=>?_⟩;cases c with
 | int k=>
  cases (show u=.int k from y1);obtain⟨d,q3,e⟩:=mpd e;subst e;obtain⟨v,z1,z2⟩:=r4.val q3;have hl:ks.length=vs.length:=by rw[r3];exact r4.len
  have g:=qa9 (k:=(Sum.inl k:Key)) (qaf x1.hh r2);rw[q24 hl,z1]at g;exact⟨p,v,rfl,g,kk v G1 H1 x1 (z2.mono x1.gg)⟩
 | _=>cases e
noncomputable def zB8(neg:Bool)(i:Nat)(fk:FD):FT:=λω=>(fk ω).bind λc=>(W9 ω[i]?).bind λp=>match c with
 | .int k=>some (if neg then !(Y6 p.1 p.2 k).isSome else (Y6 p.1 p.2 k).isSome)
 | _=>none
def qek{tk:TE}{neg:Bool}(h2:zBZ X.K tk fk):zBi X.K (tB (if neg then zBa tk (XZ i)else L2.tDIn tk (XZ i))) (zB8 neg i fk):=by
 intro G0 H0 G ω σ H b Q ow e kk;obtain⟨c,q2,e⟩:=bnd e;obtain⟨⟨ks,ds⟩,q1,e⟩:=bnd e;cases c with
 | int k=>
  have fin:∀(u:V)G1 H1,Ext G H G1 H1->u=.int k->∃p vs,σ[i]?=some (some (.ref p))/\zAZ H1 p u (Y6 ks vs k)/\(Y6 ks vs k).isSome=(Y6 ks ds k).isSome:=λu G1 H1 x1 hu=>by
   subst hu;obtain⟨p,vs,r1,r2,r3,r4⟩:=ow.dic q1;have hl:ks.length=vs.length:=by rw[r3];exact r4.len
   have g:=qa9 (k:=(Sum.inl k:Key)) (qaf x1.hh r2);rw[q24 hl]at g;exact⟨p,vs,r1,g,Yt.isVal k r4⟩
  cases neg with
  | true=>
   refine h2 G0 H0 G ω σ H _ _ ow q2 λu G1 H1 x1 y1=>?_;obtain⟨p,vs,r1,g,hs⟩:=fin u G1 H1 x1 y1;refine⟨.ref p,r1,p,_,rfl,g,_,rfl,?_⟩;cases e;rw[hs];exact kk G1 H1 x1
  | false=>
   refine h2 G0 H0 G ω σ H _ _ ow q2 λu G1 H1 x1 y1=>?_;obtain⟨p,vs,r1,g,hs⟩:=fin u G1 H1 x1 y1;refine⟨.ref p,r1,p,_,rfl,g,_,rfl,?_⟩;cases e;rw[hs];exact kk G1 H1 x1
 | _=>cases e
def qcx(hu:X.A.units+64<ua)(hk:XD X k fk)(ho:PE X o (XZ i))(hb:vz .NotIn o=false:=by rfl):XT X (.Compare k [.NotIn] [o] pos) (zB8 true i fk):=by
 obtain⟨tk,h1,h2⟩:=hk;exact⟨_,qfO (qbB (hu1 hu) h1 ho) hb,qek (neg:=true) h2⟩
end
section
variable{X:Cx}{o k e:vW}{pos pos' dpos:Pos}{i:Nat}{fk fv:FD}
noncomputable def zBj(i:Nat)(fk fv:FD):FS:=λω=>(fk ω).bind λc=>(fv ω).bind λd=>match c with
 | .int k=>some (.nx,ω.set i (some (.od [k] [d])))
 | _=>none
def qdg{x:Str}(hN:X.N.Nodup)(hi:X.N[i]?=some x)(hx:Loc X.env.scope x)(hk:XD X k fk)(hv:XD X e fv)(hs:vy (.Dict [some k] [e] dpos) (some (.Name x pos')) pos.line X.env=pure false:=by rfl)(hf:X.fn x=true\/X.env.scope.names.lookup x=some .local:=by first|exact .inl rfl|exact .inr rfl|assumption):
  XS X (.Assign [.Name x pos'] (.Dict [some k] [e] dpos) pos) (zBj i fk fv):=by
 obtain⟨tk,h1,h2⟩:=hk;obtain⟨tv,h3,h4⟩:=hv;refine⟨_,q2m hN hi hx (qej (qdm h1 h3 qdX) rfl rfl (by simp) (by show 1<=15;decide)) hs hf,λG0 H0 G ω σ H out ω' E ow e kk=>?_⟩;obtain⟨c,q1,e⟩:=bnd e;obtain⟨d,q2,e⟩:=bnd e;cases c with
 | int k=>
  cases e;intro p hp;have x0:=Ext.hide ow.gh hp (.dK []);have o1:=ow.keep x0;refine h2 G0 H0 G ω σ _ _ _ o1 q1 λu G1 H1 x1 y1=>?_;cases (show u=.int k from y1);have o2:=o1.keep x1;refine h4 G0 H0 G1 ω σ H1 d _ o2 q2 λv G2 H2 x2 y2=>?_;have o3:=o2.keep x2;have hp2:H2 p=some (.dK []):=x2.hh _ _ (x1.hh _ _ qe);have gp1:G1 p=none:=x1.new p (ow.gh.free hp) (by rw[qe];exact λz=>by cases z);have gp2:G2 p=none:=x2.new p gp1 (by rw[x1.hh _ _ qe];exact λz=>by cases z);have h0p:H0 p=none:=ow.ext.hh.free hp;refine⟨hp2,[(Sum.inl k,v)],rfl,by show 1<=15;decide,?_⟩;have em:zAG [] [((Sum.inl k:Key),v)]=kvsOf [k] [v]:=by
   show putK [] (Sum.inl k:Key) v=_;unfold putK;rw[vH (by simp)];rfl
  rw[em];have ext4:Ext G0 H0.hp G2 (upd H2 p (.dK (kvsOf [k] [v]))):=⟨o3.ext.gg,Yx o3.ext.gh gp2 _,Yx o3.ext.hh h0p _,o3.ext.new⟩;have np:∀(j:Nat)ds',ω[j]?=some (some (.ow ds'))->∀l vs,σ[j]?=some (some (.ref l))->H2 l=some (.lst vs)->l≠p:=λj ds' hj l vs _ h z=>by rw[z,hp2]at h;cases h
  have npd:∀(j:Nat)ks' es,ω[j]?=some (some (.od ks' es))->σ[j]?≠some (some (.ref p)):=λj ks' es hj z=>by
   obtain⟨q,us,w1,w2,_⟩:=ow.od j ks' es hj;rw[w1]at z;cases z;rw[hp]at w2;cases w2
  have o4:Own X.K G0 H0 G2 ω σ (upd H2 p (.dK (kvsOf [k] [v]))):=by
   refine⟨ext4,o3.len,o3.sh,λj ds' hj=>?_,o3.nd,λj ks' es hj=>?_,o3.pw.upd (o3.pw.ne_ob λvs z=>by rw[hp2]at z;cases z)⟩
   ·obtain⟨l,vs,w1,w2,w3,w4,w5⟩:=o3.ow j ds' hj
    exact⟨l,vs,w1,by rw[qc (np j ds' hj l vs w1 w2)];exact w2,w3,w4,w5⟩
   ·obtain⟨q,us,w1,w2,w3,w4,w5,w6,w7⟩:=o3.od j ks' es hj
    have nq:q≠p:=λz=>npd j ks' es hj (by rw[<- z];exact w1);exact⟨q,us,w1,by rw[qc nq];exact w2,w3,w4,w5,w6,w7⟩
  exact kk G2 _ _ (o4.setOd (ks:=[k]) (ds:=[d]) (vs:=[v]) qe gp2 h0p rfl (Yt.cons y2 Yt.nil) npd) (x1.gg.trans x2.gg)
 | _=>cases e
end
section
open PySem.Spec PyProof.Rows PySem.W
theorem qae:∀(vs:List Value)(ns:List Int),vs.length=ns.length->(∀(j:Nat)v n,vs[j]?=some v->ns[j]?=some n->∃t,v=.int n t)->uC vs ns
 | [],[],_,_=>.nil
 | [],_::_,h,_=>by simp at h
 | _::_,[],h,_=>by simp at h
 | v::vs,n::ns,h,f=>by
  obtain⟨t,rfl⟩:=f 0 v n rfl rfl;exact .cons _ _ (qae vs ns ⇑h λj a b e1 e2=>f (j+1) a b ⇑e1 ⇑e2)
variable{prog:vS}{w:vY}{A:vZ}{E:Value->vB->Prop}{s:vB}
def q9O{a:vC}{kvs:List (Key×Value)}{ns:List Int}{Q:Value->vB->Prop}(hh:A.handled=none)(lo:(a==uF)=false)(dd:s.heap.DictOf (Yz prog w) a kvs)(hk:kvs.map (·.1)=ns.map (Sum.inl:Int->Key))(h64:ns.length<64)(h:∀(h1 h':vf)(tk:Nat)(vs:List Value)(ys:List Int)(n:Nat),(∀b o,s.heap.get? b=some o->h1.get? b=some o)->(∀b o,h1.get? b=some o->h'.get? b=some o)->h'.get? h1.objs.size=some (uS "list" vs.toArray n)->uC vs ys->ys.Perm ns->ys.Pairwise (· <= ·)->Q (.ref h1.objs.size) { s with heap:=h',toks:=tk }):
  vL (model prog w) A (call (.builtin "sorted") [.ref a]) Q E s:=by
 obtain⟨ep,hat⟩:=dd.dictAt;have hkl:kvs.length=ns.length:=by have:=uG wH hk;simpa using this
 refine Calls.call_function_entry sS sH sI (sJ _) ?_;unfold Builtin.«sorted»;refine vA (m:=checkCount "sorted" 1 1 _) (vF ?_);refine vA (kdu_collect (A:=A.in1) (kdl_dict (knd:=Yz prog w) (kvs:=kvs) (ep:=ep) lo) hh hat (by rw[hkl];exact y8 (xH h64) (by decide)) λh1 tk acc hk1 hacc=>?_);have y1:uC acc.toList ns:=by
  refine qae _ _ (by rw[zN,hacc.1,hkl]) λj v n e1 e2=>?_;obtain⟨k,x,hx,hi⟩:=hacc.2 j v (by rw[<- yE];exact e1);have e3:(kvs.map (·.1))[j]?=some k:=by rw[zh,hx];rfl
  rw[hk,zh,e2]at e3;cases e3;rcases q0X (k:=(Sum.inl n:Key)) hi with⟨i,t,e4,rfl⟩|⟨x,t,e4,_⟩
  ·cases e4;exact⟨t,rfl⟩
  ·cases e4
 have hlen:acc.toList.length=ns.length:=IntsAre.length y1;refine vA (tG ?_ (y8 (by rw[hlen];exact xH h64) (by decide)));generalize acc.toList=vs at y1 hlen;have hoL:(h1.push (uS "list" vs.toArray 0)).get? h1.objs.size=some (uS "list" vs.toArray 0):=zP _ rfl;refine vA (vi (vc slot_list_sort ⟨_,hoL,rfl⟩ entry_list_sort (list_sort_tree hoL y1 (by rw[hlen];exact h64) λout ns' a1 a2 a3=>⟨_,rfl,?_⟩) (tf _)));obtain⟨n,hn⟩:=sortedHeap_at (vs:=vs) (out:=out) hoL;refine vF ⟨_,rfl,h h1 _ tk out.toList ns' n hk1 (λb o e1=>?_) ?_ a1 a2 a3⟩
 ·rw[sortedHeap_old (zo (zK e1)) (by rw[xE];exact yw (zK e1))]
  exact zE _ e1
 ·rw[wm];exact hn
end
def rSortD:List V->Hp->VK->Prop:=λxs H Q=>∃p kvs ns,xs=[.ref p]/\Rd H p (.dK kvs)/\kvs.map (·.1)=ns.map (Sum.inl:Int->Key)/\ns.length<64/\∀l,H l=none->Q (.ref l) (upd H l (.lst ((Y7 ns).map V.int)))
section
variable{X:Cx}{o:vW}{i:Nat}
def qbs(hc:X.calm=true):Xn X (.builtin "sorted") rSortD:=by
 intro pins s σ H xs us Q I r h;obtain⟨p,kvs,ns,rfl,hp,hk,hz,q⟩:=h;obtain⟨u,rfl,rx⟩:=vals1 r;cases rx;obtain⟨_,lo,vs,rel,dd⟩:=q5o I.hok hp;refine q9O (I.ok.hd hc) lo dd (by rw[<- rel.keys];exact hk) hz λh1 h' tk us ys n k1 k2 g1 a1 a2 a3=>?_;have en:ys=Y7 ns:=q49 a3 q4j (a2.trans q1F.symm);subst en;have I1:Inv X pins σ H { s with heap:=h1,toks:=tk }:=I.kept k1;have hsl:(Y7 ns).length<=sizeLine:=by rw[q7X];exact y8 (xH hz) (by decide)
 have I2:=I1.laid (a:=h1.objs.size) (o:=.lst ((Y7 ns).map V.int)) (t':=tk) (h':=h') k2 (zL _)
  (show Y5 X.prog X.w _ h' _ (.lst _)from ⟨by rw[zB];exact hsl,us,n,q3U a1,g1⟩)
 exact⟨.ref _,_,I2,rfl,q _ (I1.hok.fresh (zL _))⟩
noncomputable def zBb(i:Nat):FE:=λω=>(W9 ω[i]?).bind λp=>if p.1.length<64 then some (.fr ((Y7 p.1).map D.int))else none
def qcP{p q:Pos}(hc:X.calm=true)(hg:Gl X "sorted")(hm:X.mg "sorted" = none)(ho:PE X o (XZ i))(he:vJ [o] X.env=(false,eval o X.env)::vJ [] X.env:=by rfl)(hpl:(vp q (vJ [] X.env)).any (·.1)=false:=by rfl):XE X (.Call (.Name "sorted" p) [o] [] q) (zBb i):=by
 refine⟨_,q2J (qbs hc) hg hm q63 (qo ho qN he) (by decide) (by decide) he hpl,λG0 H0 G ω σ H r Q ow e k=>?_⟩;obtain⟨⟨ks,ds⟩,q1,e⟩:=bnd e;obtain⟨p,vs,r1,r2,r3,r4⟩:=ow.dic q1
 by_cases hz:ks.length<64
 ·have e:(if ks.length<64 then some (R.fr ((Y7 ks).map D.int))else none)=some r:=e
  rw[vG hz]at e;cases e;refine⟨.ref p,r1,p,_,ks,rfl,r2,q7w (by rw[r3];exact r4.len),hz,λl hl=>?_⟩;have x2:=Ext.hide ow.gh hl (.lst ((Y7 ks).map V.int));exact k _ G _ x2 ⟨l,_,rfl,hl,ow.gh.free hl,qe,Yt.ints _⟩
 ·have e:(if ks.length<64 then some (R.fr ((Y7 ks).map D.int))else none)=some r:=e
  rw[vH hz]at e;cases e
noncomputable def zCG(i:Nat):FM:=λω=>match ω[i]? with
 | some (some (.ow ds))=>(ds[ds.length-1]?).map λd=>(d,ω.set i (some (.ow ds.dropLast)))
 | _=>none
theorem Yt.dropLast{K:zA}{H:Hp}{ds:List D}{vs:List V}(h:Yt K H ds vs):Yt K H ds.dropLast vs.dropLast:=by
 rw[Zb,Zb,h.len];exact h.take _
def qdY{apos cpos:Pos}(ho:PE X o (XZ i))(hbase:uN o "pop" X.env (eval o X.env)=eval o X.env:=by rfl)(hline:(apos.endLine==cpos.line)=true:=by rfl):
  XM X (.Call (.Attribute o "pop" apos) [] [] cpos) (zCG i):=by
 refine⟨_,q9f PySem.F.plainAttrs_list PySem.F.slot_list_pop PySem.F.type_list_pop q9d ho hbase hline,λG0 H0 G ω σ H d ω' Q ow e k=>?_⟩;unfold zCG at e
 split at e
 ·rename_i ds q2
  obtain⟨d1,hd,e⟩:=mpd e;cases e;obtain⟨l,vs,r1,r2,r3,r4,r5⟩:=ow.ow i ds q2;obtain⟨y,hy,ry⟩:=r5.get hd;refine⟨.ref l,r1,.inl ⟨rfl,vs,SqL.of r2⟩,l,vs,y,rfl,rfl,r2,by rw[<- r5.len];exact hy,k y G _ (ow.mut q2 r1 r2 r3 r4 r5.dropLast) (Y1.refl _) ry⟩
 ·cases e
end
noncomputable def Wv:List Int->List (List Int)->Int->Int->List (List Int)
 | k::ks,x::xs,a,b=>if k=a then (x++[b])::xs else x::Wv ks xs a b
 | _,xs,_,_=>xs
theorem q6O:∀(ks:List Int)(xs:List (List Int))(a b:Int),(Wv ks xs a b).length=xs.length
 | [],_,_,_=>rfl
 | _::_,[],_,_=>rfl
 | k::ks,x::xs,a,b=>by
  unfold Wv
  by_cases z:k=a
  ·rw[vG z];rfl
  ·rw[vH z,zC,zC,q6O ks xs a b]
structure Tab (G H0 H:Hp) (p:vC) (ks:List Int) (ls:List vC) (xss:List (List Int)):Prop where
 dict:H p=some (.dK (kvsOf ks (ls.map V.ref)))
 gp:G p=none
 hp:H0 p=none
 len:ks.length=ls.length
 len2:ls.length=xss.length
 lst:∀(j:Nat)l xs,ls[j]?=some l->xss[j]?=some xs->H l=some (.lst (xs.map V.int))
 gl:∀l∈ls,G l=none/\H0 l=none
 nd:ls.Nodup
def Tab.inn{G H0 H:Hp}{p:vC}{ks:List Int}{ls:List vC}{xss:List (List Int)}(T:Tab G H0 H p ks ls xss){l:vC}(h:l∈ls):∃xs:List Int,H l=some (.lst (xs.map V.int)):=by
 obtain⟨j,hj,rfl⟩:=ye.mp h;have hj2:j<xss.length:=by rw[<- T.len2];exact hj
 exact⟨xss[j],T.lst j _ _ (zG hj) (zG hj2)⟩
def Tab.pl{G H0 H:Hp}{p:vC}{ks:List Int}{ls:List vC}{xss:List (List Int)}(T:Tab G H0 H p ks ls xss):p∉ls:=λh=>by
 obtain⟨xs,e⟩:=T.inn h;rw[T.dict]at e;cases e
def Tab.keep{G G' H0 H H':Hp}{p:vC}{ks:List Int}{ls:List vC}{xss:List (List Int)}(T:Tab G H0 H p ks ls xss)(x:Ext G H G' H'):Tab G' H0 H' p ks ls xss :=
 ⟨x.hh _ _ T.dict,x.new p T.gp (by rw[T.dict];exact λz=>by cases z),T.hp,T.len,T.len2,λj l xs h1 h2=>x.hh _ _ (T.lst j l xs h1 h2),λl h=>by
  obtain⟨xs,e⟩:=T.inn h;exact⟨x.new l (T.gl l h).1 (by rw[e];exact λz=>by cases z),(T.gl l h).2⟩,T.nd⟩
theorem qbQ:∀{ks:List Int}{ls:List vC}{a:Int},ks.length=ls.length->a∈ks->∃(j:Nat) (l:vC),ks[j]?=some a/\ls[j]?=some l/\Y6 ks (ls.map V.ref) a=some (.ref l)/\∀(xss:List (List Int))(b:Int),xss.length=ls.length->∃xs,xss[j]?=some xs/\Wv ks xss a b=xss.set j (xs++[b])
 | [],_,_,_,h=>by simp at h
 | _::_,[],_,h,_=>by simp at h
 | k::ks,l::ls,a,h,ha=>by
  by_cases z:k=a
  ·refine⟨0,l,by rw[z];rfl,rfl,vG z,λxss b hx=>?_⟩
   cases xss with
   | nil=>simp at hx
   | cons x xs=>exact⟨x,rfl,vG z⟩
  ·have ha':a∈ks:=(zF.mp ha).resolve_left λe=>z e.symm
   obtain⟨j,l',e1,e2,e3,e4⟩:=qbQ (ks:=ks) (ls:=ls) ⇑h ha';refine⟨j+1,l',e1,e2,?_,λxss b hx=>?_⟩
   ·show (if k=a then _ else _)=_
    rw[vH z];exact e3
   ·cases xss with
    | nil=>simp at hx
    | cons x xs=>
     obtain⟨y,h1,h2⟩:=e4 xs b ⇑hx;refine⟨y,h1,?_⟩;show (if k=a then _ else x::Wv ks xs a b)=_;rw[vH z,h2];rfl
def Tab.app{G H0 H:Hp}{p:vC}{ks:List Int}{ls:List vC}{xss:List (List Int)}(T:Tab G H0 H p ks ls xss){a:Int}(b:Int)(ha:a∈ks):
  ∃(l:vC) (xs:List Int),l∈ls/\xs∈xss/\Y6 ks (ls.map V.ref) a=some (.ref l)/\zAZ H p (.int a) (some (.ref l))/\H l=some (.lst (xs.map V.int))/\Tab G H0 (upd H l (.lst ((xs++[b]).map V.int))) p ks ls (Wv ks xss a b):=by
 obtain⟨j,l,e1,e2,e3,e4⟩:=qbQ T.len ha;obtain⟨xs,e5,e6⟩:=e4 xss b T.len2.symm;have hl:l∈ls:=xP e2;have hlp:p≠l:=λz=>T.pl (z▸hl);have g:=zAZ.k (k:=(Sum.inl a:Key)) T.dict;rw[q24 (by rw[zB];exact T.len),e3]at g;refine⟨l,xs,hl,xP e5,e3,g,T.lst j l xs e2 e5,?_⟩;rw[e6];refine⟨by rw[qc hlp];exact T.dict,T.gp,T.hp,T.len,by rw[yp];exact T.len2,λi m ys h1 h2=>?_,T.gl,T.nd⟩;rcases qd h2 with⟨rfl,_,rfl⟩|⟨ne,h3⟩
 ·rw[e2]at h1
  cases h1;exact qe
 ·have hm:m≠l:=λz=>by
   subst z;obtain⟨i1,i2⟩:=yF.mp h1;obtain⟨j1,j2⟩:=yF.mp e2;exact ne ((wf T.nd).mp (j2.trans i2.symm))
  rw[qc hm];exact T.lst i m ys h1 h3
def Own.free{K:zA}{G0:Hp}{H0:Fr}{G:Hp}{ω:WSt}{σ:St}{H:Hp}{q:vC}{ob:HO}(o:Own K G0 H0 G ω σ H)(no:X6 ω)(hG:G q=none)(h0:H0 q=none):Own K G0 H0 G ω σ (upd H q ob) :=
 ⟨⟨o.ext.gg,Yx o.ext.gh hG _,Yx o.ext.hh h0 _,o.ext.new⟩,o.len,o.sh,λi ds h=>vK h (no.ow i ds),o.nd,λi ks ds h=>vK h (no.od i ks ds),Xo.no no.pw⟩
def Tab.put{G H0 H:Hp}{p:vC}{ks:List Int}{ls:List vC}{xss:List (List Int)}(T:Tab G H0 H p ks ls xss){k:Int}{l:vC}(hk:k∉ks)(hl:H l=none)(sg:Y1 G H)(s0:Y1 H0 H)(hz:ks.length<1000000):
  ∃H4,zCn (upd H l (.lst [])) p (.int k) (.ref l) H4/\H4=upd (upd H l (.lst [])) p (.dK (kvsOf (ks++[k]) ((ls++[l]).map V.ref)))/\Tab G H0 H4 p (ks++[k]) (ls++[l]) (xss++[[]]):=by
 have hpl:p≠l:=λz=>by rw[<- z,T.dict]at hl;cases hl
 have hlen:ks.length=(ls.map V.ref).length:=by rw[zB];exact T.len
 have e:putK (kvsOf ks (ls.map V.ref)) (Sum.inl k) (.ref l)=kvsOf (ks++[k]) ((ls++[l]).map V.ref):=by
  rw[q5L hlen];unfold Wg putA;rw[vH hk,vH hk,zk];rfl
 have d:=zCn.k (H:=upd H l (.lst [])) (a:=p) (kvs:=kvsOf ks (ls.map V.ref)) (k:=(Sum.inl k:Key)) (v:=.ref l) (by rw[qc hpl];exact T.dict) (by rw[q4K hlen,vo];omega);rw[e]at d;refine⟨_,d,rfl,qe,T.gp,T.hp,by rw[zD,zD,T.len];rfl,by rw[zD,zD,T.len2];rfl,λj m xs h1 h2=>?_,λm hm=>?_,?_⟩
 ·rcases yt j ls.length with z|z
  ·rw[yf z]at h1
   rw[yf (by rw[<- T.len2];exact z)]at h2;have e1:=T.lst j m xs h1 h2;have n1:m≠p:=λy=>T.pl (y▸xP h1);have n2:m≠l:=λy=>by rw[y,hl]at e1;cases e1
   rw[qc n1,qc n2];exact e1
  ·rw[yC z]at h1
   rw[yC (by rw[<- T.len2];exact z),<- T.len2]at h2;cases hj:j-ls.length with
   | zero=>
    rw[hj]at h1 h2;cases h1;cases h2;rw[qc (Ne.symm hpl)];exact qe
   | succ n=>rw[hj]at h1;cases h1
 ·rcases zT.mp hm with h|h
  ·exact T.gl m h
  ·cases zb.mp h;exact⟨sg.free hl,s0.free hl⟩
 ·rw[ZA]
  refine⟨T.nd,by simp,λa ha b hb z=>?_⟩;cases zb.mp hb;obtain⟨xs,e1⟩:=T.inn ha;rw[z,hl]at e1;cases e1
noncomputable def pairsOf:List D->Option (List (Int×Int))
 | []=>some []
 | .tup [.int a,.int b]::r=>(pairsOf r).map λl=>(a,b)::l
 | _=>none
noncomputable def pairD2(e:Int×Int):D:=.tup [.int e.1,.int e.2]
theorem q5e:∀{ds:List D}{es:List (Int×Int)},pairsOf ds=some es->ds=es.map pairD2
 | [],_,h=>by cases h;rfl
 | d::r,es,h=>by
  unfold pairsOf at h
  split at h
  ·rename_i e;cases e
  ·rename_i e
   cases e;obtain⟨l,h1,h2⟩:=mpd h;subst h2;rw[q5e h1];rfl
  ·cases h
theorem q4U:∀es:List (Int×Int),pairsOf (es.map pairD2)=some es
 | []=>rfl
 | e::r=>by show (pairsOf (r.map pairD2)).map _=_;rw[q4U r];rfl
noncomputable def WC(ks:List Int)(xss:List (List Int))(e:Int×Int):List (List Int):=Wv ks (Wv ks xss e.1 e.2) e.2 e.1
noncomputable def nbT(ts:List Int)(es:List (Int×Int)):List (List Int):=es.foldl (WC ts) (ts.map λ_=>[])
noncomputable def nbM(a b:List D):Option D:=(intsOf a).bind λts=>(pairsOf b).bind λes=>if ts.Nodup/\(∀e∈es,e.1∈ts/\e.2∈ts)/\ts.length<=1000/\es.length<=1000 then some (.dic ts ((nbT ts es).map λxs=>.lst (xs.map D.int)))else none
noncomputable def sNb:FS:=λω=>match ω with
 | [↥(.lst a),↥(.lst b),none,none,none]=>(nbM a b).map λd=>(.rt (.sh d),ω)
 | _=>none
def zCh{a b:D}{x:Option D}:X6 [↥a,↥b,none,none,x.map W.sh]:=by
 intro i w e
 match i,e with
 | 0,e=>cases e;exact⟨_,rfl⟩
 | 1,e=>cases e;exact⟨_,rfl⟩
 | 2,e=>cases e
 | 3,e=>cases e
 | 4,e=>
  cases x with
  | none=>cases e
  | some d=>cases e;exact⟨d,rfl⟩
 | i+5,e=>simp at e
def Own.other{K:zA}{G0:Hp}{H0:Fr}{G:Hp}{ω:WSt}{σ:St}{H:Hp}{i:Nat}{v:Option V}(o:Own K G0 H0 G ω σ H)(no:X6 ω)(hi:∀w,ω[i]?≠some (some w)):Own K G0 H0 G ω (σ.set i v) H :=
 ⟨o.ext,by rw[yp];exact o.len,λj d h=>by
  obtain⟨u,h1,h2⟩:=o.sh j d h;exact⟨u,by rw[zH (λz=>hi _ (z▸h))];exact h1,h2⟩,λi ds h=>vK h (no.ow i ds),λi j ds es l h=>vK h (no.ow i ds),λi ks ds h=>vK h (no.od i ks ds),Xo.no no.pw⟩
theorem q51(n:Nat):∀(ks:List Int)(xss:List (List Int))(a b:Int),(∀x∈xss,x.length<=n)->∀x∈Wv ks xss a b,x.length<=n+1
 | [],xss,_,_,h,x,hx=>wb (h x hx)
 | _::_,[],_,_,h,x,hx=>by cases hx
 | k::ks,y::xss,a,b,h,x,hx=>by
  unfold Wv at hx
  by_cases z:k=a
  ·rw[vG z]at hx
   rcases zF.mp hx with rfl|hx
   ·have:=h y zJ
    rw[zD,zz];omega
   ·exact wb (h x (zI _ hx))
  ·rw[vH z]at hx
   rcases zF.mp hx with rfl|hx
   ·exact wb (h _ zJ)
   ·exact q51 n ks xss a b (λx h'=>h x (zI _ h')) x hx
def Tab.told{K:zA}{G0 G:Hp}{H0:Fr}{H:Hp}{ω:WSt}{σ:St}{p:vC}{ks:List Int}{ls:List vC}{xss:List (List Int)}(T:Tab G H0 H p ks ls xss)(o:Own K G0 H0 G ω σ H)(no:X6 ω)(ob:Obj):
  ∃G',Y1 G G'/\Own K G0 H0 G' ω σ (upd H p (.frz ob (.dK (kvsOf ks (ls.map V.ref)))))/\Rep K G' (.dic ks (xss.map λxs=>.lst (xs.map D.int))) (.ref p):=by
 obtain⟨H',hH⟩:∃H':Hp,H'=upd H p (.frz ob (.dK (kvsOf ks (ls.map V.ref)))):=⟨_,rfl⟩;rw[<- hH];have hp':H' p=some (.frz ob (.dK (kvsOf ks (ls.map V.ref)))):=by rw[hH];exact qe
 have hn':∀b,b≠p->H' b=H b:=λb h=>by rw[hH];exact qc h
 let G':Hp:=λb=>if b=p\/b∈ls then H' b else G b
 have hin:∀b,(b=p\/b∈ls)->G' b=H' b:=λb h=>vG h;have hout:∀b,¬(b=p\/b∈ls)->G' b=G b:=λb h=>vH h;have gn:∀b,(b=p\/b∈ls)->G b=none/\H0 b=none:=λb h=>by
  rcases h with rfl|h
  ·exact⟨T.gp,T.hp⟩
  ·exact T.gl b h
 have gg:Y1 G G':=λb u z=>by
  by_cases y:b=p\/b∈ls
  ·rw[(gn b y).1]at z;cases z
  ·rw[hout b y];exact z
 have gh:Y1 G' H':=λb u z=>by
  by_cases y:b=p\/b∈ls
  ·rw[hin b y]at z;exact z
  ·rw[hout b y]at z;rw[hn' b λw=>y (.inl w)];exact o.gh b u z
 have hh:Y1 H0.hp H':=λb u z=>by
  rw[hn' b λw=>by rw[w,T.hp]at z;cases z];exact o.ext.hh b u z
 refine⟨G',gg,⟨⟨o.ext.gg.trans gg,gh,hh,λb z1 z2=>?_⟩,o.len,λi d h=>?_,λi ds h=>vK h (no.ow i ds),o.nd,λi ks ds h=>vK h (no.od i ks ds),Xo.no no.pw⟩,p,ls.map V.ref,rfl,⟨ob,by rw[hin p (.inl rfl)];exact hp'⟩,by rw[zB,<- T.len2];exact T.len,?_⟩
 ·by_cases y:b=p\/b∈ls
  ·exact vK (gn b y).2 z2
  ·rw[hout b y];exact o.ext.new b z1 z2
 ·obtain⟨v,h1,h2⟩:=o.sh i d h
  exact⟨v,h1,h2.mono gg⟩
 ·refine q8n (by rw[zB];exact T.len2.symm) λj d t h1 h2=>?_
  rw[zh]at h1;cases q:xss[j]? with
  | none=>rw[q]at h1;cases h1
  | some xs=>
   rw[q]at h1;cases h1;have hl:=T.lst j t xs h2 q;exact⟨t,_,rfl,by rw[hin t (.inr (xP h2)),hn' t λw=>by rw[w,T.dict]at hl;cases hl];exact hl,Yt.ints xs⟩
def qcj{K:zA}{ta tb:TE}{g0 g1:FD}(k2:zBZ K ta g0)(k4:zBZ K tb g1){G0:Hp}{H0:Fr}{G:Hp}{ω:WSt}{σ:St}{H:Hp}{p:vC}{ks:List Int}{ls:List vC}{xss:List (List Int)}{a b:Int}{Q:VK}(o:Own K G0 H0 G ω σ H)(no:X6 ω)(hσ:σ[2]?=some (some (.ref p)))(T:Tab G H0 H p ks ls xss)(h0:g0 ω=some (.int a))(h1:g1 ω=some (.int b))(ha:a∈ks)(hz:∀xs∈xss,xs.length<1000000)(h:∀G' H',Own K G0 H0 G' ω σ H'->Y1 G G'->Tab G' H0 H' p ks ls (Wv ks xss a b)->Q .non H'):tBM K "list" Xx (zCu (XZ 2) ta) (W8 tb zAp) σ H Q:=by
 refine⟨.ref p,hσ,k2 G0 H0 G ω σ H _ _ o h0 λu G1 H1 x1 y1=>?_⟩;cases (show u=.int a from y1);have o1:=o.keep x1;have T1:=T.keep x1;obtain⟨l,xs,m1,m2,m3,m4,m5,_⟩:=T1.app b ha;refine⟨p,.ref l,rfl,m4,.inl ⟨rfl,_,SqL.of m5⟩,k4 G0 H0 G1 ω σ H1 _ _ o1 h1 λu G2 H2 x2 y2=>?_⟩;cases (show u=.int b from y2);have o2:=o1.keep x2;have T2:=T1.keep x2;obtain⟨l',xs',n1,n2,n3,n4,n5,n6⟩:=T2.app b ha;rw[m3]at n3;cases n3;refine⟨l,_,.int b,rfl,rfl,n5,by rw[zB,vo];have:=hz xs' n2;omega,?_⟩;rw[show xs'.map V.int++[V.int b]=(xs'++[b]).map V.int by rw[zk];rfl];exact h G2 _ (o2.free no (T2.gl l n1).1 (T2.gl l n1).2) (x1.gg.trans x2.gg) n6
def qbR{a b:vW}{p:Pos}{n:Str}{env:Env}(m:Sem Value):uN (.Subscript a b p) n env m=m:=rfl
section
variable{X:Cx}
def qfi{x2 x3 x4:Str}{o0 o1 o2 o3 o4 o4b e0 e1 e0b e1b e0':vW}{q1 q2 q3 q4 q5 q6 q7 q8 q9 q10 q11 q12 q13 q14 q15 a1 a2 c1 c2:Pos}{g0 g1:FD}(hu:X.A.units+64<ua)(hp:tK (model X.prog X.w) X.A X.env X.xe)(hc:X.calm=true)(hN:X.N.Nodup)(i2:X.N[2]?=some x2)(i3:X.N[3]?=some x3)(i4:X.N[4]?=some x4)(l2:Loc X.env.scope x2)(l3:Loc X.env.scope x3)(l4:Loc X.env.scope x4)(f2:X.fn x2=true\/X.env.scope.names.lookup x2=some .local)(f3:X.fn x3=true\/X.env.scope.names.lookup x3=some .local)(f4:X.fn x4=true\/X.env.scope.names.lookup x4=some .local)(h0:PE X o0 (XZ 0))(h1:PE X o1 (XZ 1))(h2:PE X o2 (XZ 2))(h2':PE X o4 (XZ 2))(h2b:PE X o4b (XZ 2))(h3:PE X o3 (XZ 3))(h5:PE X e0' (XZ 2))(ha:XD X e0 g0)(hb:XD X e1 g1)(hab:XD X e0b g0)(hbb:XD X e1b g1)(hg0:∀(ω:WSt)e,ω[4]?=some (some (.sh (pairD2 e)))->g0 ω=some (.int e.1))(hg1:∀(ω:WSt)e,ω[4]?=some (some (.sh (pairD2 e)))->g1 ω=some (.int e.2))(s1:vy (.Dict [] [] q1) (some (.Name x2 q2)) q3.line X.env=pure false:=by rfl)(s2:vy (.List [] q4) (some (.Subscript o2 o3 q5)) q6.line X.env=pure false:=by rfl)(n0:NoSl e0:=by intro _ _;rfl)(n1:NoSl e1b:=by intro _ _;rfl)(w1:((vp c1 (vJ [e1] X.env)).all (λx=>!x.1)&&(tL c1 (ug [] X.env)).all (λx=>x.1.isSome)&&decide (([e1]:List vW).length+([]:List uU).length+(if ([]:List uU).isEmpty then 0 else 1)<30))=true:=by rfl)(w2:((vp c2 (vJ [e0b] X.env)).all (λx=>!x.1)&&(tL c2 (ug [] X.env)).all (λx=>x.1.isSome)&&decide (([e0b]:List vW).length+([]:List uU).length+(if ([]:List uU).isEmpty then 0 else 1)<30))=true:=by rfl)(z1:(a1.endLine==c1.line)=true:=by rfl)(z2:(a2.endLine==c2.line)=true:=by rfl)(t1:vJ [e1] X.env=(false,eval e1 X.env)::vJ [] X.env:=by rfl)(t2:vJ [e0b] X.env=(false,eval e0b X.env)::vJ [] X.env:=by rfl)(p1:(vp c1 (vJ [] X.env)).any (·.1)=false:=by rfl)(p2:(vp c2 (vJ [] X.env)).any (·.1)=false:=by rfl)(v1:vy (.Call (.Attribute (.Subscript o4 e0 q7) "append" a1) [e1] [] c1) none q9.line X.env=pure false:=by rfl)(v2:vy (.Call (.Attribute (.Subscript o4b e1b q8) "append" a2) [e0b] [] c2) none q10.line X.env=pure false:=by rfl)(y1:∀x,vt o0 X.env x=pure x:=by intro _;rfl)(y2:∀x,vt o1 X.env x=pure x:=by intro _;rfl):
  XSs X [.Assign [.Name x2 q2] (.Dict [] [] q1) q3,.For (.Name x3 q11) o0 [.Assign [.Subscript o2 o3 q5] (.List [] q4) q6] [] q12,
   .For (.Name x4 q13) o1 [.Expr (.Call (.Attribute (.Subscript o4 e0 q7) "append" a1) [e1] [] c1) q9,.Expr (.Call (.Attribute (.Subscript o4b e1b q8) "append" a2) [e0b] [] c2) q10] [] q14,.Return (some e0') q15] sNb:=by
 obtain⟨ta,k1,k2⟩:=ha;obtain⟨tb,k3,k4⟩:=hb;obtain⟨ta',k1',k2'⟩:=hab;obtain⟨tb',k3',k4'⟩:=hbb;have hu:=hu1 hu;refine⟨_,q0k (q2m hN i2 l2 q8V s1 f2) (q0k (q7v hp hc (q6k h0) (q56 hN i3 l3 f3) (q2F (qab hu h2 h3 (q4p qN) s2)) y1)
  (q0k (q7v hp hc (q6k h1) (q56 hN i4 l4 f4) (q0k (q30 (q5x PySem.F.plainAttrs_list PySem.F.slot_list_append PySem.F.type_list_append q2W (q6i hu h2' k1 n0) (qo k3 qN t1) (qbR _) w1 z1 t1 p1) v1)
   (q2F (q30 (q5x PySem.F.plainAttrs_list PySem.F.slot_list_append PySem.F.type_list_append q2W (q6i hu h2b k3' n1) (qo k1' qN t2) (qbR _) w2 z2 t2 p2) v2))) y2) (q7m 2 (q2F (q57 h5))))),λG0 H0 G ω σ H out ω' E ow e kk=>?_⟩
 unfold sNb at e
 split at e
 case h_2=>cases e
 case h_1 _ a b=>
 obtain⟨d,e2,e3⟩:=mpd e;clear e;cases e3;obtain⟨ts,e4,e5⟩:=bnd e2;obtain⟨es,e6,e7⟩:=bnd e5;clear e2 e5
 by_cases cond:ts.Nodup/\(∀e∈es,e.1∈ts/\e.2∈ts)/\ts.length<=1000/\es.length<=1000
 case neg=>rw[vH cond]at e7;cases e7
 rw[vG cond]at e7;cases e7;obtain⟨cd1,cd2,cd3,cd4⟩:=cond;have ha':=q3g e4;have hb':=q5e e6;subst ha' hb';clear e4 e6;have no:X6 [some (W.sh (.lst (ts.map D.int))),↥(.lst (es.map pairD2)),none,none,none]:=zCh (x:=none);have hlen:σ.length=5:=ow.len.symm;obtain⟨v0,r0,A0,vs0,rfl,r1,r2⟩:=ow.sh 0 _ rfl;obtain⟨v1,r3,A1,vs1,rfl,r4,r5⟩:=ow.sh 1 _ rfl;have hvs0:=r2.of_ints;subst hvs0;intro p hpn;have o1:Own X.K G0 H0 G [some (W.sh (.lst (ts.map D.int))),↥(.lst (es.map pairD2)),none,none,none] (σ.set 2 (some (.ref p))) (upd H p (.dK [])):=(ow.free no (ow.gh.free hpn) (ow.ext.hh.free hpn)).other no λw z=>by cases z
 have T0:Tab G H0 (upd H p (.dK [])) p (ts.take 0) [] ((ts.take 0).map λ_=>[]):=⟨qe,ow.gh.free hpn,ow.ext.hh.free hpn,rfl,rfl,λj l xs h=>(by simp at h),λl h=>(by cases h),Ze⟩;refine⟨.ref A0,by rw[zH (by decide)];exact r0,A0,rfl,⟨_,SqL.of (o1.gh _ _ r1)⟩,λn m σ2 H2=>∃ls,Own X.K G0 H0 G [some (W.sh (.lst (ts.map D.int))),↥(.lst (es.map pairD2)),none,none,none] σ2 H2/\σ2[2]?=some (some (.ref p))/\Tab G H0 H2 p (ts.take n) ls ((ts.take n).map λ_=>[])/\n<=ts.length/\m=ts.length-n,
  ⟨_,[],o1,yr (by rw[hlen];decide),T0,yq _,rfl⟩,?_⟩
 rintro n m σ2 H2 ⟨ls,o2,s22,T2,hn,rfl⟩
 by_cases hlt:n<ts.length
 ·have hq:=o2.gh _ _ r1
  refine .inr ⟨⟨_,.int ts[n],SqL.of hq,by rw[zh,zG hlt];rfl⟩,λσ3 H3=>∃ls,Own X.K G0 H0 G [some (W.sh (.lst (ts.map D.int))),↥(.lst (es.map pairD2)),none,none,none] σ3 H3/\σ3[2]?=some (some (.ref p))/\Tab G H0 H3 p (ts.take (n+1)) ls ((ts.take (n+1)).map λ_=>[]),
   λσ3 H3 ⟨ls,b1,b2,b3⟩=>⟨ts.length-(n+1),∅,ls,b1,b2,b3,hlt,rfl⟩,λy H3 hy=>?_⟩
  obtain⟨rfl,hy⟩:=hy;have hy:=hy _ (SqL.of hq);rw[zh,zG hlt]at hy;cases hy;have hl2:σ2.length=5:=o2.len.symm;refine⟨by show 0<=sizeLine;exact yq _,λl hl=>?_⟩;refine⟨.ref p,by rw[zH (by decide)];exact s22,.int ts[n],yr (by rw[hl2];decide),?_⟩;have nk:ts[n]∉ts.take n:=λz=>by
   obtain⟨j,hj,ej⟩:=ye.mp z;rw[xg]at ej;have hj':j<n:=by rw[yK]at hj;omega
   have:=(wf cd1).mp ej;omega
  obtain⟨H4,d1,d2,T4⟩:=T2.put nk hl o2.gh o2.ext.hh (by rw[yK];omega);refine⟨p,H4,rfl,d1,ls++[l],?_,by rw[zH (by decide)];exact s22,?_⟩
  ·subst d2
   exact((o2.free no (o2.gh.free hl) (o2.ext.hh.free hl)).free no T2.gp T2.hp).other no λw z=>by cases z
  ·rw[(ZF hlt).symm,zk]
   exact T4
 ·have en:n=ts.length:=∅
  subst en;rw[wg]at T2;refine .inl ⟨⟨_,SqL.of (o2.gh _ _ r1),by rw[zB];exact zL _⟩,?_⟩;obtain⟨v1',r3',A1',vs1',rfl,r4',r5'⟩:=o2.sh 1 _ rfl;have hl5:es.length=vs1'.length:=by have:=r5'.len;rw[zB]at this;exact this
  refine⟨.ref A1',r3',A1',rfl,⟨_,SqL.of (o2.gh _ _ r4')⟩,λn m σ3 H3=>∃G3 x4,Own X.K G0 H0 G3 [some (W.sh (.lst (ts.map D.int))),↥(.lst (es.map pairD2)),none,none,x4.map W.sh] σ3 H3/\Y1 G G3/\σ3[2]?=some (some (.ref p))/\Tab G3 H0 H3 p ts ls ((es.take n).foldl (WC ts) (ts.map λ_=>[])) /\
   (∀xs∈(es.take n).foldl (WC ts) (ts.map λ_=>[]),xs.length<=2*n)/\n<=es.length/\m=es.length-n,
   ⟨_,G,none,o2,Y1.refl _,s22,T2,λxs hx=>by obtain⟨_,_,rfl⟩:=xC.mp hx;exact zL _,yq _,rfl⟩,?_⟩
  rintro n m σ3 H3 ⟨G3,x4,o3,g3,s32,T3,b3,hn3,rfl⟩
  by_cases hlt3:n<es.length
  ·have hq3:=o3.gh _ _ (g3 _ _ r4')
   have hlv:n<vs1'.length:=by rw[<- hl5];exact hlt3
   refine .inr ⟨⟨_,vs1'[n],SqL.of hq3,zG hlv⟩,λσ4 H4=>∃G4 x4,Own X.K G0 H0 G4 [some (W.sh (.lst (ts.map D.int))),↥(.lst (es.map pairD2)),none,none,x4.map W.sh] σ4 H4/\Y1 G G4/\σ4[2]?=some (some (.ref p))/\Tab G4 H0 H4 p ts ls ((es.take (n+1)).foldl (WC ts) (ts.map λ_=>[])) /\
    (∀xs∈(es.take (n+1)).foldl (WC ts) (ts.map λ_=>[]),xs.length<=2*(n+1)),
    λσ4 H4 ⟨G4,x4,b1,b2,b4,b5,b6⟩=>⟨es.length-(n+1),∅,G4,x4,b1,b2,b4,b5,b6,hlt3,rfl⟩,λy H4 hy=>?_⟩
   obtain⟨rfl,hy⟩:=hy;have hy:=hy _ (SqL.of hq3);rw[zG hlv]at hy;cases hy;have hd:(es.map pairD2)[n]?=some (pairD2 es[n]):=by rw[zh,zG hlt3];rfl
   obtain⟨v,hv1,hv2⟩:=r5'.get hd;rw[zG hlv]at hv1;cases hv1;have hl3:σ3.length=5:=o3.len.symm;have o4:Own X.K G0 H0 G3 [some (W.sh (.lst (ts.map D.int))),↥(.lst (es.map pairD2)),none,none,↥(pairD2 es[n])] (σ3.set 4 (some vs1'[n])) H4:=o3.setSh (i:=4) (hv2.mono g3);have no4:X6 [some (W.sh (.lst (ts.map D.int))),↥(.lst (es.map pairD2)),none,none,↥(pairD2 es[n])]:=zCh (x:=some (pairD2 es[n]));have s42:(σ3.set 4 (some vs1'[n]))[2]?=some (some (.ref p)):=by rw[zH (by decide)];exact s32
   obtain⟨in1,in2⟩:=cd2 es[n] (xX hlt3);refine qcj k2 k4 o4 no4 s42 T3 (hg0 _ es[n] rfl) (hg1 _ es[n] rfl) in1 (λxs hx=>by have:=b3 xs hx;omega) λG5 H5 o5 g5 T5=>?_;have b5:=q51 (2*n) ts _ es[n].1 es[n].2 b3;refine qcj k4' k2' o5 no4 s42 T5 (hg1 _ es[n] rfl) (hg0 _ es[n] rfl) in2 (λxs hx=>by have:=b5 xs hx;omega) λG6 H6 o6 g6 T6=>?_;have b6:=q51 (2*n+1) ts _ es[n].2 es[n].1 b5;have et:es.take (n+1)=es.take n++[es[n]]:=(ZF hlt3).symm;refine⟨G6,some (pairD2 es[n]),o6,(g3.trans g5).trans g6,s42,?_,?_⟩
   ·rw[et,Z9];exact T6
   ·rw[et,Z9]
    intro xs hx;have:=b6 xs hx;omega
  ·have en3:n=es.length:=∅
   subst en3;rw[wg]at T3;refine .inl ⟨⟨_,SqL.of (o3.gh _ _ (g3 _ _ r4')),by rw[hl5];exact zL _⟩,?_⟩;have no3:X6 [some (W.sh (.lst (ts.map D.int))),↥(.lst (es.map pairD2)),none,none,x4.map W.sh]:=zCh;refine⟨p,_,s32,T3.dict,λob=>?_⟩;obtain⟨G',g',o',rp⟩:=T3.told o3 no3 ob;generalize upd H3 p (.frz ob _)=H4 at o' ⊢;refine⟨.ref p,s32,?_⟩;have oF:Own X.K G0 H0 G' [some (W.sh (.lst (ts.map D.int))),↥(.lst (es.map pairD2)),none,none,none] σ3 H4:=by
    refine⟨o'.ext,o'.len,λi d h=>?_,λi ds h=>vK h (no.ow i ds),λi j ds es l h=>vK h (no.ow i ds),λi ks ds h=>vK h (no.od i ks ds),Xo.no no.pw⟩
    match i,h with
    | 0,h=>exact o'.sh 0 d h
    | 1,h=>exact o'.sh 1 d h
    | 2,h=>cases h
    | 3,h=>cases h
    | 4,h=>cases h
    | i+5,h=>simp at h
   exact kk G' σ3 H4 oF (g3.trans g') (.ref p) rp
end
def qfJ{ω:WSt}{e:Int×Int}(h:ω[4]?=some ↥(pairD2 e)):dOf (Yq oIx (vOf (Yn 4)) (fC (.int 0))) ω=some (.int e.1):=by
 unfold dOf Yq vOf Yn fC;rw[h];rfl
def qfs{ω:WSt}{e:Int×Int}(h:ω[4]?=some ↥(pairD2 e)):dOf (Yq oIx (vOf (Yn 4)) (fC (.int 1))) ω=some (.int e.2):=by
 unfold dOf Yq vOf Yn fC;rw[h];rfl
noncomputable def zCY(i:Nat)(ω:WSt)(c d:Option D):Option (Out×WSt):=c.bind λc=>d.bind λd=>match c with
 | .int k=>some (.nx,ω.set i (some (.od [k] [d])))
 | _=>none
noncomputable def dsetS(i:Nat)(ω:WSt)(v c:Option D)(w:Option (Option W)):Option (Out×WSt):=v.bind λd=>c.bind λc=>match c,w with
 | .int k,some (some (.od ks ds))=>if ks.length<1000000 then some (.nx,ω.set i (some (.od (Wg ks k) (putA ks ds k d))))else none
 | _,_=>none
noncomputable def dgetR(o:Option (List Int×List D))(c:Option D):Option R:=o.bind λp=>c.bind λc=>match c with
 | .int k=>(Y6 p.1 p.2 k).map R.sh
 | _=>none
noncomputable def dhasT(neg:Bool)(c:Option D)(o:Option (List Int×List D)):Option Bool:=c.bind λc=>o.bind λp=>match c with
 | .int k=>some (if neg then !(Y6 p.1 p.2 k).isSome else (Y6 p.1 p.2 k).isSome)
 | _=>none
noncomputable def zCc(o:Option (List Int×List D)):Option R:=o.bind λp=>if p.1.length<64 then some (.fr ((Y7 p.1).map D.int))else none
noncomputable def pop0(i:Nat)(ω:WSt)(w:Option (Option W)):Option (D×WSt):=match w with
 | some (some (.ow ds))=>(ds[ds.length-1]?).map λd=>(d,ω.set i (some (.ow ds.dropLast)))
 | _=>none
noncomputable def zCl(j i:Nat)(ω:WSt)(w:Option (Option W)):Option (Out×WSt):=(pop0 i ω w).map λp=>(.nx,p.2.set j (some (.sh p.1)))
section
variable{ω:WSt}{fk fv:FD}{i j:Nat}{ks:List Int}{ds:List D}{k:Int}{d:D}{neg:Bool}
def qR:zBj i fk fv ω=zCY i ω (fk ω) (fv ω):=rfl
def q19:zCY i ω (some (.int k)) (some d)=some (.nx,ω.set i (some (.od [k] [d]))):=rfl
def q0N:zCm i fk fv ω=dsetS i ω (fv ω) (fk ω) ω[i]?:=rfl
def q0J:zC0 i fk ω=dgetR (W9 ω[i]?) (fk ω):=rfl
def q1n:dgetR (some (ks,ds)) (some (.int k))=(Y6 ks ds k).map R.sh:=rfl
def q1e:W9 (some (some (.od ks ds)))=some (ks,ds):=rfl
def q1u:W9 (some ↥(.dic ks ds))=some (ks,ds):=rfl
def q0v:zB8 neg i fk ω=dhasT neg (fk ω) (W9 ω[i]?):=rfl
def q1s:dhasT true (some (.int k)) (some (ks,ds))=some (!(Y6 ks ds k).isSome):=rfl
def q0f:zBb i ω=zCc (W9 ω[i]?):=rfl
def q06:zCB j (zCG i) ω=zCl j i ω ω[i]?:=rfl
end
def qeu{i:Nat}{ω:WSt}{ks:List Int}{ds:List D}{k:Int}{d:D}(h:ks.length<1000000):dsetS i ω (some d) (some (.int k)) (some (some (.od ks ds)))=some (.nx,ω.set i (some (.od (Wg ks k) (putA ks ds k d)))):=vG h
def qdx{ks:List Int}{ds:List D}(h:ks.length<64):zCc (some (ks,ds))=some (.fr ((Y7 ks).map D.int)):=vG h
def qes{j i:Nat}{ω:WSt}{ds:List D}{d:D}:zCl j i ω (some (some (.ow (ds++[d]))))=some (.nx,(ω.set i (some (.ow ds))).set j ↥d):=by
 unfold zCl pop0;have e1:(ds++[d])[(ds++[d]).length-1]?=some d:=by
  rw[zD,zz,xm,yC (zL _),Z6];rfl
 have e2:(ds++[d]).dropLast=ds:=by simp
 show Option.map _ (((ds++[d])[(ds++[d]).length-1]?).map _)=_;rw[e1,e2];rfl
section
variable{X:Cx}{o k e:vW}{pos pos':Pos}{i:Nat}{fk fv:FD}
noncomputable def sLSet(i:Nat)(fk fv:FD):FS:=λω=>(fv ω).bind λd=>(fk ω).bind λc=>match c,ω[i]? with
 | .int k,some (some (.ow ds))=>(ixN ds.length k).map λj=>(.nx,ω.set i (some (.ow (ds.set j d))))
 | _,_=>none
theorem Yt.set{K:zA}{H:Hp}:∀{ds:List D}{vs:List V}(n:Nat){d:D}{v:V},Yt K H ds vs->Rep K H d v->Yt K H (ds.set n d) (vs.set n v)
 | [],_,_,_,_,h,_=>by cases (show _=_ from h);rfl
 | _::_,_,0,_,_,⟨v,r,h1,h2,h3⟩,hv=>by rw[h1];exact⟨_,_,rfl,hv,h3⟩
 | _::_,_,n+1,_,_,⟨v,r,h1,h2,h3⟩,hv=>by rw[h1];exact⟨v,_,rfl,h2,Yt.set n h3 hv⟩
def qeZ(ho:PE X o (XZ i))(hk:XD X k fk)(hv:XD X e fv)(hs:swapsWithSole [.Subscript o k pos'] e pos.line X.env=pure false:=by rfl)(hw:swappedStores [.Subscript o k pos'] e X.env=pure none:=by rfl)(h1':(uM [.Subscript o k pos'] X.env).map (·.2)=[assign (.Subscript o k pos') X.env]:=by rfl)(ha:∀v,assign (.Subscript o k pos') X.env v=(do
   let ov <- holding [v] (eval o X.env)
   let iv <- holding [v,ov] (eval k X.env)
   standAt pos'
   holding [v,ov,iv] (setItem ov iv v)
   release [v,ov,iv] []):=by intro _;rfl):XS X (.Assign [.Subscript o k pos'] e pos) (sLSet i fk fv):=by
 obtain⟨tk,h1,h2⟩:=hk;obtain⟨tv,h3,h4⟩:=hv;refine⟨_,qg1 h3 (qfX ho h1 qdi ha) hs hw h1',λG0 H0 G ω σ H out ω' E ow e kk=>?_⟩;obtain⟨d,q1,e⟩:=bnd e;obtain⟨c,q2,e⟩:=bnd e;refine h4 G0 H0 G ω σ H d _ ow q1 λv G1 H1 x1 y1=>?_;cases c with
 | int m=>
  split at e
  ·rename_i _ _ _ m' ds ek q3
   cases ek;obtain⟨j,hj,e⟩:=mpd e;cases e;have o1:=ow.keep x1;obtain⟨l,vs,r1,r2,r3,r4,r5⟩:=o1.ow i ds q3;refine⟨.ref l,r1,h2 G0 H0 G1 ω σ H1 _ _ o1 q2 λu G2 H2 x2 y2=>?_⟩;cases (show u=.int m from y2);have o2:=o1.keep x2;refine⟨l,vs,m,j,rfl,rfl,x2.hh _ _ r2,by rw[<- r5.len];exact hj,?_⟩;exact kk G2 σ _ (o2.mut q3 r1 (x2.hh _ _ r2) (x2.new l r3 (by rw[r2];exact λz=>by cases z)) r4 ((r5.mono x2.gg).set j (y1.mono x2.gg))) (x1.gg.trans x2.gg)
  ·cases e
 | _=>cases e
end
section
variable{X:Cx}{e:vW}{pos pos':Pos}{i:Nat}{fe:FD}
end
section
open PySem.Spec PyProof.Rows
variable{X:Cx}
noncomputable def mx3(i j k:Int):Int:=if k>(if j>i then j else i)then k else if j>i then j else i
end
end Hk
namespace L2
open PySem PySem.Spec PyProof.Rows
end L2
namespace Hk
open PySem L2
section
variable{ω:WSt}{fk fv:FD}{fa:FA}{i j:Nat}{ds:List D}{a b c:Int}{d:D}{g:Int->Int->Int}
end
end Hk
namespace L2
open PySem PySem.Spec PyProof.Rows
noncomputable def Ite(K:zA)(a:vC):It :=
 ⟨λi H=>∃xs x,SqL K H a xs/\xs[i]?=some x,
  λi H x H'=>∃t x1,H t=none/\x=.ref t/\H'=upd H t (.tup [.int i,x1])/\∀xs,SqL K H a xs->xs[i]?=some x1,
  λi H=>∃xs,SqL K H a xs/\xs[i]?=none⟩
def qc9{P:vS}{w:vY}{K:zA}{elts:List vW}{kx}{tpos:Pos}(a e it:vC)(hne:e≠it)(hae:a≠e)(hai:a≠it):
  Turn P w K (.Tuple elts kx tpos) (Ite K a) [e,it] e (λi h=>(∃old,IsEnum h e it (i:Int) old)/\h.IsListIter it a i) where
 mem:=by simp
 obj:=λi h st c hc=>by
  obtain⟨⟨old,s1⟩,⟨o4,e4,c4,d4⟩⟩:=st;simp only[zF,zv,or_false]at hc;rcases hc with rfl|rfl
  ·exact⟨_,s1,λv y=>by cases (show Data.fields _=Data.cell v from y)⟩
  ·exact⟨_,e4,λv y=>by rw[d4]at y;cases y⟩
 keep:=λi h h' st k=>by
  obtain⟨⟨old,s1⟩,s4⟩:=st;exact⟨⟨old,k _ (by simp) _ s1⟩,s4.at λo e=>k _ (by simp) o e⟩
 item:=by
  intro X hP hw hK hc i pins s σ H E I hf st hg;subst hP hw hK;obtain⟨xs,x,hq,hx⟩:=hg;obtain⟨its,rv,p,hz⟩:=I.list hq;obtain⟨u,hu,ru⟩:=rv.get hx;obtain⟨⟨old,s1⟩,s4⟩:=st;have ex:∀c∈[e,it],∃o,s.heap.get? c=some o:=λc hc=>by
   simp only[zF,zv,or_false]at hc;rcases hc with rfl|rfl
   ·exact⟨_,s1⟩
   ·obtain⟨o,e,_⟩:=s4;exact⟨o,e⟩
  have nt:∀c∈[e,it],c≠s.heap.objs.size:=λc hc=>by
   obtain⟨o,e⟩:=ex c hc;exact zo (zK e)
  refine wpAny_pyNext_enum_item s1 s4 p.isList (x:=u) (by simpa using hu) hne λh' a1 a2 a3 a4 hk=>?_;have hn:H s.heap.objs.size=none:=I.hok.fresh (zL _);have I1:Inv X pins σ (upd H s.heap.objs.size (.tup [.int i,x])) { s with heap:=s.heap.push { cls:=.type "tuple", data:=.seq #[.int i s.toks,u] },toks:=s.toks+1 } :=
   I.laid (λb o e=>zE _ e) (zL _) (show Y5 X.prog X.w _ _ _ (.tup [.int i,x])from ⟨by show 2<=sizeLine;decide,[.int i s.toks,u],.cons ⟨_,rfl⟩ (.cons ru .nil),⟨_,zP _ rfl,rfl,_,rfl⟩⟩)
  have hf':∀c∈[e,it],zBv X pins (upd H s.heap.objs.size (.tup [.int i,x])) c:=λc hc=>by
   obtain⟨f0,f⟩:=hf c hc;exact⟨by rw[qc (nt c hc)];exact f0,f⟩
  have I2:Inv X pins σ (upd H s.heap.objs.size (.tup [.int i,x])) { s with heap:=h',toks:=s.toks+1 }:=I1.turnedL (λb o hb e=>by
   simp only[zF,zv,or_false,not_or]at hb
   by_cases q:b=s.heap.objs.size
   ·subst q
    rw[zP _ rfl]at e;cases e;exact a3
   ·have e':s.heap.get? b=some o:=by
     rcases yt b s.heap.objs.size with l|l
     ·obtain⟨z1,z2⟩:=wX.mp e
      refine wX.mpr ⟨?_,z2⟩;rw[<- z1];show s.heap.objs[b]?=(s.heap.objs.push _)[b]?;rw[Zk,vH q]
     ·have:=zK e
      rw[xE]at this;exact vK (by simp only[vC]at *;omega) q
    exact hk b o hb.1 hb.2 e') hf'
  refine⟨_,rfl,wpAny_letOwnedTupleGo_enum a1 λh2 b1 sb=>?_⟩;have I3:Inv X pins σ (upd H s.heap.objs.size (.tup [.int i,x])) { s with heap:=h2,toks:=s.toks+1 }:=I2.turnedL (λb o hb e=>(sb.2 b (λq=>hb (by simp[q]))).trans e) hf';have hi:((i+1:Nat):Int)=(i:Int)+1:=by push_cast;rfl
  refine⟨.ref s.heap.objs.size,_,I3,rfl,⟨_,x,hn,rfl,rfl,λxs' q1=>by rw[I.list_inj q1 hq];exact hx⟩,⟨⟨u,by rw[hi];exact b1⟩,a2.extBut sb.extBut (Ne.symm hne)⟩,λc hc=>(hf' c hc).1⟩
 done:=by
  intro X hP hw hK hc i pins s σ H E I hf st hg;subst hP hw hK;obtain⟨xs,hq,hx⟩:=hg;obtain⟨its,rv,p,hz⟩:=I.list hq;obtain⟨⟨old,s1⟩,s4⟩:=st;have l1:=rv.length;refine wpAny_pyNext_enum_end (I.ok.hd hc) s1 s4 p.isList ?_ λh' hk=>⟨rfl,I.turnedL (t':=s.toks) (λb o hb e=>?_) hf⟩
  ·rw[wO]at hx;simp;omega
  ·simp only[zF,zv,or_false,not_or]at hb
   exact hk b o hb.2 e
 self:=λ_ _ _ _ _ st h=>by
  obtain⟨⟨old,s1⟩,s4⟩:=st;exact wpAny_pyIter_enum s1 h
noncomputable def iEnum(K:zA)(ta:TA):TI:=λσ H R=>ta σ H λvs H1=>∃a xs,vs=[.ref a]/\SqL K H1 a xs/\R (Ite K a) H1
def qaI{X:Cx}{a:vW}{ta:TA}{p pos tpos:Pos}{elts:List vW}{kx}(hg:Gl X "enumerate")(hm:X.mg "enumerate" = none)(ha:PA X [a] ta)(hs:vJ [a] X.env=[(false,eval a X.env)]:=by rfl):
  PI X (.Tuple elts kx tpos) (.Call (.Name "enumerate" p) [a] [] pos) (iEnum X.K ta):=by
 intro pins s σ H R I h;refine Call_ (q3Y I hg hm PyProof.Rows.boot_enumerate (PyProof.Rows.callWith_type1 (thn (ha pos pins s σ H _ I h) λus s1 ⟨vs,H1,I1,r1,q1⟩=>?_) hs rfl));obtain⟨l,xs,e,hq,q⟩:=q1;subst e;cases r1 with
 | cons r rr=>
  cases rr;cases r;obtain⟨its,rv,p1,hz⟩:=I1.list hq;have hlt:l<s1.heap.objs.size:=by obtain⟨_,_,e,_⟩:=p1;exact zK e
  refine call_enumerate_list p1.isList λh' a1 a2 a3 hk=>?_;refine wpAny_pyIter_enum a1 ?_;refine⟨s1.heap.objs.size+1,[s1.heap.objs.size+1,s1.heap.objs.size],_,_,H1,rfl,I1.kept (t':=s1.toks) hk,qc9 l _ _ (Nat.succ_ne_self _) (zo (yw hlt)) (zo hlt),⟨⟨_,a1⟩,a2⟩,λc hc=>?_,q⟩;have hle:s1.heap.objs.size<=c:=by
   simp only[zF,zv,or_false]at hc;simp only[vC]at *;omega
  exact I1.fpOk hle (I1.hok.fresh hle)
end L2
namespace Hk
open PySem L2
noncomputable def WL:Nat->List D->List D
 | i,a::as=>.tup [.int i,a]::WL (i+1) as
 | _,[]=>[]
theorem q5Y:∀(i:Nat)(as:List D),(WL i as).length=as.length
 | i,a::as=>by show (WL (i+1) as).length+1=_;rw[q5Y];rfl
 | i,[]=>rfl
theorem q8p:∀(k:Nat)(as:List D)(i:Nat)(d:D),(WL k as)[i]?=some d->∃a,as[i]?=some a/\d=.tup [.int ((k+i:Nat):Int),a]
 | k,a::as,0,d,h=>by cases h;exact⟨a,rfl,rfl⟩
 | k,a::as,i+1,d,h=>by
  obtain⟨b,h1,h2⟩:=q8p (k+1) as i d h;exact⟨b,h1,by rw[h2];congr 4;omega⟩
 | k,[],i,d,h=>by cases h
def qbJ{K:zA}{G:Hp}{a:vC}{ds:List D}{vs:List V}(h1:G a=some (.lst vs))(h2:Yt K G ds vs):IterOf K (Ite K a) G (WL 0 ds):=by
 have l1:=h2.len;refine⟨λH i s hi=>?_,λG2 H i x H' d s0 s1 hd hy=>?_,λH s=>⟨vs,SqL.of (s _ _ h1),?_⟩⟩
 ·rw[q5Y]at hi
  exact⟨vs,vs[i]'∅,SqL.of (s _ _ h1),zG _⟩
 ·obtain⟨t,x1,ht,rfl,rfl,y⟩:=hy
  have e1:=y vs (SqL.of (s1 _ _ (s0 _ _ h1)));obtain⟨p,f1,rfl⟩:=q8p 0 ds i d hd;obtain⟨v,q1,q2⟩:=h2.get f1;rw[e1]at q1;cases q1;have x2:=Ext.lay s1 ht (.tup [.int i,x1]);exact⟨_,x2,⟨t,_,rfl,qe,Yt.cons (by show (.int i:V)=.int ((0+i:Nat):Int);rw[zr]) (Yt.cons (q2.mono (s0.trans x2.gg)) Yt.nil)⟩⟩
 ·rw[q5Y];exact yL ∅
noncomputable def iEn(g:FA):FI:=λω=>(g ω).bind λds=>match ds with
 | [.lst a]=>some (WL 0 a)
 | _=>none
def qat{X:Cx}{a:vW}{g:FA}{p pos tpos:Pos}{elts:List vW}{kx}(hg:Gl X "enumerate")(hm:X.mg "enumerate" = none)(ha:XA X [a] g)(hs:vJ [a] X.env=[(false,eval a X.env)]:=by rfl):
  XI X (.Tuple elts kx tpos) (.Call (.Name "enumerate" p) [a] [] pos) (iEn g):=by
 obtain⟨⟨t,h1,h2⟩,_⟩:=ha;refine⟨_,qaI hg hm h1 hs,λG0 H0 G ω σ H ds R o e k=>?_⟩;obtain⟨vs,q,e⟩:=bnd e;refine h2 G0 H0 G ω σ H vs _ o q λus G1 H1 x1 y1=>?_
 match vs,e with
 | [.lst as],e=>
  cases e;obtain⟨v1,r1,rfl,z1,z2⟩:=y1;cases (show r1=[]from z2);obtain⟨a1,ws1,rfl,f1,f2⟩:=z1;exact⟨a1,ws1,rfl,SqL.of (x1.gh _ _ f1),k _ G1 H1 x1 (qbJ f1 f2)⟩
noncomputable def enI(o:Option (List D)):Option (List D):=o.bind λds=>match ds with
 | [.lst a]=>some (WL 0 a)
 | _=>none
def q1l{fa:FA}{ω:WSt}:iEn fa ω=enI (fa ω):=rfl
def q1o{ds:List D}:enI (some [.lst ds])=some (WL 0 ds):=rfl
section
open PyProof.Rows PySem.Spec
variable{prog:vS}{w:vY}{A:vZ}{E:Value->vB->Prop}{s:vB}{l:vC}{xs:Array (Int×Tok)}
def q6E{Q:Value->vB->Prop}(hl:s.heap.IsTuple l (uW xs))(h:∀s₂:vB,s₂={ s with heap:=s.heap.push { cls:=.type "tuple_iterator", data:=.fields #[.ref l,.int 0 0] } } ->
   (s₂.heap.IsTupleIter s.heap.objs.size l 0/\s₂.heap.IsTuple l (uW xs))->(∀b∈[s.heap.objs.size,l],b<s₂.heap.objs.size)->l≠s.heap.objs.size->Q (.ref s.heap.objs.size) s₂) :
  vL (model prog w) A (t9 (.ref l)) Q E s:=by
 have hlt:l<s.heap.objs.size:=by obtain⟨_,e,_⟩:=hl;exact zK e
 refine sC hl (h _ rfl ⟨⟨_,zP _ rfl,rfl,rfl⟩,hl.at λo e=>zE _ e⟩ (λb hb=>?_) (zo hlt));show b<(s.heap.push _).objs.size;rw[xE];rcases zF.mp hb with rfl|hb
 ·exact xA _
 ·rcases zF.mp hb with rfl|hb
  ·exact yw hlt
  ·cases hb
def q8U{h':vf}(hk:∀b o,b∉[s.heap.objs.size]->(s.heap.push { cls:=.type "tuple_iterator", data:=.fields #[.ref l,.int 0 0] }).get? b=some o->h'.get? b=some o):
  ∀b o,s.heap.get? b=some o->h'.get? b=some o:=λb o e=>by
 refine hk b o (λhm=>?_) (zE _ e);rcases zF.mp hm with e1|hm
 ·exact vK (e1▸zK e) (xY _)
 ·cases hm
def qba{Q:Value->vB->Prop}(hh:A.handled=none)(hl:s.heap.IsTuple l (uW xs))(hne:0<xs.size)(h:∀v h' tk,(uW xs)[argBest (λi j=>decide (tO xs i>tO xs j)) (xs.size-1)]?=some v->(∀b o,s.heap.get? b=some o->h'.get? b=some o)->Q v { s with heap:=h',toks:=tk }):
  vL (model prog w) A (call (.builtin "max") [.ref l]) Q E s:=by
 refine call_max_walk (q6E hl λs₂ e st hfp hlI=>?_);subst e;refine⟨_,_,_,_,_,_,_,rfl,Walks.tuple (A:=A.in1) hh _ l hlI (uW xs),st,hfp,by simpa [uW]using hne,CmpOf.ints_gt (tO xs) (λ_ _=>tm),λv h' tk hP hk=>?_⟩;exact h v h' tk (by simpa [uW]using hP) (q8U hk)
def qbg{Q:Value->vB->Prop}(hh:A.handled=none)(hl:s.heap.IsTuple l (uW xs))(hne:0<xs.size)(h:∀v h' tk,(uW xs)[argBest (λi j=>decide (tO xs i<tO xs j)) (xs.size-1)]?=some v->(∀b o,s.heap.get? b=some o->h'.get? b=some o)->Q v { s with heap:=h',toks:=tk }):
  vL (model prog w) A (call (.builtin "min") [.ref l]) Q E s:=by
 refine call_min_walk (q6E hl λs₂ e st hfp hlI=>?_);subst e;refine⟨_,_,_,_,_,_,_,rfl,Walks.tuple (A:=A.in1) hh _ l hlI (uW xs),st,hfp,by simpa [uW]using hne,CmpOf.ints_lt (tO xs) (λ_ _=>tm),λv h' tk hP hk=>?_⟩;exact h v h' tk (by simpa [uW]using hP) (q8U hk)
end
def rMaxT(K:zA):List V->Hp->VK->Prop:=λxs H Q=>∃(p:vC) (ns:List Int),xs=[.ref p]/\SqT K H p (ns.map V.int)/\ns≠[]/\Q (.int (zA0 ns)) H
def rMinT(K:zA):List V->Hp->VK->Prop:=λxs H Q=>∃(p:vC) (ns:List Int),xs=[.ref p]/\SqT K H p (ns.map V.int)/\ns≠[]/\Q (.int (zAs ns)) H
section
variable{X:Cx}
open PyProof.Rows PySem.Spec
def q8a(hc:X.calm=true):Xn X (.builtin "max") (rMaxT X.K):=by
 intro pins s σ H xs us Q I r h;obtain⟨p,ns,rfl,hp,hne,q⟩:=h;obtain⟨u,rfl,rx⟩:=vals1 r;cases rx;obtain⟨its,rv,e,hz⟩:=I.tuple hp;have hi:=q3r rv;obtain⟨ys,ey⟩:=hi.allInts.items;have hns:ns=ys.toList.map (·.1):=by rw[<- hi.numsOf,<- nums_intItems,<- ey]
 have hl:s.heap.IsTuple p its.toArray:=e;rw[ey]at hl;have hsz:0<ys.size:=by
  have h3:=Zl.mpr hne;rw[hns,zB,zN]at h3;exact h3
 refine qba (I.ok.hd hc) hl hsz λv h' tk hv hk=>?_;obtain⟨t,rfl⟩:=tm hv;obtain⟨h1,h2⟩:=argBest_gt (tO ys) (ys.size-1);have em:tO ys (argBest (λi j=>decide (tO ys i>tO ys j)) (ys.size-1))=zA0 ns:=by
  obtain⟨m1,m2⟩:=qav hne;apply YM
  ·apply m2
   rw[hns,sq];exact getD_mem (by rw[zB,zN];omega)
  ·rw[hns]at m1
   obtain⟨j,hj,ej⟩:=mem_getD m1;rw[zB,zN]at hj;rw[<- hns]at ej;rw[<- ej,hns,<- sq];exact h2 j ∅
 rw[em];exact⟨.int _,H,I.kept (t':=tk) hk,⟨_,rfl⟩,q⟩
def q8l(hc:X.calm=true):Xn X (.builtin "min") (rMinT X.K):=by
 intro pins s σ H xs us Q I r h;obtain⟨p,ns,rfl,hp,hne,q⟩:=h;obtain⟨u,rfl,rx⟩:=vals1 r;cases rx;obtain⟨its,rv,e,hz⟩:=I.tuple hp;have hi:=q3r rv;obtain⟨ys,ey⟩:=hi.allInts.items;have hns:ns=ys.toList.map (·.1):=by rw[<- hi.numsOf,<- nums_intItems,<- ey]
 have hl:s.heap.IsTuple p its.toArray:=e;rw[ey]at hl;have hsz:0<ys.size:=by
  have h3:=Zl.mpr hne;rw[hns,zB,zN]at h3;exact h3
 refine qbg (I.ok.hd hc) hl hsz λv h' tk hv hk=>?_;obtain⟨t,rfl⟩:=tm hv;obtain⟨h1,h2⟩:=argBest_lt (tO ys) (ys.size-1);have em:tO ys (argBest (λi j=>decide (tO ys i<tO ys j)) (ys.size-1))=zAs ns:=by
  obtain⟨m1,m2⟩:=qaz hne;apply YM
  ·rw[hns]at m1
   obtain⟨j,hj,ej⟩:=mem_getD m1;rw[zB,zN]at hj;rw[<- hns]at ej;rw[<- ej,hns,<- sq];exact h2 j ∅
  ·apply m2
   rw[hns,sq];exact getD_mem (by rw[zB,zN];omega)
 rw[em];exact⟨.int _,H,I.kept (t':=tk) hk,⟨_,rfl⟩,q⟩
noncomputable def zBO:List D->Option R
 | [.tup ds]=>(intsOf ds).bind λns=>if ns=[]then none else ↥(.int (zA0 ns))
 | _=>none
noncomputable def zBR:List D->Option R
 | [.tup ds]=>(intsOf ds).bind λns=>if ns=[]then none else ↥(.int (zAs ns))
 | _=>none
def qal{K:zA}:zAW K (rMaxT K) zBO:=by
 intro G H ds vs d Q s e hv k
 match ds,e with
 | [.tup ds],e=>
  obtain⟨ns,e1,e2⟩:=bnd (show (intsOf ds).bind _=some d from e);have hds:=q3g e1;subst hds
  by_cases hz:ns=[]
  ·rw[vG hz]at e2;cases e2
  ·rw[vH hz]at e2
   cases e2;obtain⟨v,rfl,h⟩:=hv.one;rcases h with⟨p,us,rfl,h1,h2⟩|⟨ds',l,vs,e3,_⟩
   ·exact⟨p,ns,rfl,by rw[<- h2.of_ints];exact SqT.of (s _ _ h1),hz,k _ G H (Ext.refl s) rfl⟩
   ·cases e3
def qad{K:zA}:zAW K (rMinT K) zBR:=by
 intro G H ds vs d Q s e hv k
 match ds,e with
 | [.tup ds],e=>
  obtain⟨ns,e1,e2⟩:=bnd (show (intsOf ds).bind _=some d from e);have hds:=q3g e1;subst hds
  by_cases hz:ns=[]
  ·rw[vG hz]at e2;cases e2
  ·rw[vH hz]at e2
   cases e2;obtain⟨v,rfl,h⟩:=hv.one;rcases h with⟨p,us,rfl,h1,h2⟩|⟨ds',l,vs,e3,_⟩
   ·exact⟨p,ns,rfl,by rw[<- h2.of_ints];exact SqT.of (s _ _ h1),hz,k _ G H (Ext.refl s) rfl⟩
   ·cases e3
def qai{ns:List Int}(h:ns≠[]):zBO [.tup (ns.map D.int)]=↥(.int (zA0 ns)):=by
 show (intsOf (ns.map D.int)).bind _=_;rw[q2w];exact vH h
def qaH{ns:List Int}(h:ns≠[]):zBR [.tup (ns.map D.int)]=↥(.int (zAs ns)):=by
 show (intsOf (ns.map D.int)).bind _=_;rw[q2w];exact vH h
end
end Hk
namespace Hk
open PySem PySem.Spec PyProof.Rows L2
section
variable{prog:vS}{w:vY}{A:vZ}{E:Value->vB->Prop}{s:vB}
def q8J{z TI TO:vC}{f0 f1:Value}{Q:Bool->vB->Prop}(hz:Xb s.heap z TI TO f0 f1)(hf:f0=.none\/∃t:vC,f0=v5 t/\s.heap.get? t=none)(k:Q true s):
  vL (model prog w) A (Builtin.SmallTypes.ownedTupleIsFree (.ref z)) Q E s:=by
 unfold Builtin.SmallTypes.ownedTupleIsFree;rcases hf with rfl|⟨t,rfl,ht⟩
 ·exact vA (vq hz rfl (x:=.none) rfl (vF k))
 ·refine vA (vq hz rfl (x:=v5 t) rfl ?_)
  show vL _ _ (sT ((t:Int)).toNat >>= _) _ _ _;rw[xI];refine vA (q8Z ?_);rw[ht];exact vF k
def qc8{z TI TO i1 i2 l1 l2:vC}{k1 k2:Nat}{xs ys:Array Value}{x y a b f0 f1:Value}{Q:Option Value->vB->Prop}(Z:tD z TI TO i1 i2 l1 l2)(hz:Xb s.heap z TI TO f0 f1)(hf:f0=.none\/∃t:vC,f0=v5 t/\s.heap.get? t=none)(hTI:uI s.heap TI (.ref i1) (.ref i2))(hTO:uI s.heap TO a b)(h1:s.heap.IsListIter i1 l1 k1)(h2:s.heap.IsListIter i2 l2 k2)(hl1:s.heap.IsList l1 xs)(hl2:s.heap.IsList l2 ys)(hx:xs[k1]?=some x)(hy:ys[k2]?=some y)(hQ:∀g,Xb g z TI TO (v5 s.heap.objs.size) (.bool false)->uI g TO x y->g.IsListIter i1 l1 (k1+1)->g.IsListIter i2 l2 (k2+1)->uI g s.heap.objs.size x y ->
   (∀c o,c≠z->c≠TO->c≠i1->c≠i2->s.heap.get? c=some o->g.get? c=some o)->Q (some (.ref s.heap.objs.size)) { s with heap:=g }) :
  vL (model prog w) A (uD (.ref z)) Q E s:=by
 have tz:s.TypeIs (.ref z) "zip" := ⟨_,hz,rfl⟩;unfold uD;refine vA (uE (wpAny_callSpecial?_slot (name:=Str.ofString "__next__") tz PySem.F.slot_zip_next (vc PySem.F.slot_zip_next tz PySem.F.entry_zip_next ?_ (PySem.F.args_zip_next_1 _))));show vL _ _ (field (.ref z) 2 >>= _) _ _ _;refine vA (vq hz rfl (x:=.bool false) rfl ?_);show vL _ _ (field (.ref z) 3 >>= _) _ _ _;refine vA (vq hz rfl (x:=.ref TI) rfl ?_);refine vA (v3 hTI rfl ?_);show vL _ _ (Builtin.SmallTypes.ownedTupleIsFree (.ref z) >>= _) _ _ _;refine vA (q8J hz hf ?_);simp only[if_true];refine vA (v8 (vA (vq hz rfl (x:=.ref TO) rfl ?_)));refine vA (vh hz (by simp) λg1 z1 b1=>?_);replace z1:Xb g1 z TI TO .ellipsis f1:=z1;refine vA ?_;simp only[ZL,YN,wW,wv];refine vA (vA (uq ?_));show vL _ _ (Builtin.SmallTypes.nextOf (.ref i1) >>= _) _ _ _;refine vA (v6 (h1.extBut b1.extBut Z.i1z) (hl1.extBut b1.extBut Z.l1z) hx λg2 it1 b2=>vF ?_);have o2:uI g2 TO a b:=b2.extBut _ _ Z.TOi1 (b1.extBut _ _ Z.TOz hTO);refine vA (v3 o2 rfl (vA (ut o2 λg3 o3 b3=>?_)));replace o3:uI g3 TO x b:=o3;refine vA (tj (vF (vA (vA (uq ?_)))));show vL _ _ (Builtin.SmallTypes.nextOf (.ref i2) >>= _) _ _ _;have h2':=((h2.extBut b1.extBut Z.i2z).extBut b2.extBut Z.i12.symm).extBut b3.extBut Z.TOi2.symm;have hl2':=((hl2.extBut b1.extBut Z.l2z).extBut b2.extBut Z.l2i1).extBut b3.extBut Z.l2TO;refine vA (v6 h2' hl2' hy λg4 it2 b4=>vF ?_);have o4:uI g4 TO x b:=b4.extBut _ _ Z.TOi2 o3;refine vA (v3 o4 rfl (vA (ut o4 λg5 o5 b5=>?_)));replace o5:uI g5 TO x y:=o5;refine vA (tj (vF (vF ?_)));refine vA (v3 o5 rfl (vA (u9 ?_)));have sz:g5.objs.size=s.heap.objs.size:=by rw[b5.1,b4.1,b3.1,b2.1,b1.1]
 have z5:Xb g5 z TI TO .ellipsis f1:=b5.extBut _ _ Z.TOz.symm (b4.extBut _ _ Z.i2z.symm (b3.extBut _ _ Z.TOz.symm (b2.extBut _ _ Z.i1z.symm z1)));have k5:∀c o,c≠z->c≠TO->c≠i1->c≠i2->s.heap.get? c=some o->g5.get? c=some o:=λc o n1 n2 n3 n4 e=>b5.extBut _ _ n2 (b4.extBut _ _ n4 (b3.extBut _ _ n2 (b2.extBut _ _ n3 (b1.extBut _ _ n1 e))));have j1:g5.IsListIter i1 l1 (k1+1):=((it1.extBut b3.extBut Z.TOi1.symm).extBut b4.extBut Z.i12).extBut b5.extBut Z.TOi1.symm;have j2:g5.IsListIter i2 l2 (k2+1):=it2.extBut b5.extBut Z.TOi2.symm;have zl:z<g5.objs.size:=zK z5;show vL _ _ (Builtin.SmallTypes.ownedTupleHandOut (.ref z) (.ref g5.objs.size) >>= _) _ _ _;refine vA ?_;unfold Builtin.SmallTypes.ownedTupleHandOut;have z6:Xb (g5.push { cls:=.type "tuple", data:=.seq #[x,y] }) z TI TO .ellipsis f1:=zE _ z5;refine vA (vh z6 (by simp) λg7 z7 b7=>?_);replace z7:Xb g7 z TI TO (v5 g5.objs.size) f1:=z7;refine vh z7 (by simp) λg8 z8 b8=>?_;replace z8:Xb g8 z TI TO (v5 g5.objs.size) (.bool false):=z8;have up:∀c o,c≠z->g5.get? c=some o->g8.get? c=some o:=λc o n e=>b8.extBut _ _ n (b7.extBut _ _ n (zE _ e));have t8:uI g8 g5.objs.size x y:=b8.extBut _ _ (wY zl) (b7.extBut _ _ (wY zl) (zP _ rfl));rw[sz]at z8 t8;refine vF ⟨_,rfl,vF ?_⟩;show Q (some (.ref g5.objs.size)) _;rw[sz];exact hQ g8 z8 (up _ _ Z.TOz o5) (j1.at λo e=>up _ o Z.i1z e) (j2.at λo e=>up _ o Z.i2z e) t8 λc o n1 n2 n3 n4 e=>up c o n1 (k5 c o n1 n2 n3 n4 e)
def qcS{z TI TO i1 i2 l1 l2:vC}{k1 k2:Nat}{xs ys:Array Value}{a b f0 f1:Value}{Q:Option Value->vB->Prop}(hh:A.handled=none)(Z:tD z TI TO i1 i2 l1 l2)(hz:Xb s.heap z TI TO f0 f1)(hf:f0=.none\/∃t:vC,f0=v5 t/\s.heap.get? t=none)(hTI:uI s.heap TI (.ref i1) (.ref i2))(hTO:uI s.heap TO a b)(h1:s.heap.IsListIter i1 l1 k1)(h2:s.heap.IsListIter i2 l2 k2)(hl1:s.heap.IsList l1 xs)(hl2:s.heap.IsList l2 ys)(hend:xs[k1]?=none\/ys[k2]?=none)(hQ:∀g,(∀c o,c≠z->c≠TO->c≠i1->c≠i2->s.heap.get? c=some o->g.get? c=some o)->Q none { s with heap:=g }):
  vL (model prog w) A (uD (.ref z)) Q E s:=by
 have tz:s.TypeIs (.ref z) "zip" := ⟨_,hz,rfl⟩;unfold uD;refine vA (uE (wpAny_callSpecial?_slot (name:=Str.ofString "__next__") tz PySem.F.slot_zip_next (vc PySem.F.slot_zip_next tz PySem.F.entry_zip_next ?_ (PySem.F.args_zip_next_1 _))));show vL _ _ (field (.ref z) 2 >>= _) _ _ _;refine vA (vq hz rfl (x:=.bool false) rfl ?_);show vL _ _ (field (.ref z) 3 >>= _) _ _ _;refine vA (vq hz rfl (x:=.ref TI) rfl ?_);refine vA (v3 hTI rfl ?_);show vL _ _ (Builtin.SmallTypes.ownedTupleIsFree (.ref z) >>= _) _ _ _;refine vA (q8J hz hf ?_);simp only[if_true];refine vA (v8 (vA (vq hz rfl (x:=.ref TO) rfl ?_)));refine vA (vh hz (by simp) λg1 z1 b1=>?_);replace z1:Xb g1 z TI TO .ellipsis f1:=z1;refine vA ?_;simp only[ZL,YN,wW,wv];refine vA (vA (uq ?_));show vL _ _ (Builtin.SmallTypes.nextOf (.ref i1) >>= _) _ _ _;cases hx:xs[k1]? with
 | none=>
  refine vA (uT hh (h1.extBut b1.extBut Z.i1z) (hl1.extBut b1.extBut Z.l1z) hx λg2 e b2 he=>?_);obtain⟨oe,q1,q2⟩:=he;have z2:Xb g2 z TI TO .ellipsis f1:=b2 _ _ Z.i1z.symm z1;have ne:e≠z:=λv=>by subst v;rw[z2]at q1;cases q1;simp at q2
  refine vh z2 (by simp) λg3 _ b3=>?_;refine vA (v9 (T := "StopIteration") (b:=true) ⟨oe,b3.extBut _ _ ne q1,q2⟩ uV ?_);exact vF (hQ _ λc o n1 _ n3 _ v=>b3.extBut _ _ n1 (b2 _ _ n3 (b1.extBut _ _ n1 v)))
 | some x=>
  have hy:ys[k2]?=none:=by rcases hend with h|h;rw[hx]at h;cases h;exact h
  refine vA (v6 (h1.extBut b1.extBut Z.i1z) (hl1.extBut b1.extBut Z.l1z) hx λg2 it1 b2=>vF ?_);have o2:uI g2 TO a b:=b2.extBut _ _ Z.TOi1 (b1.extBut _ _ Z.TOz hTO);refine vA (v3 o2 rfl (vA (ut o2 λg3 o3 b3=>?_)));refine vA (tj (vF (vA (vA (uq ?_)))));show vL _ _ (Builtin.SmallTypes.nextOf (.ref i2) >>= _) _ _ _;have h2':=((h2.extBut b1.extBut Z.i2z).extBut b2.extBut Z.i12.symm).extBut b3.extBut Z.TOi2.symm;have hl2':=((hl2.extBut b1.extBut Z.l2z).extBut b2.extBut Z.l2i1).extBut b3.extBut Z.l2TO;refine vA (uT hh h2' hl2' hy λg4 e b4 he=>?_);obtain⟨oe,q1,q2⟩:=he;have z4:Xb g4 z TI TO .ellipsis f1:=b4 _ _ Z.i2z.symm (b3.extBut _ _ Z.TOz.symm (b2.extBut _ _ Z.i1z.symm z1));have ne:e≠z:=λv=>by subst v;rw[z4]at q1;cases q1;simp at q2
  refine vh z4 (by simp) λg5 _ b5=>?_;refine vA (v9 (T := "StopIteration") (b:=true) ⟨oe,b5.extBut _ _ ne q1,q2⟩ uV ?_);exact vF (hQ _ λc o n1 n2 n3 n4 v=>b5.extBut _ _ n1 (b4 _ _ n4 (b3.extBut _ _ n2 (b2.extBut _ _ n3 (b1.extBut _ _ n1 v)))))
def qbH{z TI TO i1 i2 l1 l2:vC}{k1 k2:Nat}{xs ys:Array Value}{x y a b f0 f1:Value}{Q:Option Value->vB->Prop}(Z:tD z TI TO i1 i2 l1 l2)(hz:Xb s.heap z TI TO f0 f1)(hf:f0=.none\/∃t:vC,f0=v5 t)(hTI:uI s.heap TI (.ref i1) (.ref i2))(hTO:uI s.heap TO a b)(h1:s.heap.IsListIter i1 l1 k1)(h2:s.heap.IsListIter i2 l2 k2)(hl1:s.heap.IsList l1 xs)(hl2:s.heap.IsList l2 ys)(hx:xs[k1]?=some x)(hy:ys[k2]?=some y)(hQ:∀(g:vf)(t:vC)(f1':Value),Xb g z TI TO (v5 t) f1'->(∃a b,uI g TO a b)->g.IsListIter i1 l1 (k1+1)->g.IsListIter i2 l2 (k2+1)->uI g s.heap.objs.size x y ->
   (∀c o,c≠z->c≠TO->c≠i1->c≠i2->s.heap.get? c=some o->g.get? c=some o)->Q (some (.ref s.heap.objs.size)) { s with heap:=g }) :
  vL (model prog w) A (uD (.ref z)) Q E s:=by
 have dead:(f0=.none\/∃t:vC,f0=v5 t/\s.heap.get? t=none)->vL (model prog w) A (uD (.ref z)) Q E s:=λhd=>
  qc8 Z hz hd hTI hTO h1 h2 hl1 hl2 hx hy λg a1 a2 a3 a4 a5 a6=>hQ g _ _ a1 ⟨_,_,a2⟩ a3 a4 a5 a6
 rcases hf with hf|⟨t,rfl⟩
 ·exact dead (.inl hf)
 ·cases ht:s.heap.get? t with
  | none=>exact dead (.inr ⟨t,rfl,ht⟩)
  | some ot=>exact qco Z hz ht hTI h1 h2 hl1 hl2 hx hy λg f1' a1 a2 a3 a4 a5=>hQ g t f1' a1 ⟨a,b,a5 _ _ Z.TOz Z.TOi1 Z.TOi2 hTO⟩ a2 a3 a4 λc o n1 _ n3 n4 e=>a5 c o n1 n3 n4 e
def qds{z TI TO i1 i2 l1 l2:vC}{k1 k2:Nat}{xs ys:Array Value}{a b f0 f1:Value}{Q:Option Value->vB->Prop}(hh:A.handled=none)(Z:tD z TI TO i1 i2 l1 l2)(hz:Xb s.heap z TI TO f0 f1)(hf:f0=.none\/∃t:vC,f0=v5 t)(hTI:uI s.heap TI (.ref i1) (.ref i2))(hTO:uI s.heap TO a b)(h1:s.heap.IsListIter i1 l1 k1)(h2:s.heap.IsListIter i2 l2 k2)(hl1:s.heap.IsList l1 xs)(hl2:s.heap.IsList l2 ys)(hend:xs[k1]?=none\/ys[k2]?=none)(hQ:∀g,(∀c o,c≠z->c≠TO->c≠i1->c≠i2->s.heap.get? c=some o->g.get? c=some o)->Q none { s with heap:=g }):
  vL (model prog w) A (uD (.ref z)) Q E s:=by
 have dead:(f0=.none\/∃t:vC,f0=v5 t/\s.heap.get? t=none)->vL (model prog w) A (uD (.ref z)) Q E s:=λhd=>qcS hh Z hz hd hTI hTO h1 h2 hl1 hl2 hend hQ;rcases hf with hf|⟨t,rfl⟩
 ·exact dead (.inl hf)
 ·cases ht:s.heap.get? t with
  | none=>exact dead (.inr ⟨t,rfl,ht⟩)
  | some ot=>exact qdb hh Z hz ht hTI h1 h2 hl1 hl2 hend λg k=>hQ g λc o n1 _ n3 n4 e=>k c o n1 n3 n4 e
def qbw{z TI TO:vC}{f0 f1:Value}{Q:Value->vB->Prop}(hz:Xb s.heap z TI TO f0 f1)(h:Q (.ref z) s):vL (model prog w) A (t9 (.ref z)) Q E s:=by
 have tz:s.TypeIs (.ref z) "zip" := ⟨_,hz,rfl⟩;refine tE tz PySem.F.slot_zip_iter (vc PySem.F.slot_zip_iter tz PySem.F.entry_zip_iter ?_ (PySem.F.args_zip_iter_1 _));show vL _ _ (ret (.ref z)) _ _ s;exact vF ⟨_,rfl, "zip", _,tz,PySem.F.slot_zip_next.lookup,h⟩
end
end Hk
namespace L2
open PySem PySem.Spec PyProof.Rows Hk
def qcb{P:vS}{w:vY}{K:zA}{y:Str}{tpos:Pos}(a b z TI TO i1 i2:vC)(D:tD z TI TO i1 i2 a b):
  Turn P w K (.Name y tpos) (Itz K a b) [z,TI,TO,i1,i2] z (λi h=>(∃f0 f1,Xb h z TI TO f0 f1/\(f0=.none\/∃t:vC,f0=v5 t))/\uI h TI (.ref i1) (.ref i2)/\(∃x y,uI h TO x y)/\h.IsListIter i1 a i/\h.IsListIter i2 b i) where
 mem:=by simp
 obj:=λi h st c hc=>by
  obtain⟨⟨_,_,s1,_⟩,s2,⟨_,_,s3⟩,⟨o4,e4,c4,d4⟩,⟨o5,e5,c5,d5⟩⟩:=st;simp only[zF,zv,or_false]at hc;rcases hc with rfl|rfl|rfl|rfl|rfl
  ·exact⟨_,s1,λv y=>by cases (show Data.fields _=Data.cell v from y)⟩
  ·exact⟨_,s2,λv y=>by cases (show Data.seq _ _=Data.cell v from y)⟩
  ·exact⟨_,s3,λv y=>by cases (show Data.seq _ _=Data.cell v from y)⟩
  ·exact⟨_,e4,λv y=>by rw[d4]at y;cases y⟩
  ·exact⟨_,e5,λv y=>by rw[d5]at y;cases y⟩
 keep:=λi h h' st k=>by
  obtain⟨⟨f0,f1,s1,hf⟩,s2,⟨x,y,s3⟩,s4,s5⟩:=st;exact⟨⟨f0,f1,k _ (by simp) _ s1,hf⟩,k _ (by simp) _ s2,⟨x,y,k _ (by simp) _ s3⟩,s4.at λo e=>k _ (by simp) o e,s5.at λo e=>k _ (by simp) o e⟩
 item:=by
  intro X hP hw hK hc i pins s σ H E I hf st hg;subst hP hw hK;obtain⟨xs,ys,x,y,hq1,hq2,hx,hy⟩:=hg;obtain⟨its1,rv1,p1,hz1⟩:=I.list hq1;obtain⟨its2,rv2,p2,hz2⟩:=I.list hq2;obtain⟨u1,hu1,ru1⟩:=rv1.get hx;obtain⟨u2,hu2,ru2⟩:=rv2.get hy;obtain⟨⟨f0,f1,s1,hf0⟩,s2,⟨_,_,s3⟩,s4,s5⟩:=st;have ex:∀c∈[z,TI,TO,i1,i2],∃o,s.heap.get? c=some o:=λc hc=>by
   simp only[zF,zv,or_false]at hc;rcases hc with rfl|rfl|rfl|rfl|rfl
   ·exact⟨_,s1⟩
   ·exact⟨_,s2⟩
   ·exact⟨_,s3⟩
   ·obtain⟨o,e,_⟩:=s4;exact⟨o,e⟩
   ·obtain⟨o,e,_⟩:=s5;exact⟨o,e⟩
  have nt:∀c∈[z,TI,TO,i1,i2],c≠s.heap.objs.size:=λc hc=>by
   obtain⟨o,e⟩:=ex c hc;exact zo (zK e)
  refine qbH D s1 hf0 s2 s3 s4 s5 p1.isList p2.isList (x:=u1) (y:=u2) (by simpa using hu1) (by simpa using hu2) λh' t' f1' a1 a2 a3 a4 a5 hk=>?_;have hn:H s.heap.objs.size=none:=I.hok.fresh (zL _);have I1:Inv X pins σ (upd H s.heap.objs.size (.tup [x,y])) { s with heap:=s.heap.push { cls:=.type "tuple", data:=.seq #[u1,u2] },toks:=s.toks } :=
   I.laid (λb o e=>zE _ e) (zL _) (show Y5 X.prog X.w _ _ _ (.tup [x,y])from ⟨by show 2<=sizeLine;decide,[u1,u2],.cons ru1 (.cons ru2 .nil),⟨_,zP _ rfl,rfl,_,rfl⟩⟩)
  have hf':∀c∈[z,TI,TO,i1,i2],zBv X pins (upd H s.heap.objs.size (.tup [x,y])) c:=λc hc=>by
   obtain⟨q0,q⟩:=hf c hc;exact⟨by rw[qc (nt c hc)];exact q0,q⟩
  have I2:Inv X pins σ (upd H s.heap.objs.size (.tup [x,y])) { s with heap:=h',toks:=s.toks }:=I1.turnedL (λb o hb e=>by
   simp only[zF,zv,or_false,not_or]at hb
   by_cases q:b=s.heap.objs.size
   ·subst q
    rw[zP _ rfl]at e;cases e;exact a5
   ·have e':s.heap.get? b=some o:=by
     rcases yt b s.heap.objs.size with l|l
     ·obtain⟨z1,z2⟩:=wX.mp e
      refine wX.mpr ⟨?_,z2⟩;rw[<- z1];show s.heap.objs[b]?=(s.heap.objs.push _)[b]?;rw[Zk,vH q]
     ·have:=zK e
      rw[xE]at this;exact vK (by simp only[vC]at *;omega) q
    exact hk b o hb.1 hb.2.2.1 hb.2.2.2.1 hb.2.2.2.2 e') hf'
  refine⟨_,rfl,vF ?_⟩;exact⟨.ref s.heap.objs.size,_,I2,rfl,⟨_,x,y,hn,rfl,rfl,λxs' ys' q1 q2=>⟨by rw[I.list_inj q1 hq1];exact hx,by rw[I.list_inj q2 hq2];exact hy⟩⟩,⟨⟨_,_,a1,.inr ⟨_,rfl⟩⟩,hk _ _ D.TIz D.TITO D.TIi1 D.TIi2 s2,a2,a3,a4⟩,λc hc=>(hf' c hc).1⟩
 done:=by
  intro X hP hw hK hc i pins s σ H E I hf st hg;subst hP hw hK;obtain⟨xs,ys,hq1,hq2,hx⟩:=hg;obtain⟨its1,rv1,p1,hz1⟩:=I.list hq1;obtain⟨its2,rv2,p2,hz2⟩:=I.list hq2;obtain⟨⟨f0,f1,s1,hf0⟩,s2,⟨_,_,s3⟩,s4,s5⟩:=st;have l1:=rv1.length;have l2:=rv2.length;refine qds (I.ok.hd hc) D s1 hf0 s2 s3 s4 s5 p1.isList p2.isList ?_ λh' hk=>⟨rfl,I.turnedL (t':=s.toks) (λb o hb e=>?_) hf⟩
  ·rcases hx with hx|hx
   ·exact .inl (by rw[wO]at hx;simp;omega)
   ·exact .inr (by rw[wO]at hx;simp;omega)
  ·simp only[zF,zv,or_false,not_or]at hb
   exact hk b o hb.1 hb.2.2.1 hb.2.2.2.1 hb.2.2.2.2 e
 self:=λ_ _ _ _ _ st h=>by
  obtain⟨⟨f0,f1,s1,hf⟩,_⟩:=st;exact qbw s1 h
def qe4{X:Cx}{a b:vW}{ta:TA}{p pos tpos:Pos}{y:Str}(hg:Gl X "zip")(hm:X.mg "zip" = none)(ha:PA X [a,b] ta)(hs:vJ [a,b] X.env=[(false,eval a X.env),(false,eval b X.env)]:=by rfl)(hs2:vJ [b] X.env=[(false,eval b X.env)]:=by rfl):
  PI X (.Name y tpos) (.Call (.Name "zip" p) [a,b] [] pos) (iZip X.K ta):=by
 intro pins s σ H R I h;refine Call_ (q3Y I hg hm PyProof.Rows.boot_zip (PyProof.Rows.callWith_type1 (thn (ha pos pins s σ H _ I h) λus s1 ⟨vs,H1,I1,r1,q1⟩=>?_) (by rw[hs,hs2]) (by rw[hs2];rfl)));obtain⟨l1,l2,xs,ys,e,hq1,hq2,q⟩:=q1;subst e;cases r1 with
 | cons r rr=>
  cases rr with
  | cons r' rr=>
   cases rr;cases r;cases r';obtain⟨its1,rv1,p1,hz1⟩:=I1.list hq1;obtain⟨its2,rv2,p2,hz2⟩:=I1.list hq2;have e1:l1<s1.heap.objs.size:=by obtain⟨_,_,e,_⟩:=p1;exact zK e
   have e2:l2<s1.heap.objs.size:=by obtain⟨_,_,e,_⟩:=p2;exact zK e
   refine call_zip_2 p1.isList p2.isList λh' a1 a2 a3 a4 a5 a6 hk=>?_;refine wpAny_pyIter_zip a1 ?_;have D:tD (s1.heap.objs.size+4) (s1.heap.objs.size+2) (s1.heap.objs.size+3) s1.heap.objs.size (s1.heap.objs.size+1) l1 l2:=by
    generalize s1.heap.objs.size=n at *
    constructor <;> (intro q;simp only[vC]at *;omega)
   refine⟨s1.heap.objs.size+4,[s1.heap.objs.size+4,s1.heap.objs.size+2,s1.heap.objs.size+3,s1.heap.objs.size,s1.heap.objs.size+1],_,_,H1,rfl,I1.kept (t':=s1.toks) hk,qcb l1 l2 _ _ _ _ _ D,⟨⟨_,_,a1,.inl rfl⟩,a2,⟨_,_,a3⟩,a4,a5⟩,λc hc=>?_,q⟩;have hle:s1.heap.objs.size<=c:=by
    simp only[zF,zv,or_false]at hc;simp only[vC]at *;omega
   exact I1.fpOk hle (I1.hok.fresh hle)
end L2
namespace Hk
open PySem L2
def qeU{X:Cx}{a b:vW}{g:FA}{p pos tpos:Pos}{y:Str}(hg:Gl X "zip")(hm:X.mg "zip" = none)(ha:XA X [a,b] g)(hs:vJ [a,b] X.env=[(false,eval a X.env),(false,eval b X.env)]:=by rfl)(hs2:vJ [b] X.env=[(false,eval b X.env)]:=by rfl):
  XI X (.Name y tpos) (.Call (.Name "zip" p) [a,b] [] pos) (iZp g):=by
 obtain⟨⟨t,h1,h2⟩,_⟩:=ha;refine⟨_,qe4 hg hm h1 hs hs2,λG0 H0 G ω σ H ds R o e k=>?_⟩;obtain⟨vs,q,e⟩:=bnd e;refine h2 G0 H0 G ω σ H vs _ o q λus G1 H1 x1 y1=>?_
 match vs,e with
 | [.lst as,.lst bs],e=>
  cases e;obtain⟨v1,r1,rfl,z1,z2⟩:=y1;obtain⟨v2,r2,rfl,z3,z4⟩:=z2;cases (show r2=[]from z4);obtain⟨a1,ws1,rfl,f1,f2⟩:=z1;obtain⟨a2,ws2,rfl,f3,f4⟩:=z3;exact⟨a1,a2,ws1,ws2,rfl,SqL.of (x1.gh _ _ f1),SqL.of (x1.gh _ _ f3),k _ G1 H1 x1 (qdd f1 f2 f3 f4)⟩
end Hk
namespace L2
open PySem PySem.Spec PyProof.Rows
end L2
namespace Hk
open PySem L2
noncomputable def zC2:Option (Option W)->Option (List D)
 | some ↥(.dic ks _)=>some (ks.map D.int)
 | _=>none
noncomputable def iDk(i:Nat):FI:=λω=>zC2 ω[i]?
end Hk
namespace Hk
open PySem PySem.Spec L2 PyProof.Rows
section
variable{P:vS}{w:vY}{H:Hp}{h:vf}{a:vC}{o:HO}
def q9N(x:Y5 P w H h a o):∃u,h.get? a=some u:=by
 cases o with
 | lst xs=>obtain⟨_,_,_,_,e⟩:=x;exact⟨_,e⟩
 | tup xs=>obtain⟨_,_,_,ob,e,_⟩:=x;exact⟨_,e⟩
 | dK kvs=>obtain⟨_,_,_,_,o,_,_,e,_⟩:=x;exact⟨_,e⟩
 | dT kvs=>obtain⟨_,_,_,_,o,_,_,e,_⟩:=x;exact⟨_,e⟩
 | set S n=>obtain⟨o,_,_,_,e,_⟩:=x;exact⟨_,e⟩
 | ins C dx fs=>obtain⟨_,_,_,e,_⟩:=x;exact⟨_,e⟩
 | own y=>exact x
 | xd fs=>obtain⟨_,⟨_,_,_,e,_⟩,_⟩:=x;exact⟨_,e⟩
 | rng lo hi=>obtain⟨_,_,_,e⟩:=x;exact⟨_,e⟩
 | frz ob u=>obtain⟨e,_⟩:=x;exact⟨_,e⟩
 | tbl ps=>exact⟨_,(show h.get? a=some _ from x)⟩
 | met f y=>exact⟨_,(show h.get? a=some _ from x)⟩
 | ext φ=>obtain⟨_,e,_⟩:=x;exact e
end
def Fly(l:List Env)(H0:Hp)(s0:vB)(H:Hp)(ea:vC)(cls:Value)(h:vf):Prop :=
 ∃B t,YA B l ea cls (.ref t) h/\(∀b o,H b=some o->∃u,B.get? b=some u)/\∀b o,s0.heap.get? b=some o->b∉frs l->∃u,B.get? b=some u/\(H0 b=none->u=o)
noncomputable def CXe(P:vS)(w:vY):CXT:=λouter H s E e s'=>∃ea cls H',e=.ref ea/\s'.os=s.os/\uy s'.gens/\Un (frs outer) [] H H' s.heap s'.heap/\HOk P w H' s'.heap/\Fly outer H s H' ea cls s'.heap/\H' ea=none/\s.heap.get? ea=none/\E cls none H'
section
variable{X:Cx}{pins:List (vC×Obj)}{σ:L2.St}{H:Hp}{s:vB}{h':vf}
def qaq(I:L2.Inv X pins σ H s){b:vC}{o:Obj}(e:X.s₀.heap.get? b=some o)(n:b∉X.fs):b∉frs X.stack:=λz=>by
 rcases zF.mp (I.stkSub b z)with y|y
 ·rw[y]at e;exact vK (zy (zK e) I.ok.above) (xY _)
 ·exact n y
def qag(I:L2.Inv X pins σ H s)(hex:X.ex=[])(big:∀b o,X.s₀.heap.get? b=some o->b∉X.fs->∃u,h'.get? b=some u/\(X.H₀ b=none->u=o))(sl:s.heap.UpToSlots h'):Un X.fs [] X.H₀ H X.s₀.heap h':=by
 have no:∀b:vC,b∉X.ex:=λb z=>by rw[hex]at z;cases z
 have frame:∀b o,b∈X.fs->s.heap.get? b=some o->∃sl,h'.get? b=some { o with slots:=sl }:=λb o hb e=>by
  have hs:b∈frs X.stack:=by
   rcases I.ok.stk with q|⟨q,_⟩
   ·rw[q];exact hb
   ·rw[q]
    unfold frs;rw[xi]
    split
    ·exact hb
    ·exact zI _ hb
  obtain⟨_,o',ho',hd⟩:=I.stack.mem hs;rw[e]at ho';cases ho';exact sl b o e hd
 refine⟨λb o e n hb _=>?_,λb o e n hb _=>?_,λb o e n _=>I.base.free b o e n (no b),λb o e _=>?_,I.base.tups,I.base.frzs,I.base.tbls⟩
 ·obtain⟨u,e1,e2⟩:=big b o e hb
  rw[e1,e2 n]
 ·obtain⟨sl1,e1⟩:=I.base.slot b o e n hb (no b)
  obtain⟨sl2,e2⟩:=frame b _ hb e1;exact⟨sl2,e2⟩
 ·by_cases hb:b∈X.fs
  ·obtain⟨o',e1⟩:=I.base.there b o e (no b)
   obtain⟨sl2,e2⟩:=frame b _ hb e1;exact⟨_,e2⟩
  ·obtain⟨u,e1,_⟩:=big b o e hb
   exact⟨u,e1⟩
def q97(I:L2.Inv X pins σ H s)(big:∀b o,H b=some o->∃u,s.heap.get? b=some u/\h'.get? b=some u):HOk X.prog X.w H h':=λb o e=>by
 refine(I.hok b o e).stay (λc u hc q=>?_) (λ_ q=>q) λ_ _ q=>q;have:∃o',H c=some o':=by
  rcases hc with rfl|hc
  ·exact⟨o,e⟩
  ·exact⟨_,hc⟩
 obtain⟨o',e'⟩:=this;obtain⟨u',q1,q2⟩:=big c o' e';rw[q]at q1;cases q1;exact q2
def qaZ{E:XK}{cls:Value}{vs:List Value}{ea L:vC}{A:vZ}{h:vf}{Er:Value->vB->Prop}(hst:X.stack=X.env::X.outer)(hf:X.env.frame=some L)(hex:X.ex=[])(I:L2.Inv X pins σ H { s with heap:=h })(hx:YW h s.heap ea cls vs)(hfr:A.frames=some X.stack)(hE:E cls none H):
  vL (model X.prog X.w) A (leaving X.env (.ref ea)) (λ_ s'=>CXe X.prog X.w X.outer X.H₀ X.s₀ E (.ref ea) s') Er s:=by
 have hin:∀env∈X.stack,∀b,env.frame=some b->b∈frs X.stack:=λenv he b hb=>wq.mpr ⟨env,he,hb⟩;have hl:=PySem.W.funFrames_hide I.stack hin;rw[hst]at hl hfr;refine wpAny_leaves_madeW hfr hf (λb o q=>Zq _ q) hl hx λh' t x1 x2 x3 x4=>?_;have keep:∀b o,h.get? b=some o->b∉frs X.stack->h'.get? b=some o:=λb o e n=>x1.1 b o (wR _ e (by rw[<- hst];exact n));have up:Heap.UpToSlots h h':=λb o e d=>x4 b o (hx.keeps b o e) d;have big:∀b o,X.s₀.heap.get? b=some o->b∉X.fs->∃u,h.get? b=some u/\b∉frs X.stack/\(X.H₀ b=none->u=o):=λb o e n=>by
  obtain⟨u,e1⟩:=I.base.there b o e (by rw[hex];simp);refine⟨u,e1,qaq I e n,λz=>?_⟩;have:=I.base.keep b o e z n (by rw[hex];simp);rw[e1]at this;exact z0 this
 have trk:∀b o,H b=some o->∃u,h.get? b=some u/\b∉frs X.stack:=λb o e=>by
  obtain⟨u,e1⟩:=q9N (I.hok b o e);exact⟨u,e1,λz=>by rw[I.stkFree b z]at e;cases e⟩
 have ne:H ea=none:=by
  cases q:H ea with
  | none=>rfl
  | some o=>obtain⟨u,e1,_⟩:=trk ea o q;rw[hx.new]at e1;cases e1
 have n0:X.s₀.heap.get? ea=none:=by
  cases q:X.s₀.heap.get? ea with
  | none=>rfl
  | some o=>obtain⟨u,e1⟩:=I.base.there ea o q (by rw[hex];simp);rw[show h.get? ea=none from hx.new]at e1;cases e1
 refine⟨ea,cls,H,rfl,I.os,I.bare,qag I hex (λb o e n=>?_) up,q97 I λb o e=>?_,⟨_,t,x1,λb o e=>?_,λb o e n=>?_⟩,ne,n0,hE⟩
 ·obtain⟨u,e1,e2,e3⟩:=big b o e n
  exact⟨u,keep b u e1 e2,e3⟩
 ·obtain⟨u,e1,e2⟩:=trk b o e
  exact⟨u,e1,keep b u e1 e2⟩
 ·obtain⟨u,e1,e2⟩:=trk b o e
  exact⟨u,wR _ e1 (by rw[<- hst];exact e2)⟩
 ·obtain⟨u,e1,e2,e3⟩:=big b o e n
  exact⟨u,wR _ e1 (by rw[<- hst];exact e2),e3⟩
def qbp{E:XK}{e:Value}{s':vB}(I:L2.Inv X pins σ H s)(c:CXe X.prog X.w X.stack H s E e s'):∃ea cls H',e=.ref ea/\L2.Inv X pins σ H' s'/\Fly X.stack H s H' ea cls s'.heap/\H' ea=none/\s.heap.get? ea=none/\E cls none H':=by
 obtain⟨ea,cls,H',he,os,bare,un,hok,fl,ne,n0,q⟩:=c;exact⟨ea,cls,H',he,I.call' (ch:=[]) os un hok bare (λb z=>vK z (by simp)),fl,ne,n0,q⟩
def qc6{E E':XK}{e:Value}{s':vB}{L:vC}{A:vZ}{Er:Value->vB->Prop}(hst:X.stack=X.env::X.outer)(hf:X.env.frame=some L)(hex:X.ex=[])(I:L2.Inv X pins σ H s)(c:CXe X.prog X.w X.stack H s E e s')(hfr:A.frames=some X.stack)(hE:∀cls H',E cls none H'->E' cls none H'):
  vL (model X.prog X.w) A (leaving X.env e) (λ_ s''=>CXe X.prog X.w X.outer X.H₀ X.s₀ E' e s'') Er s':=by
 obtain⟨ea,cls,H',rfl,I',⟨B,t,fl,b1,b2⟩,ne,n0,q⟩:=qbp I c;rw[hst]at hfr fl;refine wpAny_leaves_onW hfr hf fl λh' x1 x4=>?_;have no:∀b:vC,b∉X.ex:=λb z=>by rw[hex]at z;cases z
 have big:∀b o,X.s₀.heap.get? b=some o->b∉X.fs->∃u,B.get? b=some u/\(X.H₀ b=none->u=o):=λb o e n=>by
  obtain⟨o1,e1⟩:=I.base.there b o e (no b);obtain⟨u,e2,e3⟩:=b2 b o1 e1 (qaq I e n);refine⟨u,e2,λz=>?_⟩;have k:=I.base.keep b o e z n (no b);rw[e1]at k;cases k;exact e3 (I.base.free b o e z (no b))
 have n00:X.s₀.heap.get? ea=none:=by
  cases q:X.s₀.heap.get? ea with
  | none=>rfl
  | some o=>obtain⟨u,e1⟩:=I.base.there ea o q (no ea);rw[n0]at e1;cases e1
 refine⟨ea,cls,H',rfl,I'.os,I'.bare,qag I' hex (λb o e n=>?_) x4,q97 I' λb o e=>?_,⟨B,t,x1,b1,λb o e n=>big b o e n⟩,ne,n00,hE _ _ q⟩
 ·obtain⟨u,e1,e2⟩:=big b o e n
  exact⟨u,x1.1 b u e1,e2⟩
 ·obtain⟨u,e1⟩:=b1 b o e
  exact⟨u,fl.1 b u e1,x1.1 b u e1⟩
end
abbrev vErr:List Value:=[.type "ValueError", .type "Exception", .type "BaseException", .type "object"]
structure ECls (K:zA) (x:Str) (C:vC):Prop where
 nm:zx K vP x=some (some (.ref C))
 cl:wC K C vErr "ValueError.__new__" = true
def q6Y{K:zA}{h:vf}{C:vC}{bmB:List Value}{newId:String}(KI:K.In h)(q:wC K C bmB newId=true):
  ∃tl N nm qn bs hdct sn sub ab col dd k0 k1 k2 k3 k5,∃mN:Str->Option Value,h.get? C=some (tq nm qn C N bs tl hdct sn sub ab col dd k0 k1 k2 k3 k5 newId)/\h.Ns N mN/\mN "__init__" = none/\OwnTail h bmB tl:=by
 unfold wC at q
 split at q
 case h_2=>cases q
 case h_1 dd cd sl look=>
  split at q
  case h_2=>cases q
  case h_1 C1 bm j0 j1 j2 j3 n1 j5 em es=>
   obtain⟨nm,bs,mro,N,qn,hd,sn,sub,ab,col,del⟩:=cd;obtain⟨sll⟩:=sl;simp only[zc,beq_iff_eq,ZB]at q em es;obtain⟨⟨⟨⟨⟨c1,c2⟩,c3⟩,c4⟩,c5⟩,c6⟩:=q;subst em es c1 c2 c3;exact⟨bm,N,nm,qn,bs,hd,sn,sub,ab,col,dd,j0,j1,j2,j3,j5,_,KI _ _ look,.of_isNs (PySem.W.isNs_of_in KI c5),PySem.W.nsMap_none_of_in KI c5 c6,PySem.W.tail_of_in KI c4⟩
section
variable{X:Cx}{E:XK}
def WI(X:Cx)(C:vC)(E:XK):Prop:=∀(pins:List (vC×Obj))(σ:L2.St)(H:Hp)(h:vf)(ea:vC)(vs:List Value)(s':vB),L2.Inv X pins σ H { s' with heap:=h }->YW h s'.heap ea (.ref C) vs->E (.ref C) none H->X.xe (.ref ea) s'
noncomputable def tRaise(t:TA)(C:vC)(E:XK):TS:=λ_ σ H=>t σ H λvs H1=>vs.length<=sizeLine/\E (.ref C) none H1
def qdu{x:Str}{C:vC}{e0:vW}{t:TA}{np cpos pos:Pos}(hg:Gl X x)(hm:X.mg x=some (.ref C))(hc:X.calm=true)(ec:ECls X.K x C)(ha:PA X [e0] t)(hx:WI X C E)(hdb:(x==("__debug__" : Str))=false:=by decide)(he:vJ [e0] X.env=[(false,eval e0 X.env)]:=by rfl):PS X (.Raise (some (.Call (.Name x np) [e0] [] cpos)) none pos) (tRaise t C E):=by
 intro pins s σ H D I h;obtain⟨tl,N,nm,qn,bs,hdct,sn,sub,ab,col,dd,k0,k1,k2,k3,k5,mN,hC,hN,hni,T⟩:=q6Y I.ok.mod.kin ec.cl;have FB:=PySem.F.excBase_ValueError;refine wpAny_Raise_call_subT (C:=C) (nm:=nm) (q:=qn) (N:=N) (bs:=bs) (bm:=tl) (hdct:=hdct) (sn:=sn) (sub:=sub) (ab:=ab) (col:=col) (dd:=dd) (k0:=k0) (k1:=k1) (k2:=k2) (k3:=k3) (k5:=k5)
  FB (mN:=mN) (T.hasType FB.hasBase) (I.ok.hd hc) (by rw[he];rfl) hni (q5a I hg hm ⟨rfl,?_⟩ hdb)
 have ha':=ha cpos pins s σ H _ I h;rw[he]at ha' ⊢;refine Calls.evalArgs_plain (vg ha' (λvs s2 h2=>?_) λ_ _ y=>y);obtain⟨ws,H2,I2,r,hz,hE⟩:=h2;exact⟨rfl,by rw[<- r.length];exact hz,I2.bk _ _ hC,hN.keeps I2.bk,T.keeps I2.bk,λh' ea hm'=>hx pins σ H2 s2.heap ea vs { s2 with heap:=h' } I2 hm' hE⟩
end
noncomputable abbrev FX:=WSt->Option Str
def clsIn(K:zA)(c:Str)(C:vC):Prop:=zx K vP c=some (some (.ref C))
def SimXE(K:zA)(E:XK)(t:TE)(g:FX):Prop:=∀G0 H0 G ω σ H(Q:VK)c C,Own K G0 H0 G ω σ H->g ω=some c->clsIn K c C->(∀G' H',Ext G0 H0 G' H'->E (.ref C) none H')->t σ H Q
def SimXS(K:zA)(E:XK)(t:TS)(g:FX):Prop:=∀G0 H0 G ω σ H(D:Ends)c C,Own K G0 H0 G ω σ H->g ω=some c->clsIn K c C->(∀G' H',Ext G0 H0 G' H'->E (.ref C) none H')->t D σ H
def YE(X:Cx)(E:XK)(e:vW)(g:FX):Prop:=∃t,PE X e t/\SimXE X.K E t g
def YS(X:Cx)(E:XK)(st:vn)(g:FX):Prop:=∃t,PS X st t/\SimXS X.K E t g
def YSs(X:Cx)(E:XK)(st:List vn)(g:FX):Prop:=∃t,PSs X st t/\SimXS X.K E t g
noncomputable def spX(K:zA)(n:Nat)(g:List D->Option Str):Sp:=λvs H _ E=>∃G ds c C,g ds=some c/\clsIn K c C/\ds.length=n/\Y1 G H/\Yt K G ds vs/\∀G' H',Ext G H G' H'->E (.ref C) none H'
noncomputable def yNo:FX:=λ_=>none
noncomputable def zAb(x:Str):FX:=λ_=>some x
noncomputable def WF(g:List D->Option Str)(ga:FA):FX:=λω=>(ga ω).bind g
noncomputable def yIf(c:FT)(g g':FX):FX:=λω=>(c ω).bind λb=>if b=true then g ω else g' ω
noncomputable def zBu(g:FX)(f:FS)(g':FX):FX:=λω=>match g ω with
 | some c=>some c
 | none=>(f ω).bind λp=>match p.1 with
  | .nx=>g' p.2
  | _=>none
section
variable{X:Cx}{E:XK}{st:vn}{rest:List vn}{e:vW}{es:List vW}{pos:Pos}{g g':FX}
def PS.lift{t:TS}(h:PS X.nox st t):PS X st t:=λpins s σ H D I k=>vg (h pins s σ H D (I.wish _) k) (λ_ _ q=>q.unwish) λ_ _ z=>False.elim z
theorem XS.lift{f:FS}(h:XS X.nox st f):XS X st f:=let ⟨t,h1,h2⟩:=h;⟨t,PS.lift h1,h2⟩
def PA.lift{t:TA}(h:PA X.nox es t):PA X es t:=λpos pins s σ H Q I hw=>
 vg (h pos pins s σ H Q (I.wish _) hw) (λ_ _ ⟨v,H',I',r,q⟩=>⟨v,H',I'.unwish,r,q⟩) λ_ _ z=>False.elim z
theorem XA.lift{f:FA}(h:XA X.nox es f):XA X es f:=let ⟨⟨t,h1,h2⟩,h3⟩:=h;⟨⟨t,PA.lift h1,h2⟩,h3⟩
def qdW:YS X E st yNo:=⟨_,q8R,λG0 H0 G ω σ H D c C o e=>by cases e⟩
def q3d{f:FS}(h:YS X E st g)(hn:XS X st f)(h':YSs X E rest g'):YSs X E (st::rest) (zBu g f g'):=by
 obtain⟨t1,a1,a2⟩:=h;obtain⟨t2,b1,b2⟩:=hn;obtain⟨t3,c1,c2⟩:=h';refine⟨zBN (λD σ H=>t1 D σ H\/t2 D σ H) t3,q0k (λpins s σ H D I q=>?_) c1,λG0 H0 G ω σ H D c C o e hc hw=>?_⟩
 ·rcases q with q|q
  ·exact a1 pins s σ H D I q
  ·exact b1 pins s σ H D I q
 ·unfold zBu at e
  cases q:g ω with
  | some c'=>rw[q]at e;cases e;exact .inl (a2 G0 H0 G ω σ H _ c C o q hc hw)
  | none=>
   rw[q]at e;obtain⟨⟨out,ω1⟩,q2,e⟩:=bnd e;cases out with
   | nx=>exact .inr (b2 G0 H0 G ω σ H .nx ω1 _ o q2 λG1 σ1 H1 o1 s1=>c2 G0 H0 G1 ω1 σ1 H1 D c C o1 e hc hw)
   | _=>cases e
def q6S{x:Str}{C:vC}{e0:vW}{np cpos:Pos}{ga:FA}(hg:Gl X x)(hm:X.mg x=some (.ref C))(hc:X.calm=true)(ec:ECls X.K x C)(ha:XA X [e0] ga)(hga:∀ω,∃ds,ga ω=some ds)(hx:WI X C E)(hdb:(x==("__debug__" : Str))=false:=by decide)(he:vJ [e0] X.env=[(false,eval e0 X.env)]:=by rfl):YS X E (.Raise (some (.Call (.Name x np) [e0] [] cpos)) none pos) (zAb x):=by
 obtain⟨⟨t,h1,h2⟩,h5⟩:=ha;refine⟨_,qdu hg hm hc ec h1 hx hdb he,λG0 H0 G ω σ H D c C' o e hcl hw=>?_⟩;cases e;have:C'=C:=by
  have q:=ec.nm;unfold clsIn at hcl;rw[hcl]at q;cases q;rfl
 subst this;obtain⟨ds,q⟩:=hga ω;refine h2 G0 H0 G ω σ H ds _ o q λvs G1 H1 x1 y1=>⟨?_,hw G1 H1 (o.ext.trans x1)⟩;rw[<- y1.len,h5 ω ds q];exact zAt (show 1<=1000 by decide)
def q2Z{k:Nat}{f:vC}{fd:vN}{ps:List Str}{m:List D->Option Str}{x:Str}{p:Pos}{ga:FA}(F:FnOk X.prog X.w X.K X.mg X.base (CXe X.prog X.w) k f fd ps (spX X.K (e::es).length m))(hr:Room k X.A)(hg:Gl X x)(hm:X.mg x=some (.ref f))(hk:xa X.K (.ref f)=true)(hb:Binds X.K fd ps [])(hx:zAK (CXe X.prog X.w) X E)(ha:XA X (e::es) ga)(hdb:(x==("__debug__" : Str))=false:=by decide)(he:vJ (e::es) X.env=(false,eval e X.env)::vJ es X.env:=by rfl)(hpl:(vp pos (vJ es X.env)).any (·.1)=false:=by rfl):
  YE X E (.Call (.Name x p) (e::es) [] pos) (WF m ga):=by
 obtain⟨⟨t,h1,h2⟩,h5⟩:=ha;refine⟨_,q7F F hr hg hm hk hb .nil hx h1 hdb he hpl,λG0 H0 G ω σ H Q c C o e hcl hw=>?_⟩;obtain⟨ds,q,e⟩:=bnd e;refine h2 G0 H0 G ω σ H ds _ o q λvs G1 H1 x1 y1=>?_;exact⟨G1,ds,c,C,e,hcl,h5 ω ds q,x1.gh,by rw[yu];exact y1,λG' H' x2=>hw G' H' (o.ext.trans (x1.trans x2))⟩
def q58(he:YE X E e g):YS X E (.Return (some e) pos) g:=by
 obtain⟨t,h1,h2⟩:=he;exact⟨_,q57 h1,λG0 H0 G ω σ H D c C o e hcl hw=>h2 G0 H0 G ω σ H _ c C o e hcl hw⟩
def q7O(he:YE X E e g)(hs:vy e none pos.line X.env=pure false:=by rfl):YS X E (.Expr e pos) g:=by
 obtain⟨t,h1,h2⟩:=he;exact⟨_,q30 h1 hs,λG0 H0 G ω σ H D c C o e hcl hw=>h2 G0 H0 G ω σ H _ c C o e hcl hw⟩
def q6o{c:vW}{a b:List vn}{fc:FT}(hc:XT X c fc)(ha:YSs X E a g)(hb:YSs X E b g'):YS X E (.If c a b pos) (yIf fc g g'):=by
 obtain⟨t,h1,h2⟩:=hc;obtain⟨u,h3,h4⟩:=ha;obtain⟨w,h5,h6⟩:=hb;refine⟨_,qbe h1 h3 h5,λG0 H0 G ω σ H D c C o e hcl hw=>?_⟩;obtain⟨z,q,e⟩:=bnd e;refine h2 G0 H0 G ω σ H z _ o q λG1 H1 x1=>?_;cases z with
 | true=>rw[vG rfl]at e ⊢;exact h4 G0 H0 G1 ω σ H1 D c C (o.keep x1) e hcl hw
 | false=>exact h6 G0 H0 G1 ω σ H1 D c C (o.keep x1) e hcl hw
def qan{N:List Str}{M:Nat}{frees:List Nat}{scope:uZ}{tg iter elt:vW}{ifs:List vW}(hc:X.calm=true)(B:BlkOk X N M frees scope)(hi:YE X E iter g)(hs:∀x,vt iter X.env x=pure x:=by intro _;rfl):YE X E (.ListComp elt [⟨tg,iter,ifs,0⟩] scope pos) g:=by
 obtain⟨t,h1,h2⟩:=hi;refine⟨zCI M frees (zCo X.K t) (λ_ _ _ _=>False) (λ_ _ _=>False) (λ_ _ _=>False),qa6 hc B (q6k h1) (λC s H fp=>⟨λ_ _ _ _ _ _ _ _ _ h=>h.elim,λ_ _ _ _ _ _ h=>h.elim,λ_ _ _ _ _ _ h=>h.elim⟩) hs,λG0 H0 G ω σ H Q c C o e hcl hw=>?_⟩;exact h2 G0 H0 G ω σ H _ c C o e hcl hw
def fnX{P:vS}{w:vY}{K:zA}{mg:Str->Option Value}{base:vf}{x qual:Str}{st:vn}{f:vC}{fd:vN}{N ps:List Str}{k:Nat}{gb:FX}(F:Fun K x qual st f fd)(S:FnScope N ps (Yo st))(hb:∀(cdv:Value)(A:vZ)(outer:List Env)(s:vB)(H:Hp)(E:XK),Room k (A.deeper (PyProof.Rows.envOfC qual (Yo st) s.heap.objs.size f cdv))->YSs (zAm (CXe P w) P w K mg base N qual (Yo st) f cdv A outer s H E) E (Xf st) gb):
  FnOk P w K mg base (CXe P w) (k+1) f fd ps (spX K ps.length λds=>gb (entry N.length ds)):=by
 obtain⟨_,_,_,_,_,_,cdv,_,_,rfl,lk,hcd⟩:=F.ex;refine qdS lk hcd S (λvs H Q E h=>?_) λA outer s H vs Q E hr hsp=>?_
 ·obtain⟨G,ds,c,C,_,_,h2,_,h4,_⟩:=h
  rw[<- h4.len];exact h2
 ·obtain⟨G,ds,c,C,h1,hcl,h2,h3,h4,h5⟩:=hsp
  obtain⟨t,p1,p2⟩:=hb cdv A outer s H E hr;refine⟨t,p1,?_⟩;have hl:=h4.len;have short:ps.length<=N.length:=by
   have z:=uG wH S.pre;rw[yK]at z;omega
  have o0:Own K G (fr H) G (entry N.length ds) (L2.start N vs) H:=by
   refine⟨Ext.refl h3,?_,λi d e=>q79 h4 i d e,λi es e=>vK e (q2a.ow i es),λi j es fs l e=>vK e (q2a.ow i es),λi ks es e=>vK e (q2a.od i ks es),Xo.no q2a.pw⟩;unfold entry L2.start;simp only[zD,zB,yk];omega
  exact p2 G (fr H) G _ _ H _ c C o0 h1 hcl h5
def zAR{P:vS}{w:vY}{K:zA}{mg:Str->Option Value}{base:vf}{N:List Str}{qual:Str}{scope:uZ}{f:vC}{cdv:Value}{A:vZ}{outer:List Env}{s:vB}{H:Hp}:
  zAK (CXe P w) (zAm (CXe P w) P w K mg base N qual scope f cdv A outer s H E) E:=λpins σ H1 s1 e s' I c=>
 qc6 (X:=zAm (CXe P w) P w K mg base N qual scope f cdv A outer s H E) rfl rfl rfl I c I.ok.frames (λ_ _ q=>q)
def zAU{P:vS}{w:vY}{K:zA}{mg:Str->Option Value}{base:vf}{N:List Str}{qual:Str}{scope:uZ}{f:vC}{cdv:Value}{A:vZ}{outer:List Env}{s:vB}{H:Hp}{C:vC}:
  WI (zAm (CXe P w) P w K mg base N qual scope f cdv A outer s H E) C E:=λpins σ H1 h ea vs s' I hm hE=>
 qaZ (X:=zAm (CXe P w) P w K mg base N qual scope f cdv A outer s H E) (s:=s') rfl rfl rfl I hm I.ok.frames hE
end
end Hk
namespace PySem
section
variable{M:tW}{A:vZ}{E:Value->vB->Prop}{nm q:Str}{C N:vC}{bs bm:List Value}{hdct:Bool}{sn:List Str}{sub:List Value}{ab:Bool}{col:Option Bool}{dd:Option vC}{k0 k1 k2 k3 k5:Option Value}{newId:String}
variable{nm' q':Str}{C' N':vC}{bs' bm':List Value}{hdct':Bool}{sn':List Str}{sub':List Value}{ab':Bool}{col':Option Bool}{dd':Option vC}{j0 j1 j2 j3 j5:Option Value}{newId':String}
def Xu{h:vf}{g:Array tV}{d:sN}{t:Nat}{os:OsState}{e:vC}{oe:Obj}{Q:Bool->vB->Prop}(hC:h.get? C=some (tq nm q C N bs bm hdct sn sub ab col dd k0 k1 k2 k3 k5 newId))(hC':h.get? C'=some (tq nm' q' C' N' bs' bm' hdct' sn' sub' ab' col' dd' j0 j1 j2 j3 j5 newId'))(he:h.get? e=some oe)(hcls:oe.cls=.ref C)(hb':bm'.contains (.type "BaseException")=true)(hq:Q ((Value.ref C::bm).contains (.ref C')) ⟨h,g,d,t,os⟩):vL M A (excMatches (.ref e) (.ref C')) Q E ⟨h,g,d,t,os⟩:=by
 have cB:(Value.ref C'::bm').contains (.type "BaseException")=true:=by rw[List.contains_cons,hb',yc]
 have f:=tc_notTuple;generalize hz:(Value.ref C::bm).contains (.ref C')=z at hq;unfold excMatches
 repeat (first|(with_reducible refine uk he ?_;rw[hcls])|with_reducible refine uk hC' ?_|(with_reducible refine t4 hC' ?_;rw[cB])|(with_reducible refine t4 hC ?_;rw[hz])|wp_step)
 cases z <;> (wp_walk;exact hq)
end
end PySem
namespace Hk
open PySem PySem.Spec L2 PyProof.Rows
section
variable{X:Cx}{pins:List (vC×Obj)}{σ:L2.St}{H:Hp}{s:vB}
def qcw{M:tW}{A:vZ}{Er:Value->vB->Prop}{i:Nat}{x:Str}{v:V}{Q:Unit->vB->Prop}(I:L2.Inv X pins σ H s)(hN:X.N.Nodup)(hi:X.N[i]?=some x)(hk:X.env.scope.names.lookup x=some .local)(hv:σ[i]?=some (some v))(h:∀s',L2.Inv X pins (σ.set i none) H s'->Q () s'):vL M A (unbindName X.env x) Q Er s:=by
 have cne:=I.cne;obtain⟨m,hn,hl⟩:=id I.loc;have hk':X.env.kindOf x=some .local:=hk;obtain⟨u,ru,lk⟩:=hl i x v hi hv (.inl hk);have hmx:m x=some u:=by
  rcases lk with⟨_,e⟩|⟨k,_⟩
  ·exact e
  ·rw[hk']at k;rcases k with k|k <;> cases k
 refine wpAny_unbindName_local hk' hn hmx (by rw[I.ok.kind];rfl) λh' w hn' hs=>?_;have old:∀b o,X.s₀.heap.get? b=some o->h'.get? b=s.heap.get? b:=λb o e=>hs.2 b (zo (zy (zK e) I.ok.above));refine h _ ⟨I.ok,I.os,I.bare,⟨λb o e n hb hx=>(old b o e).trans (I.base.keep b o e n hb hx),λb o e n hb hx=>?_,I.base.free,λb o e hx=>?_,I.base.tups,I.base.frzs,I.base.tbls⟩,⟨_,hn',λj y v' e1 e2 e3=>?_⟩,λy c e=>?_,I.free,I.freeC,λp hp=>?_,λb ob e=>?_,by simpa using I.len⟩
 ·obtain⟨sl,e1⟩:=I.base.slot b o e n hb hx;exact⟨sl,(old b o e).trans e1⟩
 ·obtain⟨o',e1⟩:=I.base.there b o e hx;exact⟨o',(old b o e).trans e1⟩
 ·have hj:j≠i:=λq=>by
   subst q;rcases yt j σ.length with z|z
   ·rw[yr z]at e2;cases e2
   ·rw[yL ⇑z]at e2;cases e2
  rw[zH (Ne.symm hj)]at e2;have other:y≠x:=λe=>hj (q76 hN e1 (e▸hi));obtain⟨u',r',⟨k,e⟩|⟨k,c,e,z⟩⟩:=hl j y v' e1 e2 e3
  ·exact⟨u',r',.inl ⟨k,by simp[other,e]⟩⟩
  ·exact⟨u',r',.inr ⟨k,c,e,z.sameBut hs (cne y c e)⟩⟩
 ·obtain⟨w',z⟩:=I.cell y c e;exact⟨w',z.sameBut hs (cne y c e)⟩
 ·obtain⟨e,n,ne,nf,d⟩:=I.pin p hp;exact⟨(hs.2 p.1 ne).trans e,n,ne,nf,d⟩
 ·refine(I.hok b ob e).stay (λc w' hc q=>(hs.2 c ?_).trans q) (λ_ q=>q) λ_ _ q=>q
  intro z;rcases hc with hc|hc
  ·rw[<- hc,z,I.free]at e;cases e
  ·rw[z,I.free]at hc;cases hc
def qaM{E:XK}{e:Value}{s':vB}(I:L2.Inv X pins σ H s)(c:CXe X.prog X.w X.stack H s E e s'):
  ∃ea cls H' B t,e=.ref ea/\YA B X.stack ea cls (.ref t) s'.heap/\H' ea=none/\E cls none H' /\
   ∀(C:vC)(h':vf),cls=.ref C->YA B X.stack ea cls (.ref t) h'->s'.heap.UpToSlots h'->L2.Inv X pins σ (upd H' ea (.ext (excP ea C))) { s' with heap:=h' }:=by
 obtain⟨ea,cls,H',he,os,bare,un,hok,⟨B,t,fl,b1,b2⟩,ne,n0,q⟩:=c;refine⟨ea,cls,H',B,t,he,fl,ne,q,λC h' hc fl' up=>?_⟩;have frame:∀b o,b∈frs X.stack->s'.heap.get? b=some o->∃sl,h'.get? b=some { o with slots:=sl }:=λb o hb e=>by
  obtain⟨_,o',ho',hd⟩:=fl.2.2.1.mem hb;rw[e]at ho';cases ho';exact up b o e hd
 have nea:∀b o,s.heap.get? b=some o->b≠ea:=λb o e z=>by rw[z,n0]at e;cases e
 refine I.call' (s':={ s' with heap:=h' }) (ch:=[]) os ⟨λb o e n hb _=>?_,λb o e n hb _=>?_,λb o e n hx=>?_,λb o e hx=>?_,λb xs e=>?_,λb o u e=>?_,λb ps e=>?_⟩ (λb o e=>?_) bare λb z=>vK z (by simp)
 ·obtain⟨u,e1,e2⟩:=b2 b o e hb
  rw[e2 n]at e1;exact fl'.1 b o e1
 ·obtain⟨sl,e1⟩:=un.slot b o e n hb (by simp)
  obtain⟨sl2,e2⟩:=frame b _ hb e1;exact⟨sl2,e2⟩
 ·rw[qc (nea b o e)];exact un.free b o e n (by simp)
 ·by_cases hb:b∈frs X.stack
  ·obtain⟨o',e1⟩:=un.there b o e (by simp)
   obtain⟨sl2,e2⟩:=frame b _ hb e1;exact⟨_,e2⟩
  ·obtain⟨u,e1,_⟩:=b2 b o e hb
   exact⟨u,fl'.1 b u e1⟩
 ·have:=un.tups b xs e
  rw[qc (λz=>by rw[z,ne]at this;cases this)];exact this
 ·have:=un.frzs b o u e
  rw[qc (λz=>by rw[z,ne]at this;cases this)];exact this
 ·obtain⟨more,this⟩:=un.tbls b ps e
  exact⟨more,by rw[qc (λz=>by rw[z,ne]at this;cases this)];exact this⟩
 ·by_cases hb:b=ea
  ·subst hb
   rw[qe]at e;cases e;obtain⟨ob,e1,e2⟩:=fl'.there;refine⟨⟨ob,e1,by rw[e2,hc]⟩,⟨ob,e1⟩,λh1 h2 ⟨o1,p1,p2⟩ k=>⟨o1,k o1 p1,p2⟩⟩
  ·rw[qc hb]at e
   have ne2:∀c o',H' c=some o'->c≠ea:=λc o' z y=>by rw[y,ne]at z;cases z
   refine(hok b o e).stay (λc u hc q=>?_) (λc q=>by rw[qc (ne2 c _ q)];exact q) λc xs q=>by rw[qc (ne2 c _ q)];exact q
   have:∃o',H' c=some o':=by
    rcases hc with rfl|hc
    ·exact⟨o,e⟩
    ·exact⟨_,hc⟩
   obtain⟨o',e'⟩:=this;obtain⟨u',q1⟩:=b1 c o' e';have q2:=fl.1 c u' q1;rw[q]at q2;cases q2;exact fl'.1 c u q1
end
def qfG{K:zA}{h:vf}{nm q:Str}{C N:vC}{bs tl:List Value}{hdct:Bool}{sn:List Str}{sub:List Value}{ab:Bool}{col:Option Bool}{dd:Option vC}{k0 k1 k2 k3 k5:Option Value}{newId:String}{b:Value}{r:Bool}(KI:K.In h)(e:xN K C b=some r)(hC:h.get? C=some (tq nm q C N bs tl hdct sn sub ab col dd k0 k1 k2 k3 k5 newId)):(Value.ref C::tl).contains b=r:=by
 unfold xN at e;obtain⟨cd,a,e⟩:=bnd e;unfold wD at a
 split at a
 ·rename_i look
  cases a;have:=KI _ _ look;rw[hC]at this;cases this
  split at e
  ·cases e
  ·cases e;rfl
 ·cases a
def ZC(X:Cx)(xx:Value->vB->Prop)(pins:List (vC×Obj))(σ:L2.St)(E':XK):Prop:=∀H1 s1 e s',L2.Inv (X.wish xx) pins σ H1 s1->CXe X.prog X.w X.stack H1 s1 E' e s'->xx e s'
def ZE(X:Cx)(e:vW)(g:FX):Prop:=∀(xx:Value->vB->Prop)(pins:List (vC×Obj))(σ:L2.St)(ω:WSt)G0 H0 G H s c C(E':XK),L2.Inv (X.wish xx) pins σ H s->Own X.K G0 H0 G ω σ H->g ω=some c->clsIn X.K c C ->
 (∀G' H',Ext G H G' H'->E' (.ref C) none H')->ZC X xx pins σ E'->vL (model X.prog X.w) X.A (eval e X.env) (λ_ _=>False) xx s
def ZS(X:Cx)(st:vn)(g:FX):Prop:=∀(xx:Value->vB->Prop)(pins:List (vC×Obj))(σ:L2.St)(ω:WSt)G0 H0 G H s c C(E':XK),L2.Inv (X.wish xx) pins σ H s->Own X.K G0 H0 G ω σ H->g ω=some c->clsIn X.K c C ->
 (∀G' H',Ext G H G' H'->E' (.ref C) none H')->ZC X xx pins σ E'->vL (model X.prog X.w) X.A (exec st X.env) (λ_ _=>False) xx s
def ZSs(X:Cx)(st:List vn)(g:FX):Prop:=∀(xx:Value->vB->Prop)(pins:List (vC×Obj))(σ:L2.St)(ω:WSt)G0 H0 G H s c C(E':XK),L2.Inv (X.wish xx) pins σ H s->Own X.K G0 H0 G ω σ H->g ω=some c->clsIn X.K c C ->
 (∀G' H',Ext G H G' H'->E' (.ref C) none H')->ZC X xx pins σ E'->vL (model X.prog X.w) X.A (execs st X.env) (λ_ _=>False) xx s
section
variable{X:Cx}{st:vn}{rest:List vn}{e:vW}{es:List vW}{pos:Pos}{g g':FX}
def qeP{k:Nat}{f:vC}{fd:vN}{ps:List Str}{m:List D->Option Str}{x:Str}{p:Pos}{ga:FA}(F:FnOk X.prog X.w X.K X.mg X.base (CXe X.prog X.w) k f fd ps (spX X.K (e::es).length m))(hr:Room k X.A)(hg:Gl X x)(hm:X.mg x=some (.ref f))(hk:xa X.K (.ref f)=true)(hb:Binds X.K fd ps [])(ha:XA X.nox (e::es) ga)(hdb:(x==("__debug__" : Str))=false:=by decide)(he:vJ (e::es) X.env=(false,eval e X.env)::vJ es X.env:=by rfl)(hpl:(vp pos (vJ es X.env)).any (·.1)=false:=by rfl):
  ZE X (.Call (.Name x p) (e::es) [] pos) (WF m ga):=by
 intro xx pins σ ω G0 H0 G H s c C E' I o ge hcl hw hz;obtain⟨⟨t,h1,h2⟩,h5⟩:=XA.lift (X:=X.wish xx) ha;obtain⟨ds,q,ge⟩:=bnd ge;refine uH (q5a (X:=X.wish xx) I hg hm ?_ hdb);refine Zr (h₀:=X.base) I.ok.mod.kin hk (thn (h1 pos pins s σ H (λvs H1=>spX X.K (e::es).length m vs H1 (λ_ _=>False) E') I (h2 G0 H0 G ω σ H ds _ o q λvs G1 H1 x1 y1=>
  ⟨G1,ds,c,C,ge,hcl,h5 ω ds q,x1.gh,y1,λG' H' x2=>hw G' H' (x1.trans x2)⟩)) λus s1 ⟨vs,H1,I1,r,qq⟩=>⟨I1.kIn,?_⟩) he hpl
 have hl:us.length=ps.length:=by rw[<- r.length];exact F.len _ _ _ _ qq
 have hb':=hb s1 us I1.kIn (by rw[yu];exact hl);rw[yu]at hb';refine wpAny_call (uX (F.run X.A X.stack s1 H1 ⟨us,[]⟩ us vs (λ_ _=>False) E' hr I1.env0 hb' r qq) λres s' hq=>?_);cases res with
 | error er=>exact hz H1 s1 er s' I1 hq
 | ok fl=>
  cases fl with
  | ret u=>obtain⟨_,_,_,_,_,_,_,z⟩:=hq;exact z.elim
  | next=>exact False.elim hq
  | brk=>exact False.elim hq
  | cont=>exact False.elim hq
def qed(h:ZE X e g)(hs:vy e none pos.line X.env=pure false:=by rfl):ZS X (.Expr e pos) g:=λxx pins σ ω G0 H0 G H s c C E' I o ge hcl hw hz=>
 wpAny_Expr_any (thn (h xx pins σ ω G0 H0 G H s c C E' I o ge hcl hw hz) λ_ _ z=>z.elim) I.quiet hs
end
noncomputable def sTry(f:FS)(g:FX)(cs:List Str)(i:Nat)(fh:FS):FS:=λω=>match g ω with
 | some c=>if c∈cs then (fh (ω.set i ↥(.exc c))).map λp=>(p.1,p.2.set i none)else none
 | none=>f ω
noncomputable abbrev Cx.marked(X:Cx)(v:Value):Cx:={ X with A:=X.A.mark (some v),calm:=false }
section
variable{X:Cx}{pins:List (vC×Obj)}{σ:L2.St}{H:Hp}{s:vB}
def q8S(I:L2.Inv X pins σ H s)(v:Value):L2.Inv (Cx.marked X v) pins σ H s :=
 ⟨⟨I.ok.mod,I.ok.kind,I.ok.glob,I.ok.blt,I.ok.above,I.ok.inj,I.ok.has,I.ok.cab,(λz=>Bool.noConfusion (show false=true from z)),I.ok.frames,I.ok.stk,I.ok.exf,I.ok.bs,I.ok.bsz,I.ok.noex,I.ok.exfs,I.ok.funs,I.ok.frf⟩,I.os,I.bare,I.base,I.loc,I.cell,I.free,I.freeC,I.pin,I.hok,I.len⟩
def q48{v:Value}(hd:X.calm=true->X.A.handled=none)(I:L2.Inv (Cx.marked X v) pins σ H s):L2.Inv X pins σ H s :=
 ⟨⟨I.ok.mod,I.ok.kind,I.ok.glob,I.ok.blt,I.ok.above,I.ok.inj,I.ok.has,I.ok.cab,hd,I.ok.frames,I.ok.stk,I.ok.exf,I.ok.bs,I.ok.bsz,I.ok.noex,I.ok.exfs,I.ok.funs,I.ok.frf⟩,I.os,I.bare,I.base,I.loc,I.cell,I.free,I.freeC,I.pin,I.hok,I.len⟩
end
section
variable{K:zA}{G0:Hp}{H0:Fr}{G:Hp}{ω:WSt}{σ:L2.St}{H:Hp}
def Own.unset(i:Nat)(o:Own K G0 H0 G ω σ H):Own K G0 H0 G (ω.set i none) (σ.set i none) H:=by
 refine⟨o.ext,by rw[yp,yp,o.len],λj e hj=>?_,λj ds hj=>?_,λj k ds es l hj hk sj sk=>?_,λj ks ds hj=>?_,o.pw.set (λ_ z=>by cases z) (λ_ z=>by cases z)⟩
 ·rcases qd hj with⟨rfl,hl,z⟩|⟨ne,z⟩
  ·cases z
  ·obtain⟨u,h1,h2⟩:=o.sh j e z
   exact⟨u,by rw[zH ne];exact h1,h2⟩
 ·rcases qd hj with⟨rfl,hl,z⟩|⟨ne,z⟩
  ·cases z
  ·obtain⟨l,vs,h1,h2⟩:=o.ow j ds z
   exact⟨l,vs,by rw[zH ne];exact h1,h2⟩
 ·rcases qd hj with⟨rfl,hl,z⟩|⟨ne,z⟩
  ·cases z
  ·rcases qd hk with⟨rfl,hl',z'⟩|⟨ne',z'⟩
   ·cases z'
   ·rw[zH ne]at sj
    rw[zH ne']at sk;exact o.nd j k ds es l z z' sj sk
 ·rcases qd hj with⟨rfl,hl,z⟩|⟨ne,z⟩
  ·cases z
  ·obtain⟨p,vs,h1,h2,h3,h4,h5,h6,h7⟩:=o.od j ks ds z
   refine⟨p,vs,by rw[zH ne];exact h1,h2,h3,h4,h5,h6,λm ks' es hm sm=>?_⟩;rcases qd hm with⟨rfl,hl',z'⟩|⟨ne',z'⟩
   ·cases z'
   ·rw[zH ne']at sm
    exact h7 m ks' es z' sm
end
def zAy(K:zA)(CR:vC)(cs:List Str):Prop:=∀c∈cs,∃C,clsIn K c C/\wC K C vErr "ValueError.__new__" = true/\xN K C (.ref CR)=some true
def qcz{K:zA}{CR:vC}:zAy K CR []:=λ_ h=>by cases h
def qaK{K:zA}{CR C:vC}{c:Str}{cs:List Str}(h1:clsIn K c C)(h2:wC K C vErr "ValueError.__new__" = true)(h3:xN K C (.ref CR)=some true)(h:zAy K CR cs):zAy K CR (c::cs):=λd hd=>by
 cases hd with
 | head=>exact⟨C,h1,h2,h3⟩
 | tail _ hd=>exact h d hd
section
variable{X:Cx}
def q4H{M:tW}{A:vZ}{Er:Value->vB->Prop}{pins:List (vC×Obj)}{σ:L2.St}{H:Hp}{s:vB}{i:Nat}{n:Str}{pos:Pos}{Q:Unit->vB->Prop}(I:L2.Inv X pins σ H s)(hN:X.N.Nodup)(hi:X.N[i]?=some n)(hl:X.env.scope.names.lookup n=some .local)(h:∀s',L2.Inv X pins (σ.set i none) H s'->Q () s'):vL M A (do bindName X.env n .none;tt X.env n pos) Q Er s:=by
 have hlt:i<σ.length:=by
  rw[I.len];exact(yF.mp hi).1
 refine vA (wpAny_bindName (q5h (v:=.non) (u:=.none) I hN hi (.inl hl) rfl (λs1 I1=>?_) (.inr hl)));unfold tt;refine uq (qcw I1 hN hi hl (yr hlt) λs2 I2=>?_);rw[ZT]at I2;exact h s2 I2
noncomputable def dOut(D:Ends)(i:Nat):Ends:={ nx:=λσ H=>D.nx (σ.set i none) H,rt:=D.rt,bk:=λσ H=>D.bk (σ.set i none) H,ct:=λσ H=>D.ct (σ.set i none) H }
noncomputable def tCan(K:zA)(f:FS):TS:=λD σ H=>∃G0 H0 G ω out ω',Own K G0 H0 G ω σ H/\f ω=some (out,ω')/\∀G' σ' H',Own K G0 H0 G' ω' σ' H'->Y1 G G'->zBH K H0 G' D out σ' H'
noncomputable def zBh(g:FX)(cs:List Str)(i:Nat)(fh:FS):FS:=λω=>(g ω).bind λc=>if c∈cs then (fh (ω.set i ↥(.exc c))).map λp=>(p.1,p.2.set i none)else none
def qdw{x n:Str}{CR:vC}{cs:List Str}{i:Nat}{body suite:List vn}{b₀:vn}{np hp pos:Pos}{fh:FS}{g:FX}(hst:X.stack=X.env::X.outer)(hf:X.env.frame=some X.env.locals)(hg:Gl X x)(hm:X.mg x=some (.ref CR))(er:ECls X.K x CR)(hcs:zAy X.K CR cs)(hN:X.N.Nodup)(hi:X.N[i]?=some n)(hl:X.env.scope.names.lookup n=some .local)(hd:X.calm=true->X.A.handled=none)(hz:ZSs X body g)(hh:∀e,XSs (Cx.marked X e).nox (b₀::suite) fh)(hdb:(x==("__debug__" : Str))=false:=by decide):
  PS X (.Try body [.ExceptHandler (some (.Name x np)) (some n) (b₀::suite) hp] [] [] pos) (tCan X.K (zBh g cs i fh)):=by
 intro pins s σ H D I h;obtain⟨G0,H0,G,ω,out,ω',o,e,k⟩:=h;obtain⟨c,gq,e⟩:=bnd e
 by_cases hc:c∈cs
 case neg=>rw[vH hc]at e;cases e
 rw[vG hc]at e;obtain⟨C,hcl,hex,hmr⟩:=hcs c hc;cases qh:fh (ω.set i ↥(.exc c))with
 | none=>rw[qh]at e;cases e
 | some pr=>
 obtain⟨out1,ω1⟩:=pr;rw[qh]at e;cases e;refine wpAny_Try_except ?_;refine vg (hz _ pins σ ω G0 H0 G H s c C (λcls _ H'=>cls=.ref C/\∃G',Ext G H G' H') (I.wish _) o gq hcl (λG' H' x1=>⟨rfl,G',x1⟩) λH1 s1 e s' I1 cx=>?_) (λ_ _ z=>z.elim) λ_ _ z=>z;obtain⟨ea,cls,H',B,t,rfl,fl,ne,⟨rfl,G',x1⟩,mk⟩:=qaM I1.unwish cx;have hfr:X.A.frames=some (X.env::X.outer):=hst▸I.ok.frames;have mk':=mk C;clear mk cx;obtain⟨h0,g',d',tk,os⟩:=s';rw[hst]at fl mk';refine wpAny_looks_onW hfr hf fl λh1 held up1=>?_;refine wpAny_landsW held λh2 fl2 up2=>?_;have I2:=q8S (mk' h2 rfl fl2 (up1.trans up2)) (.ref ea);have KI:=I2.kIn;obtain⟨tl,N1,nm1,qn1,bs1,hdct1,sn1,sub1,ab1,col1,dd1,k01,k11,k21,k31,k51,mN1,hC1,_,_,T1⟩:=q6Y KI hex;obtain⟨tl2,N2,nm2,qn2,bs2,hdct2,sn2,sub2,ab2,col2,dd2,k02,k12,k22,k32,k52,mN2,hC2,_,_,T2⟩:=q6Y KI er.cl;obtain⟨oe,he,hoc⟩:=fl2.there;have FB:=PySem.F.excBase_ValueError;refine wpAny_handleBy_cons (codeAny_handlers_test (q5a (X:=Cx.marked X (.ref ea)) I2 hg hm ?_ hdb)) (λq=>by cases q);refine Xu hC1 hC2 he hoc (T2.hasType FB.hasBase) ?_;rw[qfG KI hmr hC1];refine codeAny_handlers_suite_as (lands_againW fl2 λh3 fl3 up3=>?_);have I3:=q8S (mk' h3 rfl fl3 ((up1.trans up2).trans up3)) (.ref ea);obtain⟨th,p1,p2⟩:=hh (.ref ea);refine q5h (X:=Cx.marked X (.ref ea)) (v:=.ref ea) (u:=.ref ea) I3 hN hi (.inl hl) rfl (λs4 I4=>?_) (.inr hl);have o1:=((o.keep x1).keep (Ext.lay x1.gh ne (.ext (excP ea C)))).setSh (i:=i) (d:=.exc c) (v:=.ref ea) ⟨ea,C,rfl,hcl,qe⟩;refine vg (p1 pins s4 _ _ (dOut D i) (I4.wish _) (p2 G0 H0 _ _ _ _ out1 ω1 _ o1 qh λG2 σ2 H2 o2 g2=>?_)) (λfl s5 q=>?_) λ_ _ z=>z.elim
 ·have:=k G2 (σ2.set i none) H2 (o2.unset i) ((x1.gg.trans (Xe (x1.gh.free ne) _)).trans g2)
  cases out1 <;> exact this
 ·cases fl with
  | next=>obtain⟨σ',H5,I5,q⟩:=q;exact q4H (q48 hd I5.unwish) hN hi hl λs6 I6=>⟨_,H5,I6,q⟩
  | brk=>obtain⟨σ',H5,I5,q⟩:=q;exact q4H (q48 hd I5.unwish) hN hi hl λs6 I6=>⟨_,H5,I6,q⟩
  | cont=>obtain⟨σ',H5,I5,q⟩:=q;exact q4H (q48 hd I5.unwish) hN hi hl λs6 I6=>⟨_,H5,I6,q⟩
  | ret u=>obtain⟨v,σ',H5,I5,r,q⟩:=q;exact q4H (q48 hd I5.unwish) hN hi hl λs6 I6=>⟨v,_,H5,I6,r,q⟩
def qg0{x n:Str}{CR:vC}{cs:List Str}{i:Nat}{body suite:List vn}{b₀:vn}{np hp pos:Pos}{f fh:FS}{g:FX}(hst:X.stack=X.env::X.outer)(hf:X.env.frame=some X.env.locals)(hg:Gl X x)(hm:X.mg x=some (.ref CR))(er:ECls X.K x CR)(hcs:zAy X.K CR cs)(hN:X.N.Nodup)(hi:X.N[i]?=some n)(hl:X.env.scope.names.lookup n=some .local)(hb:XSs X.nox body f)(hz:ZSs X body g)(hh:∀e,XSs (Cx.marked X e).nox (b₀::suite) fh)(hdb:(x==("__debug__" : Str))=false:=by decide):
  XS X (.Try body [.ExceptHandler (some (.Name x np)) (some n) (b₀::suite) hp] [] [] pos) (sTry f g cs i fh):=by
 obtain⟨t,h1,h2⟩:=hb;refine⟨λD σ H=>t D σ H\/tCan X.K (zBh g cs i fh) D σ H,λpins s σ H D I q=>?_,λG0 H0 G ω σ H out ω' E o e k=>?_⟩
 ·rcases q with q|q
  ·refine wpAny_Try_except (vg (h1 pins s σ H D (I.wish _) q) (λfl s1 z=>?_) λ_ _ z=>z.elim)
   have z':=z.unwish;cases fl with
   | next=>exact uc z'
   | brk=>exact z'
   | cont=>exact z'
   | ret u=>exact z'
  ·exact qdw hst hf hg hm er hcs hN hi hl I.ok.hd hz hh hdb pins s σ H D I q
 ·unfold sTry at e
  cases q:g ω with
  | none=>rw[q]at e;exact .inl (h2 G0 H0 G ω σ H out ω' E o e k)
  | some c=>
   rw[q]at e;exact .inr ⟨G0,H0,G,ω,out,ω',o,by unfold zBh;rw[q];exact e,k⟩
end
end Hk
namespace PySem.W
open PySem PySem.Calls PyProof.Rows
open Builtin Builtin.ObjectAttr Builtin.Getset_descriptor
structure XCl (K:Frag) (C:vC):Prop where
 ga:findIn K (.ref C) "__getattribute__" = some (some (.builtin "BaseException.__getattribute__"))
 gt:findIn K (.ref C) "__getattr__" = some none
 cl:findIn K (.ref C) "__class__" = some (some (.builtin "object.__class__"))
 mo:mroIn K C (.type "object")=some true
 mb:mroIn K C (.type "BaseException")=some true
section
variable{prog:vS}{w:vY}{A:vZ}{E:Value->vB->Prop}{K:Frag}{x C:vC}{h:vf}{g:Array tV}{d:sN}{t:Nat}{os:OsState}{ob:Obj}
def Ex(h:vf)(x C:vC)(ob:Obj):Prop:=h.get? x=some ob/\ob.cls=.ref C
def Ex.ty(M:tW)(e:Ex h x C ob):Looks M h (typeOf (.ref x)) (.ref C):=e.2▸(Looks.ld e.1).andThen .now
def zC3{R:tX->vB->Prop}{tp:Value}(X:K.In h)(Y:XCl K C)(e:Ex h x C ob)(hq:R (.ok (.ret (.ref C))) ⟨h,g,d,t,os⟩):
  ud (model prog w) A (.call (.builtin "getset_descriptor.__get__") ⟨[.builtin "object.__class__", .ref x,tp],[]⟩) R ⟨h,g,d,t,os⟩:=by
 have T:=e.ty (model prog w);have U:=looks_mroIn (M:=model prog w) X Y.mo;have ty:(⟨h,g,d,t,os⟩:vB).TypeIs (.builtin "object.__class__") "getset_descriptor" := KF.type_class;refine ur KF.slot_gs.plain KF.entry_gs (KF.slot_gs.check _ _ _ _ _ _ _ _ ty (KF.args_gs _ _ _) ?_)
 (unfold Builtin.«getset_descriptor.__get__» descrGet;rw[dga_obj];refine vA (vF ?_))
 (unfold descrGetter descrCheckInstance descrNameAndClass isInstance;simp only[KF.owner_class];repeat lk)
 refine⟨Code.quiet_builtin _ ⋯,uL KF.entry_class ?_⟩;(unfold Builtin.«object.__class__» shownTypeOf;repeat lk);exact hq
def zCy{M:tW}{nv:Value}{Q:Unit->vB->Prop}(X:K.In h)(Y:XCl K C)(e:Ex h x C ob)(hq:Q () ⟨h,g,d,t,os⟩):
  vL M A (tM "BaseException.__getattribute__" ⟨[.ref x,nv],[]⟩) Q E ⟨h,g,d,t,os⟩:=by
 have T:=e.ty M;have U:=looks_mroIn (M:=M) X Y.mb;have z:=F.args_bexc_ga (.ref x) nv;simp only[tM,show builtinKind "BaseException.__getattribute__" = some .slot by decide +kernel,show splitId "BaseException.__getattribute__" = some ("BaseException", "__getattribute__") by decide +kernel];apply vA;unfold isInstance;(repeat (first|with_reducible refine T.at ?_|with_reducible refine U.at ?_|wp_step));exact hq
def exc_ga{tk:Tok}{Q:Fin->vB->Prop}(X:K.In h)(Y:XCl K C)(e:Ex h x C ob)(hq:Q (.done (.ret (.ref C))) ⟨h,g,d,t,os⟩):
  vL (model prog w) A (Builtin.«object.__getattribute__» ⟨[.ref x,.str "__class__" tk],[]⟩) Q E ⟨h,g,d,t,os⟩:=by
 have z1:(⟨h,g,d,t,os⟩:vB).TypeIs (.builtin "object.__class__") "getset_descriptor" := F.typeOf_object_class;have z2:=F.typeOf_object_class;have z3:=F.slot_gs_get.lookup;have z4:=F.slot_gs_set.lookup;have U:=sL (M:=model prog w) X Y.cl;obtain⟨e1,e2⟩:=id e
 (repeat (any_goals (first|assumption|(with_reducible refine uk e1 ?_;rw[e2])|with_reducible refine U.at ?_|wp_step)))
 apply zC3 X Y e;(repeat (any_goals (first|assumption|wp_step)))
def exc_by{tk:Tok}{fill expr:Bool}{Q:Value->vB->Prop}(X:K.In h)(Y:XCl K C)(e:Ex h x C ob)(hq:Q (.ref C) ⟨h,g,d,t,os⟩):
  vL (model prog w) A (getAttrBy (.ref x) (.str "__class__" tk) fill expr) Q E ⟨h,g,d,t,os⟩:=by
 have z1:=F.attr_ValueError.ga.bind (.ref x);have z2:(expr&&onTheHeap (Value.builtin "BaseException.__getattribute__"))=false:=by cases expr <;> rfl
 have z3:(onTheHeap (Value.ref C)&&Value.builtin "BaseException.__getattribute__" == Value.builtin "object.__getattribute__")=false:=by rw[show (Value.builtin "BaseException.__getattribute__" == Value.builtin "object.__getattribute__")=false by decide +kernel];rfl
 have U:=sL (M:=model prog w) X Y.ga;have V:=sL (M:=model prog w) X Y.gt;obtain⟨e1,e2⟩:=id e
 (repeat (any_goals (first|assumption|(with_reducible refine uk e1 ?_;rw[e2])|with_reducible refine U.at ?_|with_reducible refine V.at ?_|wp_step)))
 apply ur F.attr_ValueError.ga.plain F.entry_bexc_ga;apply zCy X Y e;apply exc_ga X Y e;(repeat (any_goals (first|assumption|wp_step)))
def zCJ{Q:Option Value->vB->Prop}(X:K.In h)(Y:XCl K C)(e:Ex h x C ob)(hq:Q (some (.ref C)) ⟨h,g,d,t+1,os⟩):vL (model prog w) A (getAttr? (.ref x) "__class__") Q E ⟨h,g,d,t,os⟩:=by
 (unfold getAttr? getAttrBy?;(repeat (any_goals (first|assumption|with_reducible apply exc_by X Y e|wp_step))))
def kitx_exc(hcl:(clsIn K C).isSome=true)(Y:XCl K C):KitX K (.ref x) (.ref C) (Hk.excP x C):=by
 obtain⟨cd,hcD⟩:=xF.mp hcl;have obj:∃a b c,K.lookup C=some ⟨a,b,.cls cd,c⟩:=by
  unfold clsIn at hcD;split at hcD
  ·rename_i q;cases hcD;exact⟨_,_,_,q⟩
  ·cases hcD
 obtain⟨a,b,c,lk⟩:=obj;refine⟨λM h _ ⟨ob,p⟩=>Ex.ty M p,λM h X _ A' Q' E' s' k q=>?_,λh tp dd its n sl X htp=>Bool.eq_false_iff.mpr λq=>?_,λ{prog w A E Q s} X ⟨ob,p⟩ k=>?_⟩
 ·(unfold isType loadHead;exact vA (wpAny_loadPart (k _ _ (X _ _ lk)) (vF q)))
 ·cases Value.ref.inj (beq_iff_eq.mp q);cases (X _ _ lk).symm.trans htp
 ·obtain⟨h,g,d,t,os⟩:=s;exact zCJ X Y p k
end
end PySem.W
namespace Hk
open PySem PySem.Spec L2 PyProof.Rows
noncomputable def zCO(tab:List (Str×Bool))(f:FD):FE:=λω=>(f ω).bind λd=>match d with
 | .exc c=>(tab.lookup c).map λb=>.sh (.bl b)
 | _=>none
def IsX(K:zA)(tv:Value)(tab:List (Str×Bool)):Prop:=∀c b,tab.lookup c=some b->∃C,clsIn K c C/\(wD K C).isSome=true/\PySem.W.XCl K C/\zw K (.ref C) tv=some b
def q31{K:zA}{tv:Value}:IsX K tv []:=λ_ _ h=>by cases h
def q0j{K:zA}{tv:Value}{c:Str}{b:Bool}{tab:List (Str×Bool)}{C:vC}(h1:clsIn K c C)(h2:(wD K C).isSome=true)(h3:PySem.W.XCl K C)(h4:zw K (.ref C) tv=some b)(h:IsX K tv tab):IsX K tv ((c,b)::tab):=λd e hd=>by
 rw[xL]at hd
 by_cases q:d=c
 ·subst q
  rw[beq_self_eq_true]at hd;cases hd;exact⟨C,h1,h2,h3,h4⟩
 ·rw[beq_false_of_ne q]at hd
  exact h d e hd
def rIsx(K:zA)(tgt:V)(tv:Value):List V->Hp->VK->Prop:=λxs H Q=>∃a C b,xs=[.ref a,tgt]/\H a=some (.ext (excP a C))/\(wD K C).isSome=true/\PySem.W.XCl K C/\zw K (.ref C) tv=some b/\Q (.bl b) H
section
variable{X:Cx}{a:vW}{f:FD}
def qd9{tgt:V}{tv:Value}(ht:∀u,RelV tgt u->u=tv):Xn X (.builtin "isinstance") (rIsx X.K tgt tv):=by
 intro pins s σ H xs us Q I r z;obtain⟨p,C,b,rfl,e1,e2,e3,e4,q⟩:=z;obtain⟨u1,u2,rfl,r2,r3⟩:=vals2 r;cases ht u2 r3;cases (show u1=Value.ref p from r2);have P:=I.hok p _ e1;obtain⟨P,_⟩:=P;exact xD (PySem.W.kitx_exc e2 e3) I.kIn P e4 (λz=>nomatch z) λtk=>⟨.bl b,H,I.tok tk,rfl,q⟩
def qc0{tgt:V}{tv:Value}{tab:List (Str×Bool)}{x:Str}{p q pos:Pos}(ht:∀u,RelV tgt u->u=tv)(hT:PE X (.Name x q) (tC tgt))(ha:XV X a f)(hk:IsX X.K tv tab)(hg:Gl X "isinstance")(hm:X.mg "isinstance" = none)(he:vJ [a,.Name x q] X.env=(false,eval a X.env)::vJ [.Name x q] X.env:=by rfl)(he2:vJ [.Name x q] X.env=(false,eval (.Name x q) X.env)::vJ [] X.env:=by rfl)(hpl:(vp pos (vJ [.Name x q] X.env)).any (·.1)=false:=by rfl):
  XE X (.Call (.Name "isinstance" p) [a,.Name x q] [] pos) (zCO tab f):=by
 obtain⟨t,h1,h2⟩:=ha;refine⟨_,q2J (qd9 ht) hg hm PyProof.Rows.boot_isinstance (qo h1 (qo hT qN he2) he) (by decide) (by decide) he hpl,λG0 H0 G ω σ H r Q o e k=>?_⟩;obtain⟨d,q,e⟩:=bnd e;refine h2 G0 H0 G ω σ H d _ o q λv G1 H1 x1 y1=>?_;cases d with
 | exc c=>
  cases z:tab.lookup c with
  | none=>rw[show (match D.exc c with|.exc c=>(tab.lookup c).map λb=>R.sh (.bl b)|_=>none)=(tab.lookup c).map λb=>R.sh (.bl b)from rfl,z]at e;cases e
  | some b=>
   rw[show (match D.exc c with|.exc c=>(tab.lookup c).map λb=>R.sh (.bl b)|_=>none)=(tab.lookup c).map λb=>R.sh (.bl b)from rfl,z]at e;cases e;obtain⟨p,C,rfl,hc,hp⟩:=(show Rep X.K G1 (.exc c) v from y1.of_ne λ_ z=>by cases z);obtain⟨C',c1,c2,c3,c4⟩:=hk c b z;have:C'=C:=by
    unfold clsIn at c1;rw[hc]at c1;cases c1;rfl
   subst this;exact⟨p,C',b,rfl,x1.gh _ _ hp,c2,c3,c4,k _ G1 H1 x1 rfl⟩
 | _=>cases e
def qeK{T:vC}{tab:List (Str×Bool)}{x:Str}{p q pos:Pos}(ha:XV X a f)(hgx:Gl X x)(hmx:X.mg x=some (.ref T))(hk:IsX X.K (.ref T) tab)(hg:Gl X "isinstance")(hm:X.mg "isinstance" = none)(hdx:(x==("__debug__" : Str))=false:=by decide)(he:vJ [a,.Name x q] X.env=(false,eval a X.env)::vJ [.Name x q] X.env:=by rfl)(he2:vJ [.Name x q] X.env=(false,eval (.Name x q) X.env)::vJ [] X.env:=by rfl)(hpl:(vp pos (vJ [.Name x q] X.env)).any (·.1)=false:=by rfl):
  XE X (.Call (.Name "isinstance" p) [a,.Name x q] [] pos) (zCO tab f) :=
 qc0 (tgt:=.ref T) (tv:=.ref T) (λ_ h=>h) (q3e hgx hmx rfl hdx) ha hk hg hm he he2 hpl
def qe1{T:String}{tab:List (Str×Bool)}{x:Str}{p q pos:Pos}(ha:XV X a f)(hgx:Gl X x)(hmx:X.mg x=none)(hv:ve x=some (.type T))(hk:IsX X.K (.type T) tab)(hg:Gl X "isinstance")(hm:X.mg "isinstance" = none)(hnx:x ≠ "__name__" := by decide)(hdx:(x==("__debug__" : Str))=false:=by decide)(he:vJ [a,.Name x q] X.env=(false,eval a X.env)::vJ [.Name x q] X.env:=by rfl)(he2:vJ [.Name x q] X.env=(false,eval (.Name x q) X.env)::vJ [] X.env:=by rfl)(hpl:(vp pos (vJ [.Name x q] X.env)).any (·.1)=false:=by rfl):
  XE X (.Call (.Name "isinstance" p) [a,.Name x q] [] pos) (zCO tab f) :=
 qc0 (tgt:=.ty T) (tv:=.type T) (λ_ h=>h) (qa3 hgx hmx hv rfl hnx hdx) ha hk hg hm he he2 hpl
end
section
variable{X:Cx}{E:XK}{st:vn}{rest:List vn}{g:FX}
def q4Z:YSs X E rest yNo:=⟨_,q83,λG0 H0 G ω σ H D c C o e=>by cases e⟩
def q1E(h:YS X E st g):YSs X E (st::rest) g:=by
 obtain⟨t,h1,h2⟩:=h;exact⟨_,q0k h1 q83,λG0 H0 G ω σ H D c C o e hc hw=>h2 G0 H0 G ω σ H _ c C o e hc hw⟩
def qdk(h:ZS X st g):ZSs X (st::rest) g:=λxx pins σ ω G0 H0 G H s c C E' I o ge hcl hw hz=>
 tJ (thn (h xx pins σ ω G0 H0 G H s c C E' I o ge hcl hw hz) λ_ _ z=>z.elim)
end
def qD{K:zA}{C:vC}{b:Value}{r:Bool}(e:xN K C b=some r):(wD K C).isSome=true:=by
 unfold xN at e;obtain⟨cd,a,_⟩:=bnd e;rw[a];rfl
noncomputable def tryS(o:Option Str)(f:FS)(cs:List Str)(i:Nat)(fh:FS)(ω:WSt):Option (Out×WSt):=match o with
 | some c=>if c∈cs then (fh (ω.set i ↥(.exc c))).map λp=>(p.1,p.2.set i none)else none
 | none=>f ω
noncomputable def goS(i:Nat)(o:Option (Out×WSt)):Option (Out×WSt):=o.map λp=>(p.1,p.2.set i none)
noncomputable def ifX(o:Option Bool)(g g':FX)(ω:WSt):Option Str:=o.bind λb=>if b=true then g ω else g' ω
noncomputable def callX(m:List D->Option Str)(o:Option (List D)):Option Str:=o.bind m
noncomputable def isxR(tab:List (Str×Bool))(o:Option D):Option R:=o.bind λd=>match d with
 | .exc c=>(tab.lookup c).map λb=>.sh (.bl b)
 | _=>none
noncomputable def dropS(o:Option R)(ω:WSt):Option (Out×WSt):=o.map λ_=>(.nx,ω)
section
variable{f fh:FS}{g g':FX}{cs:List Str}{i:Nat}{ω w:WSt}{c:Str}{ft:FT}{fa:FA}{ds:List D}{fd:FD}{fe:FE}{o:Out}{r:R}
def q0W:sTry f g cs i fh ω=tryS (g ω) f cs i fh ω:=rfl
def qI:tryS none f cs i fh ω=f ω:=rfl
def qH(h:c∈cs):tryS (some c) f cs i fh ω=goS i (fh (ω.set i ↥(.exc c))):=vG h
def q1L:goS i (some (o,w))=some (o,w.set i none):=rfl
def q1M:yIf ft g g' ω=ifX (ft ω) g g' ω:=rfl
def q0q:ifX (some true) g g' ω=g ω:=rfl
def q0t:ifX (some false) g g' ω=g' ω:=rfl
def q1K:yNo ω=none:=rfl
def q05:zAb c ω=some c:=rfl
def q0s{m}:WF m fa ω=callX m (fa ω):=rfl
def zAD{m}:callX m (some ds)=m ds:=rfl
def q1O{tab}:zCO tab fd ω=isxR tab (fd ω):=rfl
def zAC{tab}:isxR tab (some (.exc c))=(tab.lookup c).map λb=>.sh (.bl b):=rfl
def q0u:zAi fe ω=dropS (fe ω) ω:=rfl
def zAJ:dropS (some r) ω=some (.nx,ω):=rfl
end
noncomputable def sTry0(f:FS)(g:FX)(cs:List Str)(fh:FS):FS:=λω=>match g ω with
 | some c=>if c∈cs then fh ω else none
 | none=>f ω
section
variable{X:Cx}
end
noncomputable def zCg(o:Option Str)(f:FS)(cs:List Str)(fh:FS)(ω:WSt):Option (Out×WSt):=match o with
 | some c=>if c∈cs then fh ω else none
 | none=>f ω
section
variable{f fh:FS}{g:FX}{cs:List Str}{ω:WSt}{c:Str}
def q1P:sTry0 f g cs fh ω=zCg (g ω) f cs fh ω:=rfl
def q0p:zCg none f cs fh ω=f ω:=rfl
def q0r(h:c∈cs):zCg (some c) f cs fh ω=fh ω:=vG h
end
def IsXs(K:zA)(Ts:List vC)(tab:List (Str×Bool)):Prop:=∀c b,tab.lookup c=some b->∃C,clsIn K c C/\(wD K C).isSome=true/\PySem.W.XCl K C/\Zf K (.ref C) (Ts.map Value.ref)=some b
def q9B{K:zA}{T:vC}{tab:List (Str×Bool)}(h:IsX K (.ref T) tab):IsXs K [T] tab:=λc b e=>by
 obtain⟨C,a1,a2,a3,a4⟩:=h c b e;refine⟨C,a1,a2,a3,?_⟩;show (match zw K (.ref C) (.ref T)with|some true=>some true|some false=>some false|none=>none)=some b;rw[a4];cases b <;> rfl
theorem q90{α:Type}:∀{tab:List (Str×α)}{c:Str}{b:α},tab.lookup c=some b->(c,b)∈tab
 | (d,x)::r,c,b,h=>by
  rw[xL]at h
  by_cases z:c=d
  ·rw[z,beq_self_eq_true]at h
   cases h;rw[z];exact zJ
  ·rw[beq_false_of_ne z]at h
   exact zI _ (q90 h)
noncomputable def orK(t s:List (Str×Bool))(q:Str×Bool):Bool:=match t.lookup q.1 with
 | some true=>q.2
 | some false=>s.lookup q.1==some q.2
 | none=>false
def q3V{K:zA}{T:vC}{Ts:List vC}{tab t s:List (Str×Bool)}(h:IsX K (.ref T) t)(hs:IsXs K Ts s)(hc:tab.all (orK t s)=true):IsXs K (T::Ts) tab:=λc b e=>by
 have q:=yz.mp hc _ (q90 e);unfold orK at q;simp only at q;cases z:t.lookup c with
 | none=>rw[z]at q;cases q
 | some bt=>
  obtain⟨C,a1,a2,a3,a4⟩:=h c bt z;refine⟨C,a1,a2,a3,?_⟩;show (match zw K (.ref C) (.ref T)with|some true=>some true|some false=>Zf K (.ref C) (Ts.map Value.ref)|none=>none)=some b;rw[z]at q;rw[a4];cases bt with
  | true=>
   have q':b=true:=q;rw[q']
  | false=>
   have q':s.lookup c=some b:=beq_iff_eq.mp q;obtain⟨C',b1,_,_,b4⟩:=hs c b q';have:C'=C:=by
    unfold clsIn at a1 b1;rw[a1]at b1;cases b1;rfl
   subst this;exact b4
def rIsxT(K:zA)(Ts:List vC):List V->Hp->VK->Prop:=λxs H Q=>∃a t C b,xs=[.ref a,.ref t]/\H a=some (.ext (excP a C))/\H t=some (.tup (Ts.map V.ref))/\(wD K C).isSome=true/\PySem.W.XCl K C/\Zf K (.ref C) (Ts.map Value.ref)=some b/\Q (.bl b) H
theorem q9x:∀{Ts:List vC}{us:List Value},Y3 (Ts.map V.ref) us->us=Ts.map Value.ref
 | [],us,h=>by cases h;rfl
 | T::r,us,h=>by
  cases h with
  | cons h1 h2=>rw[q9x h2];rw[show _=Value.ref T from h1];rfl
section
variable{X:Cx}{a:vW}{f:FD}
def qcC{Ts:List vC}:Xn X (.builtin "isinstance") (rIsxT X.K Ts):=by
 intro pins s σ H xs us Q I r z;obtain⟨p,t,C,b,rfl,e1,et,e2,e3,e4,q⟩:=z;obtain⟨u1,u2,rfl,r2,r3⟩:=vals2 r;cases (show u1=Value.ref p from r2);cases (show u2=Value.ref t from r3);have P:=I.hok p _ e1;obtain⟨P,_⟩:=P;obtain⟨_,its,rv,o,ho,oc,n,od⟩:=I.hok t _ et;cases q9x rv;obtain⟨c0,d0,dt,sl⟩:=o;cases oc;cases od;exact PySem.W.kia_tup (PySem.W.kitx_exc e2 e3) I.kIn P ho e4 (λz=>nomatch z) λtk=>⟨.bl b,H,I.tok tk,rfl,q⟩
noncomputable def zBW:List vC->TA
 | []=>zAp
 | T::r=>W8 (tC (.ref T)) (zBW r)
theorem q9m{σ:L2.St}{H:Hp}:∀{Ts:List vC}{Q:List V->Hp->Prop},Q (Ts.map V.ref) H->zBW Ts σ H Q
 | [],_,h=>h
 | T::r,Q,h=>by
  show zBW r σ H λxs H2=>Q (V.ref T::xs) H2;exact q9m h
def qa1{Ts:List vC}{tab:List (Str×Bool)}{es:List vW}{x1}{p q pos:Pos}(ha:XV X a f)(hT:PA X es (zBW Ts))(hl:Ts.length<=1000)(hk:IsXs X.K Ts tab)(hg:Gl X "isinstance")(hm:X.mg "isinstance" = none)(he:vJ [a,.Tuple es x1 q] X.env=(false,eval a X.env)::vJ [.Tuple es x1 q] X.env:=by rfl)(he2:vJ [.Tuple es x1 q] X.env=(false,eval (.Tuple es x1 q) X.env)::vJ [] X.env:=by rfl)(hpl:(vp pos (vJ [.Tuple es x1 q] X.env)).any (·.1)=false:=by rfl):
  XE X (.Call (.Name "isinstance" p) [a,.Tuple es x1 q] [] pos) (zCO tab f):=by
 obtain⟨t,h1,h2⟩:=ha;refine⟨_,q2J (qcC (Ts:=Ts)) hg hm PyProof.Rows.boot_isinstance (qo h1 (qo (qbC hT) qN he2) he) (by decide) (by decide) he hpl,λG0 H0 G ω σ H r Q o e k=>?_⟩;obtain⟨d,q,e⟩:=bnd e;refine h2 G0 H0 G ω σ H d _ o q λv G1 H1 x1 y1=>?_;cases d with
 | exc c=>
  cases z:tab.lookup c with
  | none=>
   have e':((tab.lookup c).map λb=>R.sh (.bl b))=some r:=e;rw[z]at e';cases e'
  | some b=>
   have e':((tab.lookup c).map λb=>R.sh (.bl b))=some r:=e;rw[z]at e';cases e';obtain⟨p,C,rfl,hc,hp⟩:=(show Rep X.K G1 (.exc c) v from y1.of_ne λ_ z=>by cases z);obtain⟨C',c1,c2,c3,c4⟩:=hk c b z;have:C'=C:=by
    unfold clsIn at c1;rw[hc]at c1;cases c1;rfl
   subst this;show zBW Ts σ H1 λxs H2=>xs.length<=sizeLine/\∀p',H2 p'=none->_;refine q9m ⟨by rw[zB,vo];omega,λt ht=>?_⟩;have x2:=Ext.hide x1.gh ht (.tup (Ts.map V.ref));exact⟨p,t,C',b,rfl,(x1.trans x2).gh _ _ hp,qe,c2,c3,c4,k _ G1 _ (x1.trans x2) rfl⟩
 | _=>cases e
def qfP{E:XK}{e:vW}{g:FX}{id:String}{r:List V->Hp->VK->Prop}{x:Str}{p pos:Pos}(hc:Xn X (.builtin id) r)(hg:Gl X x)(hm:X.mg x=none)(hv:ve x=some (.builtin id))(hy:YE X E e g)(hn:x ≠ "__name__" := by decide)(hdb:(x==("__debug__" : Str))=false:=by decide)(he:vJ [e] X.env=(false,eval e X.env)::vJ [] X.env:=by rfl)(hpl:(vp pos (vJ [] X.env)).any (·.1)=false:=by rfl):YE X E (.Call (.Name x p) [e] [] pos) g:=by
 obtain⟨t,h1,h2⟩:=hy;exact⟨_,q2J hc hg hm hv (qo h1 qN he) hn hdb he hpl,λG0 H0 G ω σ H Q c C o e hcl hw=>h2 G0 H0 G ω σ H _ c C o e hcl hw⟩
end
end Hk
namespace L2
open PySem PySem.Spec PyProof.Rows
section
variable{X:Cx}{pins:List (vC×Obj)}{σ:St}{H:Hp}{s:vB}{a:vC}{A:vZ}{E:Value->vB->Prop}{kvs:List (Key×V)}{k:Key}{u r:Value}{z:V}
def qda{Q:Value->vB->Prop}(I:Inv X pins σ H s)(e:H a=some (.dK kvs))(hz:kvs.length<sizeLine)(ry:RelV (kV k) u)(rz:RelV z r)(h1:∀v w' s',W0 kvs k=some v->Inv X pins σ H s'->RelV v w'->Q w' s')(h2:W0 kvs k=none->∀s',Inv X pins σ (upd H a (.dK (putK kvs k z))) s'->Q r s'):
  vL (model X.prog X.w) A (call (.builtin "dict.setdefault") [.ref a,u,r]) Q E s:=by
 obtain⟨zl,hd,vs,rel,dd⟩:=qaN I.hok e;have rv:=rel.val k;refine sK PySem.F.slot_dict_setdefault dd.typeIs PySem.F.entry_dict_setdefault (PySem.F.args_dict_setdefault_3 _ _ _) (kt_meets_setdefault (Yz X.prog X.w) a (q5g ry) hd r)
  ⟨vs,dd,by rw[<- rel.length];exact zl,λv hv=>?_,λhn h' dd' hs=>?_⟩
 ·rw[hv]at rv
  cases q:W0 kvs k with
  | none=>rw[q]at rv;exact rv.elim
  | some v0=>rw[q]at rv;exact h1 v0 v _ q (I.tok _) rv
 ·rw[hn]at rv
  cases q:W0 kvs k with
  | some v0=>rw[q]at rv;exact rv.elim
  | none=>
   refine h2 q _ ?_;have he:∃q,h'.get? a=some q:=let ⟨q,_,_,hq,_⟩:=dd';⟨q,hq⟩
   have hl:(putK kvs k z).length<=sizeLine:=by rw[qd7 z q,zD,zz];exact hz
   exact q6p I (by rw[e];exact True.intro) hs he (q9v hl hd (rel.put k rz) dd')
end
noncomputable def tDSd(td ty tx:TE):TE:=λσ H Q=>td σ H λx H1=>∃a,x=.ref a/\IsD H1 a/\ty σ H1 λy H2=>tx σ H2 λz H3=>∃kvs k,H3 a=some (.dK kvs)/\y=kV k/\kvs.length<sizeLine /\
 (∀v,W0 kvs k=some v->Q v H3)/\(W0 kvs k=none->Q z (upd H3 a (.dK (putK kvs k z))))
def qfn{X:Cx}{o e f:vW}{apos cpos:Pos}{td ty tx:TE}(ho:PE X o td)(he:PE X e ty)(hf:PE X f tx)(m:M2 X o "setdefault" apos e f cpos):PE X (.Call (.Attribute o "setdefault" apos) [e,f] [] cpos) (tDSd td ty tx):=by
 intro pins s σ H Q I h;refine wpAny_Call_method m.base m.few m.line PySem.F.plainAttrs_dict PySem.F.slot_dict_setdefault PySem.F.type_dict_setdefault (thn (ho pins s σ H _ I h) λu s1 ⟨x,H1,I1,rx,a,ex,d,q1⟩=>?_);subst ex;obtain rfl:u=Value.ref a:=rx;obtain⟨t1,t2,_⟩:=qbZ I1 d;refine⟨t1,t2,?_⟩;rw[m.trees];refine Calls.callWith_builtin rfl (Calls.evalArgs_plain (Calls.spliced_cons (thn (he pins s1 σ H1 _ I1 q1) λiv s2 ⟨y,H2,I2,ry,q2⟩=>
  Calls.spliced_cons (thn (hf pins s2 σ H2 _ I2 q2) λfv s3 ⟨z,H3,I3,rz,kvs,k,ea,ey,hz,g1,g2⟩=>Calls.spliced_nil ?_))))
 subst ey;exact qda I3 ea hz ry rz (λv w' s4 hv I4 rw'=>⟨v,H3,I4,rw',g1 v hv⟩) λhn s4 I4=>⟨z,_,I4,rz,g2 hn⟩
end L2
namespace Hk
open PySem L2
theorem q2D{α:Type}:∀{ks:List Int}{xs:List α}{k:Int},ks.length=xs.length->(Y6 ks xs k).isSome=decide (k∈ks)
 | [],[],k,_=>by simp[Y6]
 | [],_::_,_,h=>by simp at h
 | _::_,[],_,h=>by simp at h
 | k'::ks,x::xs,k,h=>by
  show (if k'=k then some x else Y6 ks xs k).isSome=_
  by_cases z:k'=k
  ·rw[vG z,vQ (by rw[z];exact zJ)];rfl
  ·rw[vH z,q2D ⇑h]
   have:(k∈k'::ks)↔k∈ks:=⟨λm=>(zF.mp m).resolve_left λe=>z e.symm,zI _⟩;rw[decide_eq_decide.mpr this]
theorem q86{α:Type}{v:α}:∀{ks:List Int}{xs:List α}{k:Int},ks.length=xs.length->k∉ks->Y6 (ks++[k]) (xs++[v]) k=some v
 | [],[],k,_,_=>vG rfl
 | [],_::_,_,h,_=>by simp at h
 | _::_,[],_,h,_=>by simp at h
 | k'::ks,x::xs,k,h,hk=>by
  show (if k'=k then some x else Y6 (ks++[k]) (xs++[v]) k)=some v;rw[vH (λz=>hk (by rw[z];exact zJ))];exact q86 ⇑h λm=>hk (zI _ m)
noncomputable def Xh(st:List Int×List (List Int))(n:Int)(a:Int):List Int×List (List Int) :=
 if a∈st.1 then (st.1,Wv st.1 st.2 a n)else (st.1++[a],Wv (st.1++[a]) (st.2++[[]]) a n)
noncomputable def byS(as:List (Int×Int)):Nat->List Int×List (List Int)
 | 0=>([],[])
 | n+1=>match as[n]? with
  | some a=>Xh (byS as n) n a.1
  | none=>byS as n
noncomputable def spT(K:zA):Sp:=λvs H Q _=>∃(G:Hp) (as:List (Int×Int)),Y1 G H/\Yt K G [.lst (as.map pairD2)] vs/\as.length<=9000 /\
 ∀G' p ls H',Ext G H G' H'->Tab G' H H' p (byS as as.length).1 ls (byS as as.length).2->Q (.ref p) H'
theorem qdP(as:List (Int×Int)):∀n:Nat,(byS as n).1.length<=n/\∀xs∈(byS as n).2,xs.length<=n
 | 0=>⟨zL _,λxs h=>by cases h⟩
 | n+1=>by
  obtain⟨h1,h2⟩:=qdP as n;unfold byS;cases q:as[n]? with
  | none=>exact⟨by show (byS as n).1.length<=_;omega,λxs hx=>by have:=h2 xs hx;omega⟩
  | some a=>
   show (Xh (byS as n) n a.1).1.length<=_/\∀xs∈(Xh (byS as n) n a.1).2,_;unfold Xh
   split
   ·exact⟨by show (byS as n).1.length<=_;omega,q51 n _ _ _ _ h2⟩
   ·refine⟨by show ((byS as n).1++[a.1]).length<=_;rw[zD,zz];omega,q51 n _ _ _ _ λxs hx=>?_⟩
    rcases zT.mp hx with y|y
    ·exact h2 xs y
    ·cases zb.mp y;exact yq _
section
variable{K:zA}{G0:Hp}{H0:Fr}{G:Hp}{ω:WSt}{σ:St}{H:Hp}
end
def noOw4{d0 d2 d3:Option D}:X6 [d0.map W.sh,none,d2.map W.sh,d3.map W.sh]:=by
 intro i w h
 match i,h with
 | 0,h=>cases d0 <;> cases h;exact⟨_,rfl⟩
 | 1,h=>cases h
 | 2,h=>cases d2 <;> cases h;exact⟨_,rfl⟩
 | 3,h=>cases d3 <;> cases h;exact⟨_,rfl⟩
 | i+4,h=>simp at h
section
variable{X:Cx}
def qea{ta:TE}{g0:FD}(k2:zBZ X.K ta g0){G0:Hp}{H0:Fr}{G:Hp}{ω:WSt}{σ:St}{H:Hp}{p:vC}{ks:List Int}{ls:List vC}{xss:List (List Int)}{a n:Int}{Q:VK}(o:Own X.K G0 H0 G ω σ H)(no:X6 ω)(s1:σ[1]?=some (some (.ref p)))(s2:σ[2]?=some (some (.int n)))(T:Tab G H0 H p ks ls xss)(h0:g0 ω=some (.int a))(hk:ks.length<1000000)(hz:∀xs∈xss,xs.length<1000000)(h:∀G' H' ls',Own X.K G0 H0 G' ω σ H'->Y1 G G'->Tab G' H0 H' p (Xh (ks,xss) n a).1 ls' (Xh (ks,xss) n a).2->Q .non H'):
  tBM X.K "list" Xx (tDSd (XZ 1) ta (zDA zAp)) (W8 (XZ 2) zAp) σ H Q:=by
 have hlen:ks.length=(ls.map V.ref).length:=by rw[zB];exact T.len
 refine⟨.ref p,s1,p,rfl,.inl ⟨_,.inl T.dict⟩,k2 G0 H0 G ω σ H _ _ o h0 λu G1 H1 x1 y1=>?_⟩;cases (show u=.int a from y1);have o1:=o.keep x1;have T1:=T.keep x1;refine⟨by show 0<=sizeLine;exact yq _,λq hq=>?_⟩;have hpq:p≠q:=λz=>by rw[<- z,T1.dict]at hq;cases hq
 have x2:=Ext.hide o1.gh hq (.lst []);have o2:=o1.keep x2;have T2:=T1.keep x2;have vv:W0 (kvsOf ks (ls.map V.ref)) (Sum.inl a:Key)=Y6 ks (ls.map V.ref) a:=q24 hlen a;refine⟨kvsOf ks (ls.map V.ref),Sum.inl a,T2.dict,rfl,by rw[q4K hlen,vo];omega,λv hv=>?_,λhn=>?_⟩
 ·
  have ha:a∈ks:=by
   have:=q2D (ks:=ks) (xs:=ls.map V.ref) (k:=a) hlen;rw[vv]at hv;rw[hv]at this;exact of_decide_eq_true this.symm
  obtain⟨l,xs,n1,n2,n3,n4,n5,n6⟩:=T2.app n ha;rw[vv,n3]at hv;cases hv;refine⟨.inl ⟨rfl,_,SqL.of n5⟩,.int n,s2,l,_,.int n,rfl,rfl,n5,by rw[zB,vo];have:=hz xs n2;omega,?_⟩;rw[show xs.map V.int++[V.int n]=(xs++[n]).map V.int by rw[zk];rfl];refine h G1 _ ls (o2.free no (T2.gl l n1).1 (T2.gl l n1).2) x1.gg ?_;unfold Xh;rw[vG ha];exact n6
 ·have ha:a∉ks:=λha=>by
   have:=q2D (ks:=ks) (xs:=ls.map V.ref) (k:=a) hlen;rw[vv]at hn;rw[hn,vQ ha]at this;cases this
  obtain⟨H4,_,e4,T4⟩:=T1.put (l:=q) ha hq o1.gh o1.ext.hh hk;have ep:putK (kvsOf ks (ls.map V.ref)) (Sum.inl a) (.ref q)=kvsOf (ks++[a]) ((ls++[q]).map V.ref):=by
   rw[q5L hlen];unfold Wg putA;rw[vH ha,vH ha,zk];rfl
  rw[ep,<- e4];have gp:=T1.gp;have gq:G1 q=none:=o1.gh.free hq;have h0q:H0 q=none:=o1.ext.hh.free hq;have o4:Own X.K G0 H0 G1 ω σ H4:=by rw[e4];exact o2.free no T1.gp T1.hp
  obtain⟨l,xs,n1,n2,n3,n4,n5,n6⟩:=T4.app n (a:=a) (by simp);have hq4:H4 q=some (.lst []):=by rw[e4,qc (Ne.symm hpq)];exact qe
  have lq:l=q:=by
   have:Y6 (ks++[a]) ((ls++[q]).map V.ref) a=some (.ref q):=by
    rw[zk];exact q86 hlen ha
   rw[this]at n3;cases n3;rfl
  subst lq;rw[hq4]at n5;have xe:xs=[]:=by
   cases xs with
   | nil=>rfl
   | cons y ys=>cases n5
  subst xe;refine⟨.inl ⟨rfl,_,SqL.of hq4⟩,.int n,s2,l,_,.int n,rfl,rfl,hq4,by show 0<sizeLine;rw[vo];omega,?_⟩;refine h G1 _ (ls++[l]) (o4.free no gq h0q) x1.gg ?_;unfold Xh;rw[vH ha];exact n6
def qeF{x1 x2 x3:Str}{o0 o1 e0 e1 e2:vW}{q1 q2 q3 q4 q5 q6 q9 q12 q15 a1 a2 c1 c2 ep ec tp:Pos}{kx}{g0:FD}(hp:tK (model X.prog X.w) X.A X.env X.xe)(hc:X.calm=true)(hN:X.N.Nodup)(i1:X.N[1]?=some x1)(i2:X.N[2]?=some x2)(i3:X.N[3]?=some x3)(l1:Loc X.env.scope x1)(l2:Loc X.env.scope x2)(l3:Loc X.env.scope x3)(f1:X.fn x1=true\/X.env.scope.names.lookup x1=some .local)(f2:X.fn x2=true\/X.env.scope.names.lookup x2=some .local)(f3:X.fn x3=true\/X.env.scope.names.lookup x3=some .local)(hge:Gl X "enumerate")(hme:X.mg "enumerate" = none)(h0:PE X o0 (XZ 0))(h1:PE X o1 (XZ 1))(h2:PE X e1 (XZ 2))(h3:PE X e2 (XZ 1))(ha:XD X e0 g0)(hg0:∀(ω:WSt)e,ω[3]?=some (some (.sh (pairD2 e)))->g0 ω=some (.int e.1))(hl:X.N.length=4)(m2:M2 X o1 "setdefault" a1 e0 (.List [] q4) c1)(s1:vy (.Dict [] [] q1) (some (.Name x1 q2)) q3.line X.env=pure false)(sE:vJ [o0] X.env=[(false,eval o0 X.env)])(ab:uN (.Call (.Attribute o1 "setdefault" a1) [e0,.List [] q4] [] c1) "append" X.env (eval (.Call (.Attribute o1 "setdefault" a1) [e0,.List [] q4] [] c1) X.env)=eval (.Call (.Attribute o1 "setdefault" a1) [e0,.List [] q4] [] c1) X.env)(w1:((vp c2 (vJ [e1] X.env)).all (λx=>!x.1)&&(tL c2 (ug [] X.env)).all (λx=>x.1.isSome)&&decide (([e1]:List vW).length+([]:List uU).length+(if ([]:List uU).isEmpty then 0 else 1)<30))=true)(z1:(a2.endLine==c2.line)=true)(t1:vJ [e1] X.env=(false,eval e1 X.env)::vJ [] X.env)(p1:(vp c2 (vJ [] X.env)).any (·.1)=false)(v1:vy (.Call (.Attribute (.Call (.Attribute o1 "setdefault" a1) [e0,.List [] q4] [] c1) "append" a2) [e1] [] c2) none q9.line X.env=pure false)(pg:∀t,PGs X [.Name x2 q5,.Name x3 q6] t->PG X (.Tuple [.Name x2 q5,.Name x3 q6] kx tp) (gTup X.K 2 t))(y1:∀x,vt (.Call (.Name "enumerate" ep) [o0] [] ec) X.env x=pure x){vs:List V}{H:Hp}{Q:VK}{E:XK}(sp:spT X.K vs H Q E):
  ∃t,PSs X [.Assign [.Name x1 q2] (.Dict [] [] q1) q3,.For (.Tuple [.Name x2 q5,.Name x3 q6] kx tp) (.Call (.Name "enumerate" ep) [o0] [] ec) [.Expr (.Call (.Attribute (.Call (.Attribute o1 "setdefault" a1) [e0,.List [] q4] [] c1) "append" a2) [e1] [] c2) q9] [] q12,.Return (some e2) q15] t /\
   t { nx:=λ_ H'=>Q .non H',rt:=Q } (L2.start X.N vs) H:=by
 obtain⟨ta,k1,k2⟩:=ha;refine⟨_,q0k (q2m hN i1 l1 q8V s1 f1) (q0k (q7v hp hc (qaI hge hme (qo h0 qN sE) sE) (pg _ (q6X (q56 hN i2 l2 f2) (q6X (q56 hN i3 l3 f3) qaC)))
  (q2F (q30 (q5x PySem.F.plainAttrs_list PySem.F.slot_list_append PySem.F.type_list_append q2W (qfn h1 k1 (q4p qN) m2) (qo h2 qN t1) ab w1 z1 t1 p1) v1)) y1) (q2F (q57 h3))),?_⟩
 obtain⟨G,as,sg,rp,hlen,fin⟩:=sp;obtain⟨v0,rfl,A0,vs0,rfl,r1,r2⟩:=rp.one;have hl0:as.length=vs0.length:=by have:=r2.len;rw[zB]at this;exact this
 have hst:L2.start X.N [V.ref A0]=[some (.ref A0),none,none,none]:=by
  unfold L2.start;rw[hl];rfl
 rw[hst];intro p hp0;have no0:X6 [some (W.sh (.lst (as.map pairD2))),none,none,none]:=noOw4 (d0:=some (.lst (as.map pairD2))) (d2:=none) (d3:=none);have o0:Own X.K G (fr H) G [some (W.sh (.lst (as.map pairD2))),none,none,none] [some (.ref A0),none,none,none] H:=by
  refine⟨Ext.refl sg,rfl,λi d h=>?_,λi ds h=>vK h (no0.ow i ds),λi j ds es l h=>vK h (no0.ow i ds),λi ks ds h=>vK h (no0.od i ks ds),Xo.no no0.pw⟩
  match i,h with
  | 0,h=>cases h;exact⟨_,rfl,A0,vs0,rfl,r1,r2⟩
  | 1,h=>cases h
  | 2,h=>cases h
  | 3,h=>cases h
  | i+4,h=>simp at h
 have o1:Own X.K G (fr H) G [some (W.sh (.lst (as.map pairD2))),none,none,none] [some (.ref A0),some (.ref p),none,none] (upd H p (.dK [])):=(o0.free no0 (sg.free hp0) hp0).other (i:=1) no0 λw z=>by cases z
 have T0:Tab G H (upd H p (.dK [])) p (byS as 0).1 [] (byS as 0).2:=⟨qe,sg.free hp0,hp0,rfl,rfl,λj l xs h=>(by simp at h),λl h=>(by cases h),Ze⟩;refine⟨.ref A0,rfl,A0,vs0,rfl,SqL.of (o1.gh _ _ r1),λi m σ' H'=>∃(G':Hp) (ls:List vC) (y2 y3:Option D),Own X.K G (fr H) G' [some (W.sh (.lst (as.map pairD2))),none,y2.map W.sh,y3.map W.sh] σ' H'/\Y1 G G'/\σ'[1]?=some (some (.ref p))/\Tab G' H H' p (byS as i).1 ls (byS as i).2/\i<=as.length/\m=as.length-i,
  ⟨_,G,[],none,none,o1,Y1.refl _,rfl,T0,yq _,rfl⟩,?_⟩
 rintro i m σ' H' ⟨G',ls,y2,y3,o2,g2,s12,T2,hi,rfl⟩;have hq:=o2.gh _ _ (g2 _ _ r1)
 by_cases hlt:i<as.length
 ·refine .inr ⟨⟨vs0,vs0[i]'∅,SqL.of hq,zG _⟩,λσ3 H3=>∃(G':Hp) (ls:List vC) (y2 y3:Option D),Own X.K G (fr H) G' [some (W.sh (.lst (as.map pairD2))),none,y2.map W.sh,y3.map W.sh] σ3 H3/\Y1 G G'/\σ3[1]?=some (some (.ref p))/\Tab G' H H3 p (byS as (i+1)).1 ls (byS as (i+1)).2,
   λσ3 H3 ⟨G3,ls3,z2,z3,b1,b2,b3,b4⟩=>⟨as.length-(i+1),∅,G3,ls3,z2,z3,b1,b2,b3,b4,hlt,rfl⟩,λx H3 hy=>?_⟩
  obtain⟨t,w1',ht,rfl,rfl,hy⟩:=hy;have hy:=hy _ (SqL.of hq);have x3:=Ext.hide o2.gh ht (.tup [.int i,w1']);have o3:=o2.keep x3;have T3:=T2.keep x3;refine⟨t,_,rfl,SqT.of qe,rfl,.int i,_,rfl,?_⟩;refine⟨w1',_,rfl,rfl,?_⟩;obtain⟨u,e1,e2⟩:=r2.get (i:=i) (d:=pairD2 as[i]) (by rw[zh,zG hlt];rfl);rw[hy]at e1;cases e1;have o4:=(o3.setSh (i:=2) (d:=.int i) (v:=.int i) rfl).setSh (i:=3) (d:=pairD2 as[i]) (v:=w1') (e2.mono g2);have o4':Own X.K G (fr H) G' [some (W.sh (.lst (as.map pairD2))),none,(some (D.int i)).map W.sh,(some (pairD2 as[i])).map W.sh] ((σ'.set 2 (some (.int i))).set 3 (some w1')) (upd H' t (.tup [.int i,w1'])):=o4;have hl4:σ'.length=4:=o2.len.symm;have bd:=qdP as i;refine qea k2 o4' (noOw4 (d0:=some (.lst (as.map pairD2))) (d2:=some _) (d3:=some _)) (by rw[zH (by decide),zH (by decide)];exact s12) (by rw[zH (by decide)];exact yr (by rw[hl4];decide)) T3 (hg0 _ as[i] rfl) ∅ (λxs hx=>by have:=bd.2 xs hx;omega) λG5 H5 ls5 o5 g5 T5=>?_;have eb:byS as (i+1)=Xh (byS as i) i as[i].1:=by
   show (match as[i]? with|some a=>Xh (byS as i) i a.1|none=>byS as i)=_;rw[zG hlt]
  refine⟨G5,ls5,_,_,o5,g2.trans g5,by rw[zH (by decide),zH (by decide)];exact s12,?_⟩;rw[eb];exact T5
 ·have en:i=as.length:=∅
  subst en;refine .inl ⟨⟨vs0,SqL.of hq,yL ∅⟩,.ref p,s12,fin G' p ls H' ?_ T2⟩;exact⟨g2,o2.ext.gh,o2.ext.hh,o2.ext.new⟩
end
noncomputable def Xw:List Int->List (List Int)->Int->List (List Int)
 | k::ks,x::xs,a=>if k=a then x.dropLast::xs else x::Xw ks xs a
 | _,xs,_=>xs
noncomputable def Xl(ks:List Int)(xss:List (List Int))(h:Int):List Int:=(Y6 ks xss h).getD []
theorem q7G:∀{ks:List Int}{ls:List vC}{a:Int},ks.length=ls.length->a∈ks->∃(j:Nat) (l:vC),ls[j]?=some l/\Y6 ks (ls.map V.ref) a=some (.ref l)/\∀(xss:List (List Int)),xss.length=ls.length->∃xs,xss[j]?=some xs/\Y6 ks xss a=some xs/\Xw ks xss a=xss.set j xs.dropLast
 | [],_,_,_,h=>by simp at h
 | _::_,[],_,h,_=>by simp at h
 | k::ks,l::ls,a,h,ha=>by
  by_cases z:k=a
  ·refine⟨0,l,rfl,vG z,λxss hx=>?_⟩
   cases xss with
   | nil=>simp at hx
   | cons x xs=>exact⟨x,rfl,vG z,vG z⟩
  ·have ha':a∈ks:=(zF.mp ha).resolve_left λe=>z e.symm
   obtain⟨j,l',e2,e3,e4⟩:=q7G (ks:=ks) (ls:=ls) ⇑h ha';refine⟨j+1,l',e2,?_,λxss hx=>?_⟩
   ·show (if k=a then _ else _)=_
    rw[vH z];exact e3
   ·cases xss with
    | nil=>simp at hx
    | cons x xs=>
     obtain⟨y,h1,h2,h3⟩:=e4 xs ⇑hx;refine⟨y,h1,?_,?_⟩
     ·show (if k=a then _ else _)=_
      rw[vH z];exact h2
     ·show (if k=a then _ else x::Xw ks xs a)=_
      rw[vH z,h3];rfl
def Tab.pop{G H0 H:Hp}{p:vC}{ks:List Int}{ls:List vC}{xss:List (List Int)}(T:Tab G H0 H p ks ls xss){a:Int}(ha:a∈ks):
  ∃(l:vC) (xs:List Int),l∈ls/\Y6 ks xss a=some xs/\zAZ H p (.int a) (some (.ref l))/\H l=some (.lst (xs.map V.int))/\Tab G H0 (upd H l (.lst (xs.dropLast.map V.int))) p ks ls (Xw ks xss a):=by
 obtain⟨j,l,e2,e3,e4⟩:=q7G T.len ha;obtain⟨xs,e5,e7,e6⟩:=e4 xss T.len2.symm;have hl:l∈ls:=xP e2;have hlp:p≠l:=λz=>T.pl (z▸hl);have g:=zAZ.k (k:=(Sum.inl a:Key)) T.dict;rw[q24 (by rw[zB];exact T.len),e3]at g;refine⟨l,xs,hl,e7,g,T.lst j l xs e2 e5,?_⟩;rw[e6];refine⟨by rw[qc hlp];exact T.dict,T.gp,T.hp,T.len,by rw[yp];exact T.len2,λi m ys h1 h2=>?_,T.gl,T.nd⟩;rcases qd h2 with⟨rfl,_,rfl⟩|⟨ne,h3⟩
 ·rw[e2]at h1
  cases h1;exact qe
 ·have hm:m≠l:=λz=>by
   subst z;obtain⟨i1,i2⟩:=yF.mp h1;obtain⟨j1,j2⟩:=yF.mp e2;exact ne ((wf T.nd).mp (j2.trans i2.symm))
  rw[qc hm];exact T.lst i m ys h1 h3
def Tab.beside{G H0 H:Hp}{p q:vC}{ob:HO}{ks:List Int}{ls:List vC}{xss:List (List Int)}(T:Tab G H0 H p ks ls xss)(h1:q≠p)(h2:q∉ls):Tab G H0 (upd H q ob) p ks ls xss :=
 ⟨by rw[qc (Ne.symm h1)];exact T.dict,T.gp,T.hp,T.len,T.len2,λj l xs e1 e2=>by
  have hn:l≠q:=λz=>h2 (by rw[<- z];exact xP e1);rw[qc hn];exact T.lst j l xs e1 e2,T.gl,T.nd⟩
noncomputable def Xt(as:List (Int×Int))(ks:List Int):Nat->List (List Int)->List Int->List Int->Int->Option (List Int)
 | 0,_,_,_,_=>none
 | n+1,xss,T,B,h=>match (Xl ks xss h).getLast? with
  | some k=>if 0<=k/\k<as.length/\T.length<1000000 then Xt as ks n (Xw ks xss h) (T++[k]) B (as.getD k.toNat (0,0)).2 else none
  | none=>match T.getLast? with
   | some k=>if 0<=k/\k<as.length/\B.length<1000000 then Xt as ks n xss T.dropLast (B++[k]) (as.getD k.toNat (0,0)).1 else none
   | none=>some B.reverse
structure RfS (K:zA) (G0:Hp) (H0:Fr) (G:Hp) (s:Int) (as:List (Int×Int)) (p t b:vC) (ks:List Int) (ls:List vC) (xss:List (List Int)) (T B:List Int) (h:Int) (y:Option D) (σ:St) (H:Hp):Prop where
 o:Own K G0 H0 G [some (W.sh (.int s)),↥(.lst (as.map pairD2)),none,none,none,↥(.int h),y.map W.sh] σ H
 s2:σ[2]?=some (some (.ref p))
 s3:σ[3]?=some (some (.ref t))
 s4:σ[4]?=some (some (.ref b))
 s5:σ[5]?=some (some (.int h))
 tab:Tab G H0 H p ks ls xss
 ht:H t=some (.lst (T.map V.int))
 gt:G t=none
 ht0:H0 t=none
 hb:H b=some (.lst (B.map V.int))
 gb:G b=none
 hb0:H0 b=none
 tb:t≠b
 tl:t∉ls
 bl:b∉ls
def noOw7{d0 d1 d5 d6:Option D}:X6 [d0.map W.sh,d1.map W.sh,none,none,none,d5.map W.sh,d6.map W.sh]:=by
 intro i w h
 match i,h with
 | 0,h=>cases d0 <;> cases h;exact⟨_,rfl⟩
 | 1,h=>cases d1 <;> cases h;exact⟨_,rfl⟩
 | 2,h=>cases h
 | 3,h=>cases h
 | 4,h=>cases h
 | 5,h=>cases d5 <;> cases h;exact⟨_,rfl⟩
 | 6,h=>cases d6 <;> cases h;exact⟨_,rfl⟩
 | i+7,h=>simp at h
section
variable{K:zA}{G0:Hp}{H0:Fr}{G:Hp}{s:Int}{as:List (Int×Int)}{p t b:vC}{ks:List Int}{ls:List vC}{xss:List (List Int)}{T B:List Int}{h:Int}{y:Option D}{σ:St}{H:Hp}
def RfS.no(S:RfS K G0 H0 G s as p t b ks ls xss T B h y σ H):X6 [some (W.sh (.int s)),↥(.lst (as.map pairD2)),none,none,none,↥(.int h),y.map W.sh] :=
 noOw7 (d0:=some (.int s)) (d1:=some (.lst (as.map pairD2))) (d5:=some (.int h)) (d6:=y)
theorem RfS.keep{G' H':Hp}(S:RfS K G0 H0 G s as p t b ks ls xss T B h y σ H)(x:Ext G H G' H'):RfS K G0 H0 G' s as p t b ks ls xss T B h y σ H' :=
 ⟨S.o.keep x,S.s2,S.s3,S.s4,S.s5,S.tab.keep x,x.hh _ _ S.ht,x.new t S.gt (by rw[S.ht];exact λz=>by cases z),S.ht0,x.hh _ _ S.hb,x.new b S.gb (by rw[S.hb];exact λz=>by cases z),S.hb0,S.tb,S.tl,S.bl⟩
def RfS.tp(S:RfS K G0 H0 G s as p t b ks ls xss T B h y σ H):t≠p/\b≠p:=by
 have h1:=S.ht;have h2:=S.hb;have h3:=S.tab.dict;refine⟨λz=>?_,λz=>?_⟩
 ·rw[z,h3]at h1;cases h1
 ·rw[z,h3]at h2;cases h2
def RfS.setT{T':List Int}(S:RfS K G0 H0 G s as p t b ks ls xss T B h y σ H):RfS K G0 H0 G s as p t b ks ls xss T' B h y σ (upd H t (.lst (T'.map V.int))) :=
 ⟨S.o.free S.no S.gt S.ht0,S.s2,S.s3,S.s4,S.s5,S.tab.beside S.tp.1 S.tl,qe,S.gt,S.ht0,by rw[qc (Ne.symm S.tb)];exact S.hb,S.gb,S.hb0,S.tb,S.tl,S.bl⟩
def RfS.setB{B':List Int}(S:RfS K G0 H0 G s as p t b ks ls xss T B h y σ H):RfS K G0 H0 G s as p t b ks ls xss T B' h y σ (upd H b (.lst (B'.map V.int))) :=
 ⟨S.o.free S.no S.gb S.hb0,S.s2,S.s3,S.s4,S.s5,S.tab.beside S.tp.2 S.bl,by rw[qc S.tb];exact S.ht,S.gt,S.ht0,qe,S.gb,S.hb0,S.tb,S.tl,S.bl⟩
theorem RfS.len(S:RfS K G0 H0 G s as p t b ks ls xss T B h y σ H):σ.length=7:=S.o.len.symm
def RfS.setN(S:RfS K G0 H0 G s as p t b ks ls xss T B h y σ H)(k:Int):RfS K G0 H0 G s as p t b ks ls xss T B h (some (.int k)) (σ.set 6 (some (.int k))) H :=
 ⟨S.o.setSh (i:=6) (d:=.int k) (v:=.int k) rfl,by rw[zH (by decide)];exact S.s2,by rw[zH (by decide)];exact S.s3,by rw[zH (by decide)];exact S.s4,by rw[zH (by decide)];exact S.s5,S.tab,S.ht,S.gt,S.ht0,S.hb,S.gb,S.hb0,S.tb,S.tl,S.bl⟩
def RfS.setH(S:RfS K G0 H0 G s as p t b ks ls xss T B h y σ H)(k:Int):RfS K G0 H0 G s as p t b ks ls xss T B k y (σ.set 5 (some (.int k))) H :=
 ⟨S.o.setSh (i:=5) (d:=.int k) (v:=.int k) rfl,by rw[zH (by decide)];exact S.s2,by rw[zH (by decide)];exact S.s3,by rw[zH (by decide)];exact S.s4,yr (by rw[S.len];decide),S.tab,S.ht,S.gt,S.ht0,S.hb,S.gb,S.hb0,S.tb,S.tl,S.bl⟩
def RfS.popW(S:RfS K G0 H0 G s as p t b ks ls xss T B h y σ H){l:vC}{H':HO}(hl:l∈ls){xss':List (List Int)}(T':Tab G H0 (upd H l H') p ks ls xss'):RfS K G0 H0 G s as p t b ks ls xss' T B h y σ (upd H l H') :=
 have n1:t≠l:=λz=>S.tl (by rw[z];exact hl);have n2:b≠l:=λz=>S.bl (by rw[z];exact hl)
 ⟨S.o.free S.no (S.tab.gl l hl).1 (S.tab.gl l hl).2,S.s2,S.s3,S.s4,S.s5,T',by rw[qc n1];exact S.ht,S.gt,S.ht0,by rw[qc n2];exact S.hb,S.gb,S.hb0,S.tb,S.tl,S.bl⟩
def qbM(S:RfS K G0 H0 G s as p t b ks ls xss T B h y σ H){Q:Bool->Hp->Prop}(q:∀H',RfS K G0 H0 G s as p t b ks ls xss T B h y σ H'->Q (!(Xl ks xss h).isEmpty) H'):
  (zBp (XZ 2) (XZ 5) (zDA zAp)) σ H λx H'=>∃k,TruV K x H' k/\Q k H':=by
 refine⟨.ref p,S.s2,p,rfl,.inl ⟨_,.inl S.tab.dict⟩,.int h,S.s5,by show 0<=sizeLine;exact yq _,λr hr=>?_⟩;have S1:=S.keep (Ext.hide S.o.gh hr (.lst []));have hlen:ks.length=(ls.map V.ref).length:=by rw[zB];exact S.tab.len
 have g:=zAZ.k (k:=(Sum.inl h:Key)) S1.tab.dict;rw[q24 hlen]at g;refine⟨_,g,?_⟩
 by_cases hk:h∈ks
 ·obtain⟨l,xs,e1,e2,e3,e4,_⟩:=S1.tab.pop hk
  have ev:Y6 ks (ls.map V.ref) h=some (.ref l):=by
   obtain⟨j,l',f2,f3,f4⟩:=q7G S.tab.len hk;obtain⟨xs',f5,f7,f6⟩:=f4 xss S.tab.len2.symm;have g2:=zAZ.k (k:=(Sum.inl h:Key)) S1.tab.dict;rw[q24 hlen,f3]at g2;rcases e3 with⟨kvs,k,d1,d2,d3⟩|⟨kvs,k,b,d1,d2,_⟩
   ·rcases d1 with d1|⟨ob,d1⟩
    ·rw[S1.tab.dict]at d1
     cases d1;cases k with
     | inl i=>cases d2;rw[q24 hlen]at d3;exact d3.symm
     | inr x=>cases d2
    ·rw[S1.tab.dict]at d1;cases d1
   ·cases d2
  rw[ev];refine⟨!xs.isEmpty,?_,?_⟩
  ·refine .inl ⟨_,SqL.of e4,?_⟩
   rw[List.isEmpty_map]
  ·have:Xl ks xss h=xs:=by unfold Xl;rw[e2];rfl
   rw[<- this];exact q _ S1
 ·have ev:Y6 ks (ls.map V.ref) h=none:=by
   have:=q2D (ks:=ks) (xs:=ls.map V.ref) (k:=h) hlen;rw[vX hk]at this;cases z:Y6 ks (ls.map V.ref) h with
   | none=>rfl
   | some v=>rw[z]at this;cases this
  have ev2:Xl ks xss h=[]:=by
   have:=q2D (ks:=ks) (xs:=xss) (k:=h) (by rw[S.tab.len];exact S.tab.len2);rw[vX hk]at this;unfold Xl;cases z:Y6 ks xss h with
   | none=>rfl
   | some v=>rw[z]at this;cases this
  rw[ev];refine⟨false,?_,by have:=q _ S1;rw[ev2]at this;exact this⟩;exact .inl ⟨_,SqL.of qe,rfl⟩
end
noncomputable def trT(K:zA)(t:TE):TT:=λσ H Q=>t σ H λx H'=>∃k,TruV K x H' k/\Q k H'
noncomputable def zCf:TE:=zBp (XZ 2) (XZ 5) (zDA zAp)
noncomputable def zBd(K:zA)(td:TE):TS:=zBN (zA9 (tBM0 K "list" rPop (zCu (XZ 2) (XZ 5))) (Xy 6)) (zBN (zBy (tBM K "list" Xx (XZ 3) (W8 (XZ 6) zAp))) (zA9 td (Xy 5)))
noncomputable def zBw(K:zA)(td:TE):TS:=zBN (zA9 (tBM0 K "list" rPop (XZ 3)) (Xy 6)) (zBN (zBy (tBM K "list" Xx (XZ 4) (W8 (XZ 6) zAp))) (zA9 td (Xy 5)))
section
variable{K:zA}{G0:Hp}{H0:Fr}{G:Hp}{s:Int}{as:List (Int×Int)}{p t b:vC}{ks:List Int}{ls:List vC}{xss:List (List Int)}{T B:List Int}{h:Int}{y:Option D}{σ:St}{H:Hp}
def q8b{xs:List Int}{k:Int}(e:xs.getLast?=some k):(xs.map V.int)[(xs.map V.int).length-1]?=some (.int k)/\(xs.map V.int).dropLast=xs.dropLast.map V.int:=by
 rw[List.getLast?_eq_getElem?]at e;refine⟨by rw[zB,zh,e];rfl,by rw[List.map_dropLast]⟩
def RfS.s6(S:RfS K G0 H0 G s as p t b ks ls xss T B h y σ H)(k:Int):(σ.set 6 (some (.int k)))[6]?=some (some (.int k)):=yr (by rw[S.len];decide)
def qe9{td:TE}{f:FD}(hd:zBZ K td f)(hf:∀(ω:WSt)(k:Int),ω[1]?=some ↥(.lst (as.map pairD2))->ω[6]?=some ↥(.int k)->0<=k->k<as.length->f ω=some (.int (as.getD k.toNat (0,0)).2))(S:RfS K G0 H0 G s as p t b ks ls xss T B h y σ H){k:Int}(e:(Xl ks xss h).getLast?=some k)(k0:0<=k)(k1:k<as.length)(hT:T.length<1000000){D0:Ends}(q:∀G' σ' H',RfS K G0 H0 G' s as p t b ks ls (Xw ks xss h) (T++[k]) B (as.getD k.toNat (0,0)).2 (some (.int k)) σ' H'->D0.nx σ' H'):zBd K td D0 σ H:=by
 have hk:h∈ks:=by
  have:=q2D (ks:=ks) (xs:=xss) (k:=h) (by rw[S.tab.len];exact S.tab.len2);unfold Xl at e;cases z:Y6 ks xss h with
  | none=>rw[z]at e;cases e
  | some v=>rw[z]at this;exact of_decide_eq_true this.symm
 obtain⟨l,xs,e1,e2,e3,e4,e5⟩:=S.tab.pop hk;have ex:xs.getLast?=some k:=by unfold Xl at e;rw[e2]at e;exact e
 obtain⟨m1,m2⟩:=q8b ex;refine⟨.ref p,S.s2,.int h,S.s5,p,.ref l,rfl,e3,.inl ⟨rfl,_,SqL.of e4⟩,l,_,.int k,rfl,rfl,e4,m1,?_⟩;rw[m2];have S1:=(S.popW e1 e5).setN k;show zBN (zBy (tBM K "list" Xx (XZ 3) (W8 (XZ 6) zAp))) (zA9 td (Xy 5)) D0 (σ.set 6 (some (.int k))) _;refine⟨.ref t,S1.s3,.inl ⟨rfl,_,SqL.of S1.ht⟩,.int k,S.s6 k,t,_,.int k,rfl,rfl,S1.ht,by rw[zB,vo];omega,?_⟩;rw[show T.map V.int++[V.int k]=(T++[k]).map V.int by rw[zk];rfl];have S2:=S1.setT (T':=T++[k]);show td _ _ _;refine hd G0 H0 G _ _ _ _ _ S2.o (hf _ k rfl rfl k0 k1) λu G1 H1 x1 y1=>?_;cases (show u=.int _ from y1);exact q G1 _ H1 ((S2.keep x1).setH _)
def qei{td:TE}{f:FD}(hd:zBZ K td f)(hf:∀(ω:WSt)(k:Int),ω[1]?=some ↥(.lst (as.map pairD2))->ω[6]?=some ↥(.int k)->0<=k->k<as.length->f ω=some (.int (as.getD k.toNat (0,0)).1))(S:RfS K G0 H0 G s as p t b ks ls xss T B h y σ H){k:Int}(e:T.getLast?=some k)(k0:0<=k)(k1:k<as.length)(hB:B.length<1000000){D0:Ends}(q:∀G' σ' H',RfS K G0 H0 G' s as p t b ks ls xss T.dropLast (B++[k]) (as.getD k.toNat (0,0)).1 (some (.int k)) σ' H'->D0.nx σ' H'):zBw K td D0 σ H:=by
 obtain⟨m1,m2⟩:=q8b e;refine⟨.ref t,S.s3,.inl ⟨rfl,_,SqL.of S.ht⟩,t,_,.int k,rfl,rfl,S.ht,m1,?_⟩;rw[m2];have S1:=(S.setT (T':=T.dropLast)).setN k;show zBN (zBy (tBM K "list" Xx (XZ 4) (W8 (XZ 6) zAp))) (zA9 td (Xy 5)) D0 (σ.set 6 (some (.int k))) _;refine⟨.ref b,S1.s4,.inl ⟨rfl,_,SqL.of S1.hb⟩,.int k,S.s6 k,b,_,.int k,rfl,rfl,S1.hb,by rw[zB,vo];omega,?_⟩;rw[show B.map V.int++[V.int k]=(B++[k]).map V.int by rw[zk];rfl];have S2:=S1.setB (B':=B++[k]);show td _ _ _;refine hd G0 H0 G _ _ _ _ _ S2.o (hf _ k rfl rfl k0 k1) λu G1 H1 x1 y1=>?_;cases (show u=.int _ from y1);exact q G1 _ H1 ((S2.keep x1).setH _)
end
noncomputable def tRF(K:zA)(E:XK)(td1 td0:TE):TS :=
 zBN (zA9 (tCall (spT K) [] E (W8 (XZ 1) zAp)) (Xy 2)) (zBN (zA9 (zDA zAp) (Xy 3)) (zBN (zA9 (zDA zAp) (Xy 4)) (zBN (zA9 (XZ 0) (Xy 5))
  (zBN (zBV (tOr (trT K (XZ 3)) (trT K zCf)) (tIfS (trT K zCf) (zBd K td1) (zBw K td0))) (tRet (tCB rLR (W8 (XZ 4) zAp)))))))
noncomputable def zAH(s:Int)(as:List (Int×Int)):Option (List Int):=if as.length<=9000 then Xt as (byS as as.length).1 100000 (byS as as.length).2 [] [] s else none
noncomputable def mRF:List D->Option O
 | [.int s,.lst ds]=>(pairsOf ds).bind λas=>(zAH s as).map λrow=>.fr (row.map D.int)
 | _=>none
def qgn{K:zA}{E E':XK}{td1 td0:TE}{f1 f0:FD}(h1:zBZ K td1 f1)(h0:zBZ K td0 f0)(hf1:∀(as:List (Int×Int))(ω:WSt)(k:Int),ω[1]?=some ↥(.lst (as.map pairD2))->ω[6]?=some ↥(.int k)->0<=k->k<as.length->f1 ω=some (.int (as.getD k.toNat (0,0)).2))(hf0:∀(as:List (Int×Int))(ω:WSt)(k:Int),ω[1]?=some ↥(.lst (as.map pairD2))->ω[6]?=some ↥(.int k)->0<=k->k<as.length->f0 ω=some (.int (as.getD k.toNat (0,0)).1)){N:List Str}(hN:N.length=7){vs:List V}{H:Hp}{Q:VK}(sp:spD K 2 mRF vs H Q E'):tRF K E td1 td0 { nx:=λ_ H'=>Q .non H',rt:=Q } (L2.start N vs) H:=by
 obtain⟨G,ds,r,e,hl,sg,rp,fin⟩:=sp
 match ds,e with
 | [.int s,.lst ds],e=>
  obtain⟨as,ea,e⟩:=bnd e;obtain⟨row,er,e⟩:=mpd e;subst e;have hds:=q5e ea;subst hds;clear ea;unfold zAH at er
  by_cases hlen:as.length<=9000
  case neg=>rw[vH hlen]at er;cases er
  rw[vG hlen]at er;obtain⟨v0,v1,rfl,r0,r1⟩:=rp.two;cases (show v0=.int s from r0);have hst:L2.start N [V.int s,v1]=[some (.int s),some v1,none,none,none,none,none]:=by
   unfold L2.start;rw[hN];rfl
  rw[hst];have no0:X6 [some (W.sh (.int s)),↥(.lst (as.map pairD2)),none,none,none,none,none]:=noOw7 (d0:=some (.int s)) (d1:=some (.lst (as.map pairD2))) (d5:=none) (d6:=none);have o0:Own K G (fr H) G [some (W.sh (.int s)),↥(.lst (as.map pairD2)),none,none,none,none,none] [some (.int s),some v1,none,none,none,none,none] H:=by
   refine⟨Ext.refl sg,rfl,λi d h=>?_,λi ds h=>vK h (no0.ow i ds),λi j ds es l h=>vK h (no0.ow i ds),λi ks ds h=>vK h (no0.od i ks ds),Xo.no no0.pw⟩
   match i,h with
   | 0,h=>cases h;exact⟨_,rfl,rfl⟩
   | 1,h=>cases h;exact⟨_,rfl,r1⟩
   | 2,h=>cases h
   | 3,h=>cases h
   | 4,h=>cases h
   | 5,h=>cases h
   | 6,h=>cases h
   | i+7,h=>simp at h
  refine⟨v1,rfl,G,as,sg,Yt.cons r1 Yt.nil,hlen,λG1 p ls H1 x1 T1=>?_⟩;have o1:=(o0.keep x1).other (i:=2) (v:=some (.ref p)) no0 λw z=>by cases z
  refine⟨by show 0<=sizeLine;exact yq _,λt ht=>?_⟩;have x2:=Ext.hide o1.gh ht (.lst []);have o2:=(o1.keep x2).other (i:=3) (v:=some (.ref t)) no0 λw z=>by cases z
  have T2:=T1.keep x2;refine⟨by show 0<=sizeLine;exact yq _,λb hb=>?_⟩;have x3:=Ext.hide o2.gh hb (.lst []);have o3:=(o2.keep x3).other (i:=4) (v:=some (.ref b)) no0 λw z=>by cases z
  have T3:=T2.keep x3;have tb:t≠b:=λz=>by rw[<- z,qe]at hb;cases hb
  have tl:t∉ls:=λz=>by
   obtain⟨xs,w⟩:=T1.inn z;rw[ht]at w;cases w
  have bl:b∉ls:=λz=>by
   obtain⟨xs,w⟩:=T2.inn z;rw[hb]at w;cases w
  have o4:=o3.setSh (i:=5) (d:=.int s) (v:=.int s) rfl;have S0:RfS K G (fr H) G1 s as p t b (byS as as.length).1 ls (byS as as.length).2 [] [] s none [some (.int s),some v1,some (.ref p),some (.ref t),some (.ref b),some (.int s),none] (upd (upd H1 t (.lst [])) b (.lst [])) :=
   ⟨o4,rfl,rfl,rfl,rfl,T3,by rw[qc tb];exact qe,o1.gh.free ht,o1.ext.hh.free ht,qe,o2.gh.free hb,o2.ext.hh.free hb,tb,tl,bl⟩
  refine⟨.int s,rfl,?_⟩;generalize (byS as as.length).1=ks at S0 er;generalize (byS as as.length).2=xss at S0 er;refine⟨λm σ' H'=>∃G' xss T B h y,RfS K G (fr H) G' s as p t b ks ls xss T B h y σ' H'/\Xt as ks m xss T B h=some row,⟨100000,G1,xss,[],[],s,none,S0,er⟩,?_⟩;rintro m σ' H' ⟨G',xss,T,B,h,y,S,run⟩;cases m with
  | zero=>cases run
  | succ n=>
   have body:∀Hx,RfS K G (fr H) G' s as p t b ks ls xss T B h y σ' Hx->(T≠[]\/Xl ks xss h≠[])->∀D0:Ends,∃NN:St->Hp->Prop,(∀σ2 H2,NN σ2 H2->∃m',m'<n+1/\∃G' xss T B h y,RfS K G (fr H) G' s as p t b ks ls xss T B h y σ2 H2/\Xt as ks m' xss T B h=some row)/\tIfS (trT K zCf) (zBd K td1) (zBw K td0) { D0 with nx:=NN,ct:=NN,bk:=D0.nx } σ' Hx:=by
    intro Hx Sx hne D0;refine⟨λσ2 H2=>∃G' xss T B h y,RfS K G (fr H) G' s as p t b ks ls xss T B h y σ2 H2/\Xt as ks n xss T B h=some row,λσ2 H2 z=>⟨n,xA n,z⟩,?_⟩;refine qbM Sx λHy Sy=>?_;unfold Xt at run;cases eg:(Xl ks xss h).getLast? with
    | some k=>
     rw[eg]at run;have run:(if 0<=k/\k<as.length/\T.length<1000000 then Xt as ks n (Xw ks xss h) (T++[k]) B (as.getD k.toNat (0,0)).2 else none)=some row:=run;have hne:(Xl ks xss h).isEmpty=false:=by
      cases z:Xl ks xss h with
      | nil=>rw[z]at eg;cases eg
      | cons a r=>rfl
     rw[hne];show (if (!false)=true then _ else _);rw[vG (show (!false)=true from rfl)]
     by_cases c:0<=k/\k<as.length/\T.length<1000000
     ·rw[vG c]at run
      exact qe9 h1 (hf1 as) Sy eg c.1 c.2.1 c.2.2 λG2 σ2 H2 S2=>⟨G2,_,_,_,_,_,S2,run⟩
     ·rw[vH c]at run;cases run
    | none=>
     rw[eg]at run;have hem:Xl ks xss h=[]:=wP.mp eg;rw[hem];show (if (!true)=true then _ else _);rw[vH (by decide)];cases et:T.getLast? with
     | none=>exact vK (wP.mp et) (hne.resolve_right λz=>z hem)
     | some k=>
      have run:(match T.getLast? with
       | some k=>if 0<=k/\k<as.length/\B.length<1000000 then Xt as ks n xss T.dropLast (B++[k]) (as.getD k.toNat (0,0)).1 else none
       | none=>some B.reverse)=some row:=run
      rw[et]at run;have run:(if 0<=k/\k<as.length/\B.length<1000000 then Xt as ks n xss T.dropLast (B++[k]) (as.getD k.toNat (0,0)).1 else none)=some row:=run
      by_cases c:0<=k/\k<as.length/\B.length<1000000
      ·rw[vG c]at run
       exact qei h0 (hf0 as) Sy et c.1 c.2.1 c.2.2 λG2 σ2 H2 S2=>⟨G2,_,_,_,_,_,S2,run⟩
      ·rw[vH c]at run;cases run
   refine⟨.ref t,S.s3,!(T.map V.int).isEmpty,.inl ⟨_,SqL.of S.ht,rfl⟩,?_⟩;cases T with
   | cons a r=>
    show (if (!false)=true then _ else _);rw[vG (show (!false)=true from rfl)];show (if true=true then _ else _);rw[vG rfl];exact body H' S (.inl (by simp)) _
   | nil=>
    show (if (!true)=true then _ else _);rw[vH (by decide)];refine qbM S λHx Sx=>?_;cases eg:Xl ks xss h with
    | cons a r=>
     show (if (!false)=true then _ else _);rw[vG (show (!false)=true from rfl)];exact body Hx Sx (.inr (by rw[eg];simp)) _
    | nil=>
     show (if (!true)=true then _ else _);rw[vH (by decide)];have rw0:row=B.reverse:=by
      unfold Xt at run;rw[eg]at run;have run:some B.reverse=some row:=run;exact(z0 run).symm
     subst rw0;refine⟨.ref b,Sx.s4,b,_,rfl,Sx.hb,λSa hS=>?_⟩;have x9:=Ext.hide Sx.o.gh hS (.lst (B.map V.int).reverse);have o9:=Sx.o.keep x9;refine fin (.ref Sa) G' _ o9.ext ⟨Sa,_,rfl,Sx.o.ext.hh.free hS,Sx.o.gh.free hS,qe,?_⟩;rw[<- YH];exact Yt.ints _
def qfo{ω:WSt}{e:Int×Int}(h:ω[3]?=some ↥(pairD2 e)):dOf (Yq oIx (vOf (Yn 3)) (fC (.int 0))) ω=some (.int e.1):=by
 unfold dOf Yq vOf Yn fC;rw[h];rfl
def q7k{as:List (Int×Int)}{k:Int}(k0:0<=k)(k1:k<as.length):atI (as.map pairD2) k=some (pairD2 (as.getD k.toNat (0,0))):=by
 rw[q38 k0 (by rw[zB];exact k1)];have hk:k.toNat<as.length:=∅
 rw[wj,zY,zG hk];rfl
def qg9{as:List (Int×Int)}{ω:WSt}{k:Int}(h1:ω[1]?=some ↥(.lst (as.map pairD2)))(h6:ω[6]?=some ↥(.int k))(k0:0<=k)(k1:k<as.length):
  dOf (Yq oIx (vOf (Yq oIx (vOf (Yn 1)) (vOf (Yn 6)))) (fC (.int 1))) ω=some (.int (as.getD k.toNat (0,0)).2):=by
 have e:=q7k (as:=as) k0 k1;show dR (op2 oIx (vR (op2 oIx (vR (zCs ω[1]?)) (vR (zCs ω[6]?)))) (some (.int 1)))=_;rw[h1,h6];show dR (op2 oIx (vR ((atI (as.map pairD2) k).map R.sh)) (some (.int 1)))=_;rw[e];rfl
def qfS{as:List (Int×Int)}{ω:WSt}{k:Int}(h1:ω[1]?=some ↥(.lst (as.map pairD2)))(h6:ω[6]?=some ↥(.int k))(k0:0<=k)(k1:k<as.length):
  dOf (Yq oIx (vOf (Yq oIx (vOf (Yn 1)) (vOf (Yn 6)))) (fC (.int 0))) ω=some (.int (as.getD k.toNat (0,0)).1):=by
 have e:=q7k (as:=as) k0 k1;show dR (op2 oIx (vR (op2 oIx (vR (zCs ω[1]?)) (vR (zCs ω[6]?)))) (some (.int 0)))=_;rw[h1,h6];show dR (op2 oIx (vR ((atI (as.map pairD2) k).map R.sh)) (some (.int 0)))=_;rw[e];rfl
def qfC{X:Cx}{e1 e0:vW}{E E':XK}{f1 f0:FD}(h1:XD X e1 f1)(h0:XD X e0 f0)(hf1:∀(as:List (Int×Int))(ω:WSt)(k:Int),ω[1]?=some ↥(.lst (as.map pairD2))->ω[6]?=some ↥(.int k)->0<=k->k<as.length->f1 ω=some (.int (as.getD k.toNat (0,0)).2))(hf0:∀(as:List (Int×Int))(ω:WSt)(k:Int),ω[1]?=some ↥(.lst (as.map pairD2))->ω[6]?=some ↥(.int k)->0<=k->k<as.length->f0 ω=some (.int (as.getD k.toNat (0,0)).1)){N:List Str}(hN:N.length=7){vs:List V}{H:Hp}{Q:VK}(sp:spD X.K 2 mRF vs H Q E'){sts:List vn}(hb:∀{td1 td0:TE},PE X e1 td1->PE X e0 td0->PSs X sts (tRF X.K E td1 td0)):
  ∃t,PSs X sts t/\t { nx:=λ_ H'=>Q .non H',rt:=Q } (L2.start N vs) H:=by
 obtain⟨td1,p1,q1⟩:=h1;obtain⟨td0,p0,q0⟩:=h0;exact⟨_,hb p1 p0,qgn q1 q0 hf1 hf0 hN sp⟩
abbrev Cal(P:vS)(w:vY)(K:zA)(mg:Str->Option Value)(base:vf)(k:Nat)(f:vC)(d:vN)(x:Str)(ps:List Str)(n:Nat)(m:List D->Option O):Prop :=
 FnOk P w K mg base CX0 k f d ps (spD K n m)/\mg x=some (.ref f)/\xa K (.ref f)=true/\Binds K d ps []
section
variable{X:Cx}{x:Str}{pos:Pos}
def xc{e:vW}{es:List vW}{k k0:Nat}{f:vC}{fd:vN}{ps:List Str}{m:List D->Option O}{p:Pos}{g:FA}(c:Cal X.prog X.w X.K X.mg X.base k f fd x ps (e::es).length m)(hr:Room k0 X.A)(ha:XA X (e::es) g)(hk:k<=k0:=by decide)(hg:Gl X x:=by exact rfl)(hdb:(x==("__debug__" : Str))=false:=by decide)(he:vJ (e::es) X.env=(false,eval e X.env)::vJ es X.env:=by rfl)(hpl:(vp pos (vJ es X.env)).any (·.1)=false:=by rfl):
  XE X (.Call (.Name x p) (e::es) [] pos) (Ys m g):=zC1 c.1 (hr.mono hk) hg c.2.1 c.2.2.1 c.2.2.2 pass0 ha hdb he hpl
def vE(i:Nat)(hN:X.N[i]?=some x:=by rfl)(hv:Vis X.env.scope x:=by first|exact Or.inl rfl|exact Or.inr (Or.inl rfl)|exact Or.inr (Or.inr rfl))(hd:(x==("__debug__" : Str))=false:=by decide)(hcd:(x==("__classdict__" : Str))=false:=by decide):XE X (.Name x pos) (Yn i):=zBx i (pv i hN hv hd hcd)
def vV(i:Nat)(hN:X.N[i]?=some x:=by rfl)(hv:Vis X.env.scope x:=by first|exact Or.inl rfl|exact Or.inr (Or.inl rfl)|exact Or.inr (Or.inr rfl))(hd:(x==("__debug__" : Str))=false:=by decide)(hcd:(x==("__classdict__" : Str))=false:=by decide):XV X (.Name x pos) (vOf (Yn i)):=XE.toV (zBx i (pv i hN hv hd hcd))
def vD(i:Nat)(hN:X.N[i]?=some x:=by rfl)(hv:Vis X.env.scope x:=by first|exact Or.inl rfl|exact Or.inr (Or.inl rfl)|exact Or.inr (Or.inr rfl))(hd:(x==("__debug__" : Str))=false:=by decide)(hcd:(x==("__classdict__" : Str))=false:=by decide):XD X (.Name x pos) (dOf (Yn i)):=XE.toD (zBx i (pv i hN hv hd hcd))
end
def Fd(K:zA)(x:Str)(st:vn)(f:vC):Prop:=zx K vP x=some (some (.ref f))/\∃fd,Fun K x x st f fd
section
variable{P:vS}{w:vY}{K:zA}{mg:Str->Option Value}{base h:vf}{x:Str}{st:vn}{f:vC}{fd:vN}
def qgi{oc:Value}{od an:Option vC}{osl:Array (Option Value)}{kV doc pm cdv ct:Value}(a:zx K vP x=some (some (.ref f)))(l:K.lookup f=some ⟨oc,od,.func (xr x x (X7 st) (Xf st) (Yo st) .none kV doc pm an cdv ct),osl⟩)(c:wt K cdv x=true)(k:xa K (.ref f)=true):Fd K x st f:=⟨a,_,qfF l c k⟩
def qm(P:vS)(w:vY)(base:vf)(X:K.In h)(G:h.Ns vP mg){x:Str}{st:vn}{f:vC}{fd:vN}{k n:Nat}{ps:List Str}{m:List D->Option O}(D:Fd K x st f)(F:Fun K x x st f fd)(o:FnOk P w K mg base CX0 k f fd ps (spD K n m))(b:∀(kV doc pm:Value)(an:Option vC)(cdv ct:Value)(us:List Value),us.length=ps.length->bindArgs (xr x x (X7 st) (Xf st) (Yo st) .none kV doc pm an cdv ct) ⟨us,[]⟩=pure (ps.zip us)):Cal P w K mg base k f fd x ps n m :=
 ⟨o,xJ X G D.1,F.kp,F.binds b⟩
end
end Hk
namespace Hk
open PySem PyProof.Rows
section
variable{prog:vS}{w:vY}{A:vZ}{E:Value->vB->Prop}{s:vB}{a₀:Array vT}
end
section
variable{α β:Type}
end
end Hk
namespace Hk
open PySem PySem.Spec PyProof.Rows L2
section
variable{X:Cx}{pins:List (vC×Obj)}{σ:L2.St}{H:Hp}{s:vB}
end
section
variable{X:Cx}{pins:List (vC×Obj)}{σ:L2.St}{G H:Hp}{s:vB}{a kS:vC}{xs:List V}{vs:List Value}{ds:List D}{kf:D->Int}
noncomputable def apart(pins:List (vC×Obj))(a kS:vC)(e1:Nat)(ks:Array Value)(e:Nat):List (vC×Obj):=pins++[(kS,uS "list" ks e),(a,uS "list" #[] e1)]
end
section
variable{X:Cx}{pins:List (vC×Obj)}{σ:L2.St}{G H:Hp}{s:vB}{a:vC}{xs:List V}{vs:List Value}{ds:List D}{kf:D->Int}{k:Nat}{f:vC}{fd:vN}{ps:List Str}{m:List D->Option O}
end
end Hk
namespace Hk
open PySem L2
section
variable{m:List D->Option O}{f:FD}{ω:WSt}{d:D}{i:Nat}{ks:List Int}{ds:List D}
def q0M:iDk i ω=zC2 ω[i]?:=rfl
def q0x:zC2 (some ↥(.dic ks ds))=some (ks.map D.int):=rfl
end
noncomputable def zBQ:D->D->Option R
 | .lst xs,.int k=>if (0<=k/\k<=1000)/\xs.length<=1000 then some (.fr (zj k.toNat xs).flatten)else none
 | _,_=>none
theorem Yt.rep{K:zA}{H:Hp}{ds:List D}{vs:List V}(h:Yt K H ds vs):∀n:Nat,Yt K H (zj n ds).flatten (zj n vs).flatten
 | 0=>rfl
 | n+1=>by
  rw[zQ,zQ,yv,yv];exact h.app (h.rep n)
def qe6{K:zA}:OpV K rRep zBQ:=by
 intro G H x y d v u Q s e hx hy k
 match x,y,e with
 | .lst xs,.int n,e=>
  unfold zBQ at e
  dsimp only at e
  by_cases z:(0<=n/\n<=1000)/\xs.length<=1000
  ·rw[vG z]at e
   cases e;obtain⟨a,vs,rfl,h1,h2⟩:=hx.lst s;cases hy.int;have hz:vs.length*n.toNat<=sizeLine:=by
    rw[<- h2.len];have:=Nat.mul_le_mul z.2 (show n.toNat<=1000 by omega);rw[vo];omega
   refine⟨a,n,vs,rfl,rfl,h1,∅,∅,hz,λp hp=>?_⟩;exact k _ G _ (Ext.hide s hp _) ⟨p,_,rfl,hp,s.free hp,qe,h2.rep _⟩
  ·rw[vH z]at e;cases e
section
variable{X:Cx}{a b:vW}{pos:Pos}{f g:FD}
def qcd(ha:XV X a f)(hb:XV X b g):XE X (.BinOp a .Mult b pos) (Yq zBQ f g):=q4C qf5 qe6 ha hb
end
def qct{ds:List D}{k:Int}(h0:0<=k)(h1:k<=1000)(h2:ds.length<=1000):zBQ (.lst ds) (.int k)=some (.fr (zj k.toNat ds).flatten):=vG ⟨⟨h0,h1⟩,h2⟩
end Hk
namespace So
open PySem PyProof.Rows
noncomputable def zCw:Bool->vT->Array vT->Nat->Nat->Nat->StateT vk Sem (Option Nat):=sortPriv% PySem.Builtin.gallop
noncomputable def bey(left:Bool)(k:Int)(arr:Array vT)(i:Nat):Bool:=if left=true then decide (K arr i<k)else !decide (k<K arr i)
section
variable{prog:vS}{w:vY}{A:vZ}{E:Value->vB->Prop}{s:vB}
def q8F{arr:Array vT}(h0:IntKeys arr){i:Nat}(hi:i<arr.size):∃p t q,arr[i]?=some p/\p=(Value.int (K arr i) t,q):=by
 have hm:arr[i]∈arr.toList:=by simp
 obtain⟨n,t,hn⟩:=h0 _ hm;have e:arr[i]?=some arr[i]:=getElem?_pos _ i hi;have e2:arr[i]=(Value.int n t,arr[i].2):=Prod.ext hn rfl;refine⟨_,t,arr[i].2,e,?_⟩;unfold K;rw[e,e2];rfl
def zA2{st:vk}{a b:Int}{t u:Tok}{p q:Value}{Q:Option Bool->vk->Prop}(hk:kindOf st=v4)(h:Q (some (decide (a<b))) st):wpS (model prog w) A E s (lt' (.int a t,p) (.int b u,q)) Q st:=by
 rw[lt'_eq];refine vM (tF ?_);rw[hk,keyLt'_oneType];refine vM (tP (uE (oneLt_int ⟨rfl,?_⟩)));exact vO h
def Yu{st:vk}{arr:Array vT}{i:Nat}{p:vT}{Q:vT->vk->Prop}(h:arr[i]?=some p)(hq:Q p st):wpS (model prog w) A E s (elem' arr i) Q st:=by
 rw[elem'_eq,h];exact vO hq
def WX{st:vk}{left:Bool}{k:Int}{t:Tok}{q:Value}{arr:Array vT}{i:Nat}{Q:Option Bool->vk->Prop}(h0:IntKeys arr)(hi:i<arr.size)(hk:kindOf st=v4)(h:Q (some (bey left k arr i)) st):
  wpS (model prog w) A E s (do let x <- elem' arr i;if left=true then lt' x (.int k t,q)else do let l <- lt' (.int k t,q) x;pure (Option.map (λx=>!x) l)) Q st:=by
 obtain⟨p,u,r,e1,rfl⟩:=q8F h0 hi;refine vM (Yu e1 ?_);cases left with
 | true=>exact zA2 hk h
 | false=>exact vM (zA2 hk (vO h))
def Xd{left:Bool}{k:Int}{arr:Array vT}{i j:Nat}(h:K arr i<=K arr j)(hj:bey left k arr j=true):bey left k arr i=true:=by
 unfold bey at *;cases left with
 | true=>simp only[if_true,decide_eq_true_eq]at *;omega
 | false=>simp only[zW,if_false,ZB,decide_eq_false_iff_not]at *;omega
def XY{left:Bool}{k:Int}{t:Tok}{q:Value}{arr:Array vT}{base n hint:Nat}{st:vk}{Q:Option Nat->vk->Prop}(h0:IntKeys arr)(hk:kindOf st=v4)(hsz:base+n<=arr.size)(hh:hint<n)(hs:∀i j,i<=j->j<n->K arr (base+i)<=K arr (base+j))(h:∀m,m<=n->(∀i,i<m->bey left k arr (base+i)=true)->(∀i,m<=i->i<n->bey left k arr (base+i)=false)->Q (some m) st):wpS (model prog w) A E s (zCw left (.int k t,q) arr base n hint) Q st:=by
 refine vM (WX (k:=k) h0 ∅ hk ?_)
 dsimp only
 cases hr:bey left k arr (base+hint)with
 | true=>
  rw[vG rfl];refine vM (uA (vm (I:=λx c st'=>st'=st/\∃lo of,c=(none,lo,of)/\hint+lo<n/\bey left k arr (base+(hint+lo))=true/\lo<of/\x+1<=of) (Q:=λc st'=>st'=st/\∃lo of,c=(none,lo,of)/\hint+lo<n/\bey left k arr (base+(hint+lo))=true/\lo<of/\(of>=n-hint\/bey left k arr (base+(hint+of))=false)) ?_ ?_ ⟨rfl,0,1,rfl,∅,hr,∅,∅⟩) ?_)
  ·rintro x c st' _ hx ⟨rfl,lo,of,rfl,b1,b2,b3,b4⟩
   dsimp only
   by_cases z:of>=n-hint
   ·rw[vG z]
    exact vO ⟨rfl,lo,of,rfl,b1,b2,b3,.inl z⟩
   ·rw[vH z]
    refine vM (WX (k:=k) h0 ∅ hk ?_)
    dsimp only
    cases hb:bey left k arr (base+(hint+of))with
    | true=>
     rw[vH (by decide)];exact vO ⟨rfl,of,2*of+1,rfl,∅,hb,∅,∅⟩
    | false=>
     rw[vG (by decide)];exact vO ⟨rfl,lo,of,rfl,b1,b2,b3,.inr hb⟩
  ·rintro c st' ⟨rfl,lo,of,rfl,b1,b2,b3,b4⟩
   exact⟨rfl,lo,of,rfl,b1,b2,b3,.inl ∅⟩
  ·rintro c st' ⟨rfl,lo,of,rfl,b1,b2,b3,b4⟩
   dsimp only
   refine vM (uA (Q:=λc st2=>st2=st'/\∃lo hi,c=(none,lo,hi)/\lo<=hi/\hi<=n/\hi-lo<=0/\(∀i,i<lo->bey left k arr (base+i)=true)/\(∀i,hi<=i->i<n->bey left k arr (base+i)=false)) ?_ ?_)
   ·refine vm (I:=λx c st2=>st2=st'/\∃lo hi,c=(none,lo,hi)/\lo<=hi/\hi<=n/\hi-lo<=n-x/\(∀i,i<lo->bey left k arr (base+i)=true)/\(∀i,hi<=i->i<n->bey left k arr (base+i)=false)) ?_ ?_ ?_
    ·rintro x c st2 _ hx ⟨e2,lo,hi,rfl,b1,b2,b3,b4,b5⟩
     subst e2
     dsimp only
     by_cases z:lo>=hi
     ·rw[vG z]
      exact vO ⟨rfl,lo,hi,rfl,∅,b2,∅,b4,b5⟩
     ·rw[vH z]
      refine vM (WX (k:=k) h0 ∅ hk ?_)
      dsimp only
      cases hb:bey left k arr (base+(lo+(hi-lo)/2))with
      | true=>
       rw[vG rfl];refine vO ⟨rfl,_,_,rfl,∅,b2,∅,λi hi'=>?_,b5⟩;exact Xd (hs _ _ (show i<=lo+(hi-lo)/2 by omega) ∅) hb
      | false=>
       rw[vH (by decide)];refine vO ⟨rfl,_,_,rfl,∅,∅,∅,b4,λi hi' hin=>?_⟩;cases hc:bey left k arr (base+i)with
       | false=>rfl
       | true=>rw[Xd (hs _ _ hi' hin) hc]at hb;cases hb
    ·rintro c st2 ⟨e2,lo,hi,rfl,b1,b2,b3,b4,b5⟩
     exact⟨e2,lo,hi,rfl,b1,b2,∅,b4,b5⟩
    refine⟨rfl,_,_,rfl,∅,∅,∅,λi hi=>?_,λi hi hin=>?_⟩
    ·exact Xd (hs _ _ ∅ b1) b2
    ·rcases b4 with b4|b4
     ·omega
     ·cases hc:bey left k arr (base+i)with
      | false=>rfl
      | true=>rw[Xd (hs (hint+of) i ∅ hin) hc]at b4;cases b4
   ·rintro c st2 ⟨e2,lo,hi,rfl,c1,c2,c3,c4,c5⟩
    subst e2;exact vO (h hi c2 (λi hi'=>c4 i ∅) c5)
 | false=>
  rw[vH (by decide)];refine vM (uA (vm (I:=λx c st'=>st'=st/\∃lo of,c=(none,lo,of)/\lo<=hint/\bey left k arr (base+(hint-lo))=false/\lo<of/\x+1<=of) (Q:=λc st'=>st'=st/\∃lo of,c=(none,lo,of)/\lo<=hint/\bey left k arr (base+(hint-lo))=false/\lo<of/\(of>=hint+1\/bey left k arr (base+(hint-of))=true)) ?_ ?_ ⟨rfl,0,1,rfl,∅,hr,∅,∅⟩) ?_)
  ·rintro x c st' _ hx ⟨rfl,lo,of,rfl,b1,b2,b3,b4⟩
   dsimp only
   by_cases z:of>=hint+1
   ·rw[vG z]
    exact vO ⟨rfl,lo,of,rfl,b1,b2,b3,.inl z⟩
   ·rw[vH z]
    refine vM (WX (k:=k) h0 ∅ hk ?_)
    dsimp only
    cases hb:bey left k arr (base+(hint-of))with
    | true=>
     rw[vG rfl];exact vO ⟨rfl,lo,of,rfl,b1,b2,b3,.inr hb⟩
    | false=>
     rw[vH (by decide)];exact vO ⟨rfl,of,2*of+1,rfl,∅,hb,∅,∅⟩
  ·rintro c st' ⟨rfl,lo,of,rfl,b1,b2,b3,b4⟩
   exact⟨rfl,lo,of,rfl,b1,b2,b3,.inl ∅⟩
  ·rintro c st' ⟨rfl,lo,of,rfl,b1,b2,b3,b4⟩
   dsimp only
   refine vM (uA (Q:=λc st2=>st2=st'/\∃lo hi,c=(none,lo,hi)/\lo<=hi/\hi<=n/\hi-lo<=0/\(∀i,i<lo->bey left k arr (base+i)=true)/\(∀i,hi<=i->i<n->bey left k arr (base+i)=false)) ?_ ?_)
   ·refine vm (I:=λx c st2=>st2=st'/\∃lo hi,c=(none,lo,hi)/\lo<=hi/\hi<=n/\hi-lo<=n-x/\(∀i,i<lo->bey left k arr (base+i)=true)/\(∀i,hi<=i->i<n->bey left k arr (base+i)=false)) ?_ ?_ ?_
    ·rintro x c st2 _ hx ⟨e2,lo,hi,rfl,b1,b2,b3,b4,b5⟩
     subst e2
     dsimp only
     by_cases z:lo>=hi
     ·rw[vG z]
      exact vO ⟨rfl,lo,hi,rfl,∅,b2,∅,b4,b5⟩
     ·rw[vH z]
      refine vM (WX (k:=k) h0 ∅ hk ?_)
      dsimp only
      cases hb:bey left k arr (base+(lo+(hi-lo)/2))with
      | true=>
       rw[vG rfl];refine vO ⟨rfl,_,_,rfl,∅,b2,∅,λi hi'=>?_,b5⟩;exact Xd (hs _ _ (show i<=lo+(hi-lo)/2 by omega) ∅) hb
      | false=>
       rw[vH (by decide)];refine vO ⟨rfl,_,_,rfl,∅,∅,∅,b4,λi hi' hin=>?_⟩;cases hc:bey left k arr (base+i)with
       | false=>rfl
       | true=>rw[Xd (hs _ _ hi' hin) hc]at hb;cases hb
    ·rintro c st2 ⟨e2,lo,hi,rfl,b1,b2,b3,b4,b5⟩
     exact⟨e2,lo,hi,rfl,b1,b2,∅,b4,b5⟩
    refine⟨rfl,_,_,rfl,∅,∅,∅,λi hi=>?_,λi hi hin=>?_⟩
    ·rcases b4 with b4|b4
     ·omega
     ·exact Xd (hs _ _ ∅ ∅) b4
    ·cases hc:bey left k arr (base+i)with
     | false=>rfl
     | true=>rw[Xd (hs (hint-lo) i ∅ hin) hc]at b2;cases b2
   ·rintro c st2 ⟨e2,lo,hi,rfl,c1,c2,c3,c4,c5⟩
    subst e2;exact vO (h hi c2 (λi hi'=>c4 i ∅) c5)
end
noncomputable def ke(p:vT):Int:=numOf p.1
abbrev Le(x y:vT):Prop:=ke x<=ke y
abbrev Srt(l:List vT):Prop:=l.Pairwise Le
structure Mg (al bl out:List vT) (i j:Nat):Prop where
 perm:(out++(al.drop i++bl.drop j)).Perm (al++bl)
 srt:Srt out
 lea:∀x∈out,∀y∈al.drop i,Le x y
 leb:∀x∈out,∀y∈bl.drop j,Le x y
structure Done (al bl r:List vT):Prop where
 perm:r.Perm (al++bl)
 srt:Srt r
variable{al bl out:List vT}{i j:Nat}
def XQ(h:Srt al)(k:Nat):Srt (al.drop k):=h.sublist (Z2 k al)
def zA5(l:List vT)(i k:Nat):l.drop i=(l.drop i).take k++l.drop (i+k):=by
 rw[<- YX,yx]
def Mg.a(m:Mg al bl out i j)(sa:Srt al)(k:Nat)(h:∀x∈(al.drop i).take k,∀y∈bl.drop j,Le x y):Mg al bl (out++(al.drop i).take k) (i+k) j:=by
 have e:=zA5 al i k;have sd:Srt ((al.drop i).take k++al.drop (i+k)):=by rw[<- e];exact XQ sa i
 obtain⟨s1,s2,s3⟩:=zZ.mp sd;have hin:∀y∈(al.drop i).take k,y∈al.drop i:=λy hy=>xb hy;have hout:∀y∈al.drop (i+k),y∈al.drop i:=λy hy=>by rw[e];exact zu _ hy
 refine⟨?_,?_,λx hx y hy=>?_,λx hx y hy=>?_⟩
 ·have:out++(al.drop i).take k++(al.drop (i+k)++bl.drop j)=out++(al.drop i++bl.drop j):=by
   rw[zR,<- zR ((al.drop i).take k),<- e]
  rw[this];exact m.perm
 ·exact zZ.mpr ⟨m.srt,s1,λx hx y hy=>m.lea x hx y (hin y hy)⟩
 ·rcases zT.mp hx with hx|hx
  ·exact m.lea x hx y (hout y hy)
  ·exact s3 x hx y hy
 ·rcases zT.mp hx with hx|hx
  ·exact m.leb x hx y hy
  ·exact h x hx y hy
def Mg.b(m:Mg al bl out i j)(sb:Srt bl)(k:Nat)(h:∀x∈(bl.drop j).take k,∀y∈al.drop i,Le x y):Mg al bl (out++(bl.drop j).take k) i (j+k):=by
 have e:=zA5 bl j k;have sd:Srt ((bl.drop j).take k++bl.drop (j+k)):=by rw[<- e];exact XQ sb j
 obtain⟨s1,s2,s3⟩:=zZ.mp sd;have hin:∀y∈(bl.drop j).take k,y∈bl.drop j:=λy hy=>xb hy;have hout:∀y∈bl.drop (j+k),y∈bl.drop j:=λy hy=>by rw[e];exact zu _ hy
 refine⟨?_,?_,λx hx y hy=>?_,λx hx y hy=>?_⟩
 ·refine xV ?_ m.perm
  rw[zR];refine yo out ?_;refine xV ?_ (yo (al.drop i) (List.Perm.of_eq e.symm));rw[<- zR,<- zR];exact xT _ xW
 ·exact zZ.mpr ⟨m.srt,s1,λx hx y hy=>m.leb x hx y (hin y hy)⟩
 ·rcases zT.mp hx with hx|hx
  ·exact m.lea x hx y hy
  ·exact h x hx y hy
 ·rcases zT.mp hx with hx|hx
  ·exact m.leb x hx y (hout y hy)
  ·exact s3 x hx y hy
def Mg.done(m:Mg al bl out i j)(sa:Srt al)(sb:Srt bl)(h:∀x∈al.drop i,∀y∈bl.drop j,Le x y):Done al bl (out++al.drop i++bl.drop j):=by
 refine⟨by rw[zR];exact m.perm,?_⟩;rw[zR];exact zZ.mpr ⟨m.srt,zZ.mpr ⟨XQ sa i,XQ sb j,h⟩,λx hx y hy=>(zT.mp hy).elim (m.lea x hx y) (m.leb x hx y)⟩
def Mg.last(m:Mg al bl out i j)(sa:Srt al)(sb:Srt bl)(h:∀y∈bl.drop j,∀x∈al.drop i,Le y x):Done al bl (out++bl.drop j++al.drop i):=by
 refine⟨?_,?_⟩
 ·rw[zR]
  exact(yo out xW).trans m.perm
 ·rw[zR]
  exact zZ.mpr ⟨m.srt,zZ.mpr ⟨XQ sb j,XQ sa i,h⟩,λx hx y hy=>(zT.mp hy).elim (m.leb x hx y) (m.lea x hx y)⟩
noncomputable def zB3:Array vT->Array vT->StateT vk Sem (Array vT):=sortPriv% PySem.Builtin.mergeLo
structure Kp (st st':vk):Prop where
 kind:kindOf st'=kindOf st
 arr:vU st'=vU st
 pend:va st'=va st
 fail:uP st'=uP st
def Kp.refl(st:vk):Kp st st:=⟨rfl,rfl,rfl,rfl⟩
def zBg{xs:Array vT}{i:Nat}{p:vT}(h:xs[i]?=some p):K xs i=ke p:=by unfold K ke;rw[h]
def drop_one{xs:Array vT}{i:Nat}{p:vT}(h:xs[i]?=some p):xs.toList.drop i=p::xs.toList.drop (i+1):=by
 obtain⟨hi,e⟩:=ww.mp h;rw[xp ⇑hi]
 congr 1
def zAI{xs:Array vT}{i:Nat}:(xs.extract i xs.size).toList=xs.toList.drop i:=by
 rw[xt,wQ];exact xR (by simp)
def zA6{xs:Array vT}{i k:Nat}:(xs.extract i (i+k)).toList=(xs.toList.drop i).take k:=by
 simp[xt,List.extract_eq_drop_take]
def WO{l:List vT}(s:Srt l){i:Nat}{p:vT}{t:List vT}(h:l.drop i=p::t):∀y∈l.drop i,Le p y:=by
 have:=XQ s i;rw[h]at this ⊢;intro y hy;rcases zF.mp hy with rfl|hy
 ·exact yn _
 ·exact(zi.mp this).1 y hy
def zA3{xs:Array vT}{i:Nat}(h:xs.size<=i):xs.toList.drop i=[]:=List.drop_eq_nil_of_le ⇑h
def Mg.b1{a b out:Array vT}{i j:Nat}{p q:vT}(m:Mg a.toList b.toList out.toList i j)(sa:Srt a.toList)(sb:Srt b.toList)(hp:b[j]?=some p)(hq:a[i]?=some q)(h:Le p q):Mg a.toList b.toList (out.push p).toList i (j+1):=by
 have e:=drop_one hp;have:=m.b sb 1 (by
  rw[e];intro x hx y hy;have:x=p:=by simpa using hx
  subst this;exact y9 h (WO sa (drop_one hq) y hy))
 rw[e]at this;simpa using this
def Mg.a1{a b out:Array vT}{i j:Nat}{p q:vT}(m:Mg a.toList b.toList out.toList i j)(sa:Srt a.toList)(sb:Srt b.toList)(hp:a[i]?=some p)(hq:b[j]?=some q)(h:Le p q):Mg a.toList b.toList (out.push p).toList (i+1) j:=by
 have e:=drop_one hp;have:=m.a sa 1 (by
  rw[e];intro x hx y hy;have:x=p:=by simpa using hx
  subst this;exact y9 h (WO sb (drop_one hq) y hy))
 rw[e]at this;simpa using this
def Mg.dB{a b out:Array vT}{i j:Nat}(m:Mg a.toList b.toList out.toList i j)(sa:Srt a.toList)(sb:Srt b.toList)(h:b.size<=j):Done a.toList b.toList (out++a.extract i a.size++b.extract j b.size).toList:=by
 have:=m.done sa sb (λx _ y hy=>by rw[zA3 h]at hy;cases hy);rw[yd,yd,zAI,zAI];exact this
def Mg.dA{a b out:Array vT}{i j:Nat}(m:Mg a.toList b.toList out.toList i j)(sa:Srt a.toList)(sb:Srt b.toList)(h:a.size<=i):Done a.toList b.toList (out++a.extract i a.size++b.extract j b.size).toList:=by
 have:=m.done sa sb (λx hx=>by rw[zA3 h]at hx;cases hx);rw[yd,yd,zAI,zAI];exact this
def Mg.dL{a b out:Array vT}{i j:Nat}(m:Mg a.toList b.toList out.toList i j)(sa:Srt a.toList)(sb:Srt b.toList)(hl:∀y∈b.toList,∀x∈a.toList.drop (a.size-1),Le y x)(h:i+1=a.size):Done a.toList b.toList (out++b.extract j b.size++a.extract i a.size).toList:=by
 have:=m.last sa sb (λy hy x hx=>hl y (xQ hy) x (by rw[show a.size-1=i by omega];exact hx));rw[yd,yd,zAI,zAI];exact this
end So
set_option maxHeartbeats 1000000
namespace So
open PySem PyProof.Rows
section
variable{prog:vS}{w:vY}{A:vZ}{E:Value->vB->Prop}{s:vB}
def Y2{xs:Array vT}{i:Nat}(h0:IntKeys xs)(h:i<xs.size):∃t q,xs[i]?=some (Value.int (K xs i) t,q):=by
 obtain⟨p,t,q,e,rfl⟩:=q8F h0 h;exact⟨t,q,e⟩
def zBc{xs:Array vT}(hs:Srt xs.toList){i j:Nat}(h1:i<=j)(h2:j<xs.size):K xs i<=K xs j:=by
 have e1:xs[i]?=some xs[i]:=getElem?_pos _ i ∅;have e2:xs[j]?=some xs[j]:=getElem?_pos _ j h2;rw[zBg e1,zBg e2];rcases yt i j with z|z
 ·exact xo.mp hs i j (by simp;omega) ⇑h2 z
 ·have:i=j:=∅
  subst this;exact yn _
noncomputable def zC4:Nat->StateT vk Sem Unit:=sortPriv% PySem.Builtin.setMinGallop
theorem Kp.trans{a b c:vk}(h:Kp a b)(h':Kp b c):Kp a c:=⟨h'.kind.trans h.kind,h'.arr.trans h.arr,h'.pend.trans h.pend,h'.fail.trans h.fail⟩
def Xr{g:Nat}{st:vk}{Q:Unit->vk->Prop}(h:∀st',Kp st st'->Q () st'):wpS (model prog w) A E s (zC4 g) Q st:=uo (h _ ⟨rfl,rfl,rfl,rfl⟩)
def zBD{xs:Array vT}{i k:Nat}{v:Int}(h:∀t,t<k->i+t<xs.size->K xs (i+t)<=v):∀x∈(xs.toList.drop i).take k,ke x<=v:=by
 intro x hx;obtain⟨t,ht,e⟩:=ye.mp hx;rw[xg,xu]at e;rw[yK,yy]at ht;have hl:i+t<xs.size:=by simp at ht;omega
 have e2:xs[i+t]?=some x:=by rw[getElem?_pos xs (i+t) hl,<- e];rfl
 have:=h t ∅ hl;rw[zBg e2]at this;exact this
def zAc{k:Int}{xs:Array vT}{i:Nat}:(bey false k xs i=true->K xs i<=k)/\(bey false k xs i=false->k<K xs i):=by
 unfold bey;simp only[zW,if_false,ZB,decide_eq_false_iff_not,Bool.not_eq_false',decide_eq_true_eq];exact⟨λh=>∅,id⟩
def zAe{k:Int}{xs:Array vT}{i:Nat}:(bey true k xs i=true->K xs i<k)/\(bey true k xs i=false->k<=K xs i):=by
 unfold bey;simp only[if_true,decide_eq_true_eq,decide_eq_false_iff_not];exact⟨id,λh=>∅⟩
def zAu{a b:Array vT}{st:vk}{Q:Array vT->vk->Prop}(ha:IntKeys a)(hb:IntKeys b)(sa:Srt a.toList)(sb:Srt b.toList)(na:1<=a.size)(nb:1<=b.size)(h1:K b 0<=K a 0)(hl:∀y∈b.toList,∀x∈a.toList.drop (a.size-1),Le y x)(hk:kindOf st=v4)(h:∀r st',Done a.toList b.toList r.toList->Kp st st'->Q r st'):wpS (model prog w) A E s (zB3 a b) Q st:=by
 refine vM (tP (v8 ⟨rfl,?_⟩));obtain⟨t0,q0,eb0⟩:=Y2 hb (show 0<b.size by omega);obtain⟨u0,r0,ea0⟩:=Y2 ha (show 0<a.size by omega);refine vM (Yu eb0 ?_);have m0:Mg a.toList b.toList (#[]:Array vT).toList 0 0:=⟨by simp,xf,λx hx=>by simp at hx,λx hx=>by simp at hx⟩;have m1:=m0.b1 sa sb eb0 ea0 (show K b 0<=K a 0 from h1);have m1:Mg a.toList b.toList (#[(Value.int (K b 0) t0,q0)]:Array vT).toList 0 1:=m1
 dsimp only
 by_cases z1:b.size=1
 ·rw[vG (by rw[z1];rfl)]
  exact vO (h _ st (m1.dB sa sb ∅) (Kp.refl st))
 rw[vH (by simp;omega)]
 by_cases z2:a.size=1
 ·rw[vG (by rw[z2];rfl)]
  exact vO (h _ st (m1.dL sa sb hl ∅) (Kp.refl st))
 rw[vH (by simp;omega)];refine vM (tF ?_);refine vM (uA (vm
  (I:=λx c st'=>∃o i j g,c=(none,o,i,j,g)/\Mg a.toList b.toList o.toList i j/\i+1<a.size/\j<b.size/\x+1<=i+j/\Kp st st')
  (Q:=λc st'=>∃r z,c=(some r,z)/\Done a.toList b.toList r.toList/\Kp st st') ?_ ?_ ⟨_,_,_,_,rfl,m1,∅,∅,∅,Kp.refl st⟩) ?_)
 ·rintro x c st1 _ hx ⟨o,i,j,g,rfl,m,b1,b2,b3,kp⟩
  dsimp only
  refine vM (uA (vm
   (I:=λy c st'=>∃o' i' j' ac bc,c=(none,o',i',j',ac,bc)/\Mg a.toList b.toList o'.toList i' j'/\i'+1<a.size/\j'<b.size/\i+j+y<=i'+j'/\Kp st st')
   (Q:=λc st'=>(∃r z,c=(some r,z)/\Done a.toList b.toList r.toList/\Kp st st')\/∃o' i' j' ac bc,c=(none,o',i',j',ac,bc)/\Mg a.toList b.toList o'.toList i' j'/\i'+1<a.size/\j'<b.size/\i+j+1<=i'+j'/\Kp st st') ?_ ?_ ⟨_,_,_,_,_,rfl,m,b1,b2,∅,kp⟩) ?_)
  ·rintro y c st2 _ hy ⟨o',i',j',ac,bc,rfl,m',d1,d2,d3,kp'⟩
   dsimp only
   obtain⟨t1,q1,eb⟩:=Y2 hb d2;obtain⟨u1,r1,ea⟩:=Y2 ha (show i'<a.size by omega);have hk':kindOf st2=v4:=kp'.kind.trans hk;refine vM (Yu eb (vM (Yu ea (vM (zA2 hk' ?_)))))
   dsimp only
   by_cases hw:K b j'<K a i'
   ·rw[vQ hw,vG rfl]
    have m2:=m'.b1 sa sb eb ea (show K b j'<=K a i' by omega);refine vM (Yu eb ?_)
    by_cases z:j'+1=b.size
    ·rw[vG (by rw[z];exact beq_self_eq_true _)]
     exact vO (.inl ⟨_,_,rfl,m2.dB sa sb ∅,kp'⟩)
    ·rw[vH ⇑z]
     split
     ·exact vO (.inr ⟨_,_,_,_,_,rfl,m2,d1,∅,∅,kp'⟩)
     ·exact vO ⟨_,_,_,_,_,rfl,m2,d1,∅,∅,kp'⟩
   ·rw[vX hw,vH (by decide)]
    have m2:=m'.a1 sa sb ea eb (show K a i'<=K b j' by omega);refine vM (Yu ea ?_)
    by_cases z:i'+1+1=a.size
    ·rw[vG (by rw[z];exact beq_self_eq_true _)]
     exact vO (.inl ⟨_,_,rfl,m2.dL sa sb hl z,kp'⟩)
    ·rw[vH ⇑z]
     split
     ·exact vO (.inr ⟨_,_,_,_,_,rfl,m2,∅,d2,∅,kp'⟩)
     ·exact vO ⟨_,_,_,_,_,rfl,m2,∅,d2,∅,kp'⟩
  ·rintro c st2 ⟨o',i',j',ac,bc,rfl,m',d1,d2,d3,kp'⟩
   omega
  ·rintro c st2 (⟨r,z,rfl,dn,kp'⟩|⟨o',i',j',ac,bc,rfl,m',d1,d2,d3,kp'⟩)
   ·exact vO ⟨r,_,rfl,dn,kp'⟩
   ·dsimp only
    refine vM (tP (v8 ⟨rfl,?_⟩));refine vM (uA (vm
     (I:=λy c st'=>∃o2 i2 j2 g2 ac bc,c=(none,o2,i2,j2,g2,ac,bc)/\Mg a.toList b.toList o2.toList i2 j2/\i2+1<a.size/\j2<b.size/\i'+j'+y<=i2+j2/\Kp st st')
     (Q:=λc st'=>(∃r z,c=(some r,z)/\Done a.toList b.toList r.toList/\Kp st st')\/∃o2 i2 j2 g2 ac bc,c=(none,o2,i2,j2,g2,ac,bc)/\Mg a.toList b.toList o2.toList i2 j2/\i2+1<a.size/\j2<b.size/\i'+j'<=i2+j2/\Kp st st') ?_ ?_ ⟨_,_,_,_,_,_,rfl,m',d1,d2,∅,kp'⟩) ?_)
    ·rintro y c st3 _ hy ⟨o2,i2,j2,g2,ac2,bc2,rfl,m2,e1,e2,e3,kp3⟩
     dsimp only
     obtain⟨t2,q2,eb⟩:=Y2 hb e2;obtain⟨u2,r2,ea⟩:=Y2 ha (show i2<a.size by omega);refine' (λ(key:∀gg,(_:Nat->Prop) gg)=>_) _
     rotate_left
     ·by_cases hg:g2>1
      ·rw[vG hg]
       generalize g2-1=gg;exact key gg
      ·rw[vH hg]
       exact key g2
     ·intro gg
      refine vM (Xr λst4 kp4=>?_);replace kp4:=kp3.trans kp4;have hk4:kindOf st4=v4:=kp4.kind.trans hk;refine vM (Yu eb ?_);refine vM (XY (k:=K b j2) ha hk4 ∅ ∅ (λs t h1 h2=>zBc sa ∅ ∅) λk g1 g2 g3=>?_)
      dsimp only
      refine' (λ(key:∀(oA:Array vT)(iA:Nat),Mg a.toList b.toList oA.toList iA j2->iA+1<a.size->K b j2<=K a iA->i2<=iA->(_:Array vT->Nat->Prop) oA iA)=>_) _
      rotate_left
      ·by_cases hk0:k>0
       ·rw[vG hk0]
        have mA:=m2.a sa k (λx hx y hy=>y9 (zBD (v:=K b j2) (λt h1 h2=>zAc.1 (g2 t h1)) x hx) (WO sb (drop_one eb) y hy));have mA:Mg a.toList b.toList (o2++a.extract i2 (i2+k)).toList (i2+k) j2:=by rw[yd,zA6];exact mA
        by_cases z:i2+k+1=a.size
        ·rw[vG (by rw[z];exact beq_self_eq_true _)]
         exact vO (.inl ⟨_,_,rfl,mA.dL sa sb hl z,kp4⟩)
        rw[vH ⇑z]
        by_cases z':i2+k=a.size
        ·rw[vG (by rw[z'];exact beq_self_eq_true _)]
         exact vO (.inl ⟨_,_,rfl,mA.dA sa sb ∅,kp4⟩)
        rw[vH ⇑z'];have i1:i2+k+1<a.size:=∅
        have hlt:K b j2<=K a (i2+k):=xZ (zAc.2 (g3 k (zL _) ∅));have le1:i2<=i2+k:=∅
        generalize o2++a.extract i2 (i2+k)=oA at mA ⊢;generalize i2+k=iA at mA i1 hlt le1 ⊢;exact key _ _ mA i1 hlt le1
       ·rw[vH hk0]
        have mA:=m2;have i1:i2+1<a.size:=e1;have hlt:K b j2<=K a i2:=xZ (zAc.2 (g3 0 ∅ ∅));generalize o2=oA at mA ⊢;generalize hiA:i2=iA at mA i1 hlt ⊢;have le1:i2<=iA:=∅
        exact key _ _ mA i1 hlt le1
      ·intro oA iA mA i1 hlt le1
       obtain⟨u3,r3,eA⟩:=Y2 ha (show iA<a.size by omega);have mB:=mA.b1 sa sb eb eA hlt;refine vM (Yu eb ?_)
       by_cases z3:j2+1=b.size
       ·rw[vG (by rw[z3];exact beq_self_eq_true _)]
        exact vO (.inl ⟨_,_,rfl,mB.dB sa sb ∅,kp4⟩)
       rw[vH ⇑z3];refine vM (Yu eA ?_);refine vM (XY (k:=K a iA) hb hk4 ∅ ∅ (λs t h1 h2=>zBc sb ∅ ∅) λk2 p1 p2 p3=>?_)
       dsimp only
       refine' (λ(key2:∀(oB:Array vT)(jB:Nat),Mg a.toList b.toList oB.toList iA jB->jB<b.size->K a iA<=K b jB->j2+1<=jB->(_:Array vT->Nat->Prop) oB jB)=>_) _
       rotate_left
       ·by_cases hk2:k2>0
        ·rw[vG hk2]
         have mC:=mB.b sb k2 (λx hx y hy=>y9 (zBD (v:=K a iA) (λt h1 h2=>xZ (zAe.1 (p2 t h1))) x hx) (WO sa (drop_one eA) y hy));rw[<- zA6,<- yd]at mC
         by_cases z4:j2+1+k2=b.size
         ·rw[vG (by rw[z4];exact beq_self_eq_true _)]
          exact vO (.inl ⟨_,_,rfl,mC.dB sa sb ∅,kp4⟩)
         rw[vH ⇑z4];have j1:j2+1+k2<b.size:=∅
         have hle:K a iA<=K b (j2+1+k2):=zAe.2 (p3 k2 (zL _) ∅);have le2:j2+1<=j2+1+k2:=∅
         generalize oA.push (Value.int (K b j2) t2,q2)++b.extract (j2+1) (j2+1+k2)=oB at mC ⊢;generalize j2+1+k2=jB at mC j1 hle le2 ⊢;exact key2 _ _ mC j1 hle le2
        ·rw[vH hk2]
         have mC:=mB;have j1:j2+1<b.size:=∅
         have hle:K a iA<=K b (j2+1):=zAe.2 (p3 0 ∅ ∅);generalize oA.push (Value.int (K b j2) t2,q2)=oB at mC ⊢;generalize hjB:j2+1=jB at mC j1 hle ⊢;have le2:j2+1<=jB:=∅
         exact key2 _ _ mC j1 hle le2
       ·intro oB jB mC j1 hle le2
        obtain⟨t5,q5,eB⟩:=Y2 hb j1;have mD:=mC.a1 sa sb eA eB hle;refine vM (Yu eA ?_)
        by_cases z5:iA+1+1=a.size
        ·rw[vG (by rw[z5];exact beq_self_eq_true _)]
         exact vO (.inl ⟨_,_,rfl,mD.dL sa sb hl z5,kp4⟩)
        rw[vH ⇑z5]
        by_cases z6:(decide (k<7)&&decide (k2<7))=true
        ·rw[vG z6]
         exact vO (.inr ⟨_,_,_,_,_,_,rfl,mD,∅,j1,∅,kp4⟩)
        ·rw[vH z6]
         exact vO ⟨_,_,_,_,_,_,rfl,mD,∅,j1,∅,kp4⟩
    ·rintro c st3 ⟨o2,i2,j2,g2,ac2,bc2,rfl,m2,e1,e2,e3,kp3⟩
     omega
    ·rintro c st3 (⟨r,z,rfl,dn,kp3⟩|⟨o2,i2,j2,g2,ac2,bc2,rfl,m2,e1,e2,e3,kp3⟩)
     ·exact vO ⟨r,_,rfl,dn,kp3⟩
     ·dsimp only
      refine vM (Xr λst4 kp4=>?_);exact vO ⟨_,_,_,_,rfl,m2,e1,e2,∅,kp3.trans kp4⟩
 ·rintro c st1 ⟨o,i,j,g,rfl,m,b1,b2,b3,kp⟩
  omega
 ·rintro c st1 ⟨r,z,rfl,dn,kp⟩
  exact vO (h r st1 dn kp)
end
end So
set_option maxHeartbeats 1000000
namespace So
open PySem PyProof.Rows
structure Mh (al bl out:List vT) (i j:Nat):Prop where
 perm:(al.take i++(bl.take j++out.reverse)).Perm (al++bl)
 srt:Srt out.reverse
 lea:∀x∈al.take i,∀y∈out,Le x y
 leb:∀x∈bl.take j,∀y∈out,Le x y
def XU{l:List vT}(h:Srt l)(k:Nat):Srt (l.take k):=h.sublist (w8 k l)
def zBq(l:List vT){i k:Nat}(h:k<=i):l.take i=l.take k++(l.take i).drop k:=by
 have:=(yx k (l.take i)).symm;rw[Zg,YO h]at this;exact this
variable{al bl out:List vT}{i j:Nat}
def Mh.a(m:Mh al bl out i j)(sa:Srt al){k:Nat}(hk:k<=i)(h:∀x∈bl.take j,∀y∈(al.take i).drop k,Le x y):Mh al bl (out++((al.take i).drop k).reverse) k j:=by
 have e:=zBq al hk;have sd:Srt (al.take k++(al.take i).drop k):=by rw[<- e];exact XU sa i
 obtain⟨s1,s2,s3⟩:=zZ.mp sd;refine⟨?_,?_,λx hx y hy=>?_,λx hx y hy=>?_⟩
 ·rw[xy,wK]
  refine xV ?_ m.perm;have e2:al.take i++(bl.take j++out.reverse)=al.take k++((al.take i).drop k++(bl.take j++out.reverse)):=by rw[<- zR (al.take k),<- e]
  rw[e2];refine yo _ ?_;rw[<- zR,<- zR];exact xT _ xW
 ·rw[xy,wK]
  exact zZ.mpr ⟨s2,m.srt,λx hx y hy=>m.lea x (xQ hx) y (xG.mp hy)⟩
 ·rcases zT.mp hy with hy|hy
  ·exact m.lea x (by rw[e];exact yJ _ hx) y hy
  ·exact s3 x hx y (xG.mp hy)
 ·rcases zT.mp hy with hy|hy
  ·exact m.leb x hx y hy
  ·exact h x hx y (xG.mp hy)
def Mh.b(m:Mh al bl out i j)(sb:Srt bl){k:Nat}(hk:k<=j)(h:∀x∈al.take i,∀y∈(bl.take j).drop k,Le x y):Mh al bl (out++((bl.take j).drop k).reverse) i k:=by
 have e:=zBq bl hk;have sd:Srt (bl.take k++(bl.take j).drop k):=by rw[<- e];exact XU sb j
 obtain⟨s1,s2,s3⟩:=zZ.mp sd;refine⟨?_,?_,λx hx y hy=>?_,λx hx y hy=>?_⟩
 ·rw[xy,wK]
  have e2:bl.take k++((bl.take j).drop k++out.reverse)=bl.take j++out.reverse:=by rw[<- zR (bl.take k),<- e]
  rw[e2];exact m.perm
 ·rw[xy,wK]
  exact zZ.mpr ⟨s2,m.srt,λx hx y hy=>m.leb x (xQ hx) y (xG.mp hy)⟩
 ·rcases zT.mp hy with hy|hy
  ·exact m.lea x hx y hy
  ·exact h x hx y (xG.mp hy)
 ·rcases zT.mp hy with hy|hy
  ·exact m.leb x (by rw[e];exact yJ _ hx) y hy
  ·exact s3 x hx y (xG.mp hy)
def Mh.done(m:Mh al bl out i j)(sa:Srt al)(sb:Srt bl)(h:∀x∈al.take i,∀y∈bl.take j,Le x y):Done al bl (al.take i++bl.take j++out.reverse):=by
 refine⟨by rw[zR];exact m.perm,?_⟩;refine zZ.mpr ⟨zZ.mpr ⟨XU sa i,XU sb j,h⟩,m.srt,λx hx y hy=>?_⟩;exact(zT.mp hx).elim (λhx=>m.lea x hx y (xG.mp hy)) (λhx=>m.leb x hx y (xG.mp hy))
def Mh.first(m:Mh al bl out i j)(sa:Srt al)(sb:Srt bl)(h:∀y∈bl.take j,∀x∈al.take i,Le y x):Done al bl (bl.take j++al.take i++out.reverse):=by
 refine⟨?_,?_⟩
 ·refine xV ?_ m.perm
  rw[<- zR];exact xT _ xW
 ·refine zZ.mpr ⟨zZ.mpr ⟨XU sb j,XU sa i,h⟩,m.srt,λx hx y hy=>?_⟩
  exact(zT.mp hx).elim (λhx=>m.leb x hx y (xG.mp hy)) (λhx=>m.lea x hx y (xG.mp hy))
def q3L{xs:Array vT}{i:Nat}{p:vT}(h:xs[i]?=some p):(xs.toList.take (i+1)).drop i=[p]:=by
 obtain⟨hi,e⟩:=ww.mp h;rw[YY,xp ⇑hi];simp[e]
def WM{xs:Array vT}(s:Srt xs.toList){i:Nat}{p:vT}(h:xs[i]?=some p):∀y∈xs.toList.take (i+1),Le y p:=by
 have sd:=XU s (i+1);have e:=zBq xs.toList (show i<=i+1 by omega);rw[q3L h]at e;rw[e]at sd ⊢;intro y hy;rcases zT.mp hy with hy|hy
 ·exact(zZ.mp sd).2.2 y hy p (by simp)
 ·have:y=p:=by simpa using hy
  rw[this];exact yn _
def Mh.a1{a b out:Array vT}{i j:Nat}{p q:vT}(m:Mh a.toList b.toList out.toList (i+1) (j+1))(sa:Srt a.toList)(sb:Srt b.toList)(hp:a[i]?=some p)(hq:b[j]?=some q)(h:Le q p):Mh a.toList b.toList (out.push p).toList i (j+1):=by
 have:=m.a sa (k:=i) ∅ (by
  rw[q3L hp];intro x hx y hy;have:y=p:=by simpa using hy
  subst this;exact y9 (WM sb hq x hx) h)
 rw[q3L hp]at this;simpa using this
def Mh.b1{a b out:Array vT}{i j:Nat}{p q:vT}(m:Mh a.toList b.toList out.toList (i+1) (j+1))(sa:Srt a.toList)(sb:Srt b.toList)(hp:b[j]?=some p)(hq:a[i]?=some q)(h:Le q p):Mh a.toList b.toList (out.push p).toList (i+1) j:=by
 have:=m.b sb (k:=j) ∅ (by
  rw[q3L hp];intro x hx y hy;have:y=p:=by simpa using hy
  subst this;exact y9 (WM sa hq x hx) h)
 rw[q3L hp]at this;simpa using this
def zCQ{xs:Array vT}{i:Nat}:(xs.extract 0 i).toList=xs.toList.take i:=by
 rw[xt,wQ];simp
def zAv{xs:Array vT}{i k:Nat}:(xs.extract k i).toList=(xs.toList.take i).drop k:=by
 rw[xt,wQ,YY]
def Mh.d0{a b out:Array vT}{i j:Nat}(m:Mh a.toList b.toList out.toList i j)(sa:Srt a.toList)(sb:Srt b.toList)(h:i=0\/j=0):Done a.toList b.toList (a.extract 0 i++b.extract 0 j++out.reverse).toList:=by
 have:=m.done sa sb (λx hx y hy=>by
  rcases h with rfl|rfl
  ·simp at hx
  ·simp at hy)
 rw[yd,yd,zCQ,zCQ,wL];exact this
def Mh.dF{a b out:Array vT}{i j:Nat}(m:Mh a.toList b.toList out.toList i j)(sa:Srt a.toList)(sb:Srt b.toList)(hf:∀y∈b.toList.take 1,∀x∈a.toList,Le y x)(h:j=1):Done a.toList b.toList (b.extract 0 j++a.extract 0 i++out.reverse).toList:=by
 have:=m.first sa sb (λy hy x hx=>hf y (by rw[h]at hy;exact hy) x (xb hx))
 rw[yd,yd,zCQ,zCQ,wL];exact this
end So
set_option maxHeartbeats 1000000
namespace So
open PySem PyProof.Rows
noncomputable def zCH:Array vT->Array vT->StateT vk Sem (Array vT):=sortPriv% PySem.Builtin.mergeHi
section
variable{prog:vS}{w:vY}{A:vZ}{E:Value->vB->Prop}{s:vB}
def zBE{xs:Array vT}{i k:Nat}{v:Int}(h:∀t,k<=t->t<i->v<=K xs t):∀x∈(xs.toList.take i).drop k,v<=ke x:=by
 intro x hx;obtain⟨t,ht,e⟩:=ye.mp hx;rw[xu,xg]at e;rw[yy,yK]at ht;have hl:k+t<xs.size:=by simp at ht;omega
 have e2:xs[k+t]?=some x:=by rw[getElem?_pos xs (k+t) hl,<- e];rfl
 have:=h (k+t) ∅ ∅;rw[zBg e2]at this;exact this
def zAx{a b:Array vT}{st:vk}{Q:Array vT->vk->Prop}(ha:IntKeys a)(hb:IntKeys b)(sa:Srt a.toList)(sb:Srt b.toList)(na:1<=a.size)(nb:1<=b.size)(h1:K b (b.size-1)<=K a (a.size-1))(hf:∀y∈b.toList.take 1,∀x∈a.toList,Le y x)(hk:kindOf st=v4)(h:∀r st',Done a.toList b.toList r.toList->Kp st st'->Q r st'):wpS (model prog w) A E s (zCH a b) Q st:=by
 refine vM (tP (v8 ⟨rfl,?_⟩));obtain⟨t0,q0,ea0⟩:=Y2 ha (show a.size-1<a.size by omega);obtain⟨u0,r0,eb0⟩:=Y2 hb (show b.size-1<b.size by omega);refine vM (Yu ea0 ?_);have m0:Mh a.toList b.toList (#[]:Array vT).toList (a.size-1+1) (b.size-1+1):=by
  rw[show a.size-1+1=a.size by omega,show b.size-1+1=b.size by omega];refine⟨?_,xf,λx _ y hy=>by simp at hy,λx _ y hy=>by simp at hy⟩;rw[xR (by simp),xR (by simp)];simp
 have m1:=m0.a1 sa sb ea0 eb0 (show K b (b.size-1)<=K a (a.size-1)from h1);rw[show b.size-1+1=b.size by omega]at m1;have m1:Mh a.toList b.toList (#[(Value.int (K a (a.size-1)) t0,q0)]:Array vT).toList (a.size-1) b.size:=m1
 dsimp only
 by_cases z1:a.size-1=0
 ·rw[vG (by rw[z1];rfl)]
  exact vO (h _ st (m1.d0 sa sb (.inl z1)) (Kp.refl st))
 rw[vH ⇑z1]
 by_cases z2:b.size=1
 ·rw[vG (by rw[z2];rfl)]
  exact vO (h _ st (m1.dF sa sb hf z2) (Kp.refl st))
 rw[vH ⇑z2];refine vM (tF ?_);refine vM (uA (vm
  (I:=λx c st'=>∃o i j g,c=(none,i,j,o,g)/\Mh a.toList b.toList o.toList i j/\1<=i/\2<=j/\i<=a.size/\j<=b.size/\x+1+i+j<=a.size+b.size/\Kp st st')
  (Q:=λc st'=>∃r z,c=(some r,z)/\Done a.toList b.toList r.toList/\Kp st st') ?_ ?_ ⟨_,_,_,_,rfl,m1,∅,∅,∅,∅,∅,Kp.refl st⟩) ?_)
 ·rintro x c st1 _ hx ⟨o,i,j,g,rfl,m,b1,b2,b3,b4,b5,kp⟩
  dsimp only
  refine vM (uA (vm
   (I:=λy c st'=>∃o' i' j' ac bc,c=(none,i',j',o',ac,bc)/\Mh a.toList b.toList o'.toList i' j'/\1<=i'/\2<=j'/\i'<=a.size/\j'<=b.size/\y+i'+j'<=i+j/\Kp st st')
   (Q:=λc st'=>(∃r z,c=(some r,z)/\Done a.toList b.toList r.toList/\Kp st st')\/∃o' i' j' ac bc,c=(none,i',j',o',ac,bc)/\Mh a.toList b.toList o'.toList i' j'/\1<=i'/\2<=j'/\i'<=a.size/\j'<=b.size/\1+i'+j'<=i+j/\Kp st st') ?_ ?_ ⟨_,_,_,_,_,rfl,m,b1,b2,b3,b4,∅,kp⟩) ?_)
  ·rintro y c st2 _ hy ⟨o',i',j',ac,bc,rfl,m',c1,c2,c3,c4,c5,kp'⟩
   dsimp only
   obtain⟨i',rfl⟩:∃n,i'=n+1:=⟨i'-1,∅⟩;obtain⟨j',rfl⟩:∃n,j'=n+1:=⟨j'-1,∅⟩;simp only[xm];obtain⟨t1,q1,eb⟩:=Y2 hb (show j'<b.size by omega);obtain⟨u1,r1,ea⟩:=Y2 ha (show i'<a.size by omega);have hk':kindOf st2=v4:=kp'.kind.trans hk;refine vM (Yu eb (vM (Yu ea (vM (zA2 hk' ?_)))))
   dsimp only
   by_cases hw:K b j'<K a i'
   ·rw[vQ hw,vG rfl]
    have m2:=m'.a1 sa sb ea eb (show K b j'<=K a i' by omega);refine vM (Yu ea ?_)
    by_cases z:i'=0
    ·rw[vG (by rw[z];rfl)]
     exact vO (.inl ⟨_,_,rfl,m2.d0 sa sb (.inl z),kp'⟩)
    ·rw[vH ⇑z]
     split
     ·exact vO (.inr ⟨_,_,_,_,_,rfl,m2,∅,∅,∅,∅,∅,kp'⟩)
     ·exact vO ⟨_,_,_,_,_,rfl,m2,∅,∅,∅,∅,∅,kp'⟩
   ·rw[vX hw,vH (by decide)]
    have m2:=m'.b1 sa sb eb ea (show K a i'<=K b j' by omega);refine vM (Yu eb ?_)
    by_cases z:j'=1
    ·rw[vG (by rw[z];rfl)]
     exact vO (.inl ⟨_,_,rfl,m2.dF sa sb hf z,kp'⟩)
    ·rw[vH ⇑z]
     split
     ·exact vO (.inr ⟨_,_,_,_,_,rfl,m2,∅,∅,∅,∅,∅,kp'⟩)
     ·exact vO ⟨_,_,_,_,_,rfl,m2,∅,∅,∅,∅,∅,kp'⟩
  ·rintro c st2 ⟨o',i',j',ac,bc,rfl,m',c1,c2,c3,c4,c5,kp'⟩
   omega
  ·rintro c st2 (⟨r,z,rfl,dn,kp'⟩|⟨o',i',j',ac,bc,rfl,m',c1,c2,c3,c4,c5,kp'⟩)
   ·exact vO ⟨r,_,rfl,dn,kp'⟩
   ·dsimp only
    refine vM (tP (v8 ⟨rfl,?_⟩));refine vM (uA (vm
     (I:=λy c st'=>∃o2 i2 j2 g2 ac bc,c=(none,i2,j2,o2,g2,ac,bc)/\Mh a.toList b.toList o2.toList i2 j2/\1<=i2/\2<=j2/\i2<=a.size/\j2<=b.size/\y+i2+j2<=i'+j'/\Kp st st')
     (Q:=λc st'=>(∃r z,c=(some r,z)/\Done a.toList b.toList r.toList/\Kp st st')\/∃o2 i2 j2 g2 ac bc,c=(none,i2,j2,o2,g2,ac,bc)/\Mh a.toList b.toList o2.toList i2 j2/\1<=i2/\2<=j2/\i2<=a.size/\j2<=b.size/\i2+j2<=i'+j'/\Kp st st') ?_ ?_ ⟨_,_,_,_,_,_,rfl,m',c1,c2,c3,c4,∅,kp'⟩) ?_)
    ·rintro y c st3 _ hy ⟨o2,i2,j2,g2,ac2,bc2,rfl,m2,e1,e2,e3,e4,e5,kp3⟩
     dsimp only
     obtain⟨jB,rfl⟩:∃n,j2=n+1:=⟨j2-1,∅⟩;simp only[xm];obtain⟨t2,q2,eb⟩:=Y2 hb (show jB<b.size by omega);refine' (λ(key:∀gg,(_:Nat->Prop) gg)=>_) _
     rotate_left
     ·by_cases hg:g2>1
      ·rw[vG hg]
       generalize g2-1=gg;exact key gg
      ·rw[vH hg]
       exact key g2
     ·intro gg
      refine vM (Xr λst4 kp4=>?_);replace kp4:=kp3.trans kp4;have hk4:kindOf st4=v4:=kp4.kind.trans hk;refine vM (Yu eb ?_);refine vM (XY (k:=K b jB) ha hk4 ∅ ∅ (λs t h1 h2=>zBc sa ∅ ∅) λk g1 g2 g3=>?_);simp only[zr]at g2 g3
      dsimp only
      refine' (λ(key:∀(oA:Array vT)(kA iA:Nat),Mh a.toList b.toList oA.toList iA (jB+1)->K a (iA-1)<=K b jB->(1<=iA/\iA<=i2)->(_:Array vT->Nat->Nat->Prop) oA kA iA)=>_) _
      rotate_left
      ·by_cases hk0:i2-k>0
       ·rw[vG hk0]
        have mA:=m2.a sa g1 (λx hx y hy=>y9 (WM sb eb x hx) (zBE (v:=K b jB) (λt h1 h2=>xZ (zAc.2 (g3 t h1 h2))) y hy));have mA:Mh a.toList b.toList (o2++(a.extract k i2).reverse).toList k (jB+1):=by rw[yd,wL,zAv];exact mA
        by_cases z:k=0
        ·rw[vG (by rw[z];rfl)]
         exact vO (.inl ⟨_,_,rfl,mA.d0 sa sb (.inl z),kp4⟩)
        rw[vH ⇑z];have hle:K a (k-1)<=K b jB:=zAc.1 (g2 (k-1) ∅);have i1:1<=k/\k<=i2:=⟨∅,g1⟩;generalize o2++(a.extract k i2).reverse=oA at mA ⊢;generalize i2-k=kA;generalize k=iA at mA hle i1 ⊢;exact key oA kA iA mA hle i1
       ·rw[vH hk0]
        have mA:=m2;have hle:K a (i2-1)<=K b jB:=zAc.1 (g2 (i2-1) ∅);have i1:1<=i2/\i2<=i2:=⟨e1,zL _⟩;generalize o2=oA at mA ⊢;generalize i2-k=kA;generalize hiA:i2=iA at mA hle ⊢;rw[hiA]at i1;have i1:1<=iA/\iA<=i2:=⟨i1.1,∅⟩;exact key oA kA iA mA hle i1
      ·intro oA kA iA mA hle i1
       obtain⟨iB,rfl⟩:∃n,iA=n+1:=⟨iA-1,∅⟩;simp only[xm]at hle ⊢;obtain⟨u3,r3,eA⟩:=Y2 ha (show iB<a.size by omega);have mB:=mA.b1 sa sb eb eA hle;refine vM (Yu eb ?_)
       by_cases z3:jB=1
       ·rw[vG (by rw[z3];rfl)]
        exact vO (.inl ⟨_,_,rfl,mB.dF sa sb hf z3,kp4⟩)
       rw[vH ⇑z3];refine vM (Yu eA ?_);refine vM (XY (k:=K a iB) hb hk4 ∅ ∅ (λs t h1 h2=>zBc sb ∅ ∅) λk2 p1 p2 p3=>?_);simp only[zr]at p2 p3
       dsimp only
       refine' (λ(key2:∀(oB:Array vT)(kB jC:Nat),Mh a.toList b.toList oB.toList (iB+1) jC->K b (jC-1)<=K a iB->(2<=jC/\jC<=jB)->(_:Array vT->Nat->Nat->Prop) oB kB jC)=>_) _
       rotate_left
       ·by_cases hk2:jB-k2>0
        ·rw[vG hk2]
         have mC:=mB.b sb p1 (λx hx y hy=>y9 (WM sa eA x hx) (zBE (v:=K a iB) (λt h1 h2=>zAe.2 (p3 t h1 h2)) y hy));rw[<- zAv,<- wL,<- yd]at mC
         by_cases z4:k2=1
         ·rw[vG (by rw[z4];rfl)]
          exact vO (.inl ⟨_,_,rfl,mC.dF sa sb hf z4,kp4⟩)
         rw[vH ⇑z4]
         by_cases z4':k2=0
         ·rw[vG (by rw[z4'];rfl)]
          exact vO (.inl ⟨_,_,rfl,mC.d0 sa sb (.inr z4'),kp4⟩)
         rw[vH ⇑z4'];have hle2:K b (k2-1)<=K a iB:=xZ (zAe.1 (p2 (k2-1) ∅));have j1:2<=k2/\k2<=jB:=⟨∅,p1⟩;generalize oA.push (Value.int (K b jB) t2,q2)++(b.extract k2 jB).reverse=oB at mC ⊢;generalize jB-k2=kB;generalize k2=jC at mC hle2 j1 ⊢;exact key2 oB kB jC mC hle2 j1
        ·rw[vH hk2]
         have mC:=mB;have hle2:K b (jB-1)<=K a iB:=xZ (zAe.1 (p2 (jB-1) ∅));generalize oA.push (Value.int (K b jB) t2,q2)=oB at mC ⊢;generalize jB-k2=kB;generalize hjC:jB=jC at mC hle2 ⊢;have j1:2<=jC/\jC<=jB:=⟨∅,∅⟩;exact key2 oB kB jC mC hle2 j1
       ·intro oB kB jC mC hle2 j1
        obtain⟨jD,rfl⟩:∃n,jC=n+1:=⟨jC-1,∅⟩;simp only[xm]at hle2;obtain⟨t5,q5,eB⟩:=Y2 hb (show jD<b.size by omega);have mD:=mC.a1 sa sb eA eB hle2;refine vM (Yu eA ?_)
        by_cases z5:iB=0
        ·rw[vG (by rw[z5];rfl)]
         exact vO (.inl ⟨_,_,rfl,mD.d0 sa sb (.inl z5),kp4⟩)
        rw[vH ⇑z5]
        by_cases z6:(decide (kA<7)&&decide (kB<7))=true
        ·rw[vG z6]
         exact vO (.inr ⟨_,_,_,_,_,_,rfl,mD,∅,∅,∅,∅,∅,kp4⟩)
        ·rw[vH z6]
         exact vO ⟨_,_,_,_,_,_,rfl,mD,∅,∅,∅,∅,∅,kp4⟩
    ·rintro c st3 ⟨o2,i2,j2,g2,ac2,bc2,rfl,m2,e1,e2,e3,e4,e5,kp3⟩
     omega
    ·rintro c st3 (⟨r,z,rfl,dn,kp3⟩|⟨o2,i2,j2,g2,ac2,bc2,rfl,m2,e1,e2,e3,e4,e5,kp3⟩)
     ·exact vO ⟨r,_,rfl,dn,kp3⟩
     ·dsimp only
      refine vM (Xr λst4 kp4=>?_);exact vO ⟨_,_,_,_,rfl,m2,e1,e2,e3,e4,∅,kp3.trans kp4⟩
 ·rintro c st1 ⟨o,i,j,g,rfl,m,b1,b2,b3,b4,b5,kp⟩
  omega
 ·rintro c st1 ⟨r,z,rfl,dn,kp⟩
  exact vO (h r st1 dn kp)
end
end So
set_option maxHeartbeats 1000000
namespace So
open PySem PyProof.Rows
def zCz{P:List vT}{x y:vT}{S:List vT}{n:Nat}(h:n=P.length):(P++x::S).set n y=P++y::S:=by
 subst h;rw[List.set_append_right _ _ (zL _),Z6];rfl
theorem zBB(s:Nat):∀(ys:List vT)(n:Nat)(xs:Array vT)(P M S:List vT),xs.toList=P++M++S->P.length=s+n->M.length=ys.length ->
  ((ys.zipIdx n).foldl (λa p=>a.setIfInBounds (s+p.2) p.1) xs).toList=P++ys++S
 | [],n,xs,P,M,S,h,hp,hm=>by
  have:M=[]:=ZM.mp hm;subst this;exact h
 | y::ys,n,xs,P,M,S,h,hp,hm=>by
  cases M with
  | nil=>cases hm
  | cons x M=>
   rw[ZL,YL];have h2:(xs.setIfInBounds (s+n) y).toList=(P++[y])++M++S:=by
    rw[wx,h];have:P++x::M++S=P++x::(M++S):=by simp
    rw[this,zCz ∅];simp
   rw[zBB s ys (n+1) _ (P++[y]) M S h2 (by simp;omega) ⇑hm];simp
section
variable{prog:vS}{w:vY}{A:vZ}{E:Value->vB->Prop}{s:vB}
def WQ{xs ys:Array vT}(h:IntKeys xs)(hs:∀p∈ys.toList,p∈xs.toList):IntKeys ys:=λp hp=>h p (hs p hp)
def zBY{X M Y:List vT}(h1:Srt X)(h2:Srt M)(h3:Srt Y)(h12:∀x∈X,∀y∈M,Le x y)(h13:∀x∈X,∀y∈Y,Le x y)(h23:∀x∈M,∀y∈Y,Le x y):Srt (X++M++Y) :=
 zZ.mpr ⟨zZ.mpr ⟨h1,h2,h12⟩,h3,λx hx y hy=>(zT.mp hx).elim (λhx=>h13 x hx y hy) (λhx=>h23 x hx y hy)⟩
def zCd{σ:Type}{M:tW}{x:σ}{Q:PUnit->σ->Prop}{st:σ}(h:Q ⟨⟩ x):wpS M A E s (set x:StateT σ Sem PUnit) Q st:=by
 unfold wpS;rw[StateT.run_set];exact vF ⟨rfl,h⟩
def zCr{arr:Array vT}{P X S:List vT}{s0 t:Nat}(hl:arr.toList=P++X++S)(hp:P.length=s0)(ht:t<X.length):arr[s0+t]?=X[t]?:=by
 rw[<- yE,hl,zR,yC ∅,show s0+t-P.length=t by omega,yf ht]
def W1{arr:Array vT}{P X S:List vT}{s0 t:Nat}(hl:arr.toList=P++X++S)(hp:P.length=s0)(ht:t<X.length):K arr (s0+t)=ke X[t]:=by
 have:=zCr hl hp ht;rw[zG ht]at this;exact zBg this
def zAL{arr:Array vT}{P X S:List vT}{s0:Nat}(hl:arr.toList=P++X++S)(hp:P.length=s0)(hs:Srt X):∀i j,i<=j->j<X.length->K arr (s0+i)<=K arr (s0+j):=λi j h1 h2=>by
 rw[W1 hl hp ∅,W1 hl hp h2];rcases yt i j with z|z
 ·exact xo.mp hs i j ∅ h2 z
 ·have:i=j:=∅
  subst this;exact yn _
def X1{X:List vT}{k:Nat}{x:vT}(h:x∈X.take k):∃t,∃(ht:t<X.length),t<k/\X[t]=x:=by
 obtain⟨t,ht,e⟩:=ye.mp h;rw[yK]at ht;rw[xg]at e;exact⟨t,∅,∅,e⟩
def X3{X:List vT}{k:Nat}{x:vT}(h:x∈X.drop k):∃t,∃(ht:t<X.length),k<=t/\X[t]=x:=by
 obtain⟨t,ht,e⟩:=ye.mp h;rw[yy]at ht;rw[xu]at e;exact⟨k+t,∅,∅,e⟩
def zBf{arr:Array vT}{P X S:List vT}{s0 e0:Nat}(hl:arr.toList=P++X++S)(hp:P.length=s0)(he:e0=s0+X.length):(arr.extract s0 e0).toList=X:=by
 rw[zAv,hl,zR];subst he;rw[<- hp,<- zD,<- zR,YZ,List.drop_left]
def zAr{st:vk}{i sa na pw sb nb pw2:Nat}{P S RA RB:List vT}{Q:Bool->vk->Prop}(h0:IntKeys (vU st))(hk:kindOf st=v4)(hfl:uP st=none)(p1:(va st)[i]?=some (sa,na,pw))(p2:(va st)[i+1]?=some (sb,nb,pw2))(hl:(vU st).toList=P++RA++RB++S)(lP:P.length=sa)(lA:RA.length=na)(lB:RB.length=nb)(hsb:sb=sa+na)(n1:1<=na)(n2:1<=nb)(sA:Srt RA)(sB:Srt RB)(h:∀st' R,kindOf st'=v4->uP st'=none->va st'=((va st).setIfInBounds i (sa,na+nb,pw)).eraseIdxIfInBounds (i+1)->(vU st').toList=P++R++S->R.Perm (RA++RB)->Srt R->Q true st'):wpS (model prog w) A E s (mergeAt' i) Q st:=by
 cases st with
 | mk kd arr pe gl fa=>
 dsimp only[vU,kindOf,va,uP]at h0 hk hfl p1 p2 hl
 refine vM (tF ?_)
 dsimp only
 rw[p1,p2]
 dsimp only
 refine vM (zCd ?_);generalize hst2:SortSt.mk' kd arr ((pe.setIfInBounds i (sa,na+nb,pw)).eraseIdxIfInBounds (i+1)) gl fa=st2;have k2:kindOf st2=v4:=by rw[<- hst2];exact hk
 have f2:uP st2=none:=by rw[<- hst2];exact hfl
 have pd2:va st2=(pe.setIfInBounds i (sa,na+nb,pw)).eraseIdxIfInBounds (i+1):=by rw[<- hst2]
 have ar2:vU st2=arr:=by rw[<- hst2]
 change wpS _ _ _ _ _ _ (SortSt.mk' kd arr ((pe.setIfInBounds i (sa,na+nb,pw)).eraseIdxIfInBounds (i+1)) gl fa)
 rw[hst2];have hlA:arr.toList=P++RA++(RB++S):=by rw[hl];simp
 have hlB:arr.toList=(P++RA)++RB++S:=by rw[hl]
 have lPA:(P++RA).length=sb:=by rw[zD];omega
 have hsz:arr.size=sa+na+nb+S.length:=by
  have:=uG wH hl;simp only[zD,zN]at this;omega
 obtain⟨t0,q0,eb0⟩:=Y2 h0 (show sb<arr.size by omega);have kb0:K arr sb=ke RB[0]:=W1 (t:=0) hlB lPA ∅;refine vM (Yu eb0 ?_);refine vM (XY (k:=K arr sb) h0 k2 ∅ ∅ (λi j h1 h2=>zAL hlA lP sA i j h1 ∅) λk g1 g2 g3=>?_)
 dsimp only
 have a1:∀x∈RA.take k,ke x<=K arr sb:=λx hx=>by
  obtain⟨t,ht,hk',rfl⟩:=X1 hx;rw[<- W1 hlA lP ht];exact zAc.1 (g2 t hk')
 have a2:∀x∈RA.drop k,K arr sb<ke x:=λx hx=>by
  obtain⟨t,ht,hk',rfl⟩:=X3 hx;rw[<- W1 hlA lP ht];exact zAc.2 (g3 t hk' ∅)
 have bb:∀x∈RB,K arr sb<=ke x:=λx hx=>by
  obtain⟨t,ht,rfl⟩:=ye.mp hx;rw[<- W1 hlB lPA ht];exact zAL hlB lPA sB 0 t ∅ ht
 by_cases z1:na-k=0
 ·rw[vG (by rw[z1];rfl)]
  refine vO (h st2 (RA++RB) k2 f2 pd2 (by rw[ar2,hl];simp) (xl _) (zZ.mpr ⟨sA,sB,λx hx y hy=>?_⟩));have e:RA.take k=RA:=xR ∅;exact y9 (a1 x (by rw[e];exact hx)) (bb y hy)
 rw[vH ⇑z1];have hla:sa+k+(na-k)-1=sa+(na-1):=∅
 rw[hla];obtain⟨t1,q1,ea1⟩:=Y2 h0 (show sa+(na-1)<arr.size by omega);have ka:K arr (sa+(na-1))=ke RA[na-1]:=W1 hlA lP ∅;refine vM (Yu ea1 ?_);refine vM (XY (k:=K arr (sa+(na-1))) h0 k2 ∅ ∅ (λi j h1 h2=>zAL hlB lPA sB i j h1 ∅) λm c1 c2 c3=>?_)
 dsimp only
 have b1:∀x∈RB.take m,ke x<K arr (sa+(na-1)):=λx hx=>by
  obtain⟨t,ht,hk',rfl⟩:=X1 hx;rw[<- W1 hlB lPA ht];exact zAe.1 (c2 t hk')
 have b2:∀x∈RB.drop m,K arr (sa+(na-1))<=ke x:=λx hx=>by
  obtain⟨t,ht,hk',rfl⟩:=X3 hx;rw[<- W1 hlB lPA ht];exact zAe.2 (c3 t hk' ∅)
 have aa:∀x∈RA,ke x<=K arr (sa+(na-1)):=λx hx=>by
  obtain⟨t,ht,rfl⟩:=ye.mp hx;rw[<- W1 hlA lP ht];exact zAL hlA lP sA t (na-1) ∅ ∅
 by_cases z2:m=0
 ·rw[vG (by rw[z2];rfl)]
  refine vO (h st2 (RA++RB) k2 f2 pd2 (by rw[ar2,hl];simp) (xl _) (zZ.mpr ⟨sA,sB,λx hx y hy=>?_⟩));exact y9 (aa x hx) (b2 y (by rw[z2];exact hy))
 rw[vH ⇑z2];have eA:RA=RA.take k++RA.drop k:=(yx k RA).symm;have eB:RB=RB.take m++RB.drop m:=(yx m RB).symm;have hx:(arr.extract (sa+k) sb).toList=RA.drop k:=zBf (P:=P++RA.take k) (S:=RB++S) (by rw[hlA,zR P (RA.take k),yx]) (by rw[zD,yK];omega) (by rw[yy];omega);have hy:(arr.extract sb (sb+m)).toList=RB.take m:=zBf (P:=P++RA) (S:=RB.drop m++S) (by rw[hlB,zR (P++RA) (RB.take m),show RB.take m++(RB.drop m++S)=RB++S by rw[<- zR,yx],zR (P++RA)]) lPA (by rw[yK];omega);generalize hX:arr.extract (sa+k) sb=X at hx;generalize hY:arr.extract sb (sb+m)=Y at hy;have lX:X.size=na-k:=by rw[<- zN,hx,yy];omega
 have lY:Y.size=m:=by rw[<- zN,hy,yK];omega
 have iX:IntKeys X:=WQ h0 λp hp=>by rw[hx]at hp;rw[hlA];have:=xQ hp;simp[this]
 have iY:IntKeys Y:=WQ h0 λp hp=>by rw[hy]at hp;rw[hlB];have:=xb hp;simp[this]
 have sX:Srt X.toList:=by rw[hx];exact XQ sA k
 have sY:Srt Y.toList:=by rw[hy];exact XU sB m
 have memX:∀i,i<X.size->∃x∈RA.drop k,K X i=ke x:=λi hi=>by
  have e:X[i]?=some X[i]:=getElem?_pos _ i hi;exact⟨X[i],by rw[<- hx];simp,zBg e⟩
 have memY:∀i,i<Y.size->∃x∈RB.take m,K Y i=ke x:=λi hi=>by
  have e:Y[i]?=some Y[i]:=getElem?_pos _ i hi;exact⟨Y[i],by rw[<- hy];simp,zBg e⟩
 have q1:∀x∈RA.drop k,∀y∈RB.take 1,Le y x:=λx hx y hy=>by
  obtain⟨t,ht,hk',rfl⟩:=X1 hy;have:t=0:=∅
  subst this;have:=a2 x hx;show ke RB[0]<=ke x;rw[<- kb0];omega
 have h1:K Y 0<=K X 0:=by
  obtain⟨x,hx',ex⟩:=memX 0 ∅;have e:Y[0]?=some Y[0]:=getElem?_pos _ 0 ∅;rw[ex,zBg e];refine q1 x hx' _ ?_;have:Y.toList.take 1=RB.take 1:=by rw[hy,Zg];congr 1;omega
  rw[<- this];have:=drop_one e;rw[Ya]at this;rw[this];simp
 have hlast:∀y∈Y.toList,∀x∈X.toList.drop (X.size-1),Le y x:=λy hy' x hx'=>by
  rw[hy]at hy';rw[hx,YX]at hx';obtain⟨t,ht,hk',rfl⟩:=X3 hx';have:t=na-1:=∅
  subst this;have:=b1 y hy';show ke y<=ke RA[na-1];rw[<- ka];omega
 have h1':K Y (Y.size-1)<=K X (X.size-1):=by
  obtain⟨y,hy',ey⟩:=memY (Y.size-1) ∅;have e:X[X.size-1]?=some X[X.size-1]:=getElem?_pos _ _ ∅;rw[ey,zBg e];refine hlast y (by rw[hy];exact hy') _ ?_;rw[drop_one e];simp
 have hfirst:∀y∈Y.toList.take 1,∀x∈X.toList,Le y x:=λy hy' x hx'=>by
  rw[hy,Zg]at hy';rw[hx]at hx';exact q1 x hx' y (by rw[show min 1 m=1 by omega]at hy';exact hy')
 by_cases z3:na-k<=m
 case' pos=>
  rw[vG z3];refine vM (zAu iX iY sX sY ∅ ∅ h1 hlast k2 λr st3 dn kp=>?_)
 case' neg=>
  rw[vH z3];refine vM (zAx iX iY sX sY ∅ ∅ h1' hfirst k2 λr st3 dn kp=>?_)
 all_goals
  rw[hx,hy]at dn;have f3:uP st3=none:=kp.fail.trans f2;have ar3:vU st3=arr:=kp.arr.trans ar2;have pm:(RA.take k++r.toList++RB.drop m).Perm (RA++RB):=by
   have:RA++RB=RA.take k++(RA.drop k++RB.take m)++RB.drop m:=by
    conv=>lhs;rw[eA,eB]
    simp only[zR]
   rw[this];exact xT _ (yo _ dn.perm)
  have inr:∀x∈r.toList,x∈RA.drop k\/x∈RB.take m:=λx hx'=>zT.mp (dn.perm.mem_iff.mp hx');have sAA:Srt (RA.take k++RA.drop k):=by rw[<- eA];exact sA
  have sBB:Srt (RB.take m++RB.drop m):=by rw[<- eB];exact sB
  have sR:Srt (RA.take k++r.toList++RB.drop m):=zBY (XU sA k) dn.srt (XQ sB m)
   (λx hx' y hy'=>(inr y hy').elim (λhy'=>(zZ.mp sAA).2.2 x hx' y hy') (λhy'=>y9 (a1 x hx') (bb y (xb hy'))))
   (λx hx' y hy'=>y9 (a1 x hx') (bb y (xQ hy')))
   (λx hx' y hy'=>(inr x hx').elim (λhx'=>y9 (aa x (xQ hx')) (b2 y hy')) (λhx'=>(zZ.mp sBB).2.2 x hx' y hy'))
  have lr:r.toList.length=(RA.drop k++RB.take m).length:=dn.perm.length_eq;have hput:=zBB (sa+k) r.toList 0 arr (P++RA.take k) (RA.drop k++RB.take m) (RB.drop m++S) (by
   rw[hl]
   conv=>lhs;rw[eA,eB]
   simp only[zR]) (by rw[zD,yK];omega) lr.symm
  refine vM (uo (vM (tF ?_)));have fin:=h (SortSt.mk' (kindOf st3) (ZP (λa x=>a.setIfInBounds (sa+k+x.snd) x.fst) (vU st3) r.toList.zipIdx) (va st3) (gallopOf st3) (uP st3)) (RA.take k++r.toList++RB.drop m) (kp.kind.trans k2) f3 (kp.pend.trans pd2) (by
   show (ZP _ (vU st3) _).toList=_;rw[ar3,hput];simp only[zR]) pm sR
  show wpS _ _ _ _ (pure (uP st3).isNone) _ _;rw[f3];exact vO fin
end
end So
set_option maxHeartbeats 1000000
namespace So
open PySem PyProof.Rows
def SrK(xs:Array vT)(lo k:Nat):Prop:=∀i j,i<=j->j<k->K xs (lo+i)<=K xs (lo+j)
structure Within (lo hi:Nat) (st st':vk):Prop where
 kind:kindOf st'=kindOf st
 pend:va st'=va st
 fail:uP st'=uP st
 perm:(vU st').Perm (vU st)
 out:∀t,(t<lo\/hi<=t)->(vU st')[t]?=(vU st)[t]?
def Within.refl(lo hi:Nat)(st:vk):Within lo hi st st:=⟨rfl,rfl,rfl,YQ _,λ_ _=>rfl⟩
theorem Within.trans{lo hi:Nat}{a b c:vk}(h:Within lo hi a b)(h':Within lo hi b c):Within lo hi a c:=⟨h'.kind.trans h.kind,h'.pend.trans h.pend,h'.fail.trans h.fail,h'.perm.trans h.perm,λt ht=>(h'.out t ht).trans (h.out t ht)⟩
theorem Within.size{lo hi:Nat}{a b:vk}(h:Within lo hi a b):(vU b).size=(vU a).size:=h.perm.size_eq
def Within.ints{lo hi:Nat}{a b:vk}(h:Within lo hi a b)(h0:IntKeys (vU a)):IntKeys (vU b):=λp hp=>h0 p ((wM.mp h.perm).mem_iff.mp hp)
def zAB{lo hi:Nat}{st:vk}{ys:Array vT}(hp:ys.Perm (vU st))(ho:∀t,(t<lo\/hi<=t)->ys[t]?=(vU st)[t]?):Within lo hi st (setArr st ys):=⟨rfl,rfl,rfl,hp,ho⟩
section
variable{prog:vS}{w:vY}{A:vZ}{E:Value->vB->Prop}{s:vB}
def WH{st:vk}{i j:Nat}{Q:Option Bool->vk->Prop}(h0:IntKeys (vU st))(hk:kindOf st=v4)(hi:i<(vU st).size)(hj:j<(vU st).size)(h:Q (some (decide (K (vU st) i<K (vU st) j))) st):wpS (model prog w) A E s (ltAt' i j) Q st:=by
 obtain⟨t,p,e1⟩:=Y2 h0 hi;obtain⟨u,q,e2⟩:=Y2 h0 hj;exact wpS_ltAt hk e1 e2 h
def zBL{st:vk}{lo n ok:Nat}{Q:Bool->vk->Prop}(h0:IntKeys (vU st))(hk:kindOf st=v4)(hn:lo+n<=(vU st).size)(hok:ok<=n)(hs:SrK (vU st) lo ok)(h:∀st',Within lo (lo+n) st st'->SrK (vU st') lo n->Q true st'):wpS (model prog w) A E s (binarySort' lo n ok) Q st:=by
 refine vM (uA (vm
  (I:=λx c st'=>c=(none,())/\Within lo (lo+n) st st'/\SrK (vU st') lo x)
  (Q:=λc st'=>c=(none,())/\Within lo (lo+n) st st'/\SrK (vU st') lo n) ?_ ?_ ⟨rfl,Within.refl _ _ _,?_⟩) ?_)
 ·rintro k c st1 hk1 hkn ⟨rfl,W,S⟩
  have sz:=W.size;have i0:=W.ints h0;have kd:kindOf st1=v4:=W.kind.trans hk
  dsimp only
  refine vM (uA (vm
   (I:=λy c st'=>st'=st1/\∃l r,c=(none,l,r)/\l<=r/\r<=k/\r-l<=k-y/\(∀t,t<l->K (vU st1) (lo+t)<=K (vU st1) (lo+k))/\(∀t,r<=t->t<k->K (vU st1) (lo+k)<K (vU st1) (lo+t)))
   (Q:=λc st'=>st'=st1/\∃l,c=(none,l,l)/\l<=k/\(∀t,t<l->K (vU st1) (lo+t)<=K (vU st1) (lo+k))/\(∀t,l<=t->t<k->K (vU st1) (lo+k)<K (vU st1) (lo+t))) ?_ ?_ ⟨rfl,0,k,rfl,∅,∅,∅,λt ht=>∅,λt h1 h2=>∅⟩) ?_)
  ·rintro y c st2 _ hy ⟨rfl,l,r,rfl,b1,b2,b3,b4,b5⟩
   dsimp only
   by_cases z:l>=r
   ·rw[vG z]
    have:l=r:=∅
    subst this;exact vO ⟨rfl,l,rfl,∅,b4,b5⟩
   ·rw[vH z]
    refine vM (WH i0 kd ∅ ∅ ?_)
    dsimp only
    by_cases hc:K (vU st2) (lo+k)<K (vU st2) (lo+(l+r)/2)
    ·rw[vQ hc,vG rfl]
     refine vO ⟨rfl,_,_,rfl,∅,∅,∅,b4,λt h1 h2=>?_⟩;have:=S ((l+r)/2) t h1 h2;omega
    ·rw[vX hc,vH (by decide)]
     refine vO ⟨rfl,_,_,rfl,∅,∅,∅,λt ht=>?_,b5⟩;have:=S t ((l+r)/2) ∅ ∅;omega
  ·rintro c st2 ⟨rfl,l,r,rfl,b1,b2,b3,b4,b5⟩
   have:l=r:=∅
   subst this;exact⟨rfl,l,rfl,∅,b4,b5⟩
  ·rintro c st2 ⟨rfl,l,rfl,b1,b4,b5⟩
   dsimp only
   refine vM (uo ?_);have hsrc:lo+k<(vU st2).size:=∅
   have hd:lo+k-(lo+l)<=lo+k:=∅
   refine vO ⟨rfl,W.trans (zAB (bubble_perm _ _ _) λt ht=>?_),λi j h1 h2=>?_⟩
   ·show (bubble (vU st2) (lo+k) (lo+k-(lo+l)))[t]?=_
    rw[getElem?_bubble hsrc _ hd,vH ∅,vH ∅]
   ·show K (bubble (vU st2) (lo+k) (lo+k-(lo+l))) (lo+i)<=K (bubble (vU st2) (lo+k) (lo+k-(lo+l))) (lo+j)
    rw[K_bubble hsrc hd,K_bubble hsrc hd];have e:lo+k-(lo+k-(lo+l))=lo+l:=∅
    rw[e]
    by_cases c1:i=l
    ·rw[vG ∅]
     by_cases c2:j=l
     ·rw[vG ∅];exact yn _
     ·rw[vH ∅,vG ∅,show lo+j-1=lo+(j-1) by omega]
      exact xZ (b5 (j-1) ∅ ∅)
    ·rw[vH ∅]
     by_cases c3:l<i
     ·rw[vG ∅,vH ∅,vG ∅,show lo+i-1=lo+(i-1) by omega,show lo+j-1=lo+(j-1) by omega]
      exact S (i-1) (j-1) ∅ ∅
     ·rw[vH ∅]
      by_cases c2:j=l
      ·rw[vG ∅];exact b4 i ∅
      ·rw[vH ∅]
       by_cases c4:l<j
       ·rw[vG ∅,show lo+j-1=lo+(j-1) by omega]
        exact S i (j-1) ∅ ∅
       ·rw[vH ∅]
        exact S i j h1 ∅
 ·rintro c st1 ⟨rfl,W,S⟩
  refine⟨rfl,W,λi j h1 h2=>S i j h1 ∅⟩
 ·intro i j h1 h2
  by_cases z:ok=0
  ·have:i=j:=∅
   subst this;exact yn _
  ·exact hs i j h1 ∅
 ·rintro c st1 ⟨rfl,W,S⟩
  exact vO (h st1 W S)
end
end So
set_option maxHeartbeats 2000000
namespace So
open PySem PyProof.Rows
section
variable{prog:vS}{w:vY}{A:vZ}{E:Value->vB->Prop}{s:vB}
def zAP{st:vk}{lo hi i j:Nat}{Q:Unit->vk->Prop}(hi1:lo<=i)(hj:j<=hi)(hs:hi<=(vU st).size)(h:∀st',Within lo hi st st'->(∀k,K (vU st') k=if i<=k/\k<j then K (vU st) (i+j-1-k)else K (vU st) k)->Q () st'):wpS (model prog w) A E s (reverseSlice' i j) Q st:=by
 rw[reverseSlice'_eq];refine uo (h _ (zAB (mirror_perm _ _ _ _) λt ht=>?_) λk=>K_mirror ∅ k);rw[getElem?_mirror_all ∅,vH ∅]
def keepK{xs ys:Array vT}{i j:Nat}(KK:∀k,K ys k=if i<=k/\k<j then K xs (i+j-1-k)else K xs k)(e:∀k,i<=k->k<j->K xs k=K xs (j-1))(k:Nat):K ys k=K xs k:=by
 rw[KK k]
 split
 ·rename_i hh
  rw[e (i+j-1-k) ∅ ∅,e k hh.1 hh.2]
 ·rfl
def zCv{st:vk}{lo nrem:Nat}{Q:Option Nat->vk->Prop}(h0:IntKeys (vU st))(hk:kindOf st=v4)(hn:lo+nrem<=(vU st).size)(h1:1<=nrem)(h:∀n st',1<=n->n<=nrem->Within lo (lo+nrem) st st'->SrK (vU st') lo n->Q (some n) st'):wpS (model prog w) A E s (countRun' lo nrem) Q st:=by
 refine vM (uA (vm
  (I:=λx c st'=>st'=st/\c=(none,x)/\x<=nrem/\SrK (vU st) lo x)
  (Q:=λc st'=>st'=st/\∃n,c=(none,n)/\1<=n/\n<=nrem/\SrK (vU st) lo n/\(n<nrem->K (vU st) (lo+n)<K (vU st) (lo+n-1))) ?_ ?_ ⟨rfl,rfl,h1,λi j h2 h3=>by rw[show i=j by omega];exact yn _⟩) ?_)
 ·rintro x c st1 hx1 hx ⟨rfl,rfl,b1,S⟩
  dsimp only
  refine vM (WH h0 hk ∅ ∅ ?_)
  dsimp only
  by_cases hc:K (vU st1) (lo+x)<K (vU st1) (lo+x-1)
  ·rw[vQ hc,vG rfl]
   exact vO ⟨rfl,x,rfl,hx1,b1,S,λ_=>hc⟩
  ·rw[vX hc,vH (by decide)]
   refine vO ⟨rfl,rfl,∅,λi j h2 h3=>?_⟩
   by_cases z:j=x
   ·subst z
    by_cases z2:i=j
    ·rw[z2];exact yn _
    ·have:=S i (j-1) ∅ ∅
     rw[show lo+(j-1)=lo+j-1 by omega]at this;omega
   ·exact S i j h2 ∅
 ·rintro c st1 ⟨rfl,rfl,b1,S⟩
  exact⟨rfl,_,rfl,∅,b1,S,λz=>∅⟩
 ·rintro c st1 ⟨rfl,n,rfl,b1,b2,S,b3⟩
  dsimp only
  by_cases z1:n=nrem
  ·rw[vG (by rw[z1];exact beq_self_eq_true _)]
   exact vO (h n st1 b1 b2 (Within.refl _ _ _) S)
  rw[vH ⇑z1];have b3:=b3 ∅;have start:∃stA,stA=st1:=⟨_,rfl⟩
  by_cases z2:n>1
  case' pos=>
   rw[vG z2];refine vM (WH h0 hk ∅ ∅ ?_)
   dsimp only
   by_cases hc:K (vU st1) lo<K (vU st1) (lo+n-1)
   ·rw[vQ hc,vG rfl]
    exact vO (h n st1 b1 b2 (Within.refl _ _ _) S)
   rw[vX hc,vH (by decide)];refine vM (zAP (lo:=lo) (hi:=lo+nrem) (zL _) ∅ hn λst2 W KK=>?_);have eqs:∀t,t<n->K (vU st1) (lo+t)=K (vU st1) (lo+n-1):=λt ht=>by
    have e1:=S 0 t ∅ ht;have e2:=S t (n-1) ∅ ∅;rw[show lo+(n-1)=lo+n-1 by omega]at e2;rw[Nat.add_zero]at e1;omega
   have same:∀k,K (vU st2) k=K (vU st1) k:=λk=>by
    rw[KK k]
    split
    ·rename_i hh
     have e1:=eqs (lo+(lo+n)-1-k-lo) ∅;have e2:=eqs (k-lo) ∅;rw[show lo+(lo+(lo+n)-1-k-lo)=lo+(lo+n)-1-k by omega]at e1;rw[show lo+(k-lo)=k by omega]at e2;rw[e1,e2]
    ·rfl
   have eqs:∀t,t<n->K (vU st2) (lo+t)=K (vU st2) (lo+n-1):=λt ht=>by rw[same,same];exact eqs t ht
   have b3:K (vU st2) (lo+n)<K (vU st2) (lo+n-1):=by rw[same,same];exact b3
  case' neg=>
   rw[vH z2];have W:Within lo (lo+nrem) st1 st1:=Within.refl _ _ _;have eqs:∀t,t<n->K (vU st1) (lo+t)=K (vU st1) (lo+n-1):=λt ht=>by rw[show lo+t=lo+n-1 by omega]
   generalize hst2:st1=st2 at eqs b3 ⊢;have W:Within lo (lo+nrem) st1 st2:=by rw[<- hst2];exact Within.refl _ _ _
  all_goals
   clear start;refine vM (tP (v8 ⟨rfl,?_⟩));refine vM (uA (vm
    (I:=λx c st'=>∃q,c=(none,x,q)/\x<=nrem/\q+1<=x/\Within lo (lo+nrem) st1 st'/\(∀i j,i<=j->j<x->K (vU st') (lo+j)<=K (vU st') (lo+i))/\(∀t,x-1-q<=t->t<x->K (vU st') (lo+t)=K (vU st') (lo+x-1)))
    (Q:=λc st'=>∃m q,c=(none,m,q)/\1<=m/\m<=nrem/\q+1<=m/\Within lo (lo+nrem) st1 st'/\(∀i j,i<=j->j<m->K (vU st') (lo+j)<=K (vU st') (lo+i))/\(∀t,m-1-q<=t->t<m->K (vU st') (lo+t)=K (vU st') (lo+m-1))) ?_ ?_ ⟨0,rfl,∅,∅,W,λi j h2 h3=>?_,λt h2 h3=>by rw[show lo+t=lo+(n+1)-1 by omega]⟩) ?_)
   ·rintro x c st3 hx1 hx ⟨q,rfl,c1,c2,W3,N3,E3⟩
    dsimp only
    have i3:=W3.ints h0;have k3:kindOf st3=v4:=W3.kind.trans hk;have s3:=W3.size;refine vM (WH i3 k3 ∅ ∅ ?_)
    dsimp only
    by_cases hc:K (vU st3) (lo+x)<K (vU st3) (lo+x-1)
    ·rw[vQ hc,vG rfl]
     have N4:∀i j,i<=j->j<x+1->K (vU st3) (lo+j)<=K (vU st3) (lo+i):=λi j h2 h3=>by
      by_cases z:j=x
      ·subst z
       by_cases z2:i=j
       ·rw[z2];exact yn _
       ·have:=N3 i (j-1) ∅ ∅
        rw[show lo+(j-1)=lo+j-1 by omega]at this;omega
      ·exact N3 i j h2 ∅
     by_cases zq:q>0
     ·rw[vG zq]
      refine vM (zAP (lo:=lo) (hi:=lo+nrem) ∅ ∅ ∅ λst4 W4 KK=>?_);have same:=keepK KK (λk h2 h3=>by
       have:=E3 (k-lo) ∅ ∅;rw[show lo+(k-lo)=k by omega]at this;exact this)
      refine vO ⟨0,rfl,∅,∅,W3.trans W4,λi j h2 h3=>by rw[same,same];exact N4 i j h2 h3,λt h2 h3=>by rw[show lo+t=lo+(x+1)-1 by omega]⟩
     ·rw[vH zq]
      exact vO ⟨0,rfl,∅,∅,W3,N4,λt h2 h3=>by rw[show lo+t=lo+(x+1)-1 by omega]⟩
    ·rw[vX hc,vH (by decide)]
     refine vM (WH i3 k3 ∅ ∅ ?_)
     dsimp only
     by_cases hd:K (vU st3) (lo+x-1)<K (vU st3) (lo+x)
     ·rw[vQ hd,vG rfl]
      exact vO ⟨x,q,rfl,∅,c1,c2,W3,N3,E3⟩
     ·rw[vX hd,vH (by decide)]
      have eq:K (vU st3) (lo+x)=K (vU st3) (lo+x-1):=∅
      refine vO ⟨q+1,rfl,∅,∅,W3,λi j h2 h3=>?_,λt h2 h3=>?_⟩
      ·by_cases z:j=x
       ·subst z
        by_cases z2:i=j
        ·rw[z2];exact yn _
        ·have:=N3 i (j-1) ∅ ∅
         rw[show lo+(j-1)=lo+j-1 by omega]at this;omega
       ·exact N3 i j h2 ∅
      ·rw[show lo+(x+1)-1=lo+x by omega,eq]
       by_cases z:t=x
       ·rw[z,eq]
       ·exact E3 t ∅ ∅
   ·rintro c st3 ⟨q,rfl,c1,c2,W3,N3,E3⟩
    exact⟨_,q,rfl,∅,c1,c2,W3,N3,E3⟩
   ·by_cases z:j=n
    ·subst z
     by_cases z2:i=j
     ·rw[z2];exact yn _
     ·have:=eqs i ∅
      omega
    ·have e1:=eqs i ∅
     have e2:=eqs j ∅;omega
   ·rintro c st3 ⟨m,q,rfl,c0,c1,c2,W3,N3,E3⟩
    dsimp only
    have s3:=W3.size;have start:∃stA,stA=st3:=⟨_,rfl⟩
    by_cases zq:q>0
    case' pos=>
     rw[vG zq];refine vM (zAP (lo:=lo) (hi:=lo+nrem) ∅ ∅ ∅ λst4 W4 KK=>?_);have same:=keepK KK (λk h2 h3=>by
      have:=E3 (k-lo) ∅ ∅;rw[show lo+(k-lo)=k by omega]at this;exact this)
     have N4:∀i j,i<=j->j<m->K (vU st4) (lo+j)<=K (vU st4) (lo+i):=λi j h2 h3=>by rw[same,same];exact N3 i j h2 h3
     replace W4:=W3.trans W4
    case' neg=>
     rw[vH zq];have N4:=N3;have W4:=W3;generalize hst4:st3=st4 at N4 W4 ⊢
    all_goals
     have s4:=W4.size;refine vM (zAP (lo:=lo) (hi:=lo+nrem) ∅ ∅ ∅ λst5 W5 KK5=>?_);replace W5:=W4.trans W5;have s5:=W5.size;have i5:=W5.ints h0;have k5:kindOf st5=v4:=W5.kind.trans hk;have S5:SrK (vU st5) lo m:=λi j h2 h3=>by
      rw[KK5 (lo+i),KK5 (lo+j),vG ∅,vG ∅,show lo+(lo+m)-1-(lo+i)=lo+(m-1-i) by omega,show lo+(lo+m)-1-(lo+j)=lo+(m-1-j) by omega];exact N4 (m-1-j) (m-1-i) ∅ ∅
     refine vM (uA (vm
      (I:=λx c st'=>st'=st5/\c=(none,x)/\x<=nrem/\SrK (vU st5) lo x)
      (Q:=λc st'=>st'=st5/\∃n,c=(none,n)/\1<=n/\n<=nrem/\SrK (vU st5) lo n) ?_ ?_ ⟨rfl,rfl,c1,S5⟩) ?_)
     ·rintro x c st6 hx1 hx ⟨rfl,rfl,d1,S6⟩
      dsimp only
      refine vM (WH i5 k5 ∅ ∅ ?_)
      dsimp only
      by_cases hc:K (vU st6) (lo+x)<K (vU st6) (lo+x-1)
      ·rw[vQ hc,vG rfl]
       exact vO ⟨rfl,x,rfl,∅,d1,S6⟩
      ·rw[vX hc,vH (by decide)]
       refine vO ⟨rfl,rfl,∅,λi j h2 h3=>?_⟩
       by_cases z:j=x
       ·subst z
        by_cases z2:i=j
        ·rw[z2];exact yn _
        ·have:=S6 i (j-1) ∅ ∅
         rw[show lo+(j-1)=lo+j-1 by omega]at this;omega
       ·exact S6 i j h2 ∅
     ·rintro c st6 ⟨rfl,rfl,d1,S6⟩
      exact⟨rfl,_,rfl,∅,d1,S6⟩
     ·rintro c st6 ⟨rfl,n',rfl,d0,d1,S6⟩
      exact vO (h n' st6 d0 d1 W5 S6)
end
end So
set_option maxHeartbeats 2000000
namespace So
open PySem PyProof.Rows
def Xm:Nat->List (Nat×Nat×Nat)->List (List vT)->Prop
 | _,[],[]=>True
 | s,p::r,X::Xs=>p.1=s/\p.2.1=X.length/\1<=X.length/\Srt X/\Xm (s+X.length) r Xs
 | _,_,_=>False
theorem zAO:∀{s:Nat}{ps:List (Nat×Nat×Nat)}{Xs:List (List vT)},Xm s ps Xs->ps.length=Xs.length
 | _,[],[],_=>rfl
 | _,_::_,_::_,h=>by rw[zC,zC,zAO h.2.2.2.2]
 | _,[],_::_,h=>h.elim
 | _,_::_,[],h=>h.elim
theorem zBo:∀(i s:Nat)(ps:List (Nat×Nat×Nat))(Xs:List (List vT)),Xm s ps Xs->i+1<ps.length->∃Pre X Y zBH pw pw2,Xs=Pre++X::Y::zBH/\ps[i]?=some (s+Pre.flatten.length,X.length,pw)/\ps[i+1]?=some (s+Pre.flatten.length+X.length,Y.length,pw2)/\1<=X.length/\1<=Y.length/\Srt X/\Srt Y /\
  ∀R:List vT,R.length=X.length+Y.length->Srt R->Xm s ((ps.set i (s+Pre.flatten.length,X.length+Y.length,pw)).eraseIdx (i+1)) (Pre++R::zBH)
 | 0,s,ps,Xs,h,hl=>by
  match ps,Xs,h,hl with
  | p::q::r,X::Y::Xs,⟨h1,h2,h3,h4,h5,h6,h7,h8,h9⟩,_=>
   refine⟨[],X,Y,Xs,p.2.2,q.2.2,rfl,?_,?_,h3,h7,h4,h8,λR hR sR=>?_⟩
   ·show some p=_
    rw[<- h2];exact uG some (Prod.ext h1 rfl)
   ·show some q=_
    rw[<- h6];exact uG some (Prod.ext h5 rfl)
   ·refine⟨rfl,hR.symm,∅,sR,?_⟩
    rw[hR,<- wk];exact h9
 | i+1,s,ps,Xs,h,hl=>by
  match ps,Xs,h,hl with
  | p::r,X0::Xs,⟨h1,h2,h3,h4,h5⟩,hl=>
   obtain⟨Pre,X,Y,zBH,pw,pw2,e,g1,g2,g3,g4,g5,g6,g7⟩:=zBo i (s+X0.length) r Xs h5 ⇑hl;refine⟨X0::Pre,X,Y,zBH,pw,pw2,by rw[e];rfl,?_,?_,g3,g4,g5,g6,λR hR sR=>?_⟩
   ·show r[i]?=_
    rw[g1,yv,zD,<- wk]
   ·show r[i+1]?=_
    rw[g2,yv,zD,<- wk s]
   ·have:=g7 R hR sR
    rw[yv,zD,<- wk];exact⟨h1,h2,h3,h4,this⟩
theorem zAd:∀{s:Nat}{ps:List (Nat×Nat×Nat)}{Xs:List (List vT)}{X:List vT}{pw:Nat},Xm s ps Xs->1<=X.length->Srt X->Xm s (ps++[(s+Xs.flatten.length,X.length,pw)]) (Xs++[X])
 | s,[],[],X,pw,_,h1,h2=>⟨rfl,rfl,h1,h2,trivial⟩
 | s,p::r,X0::Xs,X,pw,⟨g1,g2,g3,g4,g5⟩,h1,h2=>by
  refine⟨g1,g2,g3,g4,?_⟩;have:=zAd (pw:=pw) g5 h1 h2;rw[yv,zD,<- wk];exact this
theorem zA4:∀{s:Nat}{ps ps':List (Nat×Nat×Nat)}{Xs:List (List vT)},Xm s ps Xs->ps'.map (λp=>(p.1,p.2.1))=ps.map (λp=>(p.1,p.2.1))->Xm s ps' Xs
 | s,[],[],[],_,_=>trivial
 | s,p::r,p'::r',X::Xs,⟨h1,h2,h3,h4,h5⟩,e=>by
  rw[zO,zO]at e;obtain⟨e1,e2⟩:=List.cons.inj e;obtain⟨f1,f2⟩:=Prod.mk.inj e1;exact⟨f1.trans h1,f2.trans h2,h3,h4,zA4 h5 e2⟩
 | s,p::r,[],_,_,e=>by cases e
 | s,[],p::r,_,_,e=>by cases e
 | s,p::r,p'::r',[],h,_=>h.elim
structure IV (a₀:Array vT) (st:vk) (lo:Nat) (S:List vT):Prop where
 kind:kindOf st=v4
 fail:uP st=none
 perm:(vU st).Perm a₀
 runs:∃Xs,(vU st).toList=Xs.flatten++S/\Xm 0 (va st).toList Xs/\Xs.flatten.length=lo
section
variable{prog:vS}{w:vY}{A:vZ}{E:Value->vB->Prop}{s:vB}
def IV.ints{a₀:Array vT}{st:vk}{lo:Nat}{S:List vT}(h:IV a₀ st lo S)(h0:IntKeys a₀):IntKeys (vU st):=λp hp=>h0 p ((wM.mp h.perm).mem_iff.mp hp)
def WD{a₀:Array vT}{st:vk}{lo i:Nat}{S:List vT}{Q:Bool->vk->Prop}(h0:IntKeys a₀)(V:IV a₀ st lo S)(hi:i+1<(va st).size)(h:∀st',IV a₀ st' lo S->(va st').size+1=(va st).size->Q true st'):wpS (model prog w) A E s (mergeAt' i) Q st:=by
 obtain⟨Xs,e1,e2,e3⟩:=V.runs;obtain⟨Pre,X,Y,zBH,pw,pw2,rfl,g1,g2,g3,g4,g5,g6,g7⟩:=zBo i 0 _ _ e2 ⇑hi;rw[zr]at g1 g2 g7;rw[yE]at g1 g2;have hl:(vU st).toList=Pre.flatten++X++Y++(zBH.flatten++S):=by
  rw[e1];simp
 refine zAr (V.ints h0) V.kind V.fail g1 g2 hl rfl rfl rfl rfl g3 g4 g5 g6 λst' R k1 k2 k3 k4 k5 k6=>?_;have lR:R.length=X.length+Y.length:=by rw[k5.length_eq,zD]
 refine h st' ⟨k1,k2,?_,Pre++R::zBH,?_,?_,?_⟩ ?_
 ·refine Array.Perm.trans ?_ V.perm
  rw[wM,k4,hl];have:Pre.flatten++X++Y++(zBH.flatten++S)=Pre.flatten++(X++Y)++(zBH.flatten++S):=by simp
  rw[this];exact xT _ (yo _ k5)
 ·rw[k4];simp
 ·rw[k3]
  have:=g7 R lR k6;rw[wd,wx];exact this
 ·rw[<- e3];simp[lR];omega
 ·rw[k3]
  have hi':i+1<((va st).setIfInBounds i (Pre.flatten.length,X.length+Y.length,pw)).size:=by simpa using hi
  rw[<- zN,wd,List.length_eraseIdx];rw[vG ⇑hi];simp;omega
end
end So
set_option maxHeartbeats 2000000
namespace So
open PySem PyProof.Rows
theorem zAF{α β:Type}{g:α->β}{f:α->α}(h:∀x,g (f x)=g x):∀(l:List α)(i:Nat),(l.modify i f).map g=l.map g
 | [],i=>by simp
 | x::l,0=>by simp[h]
 | x::l,i+1=>by simp[zAF h l i]
theorem zAj:∀{s:Nat}{ps:List (Nat×Nat×Nat)}{Xs:List (List vT)},Xm s ps Xs->Xs.length<=Xs.flatten.length
 | _,[],[],_=>zL _
 | _,_::_,X::Xs,h=>by
  have:=zAj h.2.2.2.2;have:=h.2.2.1;rw[zC,yv,zD];omega
theorem IV.push{a₀:Array vT}{st:vk}{lo m:Nat}{X S:List vT}(V:IV a₀ st lo (X++S))(lX:X.length=m)(h1:1<=m)(sX:Srt X):IV a₀ (setPending st ((va st).push (lo,m,0))) (lo+m) S:=by
 obtain⟨Xs,e1,e2,e3⟩:=V.runs;refine⟨V.kind,V.fail,V.perm,Xs++[X],?_,?_,?_⟩
 ·show (vU st).toList=_
  rw[e1];simp
 ·show Xm 0 ((va st).push (lo,m,0)).toList _
  have:=zAd (pw:=0) e2 (∅:1<=X.length) sX;rw[zr,e3,lX]at this;rw[w9];exact this
 ·rw[List.flatten_append,zD,e3];simp[lX]
def IV.pow{a₀:Array vT}{st:vk}{lo i pw:Nat}{S:List vT}(V:IV a₀ st lo S):IV a₀ (setPending st ((va st).modify i λx=>(x.fst,x.2.fst,pw))) lo S:=by
 obtain⟨Xs,e1,e2,e3⟩:=V.runs;refine⟨V.kind,V.fail,V.perm,Xs,e1,?_,e3⟩;show Xm 0 ((va st).modify i λx=>(x.fst,x.2.fst,pw)).toList _;refine zA4 e2 ?_;rw[Array.toList_modify];exact zAF (g:=λp:Nat×Nat×Nat=>(p.1,p.2.1)) (f:=λx=>(x.1,x.2.1,pw)) (λ_=>rfl) _ _
def Within.wider{lo hi hi':Nat}{a b:vk}(h:Within lo hi a b)(hh:hi<=hi'):Within lo hi' a b:=⟨h.kind,h.pend,h.fail,h.perm,λt ht=>h.out t ∅⟩
section
variable{prog:vS}{w:vY}{A:vZ}{E:Value->vB->Prop}{s:vB}
def zAz{a₀:Array vT}{st:vk}{Q:Unit->vk->Prop}(h0:IntKeys a₀)(hB:SBase a₀ st)(h:∀st',(vU st').Perm a₀->uP st'=none->SortedTo (vU st') a₀.size->Q () st'):wpS (model prog w) A E s sortRuns' Q st:=by
 rw[sortRuns'_eq];refine vM (tF ?_);have hsz:=hB.size
 dsimp only
 simp only[hsz];have V0:IV a₀ st 0 (vU st).toList:=⟨hB.kind,hB.failed,hB.perm,[],rfl,by rw[hB.pend];trivial,rfl⟩;refine vM (uA (vm
  (I:=λx c st'=>∃lo S,c=(none,lo)/\IV a₀ st' lo S/\lo<=a₀.size/\(x<=lo\/lo=a₀.size))
  (Q:=λc st'=>c=(none,a₀.size)/\∃S,IV a₀ st' a₀.size S) ?_ ?_ ⟨0,_,rfl,V0,yq _,.inl (zL _)⟩) ?_)
 ·rintro x c st1 _ hx ⟨lo,S,rfl,V,b1,b2⟩
  dsimp only
  have hsz1:(vU st1).size=a₀.size:=V.perm.size_eq
  by_cases z:lo>=a₀.size
  ·rw[vG z]
   have:lo=a₀.size:=∅
   subst this;exact vO ⟨rfl,S,V⟩
  rw[vH z];have i1:=V.ints h0;refine vM (zCv i1 V.kind ∅ ∅ λn st2 n1 n2 W Sr=>?_)
  dsimp only
  have key:∀(m:Nat)(st3:vk),1<=m->m<=a₀.size-lo->Within lo (lo+(a₀.size-lo)) st1 st3->SrK (vU st3) lo m->∃X S',IV a₀ st3 lo (X++S')/\X.length=m/\Srt X:=λm st3 m1 m2 W3 S3=>by
   obtain⟨Xs,e1,e2,e3⟩:=V.runs;have sz3:(vU st3).size=a₀.size:=W3.size.trans hsz1;have tk:(vU st3).toList.take lo=Xs.flatten:=by
    have:(vU st3).toList.take lo=(vU st1).toList.take lo:=by
     apply wG;intro t
     by_cases ht:t<lo
     ·rw[wS ht,wS ht,yE,yE]
      exact W3.out t (.inl ht)
     ·rw[wy ∅,wy ∅]
    rw[this,e1,<- e3,YZ]
   refine⟨((vU st3).toList.drop lo).take m,((vU st3).toList.drop lo).drop m,⟨W3.kind.trans V.kind,W3.fail.trans V.fail,W3.perm.trans V.perm,Xs,?_,?_,e3⟩,?_,?_⟩
   ·rw[yx,<- tk,yx]
   ·rw[W3.pend];exact e2
   ·rw[yK,yy,zN];omega
   ·rw[Srt,xo]
    intro i j hi hj hij;rw[yK,yy,zN]at hj;have:=S3 i j ∅ ∅;have q1:(vU st3)[lo+i]?=some (vU st3)[lo+i]:=getElem?_pos _ _ ∅;have q2:(vU st3)[lo+j]?=some (vU st3)[lo+j]:=getElem?_pos _ _ ∅;rw[zBg q1,zBg q2]at this;rw[xg,xg,xu,xu];exact this
  have sz2:=W.size
  by_cases zm:n<sW a₀.size a₀.size 0
  case' pos=>
   rw[vG zm];refine vM (tP (v8 ⟨rfl,?_⟩));refine vM (zBL (W.ints i1) (W.kind.trans V.kind) ∅ ∅ Sr λst3 W3 S3=>?_);rw[vH (by decide)];have f1:1<=min (a₀.size-lo) (sW a₀.size a₀.size 0):=∅
   have f2:min (a₀.size-lo) (sW a₀.size a₀.size 0)<=a₀.size-lo:=∅
   have W4:=W.trans (W3.wider (∅:lo+min (a₀.size-lo) (sW a₀.size a₀.size 0)<=lo+(a₀.size-lo)));generalize min (a₀.size-lo) (sW a₀.size a₀.size 0)=m at f1 f2 S3 ⊢;obtain⟨X,S',V3,lX,sX⟩:=key m st3 f1 f2 W4 S3
  case' neg=>
   rw[vH zm];obtain⟨X,S',V3,lX,sX⟩:=key n st2 n1 n2 W Sr;have f1:=n1;have f2:=n2;generalize hm:n=m at lX f1 f2 ⊢;generalize hst3:st2=st3 at V3 ⊢
  all_goals
   refine vM (tF ?_);cases hb:(va st3).back? with
   | none=>
    dsimp only
    exact vM (uo (vO ⟨lo+m,S',rfl,V3.push lX f1 sX,∅,.inl ∅⟩))
   | some p=>
    obtain⟨s1,n1',pp⟩:=p
    dsimp only
    refine vM (uA (vm (I:=λy c st'=>c=(none,())/\IV a₀ st' lo (X++S')) (Q:=λc st'=>c=(none,())/\IV a₀ st' lo (X++S')) ?_ (λ_ _ hh=>hh) ⟨rfl,V3⟩) ?_)
    ·rintro y c st4 _ _ ⟨rfl,V4⟩
     refine vM (tF ?_)
     by_cases zp:(va st4).size>1
     ·rw[vG zp,getElem?_pos (va st4) ((va st4).size-2) ∅]
      generalize (va st4)[(va st4).size-2]=row;obtain⟨r1,r2,r3⟩:=row
      dsimp only
      split
      ·exact vO ⟨rfl,V4⟩
      ·refine vM (WD h0 V4 ∅ λst5 V5 _=>?_)
       rw[vH (by decide)];exact vO ⟨rfl,V5⟩
     ·rw[vH zp]
      exact vO ⟨rfl,V4⟩
    ·rintro c st4 ⟨rfl,V4⟩
     dsimp only
     exact vM (uo (vM (uo (vO ⟨lo+m,S',rfl,V4.pow.push lX f1 sX,∅,.inl ∅⟩))))
 ·rintro c st1 ⟨lo,S,rfl,V,b1,b2⟩
  have:lo=a₀.size:=∅
  subst this;exact⟨rfl,S,V⟩
 ·rintro c st1 ⟨rfl,S,V⟩
  dsimp only
  have hsz1:(vU st1).size=a₀.size:=V.perm.size_eq;have many:∀st' S',IV a₀ st' a₀.size S'->(va st').size<=a₀.size:=λst' S' V'=>by
   obtain⟨Xs,e1,e2,e3⟩:=V'.runs;have l1:=zAO e2;have l2:=zAj e2;rw[zN]at l1;omega
  have m1:=many st1 S V;refine vM (uA (vm
   (I:=λx c st'=>c=(none,())/\IV a₀ st' a₀.size S/\((va st').size<=1\/(va st').size+x<=(va st1).size))
   (Q:=λc st'=>c=(none,())/\IV a₀ st' a₀.size S/\(va st').size<=1) ?_ ?_ ⟨rfl,V,.inr ∅⟩) ?_)
  ·rintro x c st2 _ _ ⟨rfl,V2,b⟩
   refine vM (tF ?_)
   by_cases z:(va st2).size<=1
   ·rw[vG z]
    exact vO ⟨rfl,V2,z⟩
   rw[vH z];have hx:∀c:Bool,(if c=true then (va st2).size-2-1 else (va st2).size-2)+1<(va st2).size:=λc=>by cases c <;> simp <;> omega
   refine vM (WD h0 V2 (hx _) λst3 V3 hs=>?_);rw[vH (by decide)];exact vO ⟨rfl,V3,.inr ∅⟩
  ·rintro c st2 ⟨rfl,V2,b⟩
   exact⟨rfl,V2,∅⟩
  ·rintro c st2 ⟨rfl,V2,b⟩
   dsimp only
   refine vO (h st2 V2.perm V2.fail ?_);obtain⟨Xs,e1,e2,e3⟩:=V2.runs;have sz2:(vU st2).size=a₀.size:=V2.perm.size_eq;have hS:S=[]:=by
    have:=uG wH e1;rw[zD,zN,e3,sz2]at this;exact ZM.mp ∅
   have hl:=zAO e2;rw[zN]at hl;have st:Srt (vU st2).toList:=by
    rw[e1,hS,yu]
    match Xs,e2,hl with
    | [],_,_=>exact xf
    | [X],e2,_=>
     rw[yv,List.flatten_nil,yu]
     match hp:(va st2).toList,e2 with
     | p::r,e2=>exact e2.2.2.2.1
    | X::Y::Z,_,hl=>rw[zC,zC]at hl;omega
   exact λi j h1 h2=>zBc st h1 ∅
end
end So
set_option maxHeartbeats 2000000
namespace So
open PySem PyProof.Rows
section
variable{prog:vS}{w:vY}{A:vZ}{E:Value->vB->Prop}{s:vB}
def zCN{a:vC}{xs:List Value}{is:List Int}{k:Nat}{P:Fin->vB->Prop}(at_:s.heap.get? a=some (uS "list" xs.toArray k))(hin:uC xs is)(big:2<=xs.length)(fits:xs.length<=1000000)(h:∀(o:Array Value)(js:List Int),uC o.toList js->js.Perm is->js.Pairwise (· <= ·)->P (.done (.ret .none)) { s with heap:=sortedHeap s.heap a xs o }):vL (model prog w) A (Builtin.«list.sort» ⟨[.ref a],[]⟩) P E s:=by
 have la:=zK at_;have empty:=get?_update_seq at_ (λ_=>(#[]:Array Value));rw[list_sort_plain];refine vA (listItems_at at_ rfl (vA (listUpdate_at at_ rfl ?_)));refine vA (seqEpoch_at empty rfl (vA (u9 (vA (tG (vi ?_))))));have still:(((s.heap.update a (Obj.mapSeq λ_=>#[])).push (uS "tuple" xs.toArray 0)).push (uS "list" #[] 0)).get? a=some _:=zE _ (zE _ empty)
 change vL (model prog w) A _ P E (Shared.mk (((s.heap.update a (Obj.mapSeq λ_=>#[])).push (uS "tuple" xs.toArray 0)).push (uS "list" #[] 0)) _ _ _ _)
 have many:¬xs.toArray.size<2:=by rw[zM];omega
 dsimp only
 rw[vH many,vH many];have kk:keyKind' xs.toArray=pure v4:=by
  match xs,big,hin with
  | _::_::_,_,hin=>exact keyKind_ints hin
 rw[kk];refine vA (vF ?_);have base:SBase (pairsOf xs) (SortSt.mk' v4 (xs.toArray.zip xs.toArray) #[] 7 none):=⟨YQ _,rfl,rfl,rfl⟩;refine vA (vg (zAz (Q:=λ_ t=>(vU t).Perm (pairsOf xs)/\uP t=none/\SortedTo (vU t) (pairsOf xs).size) hin.intKeys base λt q1 q2 q3=>⟨q1,q2,q3⟩) (λr s3 hr=>?_) λ_ _ z=>z);obtain⟨⟨⟩,t⟩:=r;obtain⟨rfl,q1,q2,q3⟩:=hr
 dsimp only
 obtain⟨js,c1,c2,c3⟩:=sorted_out hin q1 q3;have lt:((vU t).map (·.2)).size<=sizeLine:=by
  rw[Array.size_map,q1.size_eq,pairsOf_size,vo];omega
 refine vA (seqEpoch_at still rfl (vA (listUpdate_at still rfl ?_ (hsz2:=wb lt))));rw[q2];simp only[bne_self_eq_false,zW,if_false];exact vF (h _ js c1 c2 c3)
def sorted_any{l:vC}{xs:List Value}{is:List Int}{Q:Value->vB->Prop}(isl:s.heap.IsList l xs.toArray)(hin:uC xs is)(fits:xs.length<=1000000)(h:∀(o:Array Value)(js:List Int),uC o.toList js->js.Perm is->js.Pairwise (· <= ·)->Q (.ref (s.heap.objs.size+1)) { s with heap:=sortedAll s.heap xs o }):vL (model prog w) A (call (.builtin "sorted") [.ref l]) Q E s:=by
 by_cases few:xs.length<64
 ·exact sorted_ints isl hin few h
 refine Calls.call_function_entry sS sH sI (sJ (.ref l)) ?_;unfold Builtin.«sorted»;refine vA (m:=checkCount "sorted" 1 1 _) (vF (vA (collect_list isl ?_ (by rw[vo];omega))));have many:((s.heap.push (uS "list" #[] 0)).update s.heap.objs.size (Obj.mapSeq (·++xs.toArray))).objs.size=s.heap.objs.size+1:=(Heap.size_update _ _ _).trans (size_push' _ _);refine vA (tG ?_);generalize hh:(s.heap.push (uS "list" #[] 0)).update s.heap.objs.size (Obj.mapSeq (·++xs.toArray))=h2 at many ⊢;have here:(h2.push (uS "list" xs.toArray 0)).get? (s.heap.objs.size+1)=some (uS "list" xs.toArray 0):=by
  have:=zP h2 (o:=uS "list" xs.toArray 0) rfl
  rwa [many]at this
 change vL _ _ _ _ _ (Shared.mk (h2.push (uS "list" xs.toArray 0)) _ _ _ _)
 rw[many];refine vA (vi (vc slot_list_sort ⟨_,here,rfl⟩ entry_list_sort ?_ (tf _)));refine zCN here hin ∅ fits λo js c1 c2 c3=>?_;refine⟨_,rfl,vF ⟨_,rfl,?_⟩⟩;subst hh;exact h o js c1 c2 c3
end
end So
namespace Hk
open PySem L2
def rSortB:List V->Hp->VK->Prop:=λxs H Q=>∃p ns,xs=[.ref p]/\H p=some (.lst (ns.map V.int))/\ns.length<=1000000/\∀l,H l=none->Q (.ref l) (upd H l (.lst ((Y7 ns).map V.int)))
noncomputable def zCT:D->Option R
 | .lst ds=>(intsOf ds).bind λns=>if ns.length<=1000000 then some (.fr ((Y7 ns).map D.int))else none
 | _=>none
noncomputable def zA8(f:FD):FE:=λω=>(f ω).bind zCT
section
variable{X:Cx}
def qb7:Xn X (.builtin "sorted") rSortB:=by
 intro pins s σ H xs us Q I r h;obtain⟨p,ns,rfl,hp,hz,q⟩:=h;obtain⟨u,rfl,rx⟩:=vals1 r;cases rx;obtain⟨its,n,rv,e,_⟩:=I.lst hp;have hlen:its.length=ns.length:=by rw[<- rv.length,zB]
 refine So.sorted_any ⟨_,e,rfl,n,rfl⟩ (q3r rv) ∅ λout ns' a1 a2 a3=>?_;obtain⟨m,hm⟩:=PyProof.Rows.sortedAll_at s.heap its out;have en:ns'=Y7 ns:=q49 a3 q4j (a2.trans q1F.symm);subst en;have hsl:(Y7 ns).length<=sizeLine:=by rw[q7X,vo];omega
 have I2:=I.laid (a:=s.heap.objs.size+1) (o:=.lst ((Y7 ns).map V.int)) (t':=s.toks) (λb o e=>PyProof.Rows.sortedAll_old e) (wI _)
  (show Y5 X.prog X.w _ (PyProof.Rows.sortedAll s.heap its out) _ (.lst _)from ⟨by rw[zB];exact hsl,out.toList,m,q3U a1,by rw[wm];exact hm⟩)
 exact⟨.ref _,_,I2,rfl,q _ (I.hok.fresh (wI _))⟩
def q8L{a:vW}{f:FD}{p q:Pos}(hg:Gl X "sorted")(hm:X.mg "sorted" = none)(ha:XV X a f)(he:vJ [a] X.env=(false,eval a X.env)::vJ [] X.env:=by rfl)(hpl:(vp q (vJ [] X.env)).any (·.1)=false:=by rfl):XE X (.Call (.Name "sorted" p) [a] [] q) (zA8 f):=by
 obtain⟨t,h1,h2⟩:=ha;refine⟨_,q2J qb7 hg hm q63 (qo h1 qN he) (by decide) (by decide) he hpl,λG0 H0 G ω σ H r Q o e k=>?_⟩;obtain⟨d,z,e⟩:=bnd e;refine h2 G0 H0 G ω σ H d _ o z λv G1 H1 x1 y1=>?_;cases d with
 | lst ds=>
  obtain⟨ns,e1,e2⟩:=bnd (show (intsOf ds).bind _=some r from e);have hds:=q3g e1;subst hds
  by_cases hz:ns.length<=1000000
  ·rw[vG hz]at e2
   cases e2;obtain⟨p,vs,rfl,g1,g2⟩:=y1.lst x1.gh;have hv:=g2.of_ints;subst hv;refine⟨p,ns,rfl,g1,hz,λl hl=>?_⟩;have x2:=Ext.hide x1.gh hl (.lst ((Y7 ns).map V.int));exact k _ G1 _ (x1.trans x2) ⟨l,_,rfl,x1.hh.free hl,x1.gh.free hl,qe,Yt.ints _⟩
  ·rw[vH hz]at e2;cases e2
 | _=>cases e
noncomputable def zCS(o:Option D):Option R:=o.bind zCT
def qA{fd:FD}{ω:WSt}:zA8 fd ω=zCS (fd ω):=rfl
def q0V{ns:List Int}(h:ns.length<=1000000):zCS (some (.lst (ns.map D.int)))=some (.fr ((Y7 ns).map D.int)):=by
 show (intsOf (ns.map D.int)).bind _=_;rw[q2w];exact vG h
end
end Hk
set_option maxHeartbeats 4000000
namespace Kx
open PySem L2 Hk
noncomputable def top(i:Nat):vn:=PySem.Challenge.pw_hookrail_k56_refused_yards.main.body.getD i (.Pass ⟨0,0,0,0⟩)
section
variable{P:vS}{w:vY}{K:zA}{mg:Str->Option Value}{base:vf}{f:vC}{fd:vN}
noncomputable def q7g:FS:=(XN (eOf (zAl (dOf (zCK .int (vOf (Yn 0)))) (vNot (dOf (zCK .bl (vOf (Yn 0))))))))
noncomputable def q0P:List D->Option O:=mir 1 q7g
noncomputable abbrev q5C:vn:=top 11
def qaT:FnScope ["thing"] ["thing"] (Yo q5C):=⟨rfl,rfl,rfl,⋯,rfl,⋯,⋯⟩
def q9Y (F:Fun K "is_whole" "is_whole" q5C f fd)(z_isinstance:mg "isinstance" = none)(z_bool:mg "bool" = none)(z_int:mg "int" = none)(i_int:IsT K .int)(i_bool:IsT K .bl):
  FnOk P w K mg base CX0 1 f fd ["thing"] (spD K 1 q0P):=by
 have h:=fnD (P:=P) (w:=w) (mg:=mg) (base:=base) (k:=0) (body:=q7g) F qaT (λcdv A outer s H E hr=>
   (qb (qf (XD.toE (q2q (XE.toD (q4m (vV 0) i_int rfl z_isinstance rfl z_int qfu)) (q2U (qfj (XE.toD (q4m (vV 0) i_bool rfl z_isinstance rfl z_bool qeA)))))))))
 exact h
noncomputable def q6U:FS:=(XN (eOf (zAl (dOf (zCK .tup (vOf (Yn 0)))) (zAl (dOf (Yq (oEq false) (vOf (WE zAY (Yj (vOf (Yn 0)) Yr))) (fC (.int 2)))) (zAl (dOf (Ys q0P (Yj (dOf (Yq oIx (vOf (Yn 0)) (fC (.int 0)))) Yr))) (dOf (Ys q0P (Yj (dOf (Yq oIx (vOf (Yn 0)) (fC (.int 1)))) Yr))))))))
noncomputable def q4z:List D->Option O:=mir 1 q6U
noncomputable abbrev q6G:vn:=top 12
def qdt:FnScope ["thing"] ["thing"] (Yo q6G):=⟨rfl,rfl,rfl,⋯,rfl,⋯,⋯⟩
def qcO{f_is_whole:vC}{d_is_whole:vN}(F:Fun K "is_box" "is_box" q6G f fd)(c_is_whole:Cal P w K mg base 1 f_is_whole d_is_whole "is_whole" ["thing"] 1 q0P)(z_len:mg "len" = none)(z_isinstance:mg "isinstance" = none)(z_tuple:mg "tuple" = none)(i_tuple:IsT K .tup):
  FnOk P w K mg base CX0 2 f fd ["thing"] (spD K 1 q4z):=by
 have h:=fnD (P:=P) (w:=w) (mg:=mg) (base:=base) (k:=1) (body:=q6U) F qdt (λcdv A outer s H E hr=>
   (qb (qf (XD.toE (q2q (XE.toD (q4m (vV 0) i_tuple rfl z_isinstance rfl z_tuple q5r)) (q2q (XE.toD (zB6 hr.units (XE.toV (q0C qG q23 rfl z_len q25 (qv (vV 0) qF))) (XD.toV Yk))) (q2q (XE.toD (xc c_is_whole hr (Yi (XE.toD (Yp (vV 0) (XD.toV Yk))) Yl))) (q2U (XE.toD (xc c_is_whole hr (Yi (XE.toD (Yp (vV 0) (XD.toV Yk))) Yl)))))))))))
 exact h
noncomputable def q5J:FD:=(dOf (Ys q4z (Yj (dOf (Yn 0)) Yr)))
noncomputable def q3T:FS:=(Y4 (sIf (zCE (X4 (zAT (vOf (Ys q0P (Yj (dOf (Yn 0)) Yr))))) (zCE (X4 (zAT (vOf (Ys q0P (Yj (dOf (Yn 1)) Yr))))) (X4 (zAT (vOf (zCK .lst (vOf (Yn 2)))))))) (XN (eOf (fC (.bl false)))) X2)
  (XN (WE zB0 (Yj (vOf (Xg 1 [] (WP (dOf (Yn 2))) (gN 0) XF q5J)) Yr))))
noncomputable def q2f:List D->Option O:=mir 3 q3T
noncomputable abbrev q4W:vn:=top 13
def q9Q:FnScope ["home", "last", "boxes"] ["home", "last", "boxes"] (Yo q4W):=⟨rfl,rfl,rfl,⋯,rfl,⋯,⋯⟩
def q93{f_is_whole:vC}{d_is_whole:vN}{f_is_box:vC}{d_is_box:vN}(F:Fun K "is_errand" "is_errand" q4W f fd)(c_is_whole:Cal P w K mg base 1 f_is_whole d_is_whole "is_whole" ["thing"] 1 q0P)(c_is_box:Cal P w K mg base 2 f_is_box d_is_box "is_box" ["thing"] 1 q4z)(z_isinstance:mg "isinstance" = none)(z_list:mg "list" = none)(z_all:mg "all" = none)(i_list:IsT K .lst):
  FnOk P w K mg base CX0 3 f fd ["home", "last", "boxes"] (spD K 3 q2f):=by
 have h:=fnD (P:=P) (w:=w) (mg:=mg) (base:=base) (k:=2) (body:=q3T) F q9Q (λcdv A outer s H E hr=>
   (qa (q0m (XW.toT (q6n (q2j (q1H (XE.toV (xc c_is_whole hr (Yi (vD 0) Yl))))) (q6n (q2j (q1H (XE.toV (xc c_is_whole hr (Yi (vD 1) Yl))))) (q9c (q2j (q1H (XE.toV (q4m (vV 2) i_list rfl z_isinstance rfl z_list q7E)))))))) (qb (qf (XD.toE Xc))) qx)
   (qb (qf (q0C (q4G rfl) q7r rfl z_all q7o (qv (XE.toV (q1Z rfl (blk ["box"] [] [] rfl ⋯ ⋯ rfl trivial) (q0Q (vD 2)) (q1b 0) (λ_ _ _ _=>⟨(qk (i:=0) (show ((["box"]:List Str)++([]:List Str):List Str).Nodup from by decide +kernel) rfl (Or.inl rfl)),q20,(XE.toD (xc c_is_box hr (Yi (vD 0) Yl)))⟩))) qF))))))
 exact h
noncomputable def q4k:FS:=(XN (eOf (zAl (dOf (Yq oLe (vOf (Yn 0)) (vOf (Yq oIx (vOf (Yn 2)) (fC (.int 0)))))) (dOf (Yq oLe (vOf (Yq oIx (vOf (Yn 2)) (fC (.int 1)))) (vOf (Yn 1)))))))
noncomputable def q2n:List D->Option O:=mir 3 q4k
noncomputable abbrev q4u:vn:=top 15
def q9y:FnScope ["start", "goal", "gap"] ["start", "goal", "gap"] (Yo q4u):=⟨rfl,rfl,rfl,⋯,rfl,⋯,⋯⟩
def q8u (F:Fun K "leads_over" "leads_over" q4u f fd):
  FnOk P w K mg base CX0 1 f fd ["start", "goal", "gap"] (spD K 3 q2n):=by
 have h:=fnD (P:=P) (w:=w) (mg:=mg) (base:=base) (k:=0) (body:=q4k) F q9y (λcdv A outer s H E hr=>
   (qb (qf (XD.toE (q2q (XE.toD (qaP (vV 0) (XE.toV (Yp (vV 2) (XD.toV Yk))))) (q2U (XE.toD (qaP (XE.toV (Yp (vV 2) (XD.toV Yk))) (vV 1)))))))))
 exact h
noncomputable def q5p:FT:=(zAT (vOf (Ys q2n (Yj (dOf (Yq oIx (vOf (Yn 0)) (fC (.int 0)))) (Yj (dOf (Yq oIx (vOf (Yn 0)) (fC (.int 1)))) (Yj (dOf (Yn 1)) Yr))))))
noncomputable def q5B:FD:=(dOf (Yn 0))
noncomputable def q5v:FT:=(zAT (vOf (Ys q2n (Yj (dOf (Yq oIx (vOf (Yn 0)) (fC (.int 1)))) (Yj (dOf (Yq oIx (vOf (Yn 0)) (fC (.int 0)))) (Yj (dOf (Yn 1)) Yr))))))
noncomputable def q5m:FD:=(dOf (Yn 0))
noncomputable def q5W:FS:=(Y4 (XR 2 (Xg 1 [1] (WP (dOf (Yn 0))) (gN 0) q5p q5B))
  (zAf 2 (Y4 (XR 3 (Xg 1 [1] (WP (dOf (Yn 0))) (gN 0) q5v q5m))
  (zAf 3 (XN (eOf (W2 (Yj (dOf (WE zAY (Yj (vOf (Yn 2)) Yr))) (Yj (dOf (WE zAY (Yj (vOf (Yn 3)) Yr))) Yr)))))))))
noncomputable def q2I:List D->Option O:=mir 4 q5W
noncomputable abbrev q5U:vn:=top 16
def q5R:FnScope ["boxes", "gap", "rights", "lefts"] ["boxes", "gap"] (Yo q5U):=⟨rfl,rfl,rfl,⋯,rfl,⋯,⋯⟩
def qaU{f_leads_over:vC}{d_leads_over:vN}(F:Fun K "crossed" "crossed" q5U f fd)(c_leads_over:Cal P w K mg base 1 f_leads_over d_leads_over "leads_over" ["start", "goal", "gap"] 3 q2n)(z_len:mg "len" = none):
  FnOk P w K mg base CX0 2 f fd ["boxes", "gap"] (spD K 2 q2I):=by
 have h:=fnD (P:=P) (w:=w) (mg:=mg) (base:=base) (k:=1) (body:=q5W) F q5R (λcdv A outer s H E hr=>
   (qa (q6j (i:=2) rfl q5R.nd rfl rfl (blk ["box"] ["gap"] [1] rfl ⋯ ⋯ rfl ⟨⟨rfl,(by first|exact Or.inl rfl|exact Or.inr rfl),rfl⟩,trivial⟩) (q0Q (vD 0)) (q1b 0) (λ_ _ _ _=>⟨(qk (i:=0) (show ((["box"]:List Str)++(["gap"]:List Str):List Str).Nodup from by decide +kernel) rfl (Or.inl rfl)),(q6t (q1H (XE.toV (xc c_leads_over hr (Yi (XE.toD (Yp (vV 0) (XD.toV Yk))) (Yi (XE.toD (Yp (vV 0) (XD.toV Yk))) (Yi (vD 1) Yl))))))),(vD 0)⟩))
   (q6e 2 (qa (q6j (i:=3) rfl q5R.nd rfl rfl (blk ["box"] ["gap"] [1] rfl ⋯ ⋯ rfl ⟨⟨rfl,(by first|exact Or.inl rfl|exact Or.inr rfl),rfl⟩,trivial⟩) (q0Q (vD 0)) (q1b 0) (λ_ _ _ _=>⟨(qk (i:=0) (show ((["box"]:List Str)++(["gap"]:List Str):List Str).Nodup from by decide +kernel) rfl (Or.inl rfl)),(q6t (q1H (XE.toV (xc c_leads_over hr (Yi (XE.toD (Yp (vV 0) (XD.toV Yk))) (Yi (XE.toD (Yp (vV 0) (XD.toV Yk))) (Yi (vD 1) Yl))))))),(vD 0)⟩))
   (q6e 3 (qb (qf (XD.toE (Y9 (Yi (XE.toD (q0C qG q23 rfl z_len q25 (qv (vV 2) qF))) (Yi (XE.toD (q0C qG q23 rfl z_len q25 (qv (vV 3) qF))) Yl)))))))))))
 exact h
noncomputable def q5A:FD:=(dOf (Yq oLe (vOf (Yn 1)) (vOf (WE zBR (Yj (vOf (Yn 0)) Yr)))))
noncomputable def q5K:FS:=(XN (eOf (zAl (dOf (Ys q2f (Yj (dOf (Yn 0)) (Yj (dOf (Yn 0)) (Yj (dOf (Yn 1)) Yr))))) (dOf (WE zB0 (Yj (vOf (Xg 1 [0] (WP (dOf (Yn 1))) (gN 0) XF q5A)) Yr))))))
noncomputable def q2r:List D->Option O:=mir 2 q5K
noncomputable abbrev q5X:vn:=top 18
def qc7:FnScope ["gate", "boxes"] ["gate", "boxes"] (Yo q5X):=⟨rfl,rfl,rfl,⋯,rfl,⋯,⋯⟩
def qb0{f_is_errand:vC}{d_is_errand:vN}(F:Fun K "is_yard" "is_yard" q5X f fd)(c_is_errand:Cal P w K mg base 3 f_is_errand d_is_errand "is_errand" ["home", "last", "boxes"] 3 q2f)(z_min:mg "min" = none)(z_all:mg "all" = none):
  FnOk P w K mg base CX0 4 f fd ["gate", "boxes"] (spD K 2 q2r):=by
 have h:=fnD (P:=P) (w:=w) (mg:=mg) (base:=base) (k:=3) (body:=q5K) F qc7 (λcdv A outer s H E hr=>
   (qb (qf (XD.toE (q2q (XE.toD (xc c_is_errand hr (Yi (vD 0) (Yi (vD 0) (Yi (vD 1) Yl))))) (q2U (XE.toD (q0C (q4G rfl) q7r rfl z_all q7o (qv (XE.toV (q1Z rfl (blk ["box"] ["gate"] [0] rfl ⋯ ⋯ rfl ⟨⟨rfl,(by first|exact Or.inl rfl|exact Or.inr rfl),rfl⟩,trivial⟩) (q0Q (vD 1)) (q1b 0) (λ_ _ _ _=>⟨(qk (i:=0) (show ((["box"]:List Str)++(["gate"]:List Str):List Str).Nodup from by decide +kernel) rfl (Or.inl rfl)),q20,(XE.toD (qaP (vV 1) (XE.toV (q0C (q8l rfl) qad rfl z_min qcs (qv (vV 0) qF)))))⟩))) qF)))))))))
 exact h
noncomputable def q3A:FS:=(sIf (X4 (zAT (vOf (Ys q2r (Yj (dOf (Yn 0)) (Yj (dOf (Yn 1)) Yr)))))) sNo X2)
noncomputable def qi:List D->Option O:=mir 2 q3A
noncomputable abbrev q3u:vn:=top 19
def q6a:FnScope ["gate", "boxes"] ["gate", "boxes"] (Yo q3u):=⟨rfl,rfl,rfl,⋯,rfl,⋯,⋯⟩
def q8x{f_is_yard:vC}{d_is_yard:vN}{A_NoYard:vC}(F:Fun K "check_yard" "check_yard" q3u f fd)(c_is_yard:Cal P w K mg base 4 f_is_yard d_is_yard "is_yard" ["gate", "boxes"] 2 q2r)(e_NoYard:mg "NoYard" = some (.ref A_NoYard))(x_NoYard:ECls K "NoYard" A_NoYard):
  FnOk P w K mg base CX0 5 f fd ["gate", "boxes"] (spD K 2 qi):=by
 have h:=fnD (P:=P) (w:=w) (mg:=mg) (base:=base) (k:=4) (body:=q3A) F q6a (λcdv A outer s H E hr=>
   (qb (q0m (q2j (q1H (XE.toV (xc c_is_yard hr (Yi (vD 0) (Yi (vD 1) Yl)))))) (qb q8E) qx)))
 exact h
noncomputable def q2i:FX:=(yIf (X4 (zAT (vOf (Ys q2r (Yj (dOf (Yn 0)) (Yj (dOf (Yn 1)) Yr)))))) (zAb "NoYard") yNo)
noncomputable def qg:List D->Option Str:=λds=>q2i (entry 2 ds)
def q7T{f_is_yard:vC}{d_is_yard:vN}{A_NoYard:vC}(F:Fun K "check_yard" "check_yard" q3u f fd)(c_is_yard:Cal P w K mg base 4 f_is_yard d_is_yard "is_yard" ["gate", "boxes"] 2 q2r)(e_NoYard:mg "NoYard" = some (.ref A_NoYard))(x_NoYard:ECls K "NoYard" A_NoYard):
  FnOk P w K mg base (CXe P w) 5 f fd ["gate", "boxes"] (spX K 2 qg):=by
 have h:=fnX (P:=P) (w:=w) (mg:=mg) (base:=base) (k:=4) (gb:=q2i) F q6a (λcdv A outer s H E hr=>
   (q1E (q6o (q2j (q1H (XE.toV (xc c_is_yard hr (Yi (vD 0) (Yi (vD 1) Yl)))))) (q1E (q6S rfl e_NoYard rfl x_NoYard (Yi XC Yl) (λ_=>⟨_,rfl⟩) zAU)) q4Z)))
 exact h
noncomputable def q3K:FS:=(sIf (tOf (Yq (oEq true) (vOf (Yn 3)) (vOf (Yn 4)))) (zC5 2 (dOf (X8 (Yj (dOf (Yn 3)) (Yj (dOf (Yn 4)) Yr))))) X2)
noncomputable def q41:FS:=(Y4 (XR 2 (X8 (Yj (dOf (Yn 0)) Yr)))
  (Y4 (zBP (WP (dOf (Yn 1))) (gT 2 (Yw (gN 3) (Yw (gN 4) Xz))) q3K)
  (XN (WB (vOf (Yn 2))))))
noncomputable def q22:List D->Option O:=mir 5 q41
noncomputable abbrev q46:vn:=top 20
def q3b:FnScope ["gate", "boxes", "places", "start", "goal"] ["gate", "boxes"] (Yo q46):=⟨rfl,rfl,rfl,⋯,rfl,⋯,⋯⟩
def q7U (F:Fun K "yard_places" "yard_places" q46 f fd)(z_sorted:mg "sorted" = none)(z_set:mg "set" = none):
  FnOk P w K mg base CX0 1 f fd ["gate", "boxes"] (spD K 2 q22):=by
 have h:=fnD (P:=P) (w:=w) (mg:=mg) (base:=base) (k:=0) (body:=q41) F q3b (λcdv A outer s H E hr=>
   (qa (qj (i:=2) q3b.nd rfl (Or.inl rfl) (Yy (Yi (vD 0) Yl)))
   (qa (q2R PassesOwn.never rfl (q0Q (vD 1)) (q5P rfl (q1R (qk (i:=3) q3b.nd rfl (Or.inl rfl)) (q1R (qk (i:=4) q3b.nd rfl (Or.inl rfl)) q55))) (qb (q0m (Wc hr.units (vV 3) (vV 4)) (qb (q7y (pv 2) (XE.toD (Yy (Yi (vD 3) (Yi (vD 4) Yl)))))) qx)))
   (qb (qf (q78 rfl z_sorted rfl z_set (vV 2)))))))
 exact h
noncomputable def q3P:FS:=(XN (WE zBO (Yj (vOf (Yq X5 (vOf (Ys q2I (Yj (dOf (Yn 0)) (Yj (dOf (Yn 1)) Yr)))) (W2 (Yj (fC (.int 1)) Yr)))) Yr)))
noncomputable def q1U:List D->Option O:=mir 2 q3P
noncomputable abbrev q3N:vn:=top 21
def q7C:FnScope ["boxes", "gap"] ["boxes", "gap"] (Yo q3N):=⟨rfl,rfl,rfl,⋯,rfl,⋯,⋯⟩
def q7x{f_crossed:vC}{d_crossed:vN}(F:Fun K "times_passed" "times_passed" q3N f fd)(c_crossed:Cal P w K mg base 2 f_crossed d_crossed "crossed" ["boxes", "gap"] 2 q2I)(z_max:mg "max" = none):
  FnOk P w K mg base CX0 3 f fd ["boxes", "gap"] (spD K 2 q1U):=by
 have h:=fnD (P:=P) (w:=w) (mg:=mg) (base:=base) (k:=2) (body:=q3P) F q7C (λcdv A outer s H E hr=>
   (qb (qf (q0C (q8a rfl) qal rfl z_max qc1 (qv (XE.toV (q1I (XE.toV (xc c_crossed hr (Yi (vD 0) (Yi (vD 1) Yl)))) (XD.toV (Y9 (Yi Yk Yl))))) qF)))))
 exact h
noncomputable def q4J:FD:=(dOf (Yq X5 (vOf (Yn 0)) (W2 (Yj (dOf (Ys q1U (Yj (dOf (Yn 1)) (Yj (dOf (Yn 0)) Yr)))) Yr))))
noncomputable def q6V:FS:=(Y4 (zAi (Ys qi (Yj (dOf (Yn 0)) (Yj (dOf (Yn 1)) Yr))))
  (Y4 (XR 2 (eOf (dOf (Ys q22 (Yj (dOf (Yn 0)) (Yj (dOf (Yn 1)) Yr))))))
  (XN (Xg 1 [1] (iZp (Yj (dOf (Yn 2)) (Yj (dOf (fSl (vOf (Yn 2)) (pAt (fC (.int 1))) pNo)) Yr))) (gN 0) XF q4J))))
noncomputable def q1w:List D->Option O:=mir 3 q6V
noncomputable abbrev q5z:vn:=top 22
def q77:FnScope ["gate", "boxes", "places"] ["gate", "boxes"] (Yo q5z):=⟨rfl,rfl,rfl,⋯,rfl,⋯,⋯⟩
def qcn{f_check_yard:vC}{d_check_yard:vN}{f_yard_places:vC}{d_yard_places:vN}{f_times_passed:vC}{d_times_passed:vN}(F:Fun K "passes" "passes" q5z f fd)(c_check_yard:Cal P w K mg base 5 f_check_yard d_check_yard "check_yard" ["gate", "boxes"] 2 qi)(Gx_check_yard:FnOk P w K mg base (CXe P w) 5 f_check_yard d_check_yard ["gate", "boxes"] (spX K 2 qg))(c_yard_places:Cal P w K mg base 1 f_yard_places d_yard_places "yard_places" ["gate", "boxes"] 2 q22)(c_times_passed:Cal P w K mg base 3 f_times_passed d_times_passed "times_passed" ["boxes", "gap"] 2 q1U)(z_zip:mg "zip" = none):
  FnOk P w K mg base CX0 6 f fd ["gate", "boxes"] (spD K 2 q1w):=by
 have h:=fnD (P:=P) (w:=w) (mg:=mg) (base:=base) (k:=5) (body:=q6V) F q77 (λcdv A outer s H E hr=>
   (qa (q53 (xc c_check_yard hr (Yi (vD 0) (Yi (vD 1) Yl))))
   (qa (qj (i:=2) q77.nd rfl (Or.inl rfl) (XD.toE (XE.toD (xc c_yard_places hr (Yi (vD 0) (Yi (vD 1) Yl))))))
   (qb (qf (q1Z rfl (blk ["gap"] ["boxes"] [1] rfl ⋯ ⋯ rfl ⟨⟨rfl,(by first|exact Or.inl rfl|exact Or.inr rfl),rfl⟩,trivial⟩) (qeU rfl z_zip (Yi (vD 2) (Yi (XE.toD (Y8 (vV 2) (XB (XD.toV Yk)) XJ)) Yl))) (q1b 0) (λ_ _ _ _=>⟨(qk (i:=0) (show ((["gap"]:List Str)++(["boxes"]:List Str):List Str).Nodup from by decide +kernel) rfl (Or.inl rfl)),q20,(XE.toD (q1I (vV 0) (XD.toV (Y9 (Yi (XE.toD (xc c_times_passed hr (Yi (vD 1) (Yi (vD 0) Yl)))) Yl)))))⟩)))))))
 exact h
noncomputable def q5j:FX:=(WF qg (Yj (dOf (Yn 0)) (Yj (dOf (Yn 1)) Yr)))
noncomputable def q2t:List D->Option Str:=λds=>q5j (entry 3 ds)
def qbk{f_check_yard:vC}{d_check_yard:vN}{f_yard_places:vC}{d_yard_places:vN}{f_times_passed:vC}{d_times_passed:vN}(F:Fun K "passes" "passes" q5z f fd)(c_check_yard:Cal P w K mg base 5 f_check_yard d_check_yard "check_yard" ["gate", "boxes"] 2 qi)(Gx_check_yard:FnOk P w K mg base (CXe P w) 5 f_check_yard d_check_yard ["gate", "boxes"] (spX K 2 qg))(c_yard_places:Cal P w K mg base 1 f_yard_places d_yard_places "yard_places" ["gate", "boxes"] 2 q22)(c_times_passed:Cal P w K mg base 3 f_times_passed d_times_passed "times_passed" ["boxes", "gap"] 2 q1U)(z_zip:mg "zip" = none):
  FnOk P w K mg base (CXe P w) 6 f fd ["gate", "boxes"] (spX K 2 q2t):=by
 have h:=fnX (P:=P) (w:=w) (mg:=mg) (base:=base) (k:=5) (gb:=q5j) F q77 (λcdv A outer s H E hr=>
   (q1E (q7O (q2Z Gx_check_yard (hr.mono (by decide)) rfl c_check_yard.2.1 c_check_yard.2.2.1 c_check_yard.2.2.2 zAR (Yi (vD 0) (Yi (vD 1) Yl))))))
 exact h
noncomputable def q43:FD:=(dOf (Yq zCA (vOf (Yq zCA (fC (.int 2)) (vOf (Yq zB5 (vOf (Yn 1)) (vOf (Yn 0)))))) (vOf (Yn 2))))
noncomputable def q4i:FS:=(XN (WE bSum (Yj (vOf (Xg 3 [] (WP (dOf (Ys q1w (Yj (dOf (Yn 0)) (Yj (dOf (Yn 1)) Yr))))) (gT 3 (Yw (gN 0) (Yw (gN 1) (Yw (gN 2) Xz)))) XF q43)) Yr)))
noncomputable def q1J:List D->Option O:=mir 2 q4i
noncomputable abbrev q3i:vn:=top 23
def q5I:FnScope ["gate", "boxes"] ["gate", "boxes"] (Yo q3i):=⟨rfl,rfl,rfl,⋯,rfl,⋯,⋯⟩
def q8q{f_passes:vC}{d_passes:vN}(F:Fun K "yard_least" "yard_least" q3i f fd)(c_passes:Cal P w K mg base 6 f_passes d_passes "passes" ["gate", "boxes"] 2 q1w)(Gx_passes:FnOk P w K mg base (CXe P w) 6 f_passes d_passes ["gate", "boxes"] (spX K 2 q2t))(z_sum:mg "sum" = none):
  FnOk P w K mg base CX0 7 f fd ["gate", "boxes"] (spD K 2 q1J):=by
 have h:=fnD (P:=P) (w:=w) (mg:=mg) (base:=base) (k:=6) (body:=q4i) F q5I (λcdv A outer s H E hr=>
   (qb (qf (q0C (q8i rfl) qfK rfl z_sum qcL (qv (XE.toV (q1Z rfl (blk ["left", "right", "times"] [] [] rfl ⋯ ⋯ rfl trivial) (q0Q (XE.toD (xc c_passes hr (Yi (vD 0) (Yi (vD 1) Yl))))) (qbY (q3v (q1b 0) (q3v (q1b 1) (q3v (q1b 2) q82)))) (λ_ _ _ _=>⟨(q5P rfl (q1R (qk (i:=0) (show ((["left", "right", "times"]:List Str)++([]:List Str):List Str).Nodup from by decide +kernel) rfl (Or.inl rfl)) (q1R (qk (i:=1) (show ((["left", "right", "times"]:List Str)++([]:List Str):List Str).Nodup from by decide +kernel) rfl (Or.inl rfl)) (q1R (qk (i:=2) (show ((["left", "right", "times"]:List Str)++([]:List Str):List Str).Nodup from by decide +kernel) rfl (Or.inl rfl)) q55)))),q20,(XE.toD (q9j (XE.toV (q9j (XD.toV Yk) (XE.toV (q4w (vV 1) (vV 0))))) (vV 2)))⟩))) qF)))))
 exact h
noncomputable def q3k:FX:=(WF q2t (Yj (dOf (Yn 0)) (Yj (dOf (Yn 1)) Yr)))
noncomputable def q2C:List D->Option Str:=λds=>q3k (entry 2 ds)
def q7D{f_passes:vC}{d_passes:vN}(F:Fun K "yard_least" "yard_least" q3i f fd)(c_passes:Cal P w K mg base 6 f_passes d_passes "passes" ["gate", "boxes"] 2 q1w)(Gx_passes:FnOk P w K mg base (CXe P w) 6 f_passes d_passes ["gate", "boxes"] (spX K 2 q2t))(z_sum:mg "sum" = none):
  FnOk P w K mg base (CXe P w) 7 f fd ["gate", "boxes"] (spX K 2 q2C):=by
 have h:=fnX (P:=P) (w:=w) (mg:=mg) (base:=base) (k:=6) (gb:=q3k) F q5I (λcdv A outer s H E hr=>
   (q1E (q58 (qfP (q8i rfl) rfl z_sum qcL (qan rfl (blk ["left", "right", "times"] [] [] rfl ⋯ ⋯ rfl trivial) (q2Z Gx_passes (hr.mono (by decide)) rfl c_passes.2.1 c_passes.2.2.1 c_passes.2.2.2 zAR (Yi (vD 0) (Yi (vD 1) Yl))))))))
 exact h
noncomputable def q5V:FS:=sNb
noncomputable def q3s:List D->Option O:=mir 5 q5V
noncomputable abbrev q4f:vn:=top 25
def q5T:FnScope ["things", "ties", "beside", "thing", "tie"] ["things", "ties"] (Yo q4f):=⟨rfl,rfl,rfl,⋯,rfl,⋯,⋯⟩
def q8z (F:Fun K "neighbours" "neighbours" q4f f fd):
  FnOk P w K mg base CX0 1 f fd ["things", "ties"] (spD K 2 q3s):=by
 have h:=fnD (P:=P) (w:=w) (mg:=mg) (base:=base) (k:=0) (body:=q5V) F q5T (λcdv A outer s H E hr=>
   (qfi hr.units PassesOwn.never rfl q5T.nd rfl rfl rfl (by first|exact Or.inl rfl|exact Or.inr rfl) (by first|exact Or.inl rfl|exact Or.inr rfl) (by first|exact Or.inl rfl|exact Or.inr rfl) (by first|exact .inl rfl|exact .inr rfl) (by first|exact .inl rfl|exact .inr rfl) (by first|exact .inl rfl|exact .inr rfl) (pv 0) (pv 1) (pv 2) (pv 2) (pv 2) (pv 3) (pv 2) (XE.toD (Yp (vV 4) (XD.toV Yk))) (XE.toD (Yp (vV 4) (XD.toV Yk))) (XE.toD (Yp (vV 4) (XD.toV Yk))) (XE.toD (Yp (vV 4) (XD.toV Yk))) (λω e h=>qfJ h) (λω e h=>qfs h)))
 exact h
noncomputable def q4X:FS:=(sIf (zB8 true 2 (dOf (Yn 5))) (Y4 (zCm 2 (dOf (Yn 5)) (fC (.bl true)))
  (sApp 3 (dOf (Yn 5)))) X2)
noncomputable def q3Q:FT:=(zAT (vOf (Yn 3)))
noncomputable def q4S:FS:=(Y4 (zCB 4 (zCG 3))
  (zBP (WP (dOf (zC0 1 (dOf (Yn 4))))) (gN 5) q4X))
noncomputable def q5f:FS:=(Y4 (zBj 2 (dOf (Yn 0)) (fC (.bl true)))
  (Y4 (XR 3 (X8 (Yj (dOf (Yn 0)) Yr)))
  (Y4 (sWh 1000000 q3Q q4S)
  (XN (zBb 2)))))
noncomputable def q3x:List D->Option O:=mir 6 q5f
noncomputable abbrev q5l:vn:=top 26
def q3w:FnScope ["thing", "beside", "found", "waiting", "here", "other"] ["thing", "beside"] (Yo q5l):=⟨rfl,rfl,rfl,⋯,rfl,⋯,⋯⟩
def qa0 (F:Fun K "group_of" "group_of" q5l f fd)(z_sorted:mg "sorted" = none):
  FnOk P w K mg base CX0 1 f fd ["thing", "beside"] (spD K 2 q3x):=by
 have h:=fnD (P:=P) (w:=w) (mg:=mg) (base:=base) (k:=0) (body:=q5f) F q3w (λcdv A outer s H E hr=>
   (qa (qdg (i:=2) q3w.nd rfl (Or.inl rfl) (vD 0) Xc)
   (qa (qj (i:=3) q3w.nd rfl (Or.inl rfl) (Yy (Yi (vD 0) Yl)))
   (qa (q9b PassesOwn.never (q1H (vV 3)) (qa (qef (i:=4) q3w.nd rfl (Or.inl rfl) (qdY (pv 3)))
   (qb (q2R PassesOwn.never rfl (q0Q (XE.toD (qep hr.units (pv 1) (vD 4)))) (qk (i:=5) q3w.nd rfl (Or.inl rfl)) (qb (q0m (qcx hr.units (vD 5) (pv 2)) (qa (qeB hr.units (pv 2) (vD 5) Xc)
   (qb (q9i (pv 3) (vD 5)))) qx))))))
   (qb (qf (qcP rfl rfl z_sorted (pv 2))))))))
 exact h
noncomputable abbrev q28:vn:=top 28
def q3Z:FnScope ["arcs", "numbers", "number", "arc"] ["arcs"] (Yo q28):=⟨rfl,rfl,rfl,⋯,rfl,⋯,⋯⟩
def q5H(F:Fun K "numbers_by_start" "numbers_by_start" q28 f fd)(z_enumerate:mg "enumerate" = none):FnOk P w K mg base CX0 1 f fd ["arcs"] (spT K):=by
 refine F.ok q3Z (λvs H Q E h=>?_) (λcdv A outer s H vs Q E hr h=>?_)
 ·obtain⟨G,as,_,rp,_⟩:=h
  rw[<- rp.len];rfl
 ·exact qeF (X:=(zAm CX0 P w K mg base ["arcs", "numbers", "number", "arc"] "numbers_by_start" (Yo q28) f cdv A outer s H E).nox) PassesOwn.never rfl q3Z.nd rfl rfl rfl (by first|exact Or.inl rfl|exact Or.inr rfl) (by first|exact Or.inl rfl|exact Or.inr rfl) (by first|exact Or.inl rfl|exact Or.inr rfl) (by first|exact .inl rfl|exact .inr rfl) (by first|exact .inl rfl|exact .inr rfl) (by first|exact .inl rfl|exact .inr rfl) rfl z_enumerate (pv 0) (pv 1) (pv 2) (pv 1) (XE.toD (Yp (vV 3) (XD.toV Yk))) (λω e h=>qfo h) rfl ⟨rfl,rfl,rfl,rfl⟩ rfl rfl rfl rfl rfl rfl rfl rfl (λt h=>qcB rfl h) (by intro _;rfl) h
noncomputable def q1Y:FD:=(dOf (Yq oIx (vOf (Yn 0)) (fC (.int 0))))
noncomputable def q1X:FD:=(dOf (Yq oIx (vOf (Yn 0)) (fC (.int 1))))
noncomputable def q2d:FS:=(XN (Yq (oEq false) (vOf (zA8 (vOf (Xg 1 [] (WP (dOf (Yn 0))) (gN 0) XF q1Y)))) (vOf (zA8 (vOf (Xg 1 [] (WP (dOf (Yn 0))) (gN 0) XF q1X))))))
noncomputable def qy:List D->Option O:=mir 1 q2d
noncomputable abbrev q2e:vn:=top 29
def q4Q:FnScope ["arcs"] ["arcs"] (Yo q2e):=⟨rfl,rfl,rfl,⋯,rfl,⋯,⋯⟩
def q4E (F:Fun K "as_many_begin_as_end" "as_many_begin_as_end" q2e f fd)(z_sorted:mg "sorted" = none):
  FnOk P w K mg base CX0 1 f fd ["arcs"] (spD K 1 qy):=by
 have h:=fnD (P:=P) (w:=w) (mg:=mg) (base:=base) (k:=0) (body:=q2d) F q4Q (λcdv A outer s H E hr=>
   (qb (qf (zB6 hr.units (XE.toV (q8L rfl z_sorted (XE.toV (q1Z rfl (blk ["arc"] [] [] rfl ⋯ ⋯ rfl trivial) (q0Q (vD 0)) (q1b 0) (λ_ _ _ _=>⟨(qk (i:=0) (show ((["arc"]:List Str)++([]:List Str):List Str).Nodup from by decide +kernel) rfl (Or.inl rfl)),q20,(XE.toD (Yp (vV 0) (XD.toV Yk)))⟩))))) (XE.toV (q8L rfl z_sorted (XE.toV (q1Z rfl (blk ["arc"] [] [] rfl ⋯ ⋯ rfl trivial) (q0Q (vD 0)) (q1b 0) (λ_ _ _ _=>⟨(qk (i:=0) (show ((["arc"]:List Str)++([]:List Str):List Str).Nodup from by decide +kernel) rfl (Or.inl rfl)),q20,(XE.toD (Yp (vV 0) (XD.toV Yk)))⟩)))))))))
 exact h
noncomputable abbrev q2N:vn:=top 30
def q1g:FnScope ["start", "arcs", "waiting", "trail", "backwards", "here", "number"] ["start", "arcs"] (Yo q2N):=⟨rfl,rfl,rfl,⋯,rfl,⋯,⋯⟩
noncomputable def q2o:List D->Option O:=mRF
def q8r{f_n:vC}{d_n:vN}(F:Fun K "round_from" "round_from" q2N f fd)(G_n:FnOk P w K mg base CX0 1 f_n d_n ["arcs"] (spT K))(a_n:mg "numbers_by_start" = some (.ref f_n))(k_n:xa K (.ref f_n)=true)(b_n:Binds K d_n ["arcs"] [])(z_list:mg "list" = none)(z_reversed:mg "reversed" = none):FnOk P w K mg base CX0 2 f fd ["start", "arcs"] (spD K 2 q2o):=by
 refine F.ok q1g (λvs H Q E h=>?_) (λcdv A outer s H vs Q E hr h=>?_)
 ·obtain⟨G,ds,r,_,h2,_,h4,_⟩:=h
  rw[<- h4.len];exact h2
 ·have hu:=hu1 (X:=(zAm CX0 P w K mg base ["start", "arcs", "waiting", "trail", "backwards", "here", "number"] "round_from" (Yo q2N) f cdv A outer s H E).nox) hr.units
  exact qfC (X:=(zAm CX0 P w K mg base ["start", "arcs", "waiting", "trail", "backwards", "here", "number"] "round_from" (Yo q2N) f cdv A outer s H E).nox) (f1:=(dOf (Yq oIx (vOf (Yq oIx (vOf (Yn 1)) (vOf (Yn 6)))) (fC (.int 1))))) (f0:=(dOf (Yq oIx (vOf (Yq oIx (vOf (Yn 1)) (vOf (Yn 6)))) (fC (.int 0))))) (XE.toD (Yp (XE.toV (Yp (vV 1) (vV 6))) (XD.toV Yk))) (XE.toD (Yp (XE.toV (Yp (vV 1) (vV 6))) (XD.toV Yk))) (λ_ _ _=>qg9) (λ_ _ _=>qfS) rfl h (λp1 p0=>(q0k (q2m (i:=2) q1g.nd rfl (by first|exact Or.inl rfl|exact Or.inr rfl) (q7F G_n (hr.mono (by decide)) rfl a_n k_n b_n .nil pass0 (qo (pv 1) qN rfl)) rfl (by first|exact .inl rfl|exact .inr rfl)) (q0k (q2m (i:=3) q1g.nd rfl (by first|exact Or.inl rfl|exact Or.inr rfl) (q4p qN) rfl (by first|exact .inl rfl|exact .inr rfl)) (q0k (q2m (i:=4) q1g.nd rfl (by first|exact Or.inl rfl|exact Or.inr rfl) (q4p qN) rfl (by first|exact .inl rfl|exact .inr rfl)) (q0k (q2m (i:=5) q1g.nd rfl (by first|exact Or.inl rfl|exact Or.inr rfl) (pv 0) rfl (by first|exact .inl rfl|exact .inr rfl)) (q0k (q96 PassesOwn.never (qdN (q5i (pv 3) (by intro _;rfl)) (qcA (q5i (q92 hu (pv 2) (pv 5) (q4p qN) ⟨rfl,rfl,rfl,rfl⟩) (by intro _;rfl)))).pt (q2F (qbe (q5i (q92 hu (pv 2) (pv 5) (q4p qN) ⟨rfl,rfl,rfl,rfl⟩) (by intro _;rfl)) (q0k (q2m (i:=6) q1g.nd rfl (by first|exact Or.inl rfl|exact Or.inr rfl) (q9f PySem.F.plainAttrs_list PySem.F.slot_list_pop PySem.F.type_list_pop q9d (q6i hu (pv 2) (pv 5) (by intro _ _;rfl)) rfl rfl) rfl (by first|exact .inl rfl|exact .inr rfl)) (q0k (q30 (q5x PySem.F.plainAttrs_list PySem.F.slot_list_append PySem.F.type_list_append q2W (pv 3) (qo (pv 6) qN rfl) rfl rfl rfl rfl rfl) rfl) (q2F (q2m (i:=5) q1g.nd rfl (by first|exact Or.inl rfl|exact Or.inr rfl) p1 rfl (by first|exact .inl rfl|exact .inr rfl))))) (q0k (q2m (i:=6) q1g.nd rfl (by first|exact Or.inl rfl|exact Or.inr rfl) (q9f PySem.F.plainAttrs_list PySem.F.slot_list_pop PySem.F.type_list_pop q9d (pv 3) rfl rfl) rfl (by first|exact .inl rfl|exact .inr rfl)) (q0k (q30 (q5x PySem.F.plainAttrs_list PySem.F.slot_list_append PySem.F.type_list_append q2W (pv 4) (qo (pv 6) qN rfl) rfl rfl rfl rfl rfl) rfl) (q2F (q2m (i:=5) q1g.nd rfl (by first|exact Or.inl rfl|exact Or.inr rfl) p0 rfl (by first|exact .inl rfl|exact .inr rfl)))))))) (q2F (q57 (qbf rfl z_list rfl z_reversed (qo (pv 4) qN rfl) rfl rfl rfl rfl rfl)))))))))
noncomputable def q6H:FS:=(Y4 (sIf (X4 (zAT (vOf (Ys qy (Yj (dOf (Yn 1)) Yr))))) sNo X2)
  (Y4 (XR 2 (eOf (dOf (Ys q2o (Yj (dOf (Yn 0)) (Yj (dOf (Yn 1)) Yr))))))
  (Y4 (sIf (tOf (Yq (oEq true) (vOf (WE zAY (Yj (vOf (Yn 2)) Yr))) (vOf (WE zAY (Yj (vOf (Yn 1)) Yr))))) sNo X2)
  (XN (Yn 2)))))
noncomputable def q3J:List D->Option O:=mir 3 q6H
noncomputable abbrev q5s:vn:=top 31
def q5t:FnScope ["start", "arcs", "row"] ["start", "arcs"] (Yo q5s):=⟨rfl,rfl,rfl,⋯,rfl,⋯,⋯⟩
def qbu{f_as_many_begin_as_end:vC}{d_as_many_begin_as_end:vN}{f_round_from:vC}{d_round_from:vN}{A_NoRow:vC}(F:Fun K "row_of" "row_of" q5s f fd)(c_as_many_begin_as_end:Cal P w K mg base 1 f_as_many_begin_as_end d_as_many_begin_as_end "as_many_begin_as_end" ["arcs"] 1 qy)(c_round_from:Cal P w K mg base 2 f_round_from d_round_from "round_from" ["start", "arcs"] 2 q2o)(e_NoRow:mg "NoRow" = some (.ref A_NoRow))(x_NoRow:ECls K "NoRow" A_NoRow)(z_len:mg "len" = none):
  FnOk P w K mg base CX0 3 f fd ["start", "arcs"] (spD K 2 q3J):=by
 have h:=fnD (P:=P) (w:=w) (mg:=mg) (base:=base) (k:=2) (body:=q6H) F q5t (λcdv A outer s H E hr=>
   (qa (q0m (q2j (q1H (XE.toV (xc c_as_many_begin_as_end hr (Yi (vD 1) Yl))))) (qb q8E) qx)
   (qa (qj (i:=2) q5t.nd rfl (Or.inl rfl) (XD.toE (XE.toD (xc c_round_from hr (Yi (vD 0) (Yi (vD 1) Yl))))))
   (qa (q0m (Wc hr.units (XE.toV (q0C qG q23 rfl z_len q25 (qv (vV 2) qF))) (XE.toV (q0C qG q23 rfl z_len q25 (qv (vV 1) qF)))) (qb q8E) qx)
   (qb (qf (vE 2)))))))
 exact h
noncomputable def q5y:FX:=(zBu (yIf (X4 (zAT (vOf (Ys qy (Yj (dOf (Yn 1)) Yr))))) (zAb "NoRow") yNo) (sIf (X4 (zAT (vOf (Ys qy (Yj (dOf (Yn 1)) Yr))))) sNo X2) (zBu yNo (XR 2 (eOf (dOf (Ys q2o (Yj (dOf (Yn 0)) (Yj (dOf (Yn 1)) Yr)))))) (yIf (tOf (Yq (oEq true) (vOf (WE zAY (Yj (vOf (Yn 2)) Yr))) (vOf (WE zAY (Yj (vOf (Yn 1)) Yr))))) (zAb "NoRow") yNo)))
noncomputable def q3W:List D->Option Str:=λds=>q5y (entry 3 ds)
def qaL{f_as_many_begin_as_end:vC}{d_as_many_begin_as_end:vN}{f_round_from:vC}{d_round_from:vN}{A_NoRow:vC}(F:Fun K "row_of" "row_of" q5s f fd)(c_as_many_begin_as_end:Cal P w K mg base 1 f_as_many_begin_as_end d_as_many_begin_as_end "as_many_begin_as_end" ["arcs"] 1 qy)(c_round_from:Cal P w K mg base 2 f_round_from d_round_from "round_from" ["start", "arcs"] 2 q2o)(e_NoRow:mg "NoRow" = some (.ref A_NoRow))(x_NoRow:ECls K "NoRow" A_NoRow)(z_len:mg "len" = none):
  FnOk P w K mg base (CXe P w) 3 f fd ["start", "arcs"] (spX K 2 q3W):=by
 have h:=fnX (P:=P) (w:=w) (mg:=mg) (base:=base) (k:=2) (gb:=q5y) F q5t (λcdv A outer s H E hr=>
   (q3d (q6o (q2j (q1H (XE.toV (xc c_as_many_begin_as_end hr (Yi (vD 1) Yl))))) (q1E (q6S rfl e_NoRow rfl x_NoRow (Yi XC Yl) (λ_=>⟨_,rfl⟩) zAU)) q4Z) (XS.lift (q0m (q2j (q1H (XE.toV (xc c_as_many_begin_as_end hr (Yi (vD 1) Yl))))) (qb q8E) qx)) (q3d qdW (XS.lift (qj (i:=2) q5t.nd rfl (Or.inl rfl) (XD.toE (XE.toD (xc c_round_from hr (Yi (vD 0) (Yi (vD 1) Yl))))))) (q1E (q6o (Wc hr.units (XE.toV (q0C qG q23 rfl z_len q25 (qv (vV 2) qF))) (XE.toV (q0C qG q23 rfl z_len q25 (qv (vV 1) qF)))) (q1E (q6S rfl e_NoRow rfl x_NoRow (Yi XC Yl) (λ_=>⟨_,rfl⟩) zAU)) q4Z)))))
 exact h
noncomputable def q7N:FS:=(Y4 (sIf (zCE (X4 (zAT (vOf (zCK .tup (vOf (Yn 0)))))) (zCE (tOf (Yq (oEq true) (vOf (WE zAY (Yj (vOf (Yn 0)) Yr))) (fC (.int 3)))) (tOf (Yq (oEq true) (vOf (Yq oIx (vOf (Yn 0)) (fC (.int 0)))) (fC (.str "go")))))) (XN (eOf (fC (.bl false)))) X2)
  (XN (eOf (zAl (dOf (Ys q0P (Yj (dOf (Yq oIx (vOf (Yn 0)) (fC (.int 1)))) Yr))) (zAl (dOf (Ys q0P (Yj (dOf (Yq oIx (vOf (Yn 0)) (fC (.int 2)))) Yr))) (dOf (Yq (oEq true) (vOf (Yq oIx (vOf (Yn 0)) (fC (.int 1)))) (vOf (Yq oIx (vOf (Yn 0)) (fC (.int 2)))))))))))
noncomputable def q3G:List D->Option O:=mir 1 q7N
noncomputable abbrev q7J:vn:=top 33
def qeG:FnScope ["thing"] ["thing"] (Yo q7J):=⟨rfl,rfl,rfl,⋯,rfl,⋯,⋯⟩
def qcR{f_is_whole:vC}{d_is_whole:vN}(F:Fun K "is_go" "is_go" q7J f fd)(c_is_whole:Cal P w K mg base 1 f_is_whole d_is_whole "is_whole" ["thing"] 1 q0P)(z_len:mg "len" = none)(z_isinstance:mg "isinstance" = none)(z_tuple:mg "tuple" = none)(i_tuple:IsT K .tup):
  FnOk P w K mg base CX0 2 f fd ["thing"] (spD K 1 q3G):=by
 have h:=fnD (P:=P) (w:=w) (mg:=mg) (base:=base) (k:=1) (body:=q7N) F qeG (λcdv A outer s H E hr=>
   (qa (q0m (XW.toT (q6n (q2j (q1H (XE.toV (q4m (vV 0) i_tuple rfl z_isinstance rfl z_tuple q5r)))) (q6n (Wc hr.units (XE.toV (q0C qG q23 rfl z_len q25 (qv (vV 0) qF))) (XD.toV Yk)) (q9c (Wc hr.units (XE.toV (Yp (vV 0) (XD.toV Yk))) (XD.toV XC)))))) (qb (qf (XD.toE Xc))) qx)
   (qb (qf (XD.toE (q2q (XE.toD (xc c_is_whole hr (Yi (XE.toD (Yp (vV 0) (XD.toV Yk))) Yl))) (q2q (XE.toD (xc c_is_whole hr (Yi (XE.toD (Yp (vV 0) (XD.toV Yk))) Yl))) (q2U (XE.toD (xe_ne hr.units (XE.toV (Yp (vV 0) (XD.toV Yk))) (XE.toV (Yp (vV 0) (XD.toV Yk)))))))))))))
 exact h
noncomputable def q6A:FD:=(dOf (Ys q0P (Yj (dOf (Yn 0)) Yr)))
noncomputable def q4n:FS:=(Y4 (sIf (zCE (X4 (zAT (vOf (zCK .tup (vOf (Yn 0)))))) (zCE (tOf (Yq (oEq true) (vOf (WE zAY (Yj (vOf (Yn 0)) Yr))) (fC (.int 4)))) (tOf (Yq (oEq true) (vOf (Yq oIx (vOf (Yn 0)) (fC (.int 0)))) (fC (.str "box")))))) (XN (eOf (fC (.bl false)))) X2)
  (Y4 (sIf (X4 (zAT (vOf (WE zB0 (Yj (vOf (Xg 1 [] (WP (dOf (fSl (vOf (Yn 0)) (pAt (fC (.int 1))) pNo))) (gN 0) XF q6A)) Yr))))) (XN (eOf (fC (.bl false)))) X2)
  (XN (eOf (zAl (dOf (Yq oGe (vOf (Yq oIx (vOf (Yn 0)) (fC (.int 1)))) (fC (.int 0)))) (dOf (Yq oLt (vOf (Yq oIx (vOf (Yn 0)) (fC (.int 1)))) (vOf (WE zAY (Yj (vOf (Yn 1)) Yr))))))))))
noncomputable def q2z:List D->Option O:=mir 2 q4n
noncomputable abbrev q3c:vn:=top 34
def q6P:FnScope ["thing", "boxes"] ["thing", "boxes"] (Yo q3c):=⟨rfl,rfl,rfl,⋯,rfl,⋯,⋯⟩
def q6B{f_is_whole:vC}{d_is_whole:vN}(F:Fun K "has_carry_form" "has_carry_form" q3c f fd)(c_is_whole:Cal P w K mg base 1 f_is_whole d_is_whole "is_whole" ["thing"] 1 q0P)(z_len:mg "len" = none)(z_isinstance:mg "isinstance" = none)(z_tuple:mg "tuple" = none)(z_all:mg "all" = none)(i_tuple:IsT K .tup):
  FnOk P w K mg base CX0 2 f fd ["thing", "boxes"] (spD K 2 q2z):=by
 have h:=fnD (P:=P) (w:=w) (mg:=mg) (base:=base) (k:=1) (body:=q4n) F q6P (λcdv A outer s H E hr=>
   (qa (q0m (XW.toT (q6n (q2j (q1H (XE.toV (q4m (vV 0) i_tuple rfl z_isinstance rfl z_tuple q5r)))) (q6n (Wc hr.units (XE.toV (q0C qG q23 rfl z_len q25 (qv (vV 0) qF))) (XD.toV Yk)) (q9c (Wc hr.units (XE.toV (Yp (vV 0) (XD.toV Yk))) (XD.toV XC)))))) (qb (qf (XD.toE Xc))) qx)
   (qa (q0m (q2j (q1H (XE.toV (q0C (q4G rfl) q7r rfl z_all q7o (qv (XE.toV (q1Z rfl (blk ["part"] [] [] rfl ⋯ ⋯ rfl trivial) (q0Q (XE.toD (Y8 (vV 0) (XB (XD.toV Yk)) XJ))) (q1b 0) (λ_ _ _ _=>⟨(qk (i:=0) (show ((["part"]:List Str)++([]:List Str):List Str).Nodup from by decide +kernel) rfl (Or.inl rfl)),q20,(XE.toD (xc c_is_whole hr (Yi (vD 0) Yl)))⟩))) qF))))) (qb (qf (XD.toE Xc))) qx)
   (qb (qf (XD.toE (q2q (XE.toD (qgw (XE.toV (Yp (vV 0) (XD.toV Yk))) (XD.toV Yk))) (q2U (XE.toD (qb5 (XE.toV (Yp (vV 0) (XD.toV Yk))) (XE.toV (q0C qG q23 rfl z_len q25 (qv (vV 1) qF)))))))))))))
 exact h
noncomputable def q2X:FS:=(Y4 (sIf (tOf (Yq (oEq true) (vOf (Yq oIx (vOf (Yn 4)) (vOf (zB2 (fC (.int 2)))))) (vOf (Yn 3)))) (XN (eOf (fC (.bl false)))) X2)
  (XR 3 (eOf (dOf (Yq oIx (vOf (Yn 4)) (vOf (zB2 (fC (.int 1)))))))))
noncomputable def q6w:FS:=(Y4 (XR 3 (eOf (dOf (Yn 0))))
  (Y4 (zBP (WP (dOf (Yn 2))) (gN 4) q2X)
  (XN (Yq (oEq false) (vOf (Yn 3)) (vOf (Yn 1))))))
noncomputable def q3f:List D->Option O:=mir 5 q6w
noncomputable abbrev q7M:vn:=top 35
def q6u:FnScope ["home", "last", "moves", "here", "move"] ["home", "last", "moves"] (Yo q7M):=⟨rfl,rfl,rfl,⋯,rfl,⋯,⋯⟩
def qdE (F:Fun K "leads" "leads" q7M f fd):
  FnOk P w K mg base CX0 1 f fd ["home", "last", "moves"] (spD K 3 q3f):=by
 have h:=fnD (P:=P) (w:=w) (mg:=mg) (base:=base) (k:=0) (body:=q6w) F q6u (λcdv A outer s H E hr=>
   (qa (qj (i:=3) q6u.nd rfl (Or.inl rfl) (XD.toE (vD 0)))
   (qa (q2R PassesOwn.never rfl (q0Q (vD 2)) (qk (i:=4) q6u.nd rfl (Or.inl rfl)) (qa (q0m (Wc hr.units (XE.toV (Yp (vV 4) (XE.toV (q4s (XD.toV Yk))))) (vV 3)) (qb (qf (XD.toE Xc))) qx)
   (qb (qj (i:=3) q6u.nd rfl (Or.inl rfl) (XD.toE (XE.toD (Yp (vV 4) (XE.toV (q4s (XD.toV Yk))))))))))
   (qb (qf (zB6 hr.units (vV 3) (vV 1)))))))
 exact h
noncomputable def q3t:FS:=(XN (eOf (zAl (dOf (Ys q2z (Yj (dOf (Yn 0)) (Yj (dOf (Yn 1)) Yr)))) (dOf (Yq (oEq true) (vOf (Yq oIx (vOf (Yn 0)) (fC (.int 2)))) (vOf (Yq oIx (vOf (Yn 0)) (fC (.int 3)))))))))
noncomputable def q29:List D->Option O:=mir 2 q3t
noncomputable abbrev q3B:vn:=top 37
def q7n:FnScope ["thing", "boxes"] ["thing", "boxes"] (Yo q3B):=⟨rfl,rfl,rfl,⋯,rfl,⋯,⋯⟩
def q6T{f_has_carry_form:vC}{d_has_carry_form:vN}(F:Fun K "is_yard_carry" "is_yard_carry" q3B f fd)(c_has_carry_form:Cal P w K mg base 2 f_has_carry_form d_has_carry_form "has_carry_form" ["thing", "boxes"] 2 q2z):
  FnOk P w K mg base CX0 3 f fd ["thing", "boxes"] (spD K 2 q29):=by
 have h:=fnD (P:=P) (w:=w) (mg:=mg) (base:=base) (k:=2) (body:=q3t) F q7n (λcdv A outer s H E hr=>
   (qb (qf (XD.toE (q2q (XE.toD (xc c_has_carry_form hr (Yi (vD 0) (Yi (vD 1) Yl)))) (q2U (XE.toD (xe_ne hr.units (XE.toV (Yp (vV 0) (XD.toV Yk))) (XE.toV (Yp (vV 0) (XD.toV Yk)))))))))))
 exact h
noncomputable def q2S:FD:=(dOf (Yq oIx (vOf (Yn 0)) (fC (.int 0))))
noncomputable def q40:FS:=(sIf (tOf (Yq (oEq false) (vOf (Yq oIx (vOf (Yn 3)) (fC (.int 0)))) (fC (.str "box")))) (Y4 (sIf (tOf (Yq (oEq true) (vOf (Yq oIx (vOf (Yn 2)) (vOf (Yq oIx (vOf (Yn 3)) (fC (.int 1)))))) (vOf (Yq oIx (vOf (Yn 3)) (fC (.int 2)))))) (XN (eOf (fC (.bl false)))) X2)
  (sLSet 2 (dOf (Yq oIx (vOf (Yn 3)) (fC (.int 1)))) (dOf (Yq oIx (vOf (Yn 3)) (fC (.int 3)))))) X2)
noncomputable def q2T:FD:=(dOf (Yq oIx (vOf (Yn 0)) (fC (.int 1))))
noncomputable def q35:FS:=(Y4 (XR 2 (Xg 1 [] (WP (dOf (Yn 0))) (gN 0) XF q2S))
  (Y4 (zBP (WP (dOf (Yn 1))) (gN 3) q40)
  (XN (Yq (oEq false) (vOf (Yn 2)) (vOf (Xg 1 [] (WP (dOf (Yn 0))) (gN 0) XF q2T))))))
noncomputable def q1C:List D->Option O:=mir 4 q35
noncomputable abbrev q37:vn:=top 38
def q36:FnScope ["boxes", "moves", "lying", "move"] ["boxes", "moves"] (Yo q37):=⟨rfl,rfl,rfl,⋯,rfl,⋯,⋯⟩
def q6c (F:Fun K "brings_each_box" "brings_each_box" q37 f fd):
  FnOk P w K mg base CX0 1 f fd ["boxes", "moves"] (spD K 2 q1C):=by
 have h:=fnD (P:=P) (w:=w) (mg:=mg) (base:=base) (k:=0) (body:=q35) F q36 (λcdv A outer s H E hr=>
   (qa (q6j (i:=2) rfl q36.nd rfl rfl (blk ["box"] [] [] rfl ⋯ ⋯ rfl trivial) (q0Q (vD 0)) (q1b 0) (λ_ _ _ _=>⟨(qk (i:=0) (show ((["box"]:List Str)++([]:List Str):List Str).Nodup from by decide +kernel) rfl (Or.inl rfl)),q20,(XE.toD (Yp (vV 0) (XD.toV Yk)))⟩))
   (qa (q2R PassesOwn.never rfl (q0Q (vD 1)) (qk (i:=3) q36.nd rfl (Or.inl rfl)) (qb (q0m (WA hr.units (XE.toV (Yp (vV 3) (XD.toV Yk))) (XD.toV XC)) (qa (q0m (Wc hr.units (XE.toV (Yp (vV 2) (XE.toV (Yp (vV 3) (XD.toV Yk))))) (XE.toV (Yp (vV 3) (XD.toV Yk)))) (qb (qf (XD.toE Xc))) qx)
   (qb (qeZ (pv 2) (XE.toD (Yp (vV 3) (XD.toV Yk))) (XE.toD (Yp (vV 3) (XD.toV Yk)))))) qx)))
   (qb (qf (zB6 hr.units (vV 2) (XE.toV (q1Z rfl (blk ["box"] [] [] rfl ⋯ ⋯ rfl trivial) (q0Q (vD 0)) (q1b 0) (λ_ _ _ _=>⟨(qk (i:=0) (show ((["box"]:List Str)++([]:List Str):List Str).Nodup from by decide +kernel) rfl (Or.inl rfl)),q20,(XE.toD (Yp (vV 0) (XD.toV Yk)))⟩)))))))))
 exact h
noncomputable def q0T:FD:=(vOr (dOf (Ys q3G (Yj (dOf (Yn 0)) Yr))) (dOf (Ys q29 (Yj (dOf (Yn 0)) (Yj (dOf (Yn 1)) Yr)))))
noncomputable def q1V:FS:=(Y4 (zAi (Ys qi (Yj (dOf (Yn 0)) (Yj (dOf (Yn 1)) Yr))))
  (Y4 (sIf (X4 (zAT (vOf (zCK .lst (vOf (Yn 2)))))) (XN (eOf (fC (.bl false)))) X2)
  (Y4 (sIf (X4 (zAT (vOf (WE zB0 (Yj (vOf (Xg 1 [1] (WP (dOf (Yn 2))) (gN 0) XF q0T)) Yr))))) (XN (eOf (fC (.bl false)))) X2)
  (XN (eOf (zAl (dOf (Ys q3f (Yj (dOf (Yn 0)) (Yj (dOf (Yn 0)) (Yj (dOf (Yn 2)) Yr))))) (dOf (Ys q1C (Yj (dOf (Yn 1)) (Yj (dOf (Yn 2)) Yr))))))))))
noncomputable def ql:List D->Option O:=mir 3 q1V
noncomputable abbrev q33:vn:=top 39
def q52:FnScope ["gate", "boxes", "thing"] ["gate", "boxes", "thing"] (Yo q33):=⟨rfl,rfl,rfl,⋯,rfl,⋯,⋯⟩
def q7B{f_check_yard:vC}{d_check_yard:vN}{f_is_yard_carry:vC}{d_is_yard_carry:vN}{f_is_go:vC}{d_is_go:vN}{f_brings_each_box:vC}{d_brings_each_box:vN}{f_leads:vC}{d_leads:vN}(F:Fun K "is_yard_tour" "is_yard_tour" q33 f fd)(c_check_yard:Cal P w K mg base 5 f_check_yard d_check_yard "check_yard" ["gate", "boxes"] 2 qi)(Gx_check_yard:FnOk P w K mg base (CXe P w) 5 f_check_yard d_check_yard ["gate", "boxes"] (spX K 2 qg))(c_is_yard_carry:Cal P w K mg base 3 f_is_yard_carry d_is_yard_carry "is_yard_carry" ["thing", "boxes"] 2 q29)(c_is_go:Cal P w K mg base 2 f_is_go d_is_go "is_go" ["thing"] 1 q3G)(c_brings_each_box:Cal P w K mg base 1 f_brings_each_box d_brings_each_box "brings_each_box" ["boxes", "moves"] 2 q1C)(c_leads:Cal P w K mg base 1 f_leads d_leads "leads" ["home", "last", "moves"] 3 q3f)(z_isinstance:mg "isinstance" = none)(z_list:mg "list" = none)(z_all:mg "all" = none)(i_list:IsT K .lst):
  FnOk P w K mg base CX0 6 f fd ["gate", "boxes", "thing"] (spD K 3 ql):=by
 have h:=fnD (P:=P) (w:=w) (mg:=mg) (base:=base) (k:=5) (body:=q1V) F q52 (λcdv A outer s H E hr=>
   (qa (q53 (xc c_check_yard hr (Yi (vD 0) (Yi (vD 1) Yl))))
   (qa (q0m (q2j (q1H (XE.toV (q4m (vV 2) i_list rfl z_isinstance rfl z_list q7E)))) (qb (qf (XD.toE Xc))) qx)
   (qa (q0m (q2j (q1H (XE.toV (q0C (q4G rfl) q7r rfl z_all q7o (qv (XE.toV (q1Z rfl (blk ["move"] ["boxes"] [1] rfl ⋯ ⋯ rfl ⟨⟨rfl,(by first|exact Or.inl rfl|exact Or.inr rfl),rfl⟩,trivial⟩) (q0Q (vD 2)) (q1b 0) (λ_ _ _ _=>⟨(qk (i:=0) (show ((["move"]:List Str)++(["boxes"]:List Str):List Str).Nodup from by decide +kernel) rfl (Or.inl rfl)),q20,(qgk (XE.toD (xc c_is_go hr (Yi (vD 0) Yl))) (q2U (XE.toD (xc c_is_yard_carry hr (Yi (vD 0) (Yi (vD 1) Yl))))))⟩))) qF))))) (qb (qf (XD.toE Xc))) qx)
   (qb (qf (XD.toE (q2q (XE.toD (xc c_leads hr (Yi (vD 0) (Yi (vD 0) (Yi (vD 2) Yl))))) (q2U (XE.toD (xc c_brings_each_box hr (Yi (vD 1) (Yi (vD 2) Yl)))))))))))))
 exact h
noncomputable def q34:FX:=(WF qg (Yj (dOf (Yn 0)) (Yj (dOf (Yn 1)) Yr)))
noncomputable def q27:List D->Option Str:=λds=>q34 (entry 3 ds)
def q6L{f_check_yard:vC}{d_check_yard:vN}{f_is_yard_carry:vC}{d_is_yard_carry:vN}{f_is_go:vC}{d_is_go:vN}{f_brings_each_box:vC}{d_brings_each_box:vN}{f_leads:vC}{d_leads:vN}(F:Fun K "is_yard_tour" "is_yard_tour" q33 f fd)(c_check_yard:Cal P w K mg base 5 f_check_yard d_check_yard "check_yard" ["gate", "boxes"] 2 qi)(Gx_check_yard:FnOk P w K mg base (CXe P w) 5 f_check_yard d_check_yard ["gate", "boxes"] (spX K 2 qg))(c_is_yard_carry:Cal P w K mg base 3 f_is_yard_carry d_is_yard_carry "is_yard_carry" ["thing", "boxes"] 2 q29)(c_is_go:Cal P w K mg base 2 f_is_go d_is_go "is_go" ["thing"] 1 q3G)(c_brings_each_box:Cal P w K mg base 1 f_brings_each_box d_brings_each_box "brings_each_box" ["boxes", "moves"] 2 q1C)(c_leads:Cal P w K mg base 1 f_leads d_leads "leads" ["home", "last", "moves"] 3 q3f)(z_isinstance:mg "isinstance" = none)(z_list:mg "list" = none)(z_all:mg "all" = none)(i_list:IsT K .lst):
  FnOk P w K mg base (CXe P w) 6 f fd ["gate", "boxes", "thing"] (spX K 3 q27):=by
 have h:=fnX (P:=P) (w:=w) (mg:=mg) (base:=base) (k:=5) (gb:=q34) F q52 (λcdv A outer s H E hr=>
   (q1E (q7O (q2Z Gx_check_yard (hr.mono (by decide)) rfl c_check_yard.2.1 c_check_yard.2.2.1 c_check_yard.2.2.2 zAR (Yi (vD 0) (Yi (vD 1) Yl))))))
 exact h
noncomputable def q2v:FT:=(tOf (Yq (oEq true) (vOf (Yq oIx (vOf (Yn 1)) (fC (.int 0)))) (vOf (Yq oIx (vOf (Yn 1)) (fC (.int 1))))))
noncomputable def q2u:FD:=(W2 (Yj (fC (.str "box")) (Yj (dOf (Yn 0)) (Yj (dOf (Yq oIx (vOf (Yn 1)) (fC (.int 0)))) (Yj (dOf (Yq oIx (vOf (Yn 1)) (fC (.int 1)))) Yr)))))
noncomputable def q3y:FS:=(XN (Xg 2 [] (iEn (Yj (dOf (Yn 0)) Yr)) (gT 2 (Yw (gN 0) (Yw (gN 1) Xz))) q2v q2u))
noncomputable def q1r:List D->Option O:=mir 1 q3y
noncomputable abbrev q3n:vn:=top 40
def q7d:FnScope ["boxes"] ["boxes"] (Yo q3n):=⟨rfl,rfl,rfl,⋯,rfl,⋯,⋯⟩
def q73 (F:Fun K "whole_carries" "whole_carries" q3n f fd)(z_enumerate:mg "enumerate" = none):
  FnOk P w K mg base CX0 1 f fd ["boxes"] (spD K 1 q1r):=by
 have h:=fnD (P:=P) (w:=w) (mg:=mg) (base:=base) (k:=0) (body:=q3y) F q7d (λcdv A outer s H E hr=>
   (qb (qf (q1Z rfl (blk ["number", "box"] [] [] rfl ⋯ ⋯ rfl trivial) (qat rfl z_enumerate (Yi (vD 0) Yl)) (qbY (q3v (q1b 0) (q3v (q1b 1) q82))) (λ_ _ _ _=>⟨(q5P rfl (q1R (qk (i:=0) (show ((["number", "box"]:List Str)++([]:List Str):List Str).Nodup from by decide +kernel) rfl (Or.inl rfl)) (q1R (qk (i:=1) (show ((["number", "box"]:List Str)++([]:List Str):List Str).Nodup from by decide +kernel) rfl (Or.inl rfl)) q55))),(q6t (Wc hr.units (XE.toV (Yp (vV 1) (XD.toV Yk))) (XE.toV (Yp (vV 1) (XD.toV Yk))))),(Y9 (Yi XC (Yi (vD 0) (Yi (XE.toD (Yp (vV 1) (XD.toV Yk))) (Yi (XE.toD (Yp (vV 1) (XD.toV Yk))) Yl)))))⟩)))))
 exact h
noncomputable def q3O:FS:=(Y4 (XR 6 (eOf (dOf (Ys q2I (Yj (dOf (Yn 1)) (Yj (W2 (Yj (dOf (Yn 3)) (Yj (dOf (Yn 4)) Yr))) Yr))))))
  (Y4 (zC5 2 (dOf (Yq zBQ (vOf (X8 (Yj (W2 (Yj (fC (.str "go")) (Yj (dOf (Yn 3)) (Yj (dOf (Yn 4)) Yr)))) Yr))) (vOf (Yq zB5 (vOf (Yn 5)) (vOf (Yq oIx (vOf (Yn 6)) (fC (.int 0)))))))))
  (zC5 2 (dOf (Yq zBQ (vOf (X8 (Yj (W2 (Yj (fC (.str "go")) (Yj (dOf (Yn 4)) (Yj (dOf (Yn 3)) Yr)))) Yr))) (vOf (Yq zB5 (vOf (Yn 5)) (vOf (Yq oIx (vOf (Yn 6)) (fC (.int 1)))))))))))
noncomputable def q44:FS:=(Y4 (XR 2 (X8 Yr))
  (Y4 (zBP (WP (dOf (Ys q1w (Yj (dOf (Yn 0)) (Yj (dOf (Yn 1)) Yr))))) (gT 3 (Yw (gN 3) (Yw (gN 4) (Yw (gN 5) Xz)))) q3O)
  (zAn 2)))
noncomputable def q1S:List D->Option O:=mir 7 q44
noncomputable abbrev q42:vn:=top 41
def q21:FnScope ["gate", "boxes", "moves", "left", "right", "times", "carried"] ["gate", "boxes"] (Yo q42):=⟨rfl,rfl,rfl,⋯,rfl,⋯,⋯⟩
def q7K{f_passes:vC}{d_passes:vN}{f_crossed:vC}{d_crossed:vN}(F:Fun K "empty_moves" "empty_moves" q42 f fd)(c_passes:Cal P w K mg base 6 f_passes d_passes "passes" ["gate", "boxes"] 2 q1w)(c_crossed:Cal P w K mg base 2 f_crossed d_crossed "crossed" ["boxes", "gap"] 2 q2I):
  FnOk P w K mg base CX0 7 f fd ["gate", "boxes"] (spD K 2 q1S):=by
 have h:=fnD (P:=P) (w:=w) (mg:=mg) (base:=base) (k:=6) (body:=q44) F q21 (λcdv A outer s H E hr=>
   (qa (qj (i:=2) q21.nd rfl (Or.inl rfl) (Yy Yl))
   (qa (q2R PassesOwn.never rfl (q0Q (XE.toD (xc c_passes hr (Yi (vD 0) (Yi (vD 1) Yl))))) (q5P rfl (q1R (qk (i:=3) q21.nd rfl (Or.inl rfl)) (q1R (qk (i:=4) q21.nd rfl (Or.inl rfl)) (q1R (qk (i:=5) q21.nd rfl (Or.inl rfl)) q55)))) (qa (qj (i:=6) q21.nd rfl (Or.inl rfl) (XD.toE (XE.toD (xc c_crossed hr (Yi (vD 1) (Yi (Y9 (Yi (vD 3) (Yi (vD 4) Yl))) Yl))))))
   (qa (q7y (pv 2) (XE.toD (qcd (XE.toV (Yy (Yi (Y9 (Yi XC (Yi (vD 3) (Yi (vD 4) Yl)))) Yl))) (XE.toV (q4w (vV 5) (XE.toV (Yp (vV 6) (XD.toV Yk))))))))
   (qb (q7y (pv 2) (XE.toD (qcd (XE.toV (Yy (Yi (Y9 (Yi XC (Yi (vD 4) (Yi (vD 3) Yl)))) Yl))) (XE.toV (q4w (vV 5) (XE.toV (Yp (vV 6) (XD.toV Yk))))))))))))
   (qb (q7S (pv 2))))))
 exact h
noncomputable def q5b:FD:=(dOf (fSl (vOf (Yn 0)) (pAt (vOf (zB2 (fC (.int 2))))) pNo))
noncomputable def q69:FS:=(XN (Xg 1 [] (WP (dOf (Yn 0))) (gN 0) XF q5b))
noncomputable def q26:List D->Option O:=mir 1 q69
noncomputable abbrev q64:vn:=top 42
def qbN:FnScope ["moves"] ["moves"] (Yo q64):=⟨rfl,rfl,rfl,⋯,rfl,⋯,⋯⟩
def qbl (F:Fun K "arcs_of" "arcs_of" q64 f fd):
  FnOk P w K mg base CX0 1 f fd ["moves"] (spD K 1 q26):=by
 have h:=fnD (P:=P) (w:=w) (mg:=mg) (base:=base) (k:=0) (body:=q69) F qbN (λcdv A outer s H E hr=>
   (qb (qf (q1Z rfl (blk ["move"] [] [] rfl ⋯ ⋯ rfl trivial) (q0Q (vD 0)) (q1b 0) (λ_ _ _ _=>⟨(qk (i:=0) (show ((["move"]:List Str)++([]:List Str):List Str).Nodup from by decide +kernel) rfl (Or.inl rfl)),q20,(XE.toD (Y8 (vV 0) (XB (XE.toV (q4s (XD.toV Yk)))) XJ))⟩)))))
 exact h
noncomputable def q5k:FS:=(zC5 1 (dOf (fSl (vOf (Yn 2)) (pAt (vOf (zB2 (fC (.int 2))))) pNo)))
noncomputable def q6d:FS:=(Y4 (XR 1 (X8 Yr))
  (Y4 (zBP (WP (dOf (Yn 0))) (gN 2) q5k)
  (XN (WB (vOf (Yn 1))))))
noncomputable def q2s:List D->Option O:=mir 3 q6d
noncomputable abbrev q5O:vn:=top 43
def q5N:FnScope ["moves", "ends", "move"] ["moves"] (Yo q5O):=⟨rfl,rfl,rfl,⋯,rfl,⋯,⋯⟩
def qb8 (F:Fun K "ends_of" "ends_of" q5O f fd)(z_sorted:mg "sorted" = none)(z_set:mg "set" = none):
  FnOk P w K mg base CX0 1 f fd ["moves"] (spD K 1 q2s):=by
 have h:=fnD (P:=P) (w:=w) (mg:=mg) (base:=base) (k:=0) (body:=q6d) F q5N (λcdv A outer s H E hr=>
   (qa (qj (i:=1) q5N.nd rfl (Or.inl rfl) (Yy Yl))
   (qa (q2R PassesOwn.never rfl (q0Q (vD 0)) (qk (i:=2) q5N.nd rfl (Or.inl rfl)) (qb (q7y (pv 1) (XE.toD (Y8 (vV 2) (XB (XE.toV (q4s (XD.toV Yk)))) XJ)))))
   (qb (qf (q78 rfl z_sorted rfl z_set (vV 1)))))))
 exact h
noncomputable def q4O:FS:=(XN (eOf (zAl (dOf (Yq oLt (vOf (WE zBR (Yj (vOf (fSl (vOf (Yn 1)) (pAt (vOf (zB2 (fC (.int 2))))) pNo)) Yr))) (vOf (Yn 0)))) (dOf (Yq oLt (vOf (Yn 0)) (vOf (WE zBO (Yj (vOf (fSl (vOf (Yn 1)) (pAt (vOf (zB2 (fC (.int 2))))) pNo)) Yr))))))))
noncomputable def q39:List D->Option O:=mir 2 q4O
noncomputable abbrev q4N:vn:=top 44
def q9P:FnScope ["place", "move"] ["place", "move"] (Yo q4N):=⟨rfl,rfl,rfl,⋯,rfl,⋯,⋯⟩
def q9A (F:Fun K "lies_amid" "lies_amid" q4N f fd)(z_max:mg "max" = none)(z_min:mg "min" = none):
  FnOk P w K mg base CX0 1 f fd ["place", "move"] (spD K 2 q39):=by
 have h:=fnD (P:=P) (w:=w) (mg:=mg) (base:=base) (k:=0) (body:=q4O) F q9P (λcdv A outer s H E hr=>
   (qb (qf (XD.toE (q2q (XE.toD (qb5 (XE.toV (q0C (q8l rfl) qad rfl z_min qcs (qv (XE.toV (Y8 (vV 1) (XB (XE.toV (q4s (XD.toV Yk)))) XJ)) qF))) (vV 0))) (q2U (XE.toD (qb5 (vV 0) (XE.toV (q0C (q8a rfl) qal rfl z_max qc1 (qv (XE.toV (Y8 (vV 1) (XB (XE.toV (q4s (XD.toV Yk)))) XJ)) qF)))))))))))
 exact h
noncomputable def q4e:FS:=(XN (X8 (Yj (dOf (Yq X5 (vOf (fSl (vOf (Yn 0)) pNo (pAt (fC (.int 3))))) (W2 (Yj (dOf (Yn 1)) Yr)))) (Yj (dOf (Yq X5 (vOf (fSl (vOf (Yn 0)) pNo (pAt (fC (.int 2))))) (W2 (Yj (dOf (Yn 1)) (Yj (dOf (Yq oIx (vOf (Yn 0)) (fC (.int 3)))) Yr))))) Yr))))
noncomputable def q2K:List D->Option O:=mir 2 q4e
noncomputable abbrev q4g:vn:=top 45
def q8H:FnScope ["move", "place"] ["move", "place"] (Yo q4g):=⟨rfl,rfl,rfl,⋯,rfl,⋯,⋯⟩
def q8v (F:Fun K "cut_in_two" "cut_in_two" q4g f fd):
  FnOk P w K mg base CX0 1 f fd ["move", "place"] (spD K 2 q2K):=by
 have h:=fnD (P:=P) (w:=w) (mg:=mg) (base:=base) (k:=0) (body:=q4e) F q8H (λcdv A outer s H E hr=>
   (qb (qf (Yy (Yi (XE.toD (q1I (XE.toV (Y8 (vV 0) XJ (XB (XD.toV Yk)))) (XD.toV (Y9 (Yi (vD 1) Yl))))) (Yi (XE.toD (q1I (XE.toV (Y8 (vV 0) XJ (XB (XD.toV Yk)))) (XD.toV (Y9 (Yi (vD 1) (Yi (XE.toD (Yp (vV 0) (XD.toV Yk))) Yl)))))) Yl))))))
 exact h
noncomputable def q3l:FT:=(tOf (Yq (oIn true) (vOf (Yn 0)) (vOf (Yn 1))))
noncomputable def q3j:FD:=(dOf (Yn 0))
noncomputable def q1Q:FS:=(sIf (zAT (vOf (Ys q39 (Yj (dOf (Yn 5)) (Yj (dOf (Yn 4)) Yr))))) (XN (Yq X5 (vOf (Yq X5 (vOf (fSl (vOf (Yn 0)) pNo (pAt (vOf (Yn 3))))) (vOf (Ys q2K (Yj (dOf (Yn 4)) (Yj (dOf (Yn 5)) Yr)))))) (vOf (fSl (vOf (Yn 0)) (pAt (vOf (Yq X5 (vOf (Yn 3)) (fC (.int 1))))) pNo)))) X2)
noncomputable def q0S:FS:=(sIf (tOf (Yq (oIn false) (vOf (Yq oIx (vOf (Yn 4)) (vOf (zB2 (fC (.int 2)))))) (vOf (Yn 1)))) (zBP (WP (dOf (Yn 2))) (gN 5) q1Q) X2)
noncomputable def q32:FS:=(Y4 (XR 2 (Xg 1 [1] (WP (dOf (Ys q2s (Yj (dOf (Yn 0)) Yr)))) (gN 0) q3l q3j))
  (zAf 2 (Y4 (zBP (iEn (Yj (dOf (Yn 0)) Yr)) (gT 2 (Yw (gN 3) (Yw (gN 4) Xz))) q0S)
  (XN (Yn 0)))))
noncomputable def q1D:List D->Option O:=mir 6 q32
noncomputable abbrev q3D:vn:=top 46
def q2k:FnScope ["moves", "reached", "apart", "number", "move", "place"] ["moves", "reached"] (Yo q3D):=⟨rfl,rfl,rfl,⋯,rfl,⋯,⋯⟩
def q7t{f_ends_of:vC}{d_ends_of:vN}{f_lies_amid:vC}{d_lies_amid:vN}{f_cut_in_two:vC}{d_cut_in_two:vN}(F:Fun K "with_one_cut" "with_one_cut" q3D f fd)(c_ends_of:Cal P w K mg base 1 f_ends_of d_ends_of "ends_of" ["moves"] 1 q2s)(c_lies_amid:Cal P w K mg base 1 f_lies_amid d_lies_amid "lies_amid" ["place", "move"] 2 q39)(c_cut_in_two:Cal P w K mg base 1 f_cut_in_two d_cut_in_two "cut_in_two" ["move", "place"] 2 q2K)(z_enumerate:mg "enumerate" = none):
  FnOk P w K mg base CX0 2 f fd ["moves", "reached"] (spD K 2 q1D):=by
 have h:=fnD (P:=P) (w:=w) (mg:=mg) (base:=base) (k:=1) (body:=q32) F q2k (λcdv A outer s H E hr=>
   (qa (q6j (i:=2) rfl q2k.nd rfl rfl (blk ["place"] ["reached"] [1] rfl ⋯ ⋯ rfl ⟨⟨rfl,(by first|exact Or.inl rfl|exact Or.inr rfl),rfl⟩,trivial⟩) (q0Q (XE.toD (xc c_ends_of hr (Yi (vD 0) Yl)))) (q1b 0) (λ_ _ _ _=>⟨(qk (i:=0) (show ((["place"]:List Str)++(["reached"]:List Str):List Str).Nodup from by decide +kernel) rfl (Or.inl rfl)),(q6t (zB4 (vV 0) (vV 1))),(vD 0)⟩))
   (q6e 2 (qa (q2R PassesOwn.never rfl (qat rfl z_enumerate (Yi (vD 0) Yl)) (q5P rfl (q1R (qk (i:=3) q2k.nd rfl (Or.inl rfl)) (q1R (qk (i:=4) q2k.nd rfl (Or.inl rfl)) q55))) (qb (q0m (xt_in (XE.toV (Yp (vV 4) (XE.toV (q4s (XD.toV Yk))))) (vV 1)) (qb (q2R PassesOwn.never rfl (q0Q (vD 2)) (qk (i:=5) q2k.nd rfl (Or.inl rfl)) (qb (q0m (q1H (XE.toV (xc c_lies_amid hr (Yi (vD 5) (Yi (vD 4) Yl))))) (qb (qf (q1I (XE.toV (q1I (XE.toV (Y8 (vV 0) XJ (XB (vV 3)))) (XE.toV (xc c_cut_in_two hr (Yi (vD 4) (Yi (vD 5) Yl)))))) (XE.toV (Y8 (vV 0) (XB (XE.toV (q1I (vV 3) (XD.toV Yk)))) XJ))))) qx)))) qx)))
   (qb (qf (vE 0)))))))
 exact h
noncomputable def q1W:FT:=(tOf (Yq oLt (vOf (WE zAY (Yj (vOf (Yn 3)) Yr))) (vOf (WE zAY (Yj (vOf (Yn 2)) Yr)))))
noncomputable def q2x:FS:=(Y4 (XR 3 (eOf (dOf (Ys q3x (Yj (dOf (Yn 0)) (Yj (dOf (Ys q3s (Yj (dOf (Yn 2)) (Yj (dOf (Ys q26 (Yj (dOf (Yn 1)) Yr))) Yr)))) Yr))))))
  (XR 1 (eOf (dOf (Ys q1D (Yj (dOf (Yn 1)) (Yj (dOf (Yn 3)) Yr)))))))
noncomputable def q2G:FS:=(Y4 (XR 2 (eOf (dOf (Ys q2s (Yj (dOf (Yn 1)) Yr)))))
  (Y4 (XR 3 (eOf (dOf (X8 (Yj (dOf (Yn 0)) Yr)))))
  (Y4 (sWh 1000000 q1W q2x)
  (XN (Yn 1)))))
noncomputable def q0l:List D->Option O:=mir 4 q2G
noncomputable abbrev q3o:vn:=top 47
def q2c:FnScope ["gate", "moves", "ends", "reached"] ["gate", "moves"] (Yo q3o):=⟨rfl,rfl,rfl,⋯,rfl,⋯,⋯⟩
def q6W{f_ends_of:vC}{d_ends_of:vN}{f_group_of:vC}{d_group_of:vN}{f_neighbours:vC}{d_neighbours:vN}{f_arcs_of:vC}{d_arcs_of:vN}{f_with_one_cut:vC}{d_with_one_cut:vN}(F:Fun K "hung_together" "hung_together" q3o f fd)(c_ends_of:Cal P w K mg base 1 f_ends_of d_ends_of "ends_of" ["moves"] 1 q2s)(c_group_of:Cal P w K mg base 1 f_group_of d_group_of "group_of" ["thing", "beside"] 2 q3x)(c_neighbours:Cal P w K mg base 1 f_neighbours d_neighbours "neighbours" ["things", "ties"] 2 q3s)(c_arcs_of:Cal P w K mg base 1 f_arcs_of d_arcs_of "arcs_of" ["moves"] 1 q26)(c_with_one_cut:Cal P w K mg base 2 f_with_one_cut d_with_one_cut "with_one_cut" ["moves", "reached"] 2 q1D)(z_len:mg "len" = none):
  FnOk P w K mg base CX0 3 f fd ["gate", "moves"] (spD K 2 q0l):=by
 have h:=fnD (P:=P) (w:=w) (mg:=mg) (base:=base) (k:=2) (body:=q2G) F q2c (λcdv A outer s H E hr=>
   (qa (qj (i:=2) q2c.nd rfl (Or.inl rfl) (XD.toE (XE.toD (xc c_ends_of hr (Yi (vD 1) Yl)))))
   (qa (qj (i:=3) q2c.nd rfl (Or.inl rfl) (XD.toE (XE.toD (Yy (Yi (vD 0) Yl)))))
   (qa (q9b PassesOwn.never (qdL (XE.toV (q0C qG q23 rfl z_len q25 (qv (vV 3) qF))) (XE.toV (q0C qG q23 rfl z_len q25 (qv (vV 2) qF)))) (qa (qj (i:=3) q2c.nd rfl (Or.inl rfl) (XD.toE (XE.toD (xc c_group_of hr (Yi (vD 0) (Yi (XE.toD (xc c_neighbours hr (Yi (vD 2) (Yi (XE.toD (xc c_arcs_of hr (Yi (vD 1) Yl))) Yl)))) Yl))))))
   (qb (qj (i:=1) q2c.nd rfl (Or.inl rfl) (XD.toE (XE.toD (xc c_with_one_cut hr (Yi (vD 1) (Yi (vD 3) Yl)))))))))
   (qb (qf (vE 1)))))))
 exact h
noncomputable def q4A:FD:=(dOf (Yq oIx (vOf (Yn 1)) (vOf (Yn 0))))
noncomputable def q4T:FS:=(Y4 (zAi (Ys qi (Yj (dOf (Yn 0)) (Yj (dOf (Yn 1)) Yr))))
  (Y4 (XR 2 (eOf (dOf (Ys q0l (Yj (dOf (Yn 0)) (Yj (dOf (Yq X5 (vOf (Ys q1r (Yj (dOf (Yn 1)) Yr))) (vOf (Ys q1S (Yj (dOf (Yn 0)) (Yj (dOf (Yn 1)) Yr)))))) Yr))))))
  (XN (Xg 1 [2] (WP (dOf (Ys q3J (Yj (dOf (Yn 0)) (Yj (dOf (Ys q26 (Yj (dOf (Yn 2)) Yr))) Yr))))) (gN 0) XF q4A))))
noncomputable def q2h:List D->Option O:=mir 3 q4T
noncomputable abbrev q3R:vn:=top 48
def q3S:FnScope ["gate", "boxes", "moves"] ["gate", "boxes"] (Yo q3R):=⟨rfl,rfl,rfl,⋯,rfl,⋯,⋯⟩
def q9G{f_check_yard:vC}{d_check_yard:vN}{f_hung_together:vC}{d_hung_together:vN}{f_whole_carries:vC}{d_whole_carries:vN}{f_empty_moves:vC}{d_empty_moves:vN}{f_row_of:vC}{d_row_of:vN}{f_arcs_of:vC}{d_arcs_of:vN}(F:Fun K "yard_tour" "yard_tour" q3R f fd)(c_check_yard:Cal P w K mg base 5 f_check_yard d_check_yard "check_yard" ["gate", "boxes"] 2 qi)(Gx_check_yard:FnOk P w K mg base (CXe P w) 5 f_check_yard d_check_yard ["gate", "boxes"] (spX K 2 qg))(c_hung_together:Cal P w K mg base 3 f_hung_together d_hung_together "hung_together" ["gate", "moves"] 2 q0l)(c_whole_carries:Cal P w K mg base 1 f_whole_carries d_whole_carries "whole_carries" ["boxes"] 1 q1r)(c_empty_moves:Cal P w K mg base 7 f_empty_moves d_empty_moves "empty_moves" ["gate", "boxes"] 2 q1S)(c_row_of:Cal P w K mg base 3 f_row_of d_row_of "row_of" ["start", "arcs"] 2 q3J)(Gx_row_of:FnOk P w K mg base (CXe P w) 3 f_row_of d_row_of ["start", "arcs"] (spX K 2 q3W))(c_arcs_of:Cal P w K mg base 1 f_arcs_of d_arcs_of "arcs_of" ["moves"] 1 q26):
  FnOk P w K mg base CX0 8 f fd ["gate", "boxes"] (spD K 2 q2h):=by
 have h:=fnD (P:=P) (w:=w) (mg:=mg) (base:=base) (k:=7) (body:=q4T) F q3S (λcdv A outer s H E hr=>
   (qa (q53 (xc c_check_yard hr (Yi (vD 0) (Yi (vD 1) Yl))))
   (qa (qj (i:=2) q3S.nd rfl (Or.inr rfl) (XD.toE (XE.toD (xc c_hung_together hr (Yi (vD 0) (Yi (XE.toD (q1I (XE.toV (xc c_whole_carries hr (Yi (vD 1) Yl))) (XE.toV (xc c_empty_moves hr (Yi (vD 0) (Yi (vD 1) Yl)))))) Yl))))))
   (qb (qf (q1Z rfl (blk ["number"] ["moves"] [2] rfl ⋯ ⋯ rfl ⟨⟨rfl,(by first|exact Or.inl rfl|exact Or.inr rfl),rfl⟩,trivial⟩) (q0Q (XE.toD (xc c_row_of hr (Yi (vD 0) (Yi (XE.toD (xc c_arcs_of hr (Yi (vD 2) Yl))) Yl))))) (q1b 0) (λ_ _ _ _=>⟨(qk (i:=0) (show ((["number"]:List Str)++(["moves"]:List Str):List Str).Nodup from by decide +kernel) rfl (Or.inl rfl)),q20,(XE.toD (Yp (vV 1) (vV 0)))⟩)))))))
 exact h
noncomputable def q2E:FX:=(zBu (WF qg (Yj (dOf (Yn 0)) (Yj (dOf (Yn 1)) Yr))) (zAi (Ys qi (Yj (dOf (Yn 0)) (Yj (dOf (Yn 1)) Yr)))) (zBu yNo (XR 2 (eOf (dOf (Ys q0l (Yj (dOf (Yn 0)) (Yj (dOf (Yq X5 (vOf (Ys q1r (Yj (dOf (Yn 1)) Yr))) (vOf (Ys q1S (Yj (dOf (Yn 0)) (Yj (dOf (Yn 1)) Yr)))))) Yr)))))) (WF q3W (Yj (dOf (Yn 0)) (Yj (dOf (Ys q26 (Yj (dOf (Yn 2)) Yr))) Yr)))))
noncomputable def q2p:List D->Option Str:=λds=>q2E (entry 3 ds)
def q8y{f_check_yard:vC}{d_check_yard:vN}{f_hung_together:vC}{d_hung_together:vN}{f_whole_carries:vC}{d_whole_carries:vN}{f_empty_moves:vC}{d_empty_moves:vN}{f_row_of:vC}{d_row_of:vN}{f_arcs_of:vC}{d_arcs_of:vN}(F:Fun K "yard_tour" "yard_tour" q3R f fd)(c_check_yard:Cal P w K mg base 5 f_check_yard d_check_yard "check_yard" ["gate", "boxes"] 2 qi)(Gx_check_yard:FnOk P w K mg base (CXe P w) 5 f_check_yard d_check_yard ["gate", "boxes"] (spX K 2 qg))(c_hung_together:Cal P w K mg base 3 f_hung_together d_hung_together "hung_together" ["gate", "moves"] 2 q0l)(c_whole_carries:Cal P w K mg base 1 f_whole_carries d_whole_carries "whole_carries" ["boxes"] 1 q1r)(c_empty_moves:Cal P w K mg base 7 f_empty_moves d_empty_moves "empty_moves" ["gate", "boxes"] 2 q1S)(c_row_of:Cal P w K mg base 3 f_row_of d_row_of "row_of" ["start", "arcs"] 2 q3J)(Gx_row_of:FnOk P w K mg base (CXe P w) 3 f_row_of d_row_of ["start", "arcs"] (spX K 2 q3W))(c_arcs_of:Cal P w K mg base 1 f_arcs_of d_arcs_of "arcs_of" ["moves"] 1 q26):
  FnOk P w K mg base (CXe P w) 8 f fd ["gate", "boxes"] (spX K 2 q2p):=by
 have h:=fnX (P:=P) (w:=w) (mg:=mg) (base:=base) (k:=7) (gb:=q2E) F q3S (λcdv A outer s H E hr=>
   (q3d (q7O (q2Z Gx_check_yard (hr.mono (by decide)) rfl c_check_yard.2.1 c_check_yard.2.2.1 c_check_yard.2.2.2 zAR (Yi (vD 0) (Yi (vD 1) Yl)))) (XS.lift (q53 (xc c_check_yard hr (Yi (vD 0) (Yi (vD 1) Yl))))) (q3d qdW (XS.lift (qj (i:=2) q3S.nd rfl (Or.inr rfl) (XD.toE (XE.toD (xc c_hung_together hr (Yi (vD 0) (Yi (XE.toD (q1I (XE.toV (xc c_whole_carries hr (Yi (vD 1) Yl))) (XE.toV (xc c_empty_moves hr (Yi (vD 0) (Yi (vD 1) Yl)))))) Yl))))))) (q1E (q58 (qan rfl (blk ["number"] ["moves"] [2] rfl ⋯ ⋯ rfl ⟨⟨rfl,(by first|exact Or.inl rfl|exact Or.inr rfl),rfl⟩,trivial⟩) (q2Z Gx_row_of (hr.mono (by decide)) rfl c_row_of.2.1 c_row_of.2.2.1 c_row_of.2.2.2 zAR (Yi (vD 0) (Yi (XE.toD (xc c_arcs_of hr (Yi (vD 2) Yl))) Yl)))))))))
 exact h
noncomputable def q4Y:FS:=(Y4 (sIf (tOf (Yq oLt (vOf (Yn 1)) (vOf (WE zAY (Yj (vOf (Yn 0)) Yr))))) (XN (Yq oIx (vOf (Yn 0)) (vOf (Yn 1)))) X2)
  (XN (eOf (fC (.int 0)))))
noncomputable def q0U:List D->Option O:=mir 2 q4Y
noncomputable abbrev q4L:vn:=top 50
def q9U:FnScope ["script", "k"] ["script", "k"] (Yo q4L):=⟨rfl,rfl,rfl,⋯,rfl,⋯,⋯⟩
def q8M (F:Fun K "_law_cell" "_law_cell" q4L f fd)(z_len:mg "len" = none):
  FnOk P w K mg base CX0 1 f fd ["script", "k"] (spD K 2 q0U):=by
 have h:=fnD (P:=P) (w:=w) (mg:=mg) (base:=base) (k:=0) (body:=q4Y) F q9U (λcdv A outer s H E hr=>
   (qa (q0m (qdL (vV 1) (XE.toV (q0C qG q23 rfl z_len q25 (qv (vV 0) qF)))) (qb (qf (Yp (vV 0) (vV 1)))) qx)
   (qb (qf (XD.toE Yk)))))
 exact h
noncomputable def q2H:FS:=(Y4 (XR 1 (eOf (dOf (Ys q0U (Yj (dOf (Yn 0)) (Yj (dOf (Yq X5 (fC (.int 2)) (vOf (Yn 4)))) Yr))))))
  (sApp 3 (dOf (Yq X5 (vOf (Yn 2)) (vOf (Yq oIx (vOf (X8 (Yj (dOf (Yq X5 (vOf (Yn 4)) (vOf (Yq oMod (vOf (Yq oDiv (vOf (Yn 1)) (fC (.int 3)))) (fC (.int 3)))))) (Yj (dOf (Yq oMod (vOf (Yq oDiv (vOf (Yn 1)) (fC (.int 3)))) (fC (.int 100)))) (Yj (dOf (Yq oMod (vOf (Yq oDiv (vOf (Yn 1)) (fC (.int 3)))) (vOf (Yq zCe (fC (.int 10)) (fC (.int 39)))))) Yr))))) (vOf (Yq oMod (vOf (Yn 1)) (fC (.int 3))))))))))
noncomputable def q4V:FS:=(Y4 (XR 1 (eOf (dOf (Ys q0U (Yj (dOf (Yn 0)) (Yj (fC (.int 0)) Yr))))))
  (Y4 (XR 2 (eOf (dOf (Yq zB5 (vOf (Yq oMod (vOf (Yq oDiv (vOf (Yn 1)) (fC (.int 2)))) (fC (.int 21)))) (fC (.int 10))))))
  (Y4 (sIf (tOf (Yq (oEq false) (vOf (Yq oMod (vOf (Yn 1)) (fC (.int 2)))) (fC (.int 1)))) (XR 2 (eOf (dOf (Yq zB5 (vOf (Yq oMod (vOf (Yq oDiv (vOf (Yn 1)) (fC (.int 2)))) (vOf (Yq zCA (fC (.int 2)) (vOf (Yq zCe (fC (.int 10)) (fC (.int 39)))))))) (vOf (Yq zCe (fC (.int 10)) (fC (.int 39)))))))) X2)
  (Y4 (XR 3 (X8 (Yj (dOf (Yn 2)) Yr)))
  (Y4 (zBP (iRg1 (Yj (fC (.int 6)) Yr)) (gN 4) q2H)
  (zAn 3))))))
noncomputable def q3a:List D->Option O:=mir 5 q4V
noncomputable abbrev q4P:vn:=top 51
def q2g:FnScope ["script", "cell", "gate", "some", "k"] ["script"] (Yo q4P):=⟨rfl,rfl,rfl,⋯,rfl,⋯,⋯⟩
def q9n{f__law_cell:vC}{d__law_cell:vN}(F:Fun K "_law_menu" "_law_menu" q4P f fd)(c__law_cell:Cal P w K mg base 1 f__law_cell d__law_cell "_law_cell" ["script", "k"] 2 q0U)(z_range:mg "range" = none):
  FnOk P w K mg base CX0 2 f fd ["script"] (spD K 1 q3a):=by
 have h:=fnD (P:=P) (w:=w) (mg:=mg) (base:=base) (k:=1) (body:=q4V) F q2g (λcdv A outer s H E hr=>
   (qa (qj (i:=1) q2g.nd rfl (Or.inl rfl) (XD.toE (XE.toD (xc c__law_cell hr (Yi (vD 0) (Yi Yk Yl))))))
   (qa (qj (i:=2) q2g.nd rfl (Or.inl rfl) (XD.toE (XE.toD (q4w (XE.toV (q0R (XE.toV (q1N (vV 1) (XD.toV Yk))) (XD.toV Yk))) (XD.toV Yk)))))
   (qa (q0m (WA hr.units (XE.toV (q0R (vV 1) (XD.toV Yk))) (XD.toV Yk)) (qb (qj (i:=2) q2g.nd rfl (Or.inl rfl) (XD.toE (XE.toD (q4w (XE.toV (q0R (XE.toV (q1N (vV 1) (XD.toV Yk))) (XE.toV (q9j (XD.toV Yk) (XE.toV (q7i (XD.toV Yk) (XD.toV Yk))))))) (XE.toV (q7i (XD.toV Yk) (XD.toV Yk)))))))) qx)
   (qa (qj (i:=3) q2g.nd rfl (Or.inl rfl) (Yy (Yi (vD 2) Yl)))
   (qa (q2R PassesOwn.never rfl (q80 rfl z_range (qv (XD.toV Yk) qF)) (qk (i:=4) q2g.nd rfl (Or.inl rfl)) (qa (qj (i:=1) q2g.nd rfl (Or.inl rfl) (XD.toE (XE.toD (xc c__law_cell hr (Yi (vD 0) (Yi (XE.toD (q1I (XD.toV Yk) (vV 4))) Yl))))))
   (qb (q9i (pv 3) (XE.toD (q1I (vV 2) (XE.toV (Yp (XE.toV (Yy (Yi (XE.toD (q1I (vV 4) (XE.toV (q0R (XE.toV (q1N (vV 1) (XD.toV Yk))) (XD.toV Yk))))) (Yi (XE.toD (q0R (XE.toV (q1N (vV 1) (XD.toV Yk))) (XD.toV Yk))) (Yi (XE.toD (q0R (XE.toV (q1N (vV 1) (XD.toV Yk))) (XE.toV (q7i (XD.toV Yk) (XD.toV Yk))))) Yl))))) (XE.toV (q0R (vV 1) (XD.toV Yk)))))))))))
   (qb (q7S (pv 3)))))))))
 exact h
noncomputable def q45:FS:=(sApp 4 (W2 (Yj (dOf (Yq oIx (vOf (Yn 1)) (vOf (Yq oMod (vOf (Yn 5)) (fC (.int 7)))))) (Yj (dOf (Yq oIx (vOf (Yn 1)) (vOf (Yq oMod (vOf (Yq oDiv (vOf (Yn 5)) (fC (.int 7)))) (fC (.int 7)))))) Yr))))
noncomputable def q4r:FS:=(Y4 (XR 2 (eOf (dOf (Ys q0U (Yj (dOf (Yn 0)) (Yj (fC (.int 1)) Yr))))))
  (Y4 (XR 3 (eOf (dOf (Yq oIx (vOf (X8 (Yj (fC (.int 9)) (Yj (fC (.int 9)) (Yj (dOf (Yq oMod (vOf (Yq oDiv (vOf (Yn 2)) (fC (.int 4)))) (fC (.int 10)))) (Yj (dOf (Yq oMod (vOf (Yq oDiv (vOf (Yn 2)) (fC (.int 4)))) (fC (.int 3)))) Yr)))))) (vOf (Yq oMod (vOf (Yn 2)) (fC (.int 4))))))))
  (Y4 (XR 4 (X8 Yr))
  (Y4 (zBP (WP (dOf (fSl (vOf (Yn 0)) (pAt (fC (.int 8))) (pAt (vOf (Yq X5 (fC (.int 8)) (vOf (Yn 3)))))))) (gN 5) q45)
  (zAn 4)))))
noncomputable def q2M:List D->Option O:=mir 6 q4r
noncomputable abbrev q4t:vn:=top 52
def q2O:FnScope ["script", "some", "cell", "many", "boxes", "one"] ["script", "some"] (Yo q4t):=⟨rfl,rfl,rfl,⋯,rfl,⋯,⋯⟩
def q8s{f__law_cell:vC}{d__law_cell:vN}(F:Fun K "_law_boxes" "_law_boxes" q4t f fd)(c__law_cell:Cal P w K mg base 1 f__law_cell d__law_cell "_law_cell" ["script", "k"] 2 q0U):
  FnOk P w K mg base CX0 2 f fd ["script", "some"] (spD K 2 q2M):=by
 have h:=fnD (P:=P) (w:=w) (mg:=mg) (base:=base) (k:=1) (body:=q4r) F q2O (λcdv A outer s H E hr=>
   (qa (qj (i:=2) q2O.nd rfl (Or.inl rfl) (XD.toE (XE.toD (xc c__law_cell hr (Yi (vD 0) (Yi Yk Yl))))))
   (qa (qj (i:=3) q2O.nd rfl (Or.inl rfl) (XD.toE (XE.toD (Yp (XE.toV (Yy (Yi Yk (Yi Yk (Yi (XE.toD (q0R (XE.toV (q1N (vV 2) (XD.toV Yk))) (XD.toV Yk))) (Yi (XE.toD (q0R (XE.toV (q1N (vV 2) (XD.toV Yk))) (XD.toV Yk))) Yl)))))) (XE.toV (q0R (vV 2) (XD.toV Yk)))))))
   (qa (qj (i:=4) q2O.nd rfl (Or.inl rfl) (Yy Yl))
   (qa (q2R PassesOwn.never rfl (q0Q (XE.toD (Y8 (vV 0) (XB (XD.toV Yk)) (XB (XE.toV (q1I (XD.toV Yk) (vV 3))))))) (qk (i:=5) q2O.nd rfl (Or.inl rfl)) (qb (q9i (pv 4) (Y9 (Yi (XE.toD (Yp (vV 1) (XE.toV (q0R (vV 5) (XD.toV Yk))))) (Yi (XE.toD (Yp (vV 1) (XE.toV (q0R (XE.toV (q1N (vV 5) (XD.toV Yk))) (XD.toV Yk))))) Yl))))))
   (qb (q7S (pv 4))))))))
 exact h
noncomputable def q4D:FS:=(Y4 (sIf (tOf (Yq (oEq false) (vOf (Yn 0)) (fC (.int 0)))) (XN (Ys q1w (Yj (dOf (Yn 1)) (Yj (dOf (Yn 2)) Yr)))) X2)
  (Y4 (sIf (tOf (Yq (oEq false) (vOf (Yn 0)) (fC (.int 1)))) (XN (Ys q1J (Yj (dOf (Yn 1)) (Yj (dOf (Yn 2)) Yr)))) X2)
  (Y4 (sIf (tOf (Yq (oEq false) (vOf (Yn 0)) (fC (.int 2)))) (XN (Ys ql (Yj (dOf (Yn 1)) (Yj (dOf (Yn 2)) (Yj (dOf (Yn 3)) Yr))))) X2)
  (XN (Ys q2h (Yj (dOf (Yn 1)) (Yj (dOf (Yn 2)) Yr)))))))
noncomputable def q2L:List D->Option O:=mir 4 q4D
noncomputable abbrev q3p:vn:=top 53
def q6b:FnScope ["which", "gate", "boxes", "thing"] ["which", "gate", "boxes", "thing"] (Yo q3p):=⟨rfl,rfl,rfl,⋯,rfl,⋯,⋯⟩
def q8t{f_passes:vC}{d_passes:vN}{f_yard_least:vC}{d_yard_least:vN}{f_is_yard_tour:vC}{d_is_yard_tour:vN}{f_yard_tour:vC}{d_yard_tour:vN}(F:Fun K "_law_asked" "_law_asked" q3p f fd)(c_passes:Cal P w K mg base 6 f_passes d_passes "passes" ["gate", "boxes"] 2 q1w)(Gx_passes:FnOk P w K mg base (CXe P w) 6 f_passes d_passes ["gate", "boxes"] (spX K 2 q2t))(c_yard_least:Cal P w K mg base 7 f_yard_least d_yard_least "yard_least" ["gate", "boxes"] 2 q1J)(Gx_yard_least:FnOk P w K mg base (CXe P w) 7 f_yard_least d_yard_least ["gate", "boxes"] (spX K 2 q2C))(c_is_yard_tour:Cal P w K mg base 6 f_is_yard_tour d_is_yard_tour "is_yard_tour" ["gate", "boxes", "thing"] 3 ql)(Gx_is_yard_tour:FnOk P w K mg base (CXe P w) 6 f_is_yard_tour d_is_yard_tour ["gate", "boxes", "thing"] (spX K 3 q27))(c_yard_tour:Cal P w K mg base 8 f_yard_tour d_yard_tour "yard_tour" ["gate", "boxes"] 2 q2h)(Gx_yard_tour:FnOk P w K mg base (CXe P w) 8 f_yard_tour d_yard_tour ["gate", "boxes"] (spX K 2 q2p)):
  FnOk P w K mg base CX0 9 f fd ["which", "gate", "boxes", "thing"] (spD K 4 q2L):=by
 have h:=fnD (P:=P) (w:=w) (mg:=mg) (base:=base) (k:=8) (body:=q4D) F q6b (λcdv A outer s H E hr=>
   (qa (q0m (WA hr.units (vV 0) (XD.toV Yk)) (qb (qf (xc c_passes hr (Yi (vD 1) (Yi (vD 2) Yl))))) qx)
   (qa (q0m (WA hr.units (vV 0) (XD.toV Yk)) (qb (qf (xc c_yard_least hr (Yi (vD 1) (Yi (vD 2) Yl))))) qx)
   (qa (q0m (WA hr.units (vV 0) (XD.toV Yk)) (qb (qf (xc c_is_yard_tour hr (Yi (vD 1) (Yi (vD 2) (Yi (vD 3) Yl)))))) qx)
   (qb (qf (xc c_yard_tour hr (Yi (vD 1) (Yi (vD 2) Yl)))))))))
 exact h
noncomputable def q2l:FX:=(zBu (yIf (tOf (Yq (oEq false) (vOf (Yn 0)) (fC (.int 0)))) (WF q2t (Yj (dOf (Yn 1)) (Yj (dOf (Yn 2)) Yr))) yNo) (sIf (tOf (Yq (oEq false) (vOf (Yn 0)) (fC (.int 0)))) (XN (Ys q1w (Yj (dOf (Yn 1)) (Yj (dOf (Yn 2)) Yr)))) X2) (zBu (yIf (tOf (Yq (oEq false) (vOf (Yn 0)) (fC (.int 1)))) (WF q2C (Yj (dOf (Yn 1)) (Yj (dOf (Yn 2)) Yr))) yNo) (sIf (tOf (Yq (oEq false) (vOf (Yn 0)) (fC (.int 1)))) (XN (Ys q1J (Yj (dOf (Yn 1)) (Yj (dOf (Yn 2)) Yr)))) X2) (zBu (yIf (tOf (Yq (oEq false) (vOf (Yn 0)) (fC (.int 2)))) (WF q27 (Yj (dOf (Yn 1)) (Yj (dOf (Yn 2)) (Yj (dOf (Yn 3)) Yr)))) yNo) (sIf (tOf (Yq (oEq false) (vOf (Yn 0)) (fC (.int 2)))) (XN (Ys ql (Yj (dOf (Yn 1)) (Yj (dOf (Yn 2)) (Yj (dOf (Yn 3)) Yr))))) X2) (WF q2p (Yj (dOf (Yn 1)) (Yj (dOf (Yn 2)) Yr))))))
noncomputable def q2B:List D->Option Str:=λds=>q2l (entry 4 ds)
def q7I{f_passes:vC}{d_passes:vN}{f_yard_least:vC}{d_yard_least:vN}{f_is_yard_tour:vC}{d_is_yard_tour:vN}{f_yard_tour:vC}{d_yard_tour:vN}(F:Fun K "_law_asked" "_law_asked" q3p f fd)(c_passes:Cal P w K mg base 6 f_passes d_passes "passes" ["gate", "boxes"] 2 q1w)(Gx_passes:FnOk P w K mg base (CXe P w) 6 f_passes d_passes ["gate", "boxes"] (spX K 2 q2t))(c_yard_least:Cal P w K mg base 7 f_yard_least d_yard_least "yard_least" ["gate", "boxes"] 2 q1J)(Gx_yard_least:FnOk P w K mg base (CXe P w) 7 f_yard_least d_yard_least ["gate", "boxes"] (spX K 2 q2C))(c_is_yard_tour:Cal P w K mg base 6 f_is_yard_tour d_is_yard_tour "is_yard_tour" ["gate", "boxes", "thing"] 3 ql)(Gx_is_yard_tour:FnOk P w K mg base (CXe P w) 6 f_is_yard_tour d_is_yard_tour ["gate", "boxes", "thing"] (spX K 3 q27))(c_yard_tour:Cal P w K mg base 8 f_yard_tour d_yard_tour "yard_tour" ["gate", "boxes"] 2 q2h)(Gx_yard_tour:FnOk P w K mg base (CXe P w) 8 f_yard_tour d_yard_tour ["gate", "boxes"] (spX K 2 q2p)):
  FnOk P w K mg base (CXe P w) 9 f fd ["which", "gate", "boxes", "thing"] (spX K 4 q2B):=by
 have h:=fnX (P:=P) (w:=w) (mg:=mg) (base:=base) (k:=8) (gb:=q2l) F q6b (λcdv A outer s H E hr=>
   (q3d (q6o (WA hr.units (vV 0) (XD.toV Yk)) (q1E (q58 (q2Z Gx_passes (hr.mono (by decide)) rfl c_passes.2.1 c_passes.2.2.1 c_passes.2.2.2 zAR (Yi (vD 1) (Yi (vD 2) Yl))))) q4Z) (XS.lift (q0m (WA hr.units (vV 0) (XD.toV Yk)) (qb (qf (xc c_passes hr (Yi (vD 1) (Yi (vD 2) Yl))))) qx)) (q3d (q6o (WA hr.units (vV 0) (XD.toV Yk)) (q1E (q58 (q2Z Gx_yard_least (hr.mono (by decide)) rfl c_yard_least.2.1 c_yard_least.2.2.1 c_yard_least.2.2.2 zAR (Yi (vD 1) (Yi (vD 2) Yl))))) q4Z) (XS.lift (q0m (WA hr.units (vV 0) (XD.toV Yk)) (qb (qf (xc c_yard_least hr (Yi (vD 1) (Yi (vD 2) Yl))))) qx)) (q3d (q6o (WA hr.units (vV 0) (XD.toV Yk)) (q1E (q58 (q2Z Gx_is_yard_tour (hr.mono (by decide)) rfl c_is_yard_tour.2.1 c_is_yard_tour.2.2.1 c_is_yard_tour.2.2.2 zAR (Yi (vD 1) (Yi (vD 2) (Yi (vD 3) Yl)))))) q4Z) (XS.lift (q0m (WA hr.units (vV 0) (XD.toV Yk)) (qb (qf (xc c_is_yard_tour hr (Yi (vD 1) (Yi (vD 2) (Yi (vD 3) Yl)))))) qx)) (q1E (q58 (q2Z Gx_yard_tour (hr.mono (by decide)) rfl c_yard_tour.2.1 c_yard_tour.2.2.1 c_yard_tour.2.2.2 zAR (Yi (vD 1) (Yi (vD 2) Yl)))))))))
 exact h
noncomputable def q47:FS:=(zAi (Ys q2L (Yj (dOf (Yn 0)) (Yj (dOf (Yn 1)) (Yj (dOf (Yn 2)) (Yj (dOf (Yn 3)) Yr))))))
noncomputable def q2A:FX:=(WF q2B (Yj (dOf (Yn 0)) (Yj (dOf (Yn 1)) (Yj (dOf (Yn 2)) (Yj (dOf (Yn 3)) Yr)))))
noncomputable def q5D:FS:=(XR 4 (eOf (dOf (X8 (Yj (fC (.str "yard")) (Yj (zAl (dOf (zCO [("NoYard", true),("NoRow", true)] (vOf (Yn 5)))) (dOf (zCO [("NoYard", true),("NoRow", true)] (vOf (Yn 5))))) (Yj (dOf (zCO [("NoYard", false),("NoRow", true)] (vOf (Yn 5)))) (Yj (dOf (zCO [("NoYard", false),("NoRow", false)] (vOf (Yn 5)))) Yr))))))))
noncomputable def q3m:FS:=(Y4 (XR 4 (eOf (dOf (X8 (Yj (fC (.str "answered")) (Yj (fC (.bl true)) (Yj (fC (.bl false)) (Yj (fC (.bl false)) Yr))))))))
  (Y4 (sTry q47 q2A ["NoYard"] 5 q5D)
  (XN (Yn 4))))
noncomputable def q1G:List D->Option O:=mir 6 q3m
noncomputable abbrev q4l:vn:=top 54
def q3z:FnScope ["which", "gate", "boxes", "thing", "named", "e"] ["which", "gate", "boxes", "thing"] (Yo q4l):=⟨rfl,rfl,rfl,⋯,rfl,⋯,⋯⟩
def q8A{f__law_asked:vC}{d__law_asked:vN}{A_NoYard:vC}{A_NoText:vC}{A_NoWord:vC}{A_NoBox:vC}{A_NoErrand:vC}{A_NoRow:vC}{A_NoReason:vC}{A_NoRing:vC}{A_RailError:vC}(F:Fun K "_law_named" "_law_named" q4l f fd)(c__law_asked:Cal P w K mg base 9 f__law_asked d__law_asked "_law_asked" ["which", "gate", "boxes", "thing"] 4 q2L)(Gx__law_asked:FnOk P w K mg base (CXe P w) 9 f__law_asked d__law_asked ["which", "gate", "boxes", "thing"] (spX K 4 q2B))(e_NoYard:mg "NoYard" = some (.ref A_NoYard))(e_NoText:mg "NoText" = some (.ref A_NoText))(e_NoWord:mg "NoWord" = some (.ref A_NoWord))(e_NoBox:mg "NoBox" = some (.ref A_NoBox))(e_NoErrand:mg "NoErrand" = some (.ref A_NoErrand))(e_NoRow:mg "NoRow" = some (.ref A_NoRow))(e_NoReason:mg "NoReason" = some (.ref A_NoReason))(e_NoRing:mg "NoRing" = some (.ref A_NoRing))(e_RailError:mg "RailError" = some (.ref A_RailError))(x_NoYard:ECls K "NoYard" A_NoYard)(w_NoYard:zAy K A_NoYard ["NoYard"])(t_NoText:IsX K (.ref A_NoText) [("NoYard", false),("NoRow", false)])(t_NoWord:IsX K (.ref A_NoWord) [("NoYard", false),("NoRow", false)])(t_NoBox:IsX K (.ref A_NoBox) [("NoYard", false),("NoRow", false)])(t_NoErrand:IsX K (.ref A_NoErrand) [("NoYard", false),("NoRow", false)])(t_NoRow:IsX K (.ref A_NoRow) [("NoYard", false),("NoRow", true)])(t_NoReason:IsX K (.ref A_NoReason) [("NoYard", false),("NoRow", false)])(t_NoRing:IsX K (.ref A_NoRing) [("NoYard", false),("NoRow", false)])(t_ValueError:IsX K (.type "ValueError") [("NoYard", true),("NoRow", true)])(t_RailError:IsX K (.ref A_RailError) [("NoYard", true),("NoRow", true)])(z_isinstance:mg "isinstance" = none)(z_ValueError:mg "ValueError" = none):
  FnOk P w K mg base CX0 10 f fd ["which", "gate", "boxes", "thing"] (spD K 4 q1G):=by
 have h:=fnD (P:=P) (w:=w) (mg:=mg) (base:=base) (k:=9) (body:=q3m) F q3z (λcdv A outer s H E hr=>
   (qa (qj (i:=4) q3z.nd rfl (Or.inl rfl) (XD.toE (XE.toD (Yy (Yi XC (Yi Xc (Yi Xc (Yi Xc Yl))))))))
   (qa (qg0 (cs:=["NoYard"]) (i:=5) rfl rfl rfl e_NoYard x_NoYard w_NoYard q3z.nd rfl rfl (qb (q53 (xc c__law_asked hr (Yi (vD 0) (Yi (vD 1) (Yi (vD 2) (Yi (vD 3) Yl))))))) (qdk (qed (qeP Gx__law_asked (hr.mono (by decide)) rfl c__law_asked.2.1 c__law_asked.2.2.1 c__law_asked.2.2.2 (Yi (vD 0) (Yi (vD 1) (Yi (vD 2) (Yi (vD 3) Yl))))))) (λ_=>(qb (qj (i:=4) q3z.nd rfl (Or.inl rfl) (XD.toE (XE.toD (Yy (Yi XC (Yi (q2q (XE.toD (qeK (vV 5) rfl e_RailError t_RailError rfl z_isinstance)) (q2U (XE.toD (qe1 (vV 5) rfl z_ValueError PyProof.Rows.Boot.«ValueError» t_ValueError rfl z_isinstance)))) (Yi (XE.toD (qa1 (Ts:=[A_NoErrand,A_NoRow,A_NoReason,A_NoRing]) (vV 5) (qo (q3e rfl e_NoErrand rfl) (qo (q3e rfl e_NoRow rfl) (qo (q3e rfl e_NoReason rfl) (qo (q3e rfl e_NoRing rfl) qN)))) (Zc rfl) (q3V (tab:=[("NoYard", false),("NoRow", true)]) t_NoErrand (q3V (tab:=[("NoYard", false),("NoRow", true)]) t_NoRow (q3V (tab:=[("NoYard", false),("NoRow", false)]) t_NoReason (q9B t_NoRing) ⋯) ⋯) ⋯) rfl z_isinstance)) (Yi (XE.toD (qa1 (Ts:=[A_NoText,A_NoWord,A_NoBox]) (vV 5) (qo (q3e rfl e_NoText rfl) (qo (q3e rfl e_NoWord rfl) (qo (q3e rfl e_NoBox rfl) qN))) (Zc rfl) (q3V (tab:=[("NoYard", false),("NoRow", false)]) t_NoText (q3V (tab:=[("NoYard", false),("NoRow", false)]) t_NoWord (q9B t_NoBox) ⋯) ⋯) rfl z_isinstance)) Yl)))))))))))
   (qb (qf (vE 4))))))
 exact h
noncomputable def q7c:FS:=(sIf (tOf (Yq (oEq true) (vOf (Ys q1G (Yj (dOf (Yq oMod (vOf (Yq X5 (vOf (Yn 10)) (vOf (Yq oDiv (vOf (Yn 4)) (fC (.int 5)))))) (fC (.int 4)))) (Yj (dOf (Yn 2)) (Yj (dOf (Yn 3)) (Yj (dOf (Yn 9)) Yr)))))) (vOf (X8 (Yj (dOf (Yn 5)) (Yj (fC (.bl true)) (Yj (fC (.bl false)) (Yj (fC (.bl false)) Yr)))))))) (XN (eOf (fC (.bl false)))) X2)
noncomputable def qb1:FS:=(Y4 (XR 1 (eOf (dOf (Ys q3a (Yj (dOf (Yn 0)) Yr)))))
  (Y4 (XR 2 (eOf (dOf (Yq oIx (vOf (Yn 1)) (fC (.int 0))))))
  (Y4 (XR 3 (eOf (dOf (Ys q2M (Yj (dOf (Yn 0)) (Yj (dOf (Yn 1)) Yr))))))
  (Y4 (XR 4 (eOf (dOf (Ys q0U (Yj (dOf (Yn 0)) (Yj (fC (.int 17)) Yr))))))
  (Y4 (XR 5 (eOf (fC (.str "answered"))))
  (Y4 (sIf (tOf (Yq (oEq false) (vOf (Yq oMod (vOf (Yn 4)) (fC (.int 6)))) (fC (.int 1)))) (Y4 (XR 2 (eOf (dOf (Yq oIx (vOf (X8 (Yj (fC .non) (Yj (fC (.bl true)) (Yj (fC (.bl false)) (Yj (fC (.str "0")) (Yj (dOf (X8 (Yj (dOf (Yn 2)) Yr))) (Yj (W2 (Yj (dOf (Yn 2)) Yr)) Yr)))))))) (vOf (Yq oMod (vOf (Yq oDiv (vOf (Yn 4)) (fC (.int 6)))) (fC (.int 6))))))))
  (XR 5 (eOf (fC (.str "yard"))))) X2)
  (Y4 (sIf (tOf (Yq (oEq false) (vOf (Yq oMod (vOf (Yn 4)) (fC (.int 6)))) (fC (.int 2)))) (Y4 (XR 3 (eOf (dOf (Yq oIx (vOf (X8 (Yj (fC .non) (Yj (dOf (WE zBe (Yj (vOf (Yn 3)) Yr))) (Yj (fC (.str "")) (Yj (fC (.bl true)) (Yj (fC (.int 0)) (Yj (W2 Yr) (Yj (dOf (X8 (Yj (fC .non) Yr))) (Yj (dOf (X8 (Yj (dOf (X8 Yr)) Yr))) Yr)))))))))) (vOf (Yq oMod (vOf (Yq oDiv (vOf (Yn 4)) (fC (.int 6)))) (fC (.int 8))))))))
  (XR 5 (eOf (fC (.str "yard"))))) X2)
  (Y4 (sIf (tOf (Yq (oEq false) (vOf (Yq oMod (vOf (Yn 4)) (fC (.int 6)))) (fC (.int 3)))) (Y4 (XR 6 (eOf (dOf (Yq oMod (vOf (Yq oDiv (vOf (Yn 4)) (fC (.int 6)))) (vOf (Yq X5 (vOf (WE zAY (Yj (vOf (Yn 3)) Yr))) (fC (.int 1))))))))
  (Y4 (XR 7 (eOf (dOf (Yq zB5 (vOf (Yq zB5 (vOf (Yn 2)) (fC (.int 1)))) (vOf (Yq oMod (vOf (Yq oDiv (vOf (Yn 4)) (fC (.int 60)))) (vOf (Yq zCe (fC (.int 10)) (fC (.int 39))))))))))
  (Y4 (XR 8 (eOf (dOf (X8 (Yj (fC .non) (Yj (dOf (X8 (Yj (dOf (Yn 2)) (Yj (dOf (Yn 2)) Yr)))) (Yj (W2 (Yj (dOf (Yn 2)) Yr)) (Yj (W2 (Yj (dOf (Yn 2)) (Yj (dOf (Yn 2)) (Yj (fC (.int 0)) Yr)))) (Yj (W2 (Yj (fC (.bl true)) (Yj (dOf (Yn 2)) Yr))) (Yj (W2 (Yj (dOf (Yn 2)) (Yj (fC .non) Yr))) (Yj (W2 (Yj (dOf (Yn 7)) (Yj (dOf (Yn 2)) Yr))) (Yj (W2 (Yj (dOf (Yn 2)) (Yj (dOf (Yn 7)) Yr))) Yr))))))))))))
  (Y4 (XR 3 (eOf (dOf (Yq X5 (vOf (Yq X5 (vOf (fSl (vOf (Yn 3)) pNo (pAt (vOf (Yn 6))))) (vOf (X8 (Yj (dOf (Yq oIx (vOf (Yn 8)) (vOf (Yq oMod (vOf (Yq oDiv (vOf (Yn 4)) (fC (.int 7)))) (fC (.int 8)))))) Yr))))) (vOf (fSl (vOf (Yn 3)) (pAt (vOf (Yn 6))) pNo))))))
  (XR 5 (eOf (fC (.str "yard")))))))) X2)
  (Y4 (XR 9 (eOf (dOf (Yq oIx (vOf (X8 (Yj (dOf (X8 Yr)) (Yj (fC .non) (Yj (dOf (X8 (Yj (W2 (Yj (fC (.str "go")) (Yj (fC (.int 0)) (Yj (fC (.int 1)) Yr)))) Yr))) (Yj (fC (.int 7)) (Yj (dOf (X8 (Yj (fC .non) Yr))) Yr))))))) (vOf (Yq oMod (vOf (Ys q0U (Yj (dOf (Yn 0)) (Yj (fC (.int 18)) Yr)))) (fC (.int 5))))))))
  (Y4 (zBP (iRg1 (Yj (fC (.int 4)) Yr)) (gN 10) q7c)
  (XN (eOf (fC (.bl true))))))))))))))
noncomputable def q6m:List D->Option O:=mir 11 qb1
noncomputable abbrev q6l:vn:=top 55
def q2b:FnScope ["script", "some", "gate", "boxes", "cell", "due", "at", "far", "odd", "thing", "k"] ["script"] (Yo q6l):=⟨rfl,rfl,rfl,⋯,rfl,⋯,⋯⟩
def qfq{f__law_menu:vC}{d__law_menu:vN}{f__law_boxes:vC}{d__law_boxes:vN}{f__law_cell:vC}{d__law_cell:vN}{f__law_named:vC}{d__law_named:vN}(F:Fun K "law" "law" q6l f fd)(c__law_menu:Cal P w K mg base 2 f__law_menu d__law_menu "_law_menu" ["script"] 1 q3a)(c__law_boxes:Cal P w K mg base 2 f__law_boxes d__law_boxes "_law_boxes" ["script", "some"] 2 q2M)(c__law_cell:Cal P w K mg base 1 f__law_cell d__law_cell "_law_cell" ["script", "k"] 2 q0U)(c__law_named:Cal P w K mg base 10 f__law_named d__law_named "_law_named" ["which", "gate", "boxes", "thing"] 4 q1G)(z_tuple:mg "tuple" = none)(z_len:mg "len" = none)(z_range:mg "range" = none):
  FnOk P w K mg base CX0 11 f fd ["script"] (spD K 1 q6m):=by
 have h:=fnD (P:=P) (w:=w) (mg:=mg) (base:=base) (k:=10) (body:=qb1) F q2b (λcdv A outer s H E hr=>
   (qa (qj (i:=1) q2b.nd rfl (Or.inl rfl) (XD.toE (XE.toD (xc c__law_menu hr (Yi (vD 0) Yl)))))
   (qa (qj (i:=2) q2b.nd rfl (Or.inl rfl) (XD.toE (XE.toD (Yp (vV 1) (XD.toV Yk)))))
   (qa (qj (i:=3) q2b.nd rfl (Or.inl rfl) (XD.toE (XE.toD (xc c__law_boxes hr (Yi (vD 0) (Yi (vD 1) Yl))))))
   (qa (qj (i:=4) q2b.nd rfl (Or.inl rfl) (XD.toE (XE.toD (xc c__law_cell hr (Yi (vD 0) (Yi Yk Yl))))))
   (qa (qj (i:=5) q2b.nd rfl (Or.inl rfl) (XD.toE XC))
   (qa (q0m (WA hr.units (XE.toV (q0R (vV 4) (XD.toV Yk))) (XD.toV Yk)) (qa (qj (i:=2) q2b.nd rfl (Or.inl rfl) (XD.toE (XE.toD (Yp (XE.toV (Yy (Yi Wj (Yi Xc (Yi Xc (Yi XC (Yi (XE.toD (Yy (Yi (vD 2) Yl))) (Yi (Y9 (Yi (vD 2) Yl)) Yl)))))))) (XE.toV (q0R (XE.toV (q1N (vV 4) (XD.toV Yk))) (XD.toV Yk)))))))
   (qb (qj (i:=5) q2b.nd rfl (Or.inl rfl) (XD.toE XC)))) qx)
   (qa (q0m (WA hr.units (XE.toV (q0R (vV 4) (XD.toV Yk))) (XD.toV Yk)) (qa (qj (i:=3) q2b.nd rfl (Or.inl rfl) (XD.toE (XE.toD (Yp (XE.toV (Yy (Yi Wj (Yi (XE.toD (qgf q8B qd8 rfl z_tuple q5r (qv (vV 3) qF))) (Yi XC (Yi Xc (Yi Yk (Yi (Y9 Yl) (Yi (XE.toD (Yy (Yi Wj Yl))) (Yi (XE.toD (Yy (Yi (XE.toD (Yy Yl)) Yl))) Yl)))))))))) (XE.toV (q0R (XE.toV (q1N (vV 4) (XD.toV Yk))) (XD.toV Yk)))))))
   (qb (qj (i:=5) q2b.nd rfl (Or.inl rfl) (XD.toE XC)))) qx)
   (qa (q0m (WA hr.units (XE.toV (q0R (vV 4) (XD.toV Yk))) (XD.toV Yk)) (qa (qj (i:=6) q2b.nd rfl (Or.inl rfl) (XD.toE (XE.toD (q0R (XE.toV (q1N (vV 4) (XD.toV Yk))) (XE.toV (q1I (XE.toV (q0C qG q23 rfl z_len q25 (qv (vV 3) qF))) (XD.toV Yk)))))))
   (qa (qj (i:=7) q2b.nd rfl (Or.inl rfl) (XD.toE (XE.toD (q4w (XE.toV (q4w (vV 2) (XD.toV Yk))) (XE.toV (q0R (XE.toV (q1N (vV 4) (XD.toV Yk))) (XE.toV (q7i (XD.toV Yk) (XD.toV Yk)))))))))
   (qa (qj (i:=8) q2b.nd rfl (Or.inl rfl) (XD.toE (XE.toD (Yy (Yi Wj (Yi (XE.toD (Yy (Yi (vD 2) (Yi (vD 2) Yl)))) (Yi (Y9 (Yi (vD 2) Yl)) (Yi (Y9 (Yi (vD 2) (Yi (vD 2) (Yi Yk Yl)))) (Yi (Y9 (Yi Xc (Yi (vD 2) Yl))) (Yi (Y9 (Yi (vD 2) (Yi Wj Yl))) (Yi (Y9 (Yi (vD 7) (Yi (vD 2) Yl))) (Yi (Y9 (Yi (vD 2) (Yi (vD 7) Yl))) Yl))))))))))))
   (qa (qj (i:=3) q2b.nd rfl (Or.inl rfl) (XD.toE (XE.toD (q1I (XE.toV (q1I (XE.toV (Y8 (vV 3) XJ (XB (vV 6)))) (XE.toV (Yy (Yi (XE.toD (Yp (vV 8) (XE.toV (q0R (XE.toV (q1N (vV 4) (XD.toV Yk))) (XD.toV Yk))))) Yl))))) (XE.toV (Y8 (vV 3) (XB (vV 6)) XJ))))))
   (qb (qj (i:=5) q2b.nd rfl (Or.inl rfl) (XD.toE XC))))))) qx)
   (qa (qj (i:=9) q2b.nd rfl (Or.inl rfl) (XD.toE (XE.toD (Yp (XE.toV (Yy (Yi (XE.toD (Yy Yl)) (Yi Wj (Yi (XE.toD (Yy (Yi (Y9 (Yi XC (Yi Yk (Yi Yk Yl)))) Yl))) (Yi Yk (Yi (XE.toD (Yy (Yi Wj Yl))) Yl))))))) (XE.toV (q0R (XE.toV (xc c__law_cell hr (Yi (vD 0) (Yi Yk Yl)))) (XD.toV Yk)))))))
   (qa (q2R PassesOwn.never rfl (q80 rfl z_range (qv (XD.toV Yk) qF)) (qk (i:=10) q2b.nd rfl (Or.inl rfl)) (qb (q0m (Wc hr.units (XE.toV (xc c__law_named hr (Yi (XE.toD (q0R (XE.toV (q1I (vV 10) (XE.toV (q1N (vV 4) (XD.toV Yk))))) (XD.toV Yk))) (Yi (vD 2) (Yi (vD 3) (Yi (vD 9) Yl)))))) (XE.toV (Yy (Yi (vD 5) (Yi Xc (Yi Xc (Yi Xc Yl))))))) (qb (qf (XD.toE Xc))) qx)))
   (qb (qf (XD.toE Xc))))))))))))))
 exact h
end
set_option compiler.extract_closed false
set_option hygiene false
local macro_rules|`(tactic| simp_arith $c:optConfig [$xs,*])=>`(tactic| simp $c only[qA,q0V,q0M,q0x,qZ,Ww,q0y,Wf,qR,q19,q0N,q0J,q1n,q1e,q1u,q0v,q1s,q0f,q06,q1l,q1o,q18,qM,q08,qE,qL,q00,q1c,q1y,qP,qV,Wp,q0L,q0E,q1h,q09,q03,q0n,qJ,q0Y,WK,q1B,q0o,q0h,qX,qY,q1p,Wd,q1k,q0d,qU,e_c,e_e,We,e_d,q07,q01,e_v,q0b,qT,q0a,Wa,WU,q0z,Wn,q0e,qQ,WR,WW,Ws,q1v,q1j,q16,Wu,q1t,WZ,Wm,WS,Wl,q17,qu,qB,qp,qr,qw,qt,e_t,Wz,q1f,q1i,WY,q1A,q0H,Wi,q0w,qS,qC,q0F,WV,q1d,q1a,Wk,q0O,q0D,q1m,q0I,Xk,q1z,Wh,q0g,q02,qW,qK,q0G,q0A,qO,q0K,q0B,q04,q0Z,q1q,q1x,at0,at1,at2,qz,q0c,Xq,entry,zX,zd,zC,zS,zB,zO,yA,zn,zg,zQ,za,ze,zf,zV,zU,yP,yQ,yh,yi,yj,yR,yS,yT,yU,yV,yW,yD,yX,z9,↓reduceIte,yY,yZ,yB,yN,zt,yb,yM,yc,yH,yG,zr,beq_self_eq_true,zW,$xs,*])
set_option compiler.extract_closed true
set_option hygiene true
noncomputable def Yv(p:Int×Int):D:=.tup [.int p.1,.int p.2]
noncomputable def plD:D->Bool
 | .scr _=>false
 | .exc _=>false
 | .dic _ _=>false
 | _=>true
noncomputable def plB:D->Bool
 | .tup ds=>ds.all plD
 | d=>plD d
noncomputable def plL:D->Bool
 | .lst ds=>ds.all plB&&decide (ds.length<=20)
 | d=>plD d
noncomputable def geD(a:Int):D->Bool
 | .int x=>decide (a<=x)
 | _=>false
noncomputable def zBG(a:Int):D->Bool
 | .tup [x,y]=>geD a x&&geD a y
 | _=>false
noncomputable def zBT:D->D->Bool
 | .int a,.lst ds=>ds.all (zBG a)
 | _,_=>false
noncomputable def XL:D->Bool
 | .int _=>true
 | _=>false
noncomputable def nsD:D->Bool
 | .scr _=>false
 | .exc _=>false
 | .dic _ _=>false
 | _=>true
noncomputable def zCx:D->Bool
 | .scr _=>false
 | .exc _=>false
 | .dic _ _=>false
 | .tup [a,b]=>nsD a&&nsD b
 | _=>true
noncomputable def isBoxL:List D->Bool
 | []=>false
 | [_]=>false
 | [a,b]=>XL a&&XL b
 | _::_::_::_=>false
noncomputable def zAo:D->Bool
 | .tup ds=>isBoxL ds
 | _=>false
def q2P{d:D}(h:nsD d=true):q0P [d]=↥(.bl (XL d)):=by
 cases d <;> first|rfl|cases h
def qfc{d:D}(h:zCx d=true):q4z [d]=↥(.bl (zAo d)):=by
 unfold q4z q6U
 match d,h with
 | .non,_=>rfl
 | .bl _,_=>rfl
 | .int _,_=>rfl
 | .str _,_=>rfl
 | .lst _,_=>rfl
 | .tup [],_=>rfl
 | .tup [_],_=>simp_arith[qE];rfl
 | .tup [a,b],h=>
  have h':=wJ.mp (show (_&&_)=true from h);have ha:=q2P h'.1;have hb:=q2P h'.2;simp_arith[ha,hb];simp_arith[show (((0+1+1:Nat):Int)==2)=true from rfl,ha,hb];cases a <;> cases b <;> rfl
 | .tup (a::b::c::r),_=>
  have hn:(((a::b::c::r).length:Int)==2)=false:=by
   simp only[zC,beq_eq_false_iff_ne,ne_eq];omega
  simp only[zC]at hn;simp_arith[hn];rfl
theorem q70:∀(q:D->Bool)(ds:List D),allB (ds.map λd=>D.bl (q d))=some (ds.all q)
 | _,[]=>rfl
 | q,d::ds=>by
  show (allB (ds.map λd=>D.bl (q d))).map _=_;rw[q70 q ds];rfl
def qcy{h l:D}{ds:List D}(hh:nsD h=true)(hl:nsD l=true)(hd:∀d∈ds,zCx d=true)(hlen:ds.length<=1000000):
  q2f [h,l,.lst ds]=↥(.bl (XL h&&(XL l&&ds.all zAo))):=by
 unfold q2f q3T;have e1:=q2P hh;have e2:=q2P hl;simp_arith[e1,e2,Xk hlen];cases XL h <;> cases XL l <;> simp_arith[e2,Xk hlen] <;> first|rfl|skip
 rw[q7Y (λd=>D.bl (zAo d))]
 ·simp_arith[zB0,q70]
 ·intro d hd'
  unfold q5J;simp_arith[inW,qfc (hd d hd')]
def qcM{h l b:D}(hh:nsD h=true)(hl:nsD l=true)(hb:nsD b=true)(hb':∀ds,b≠.lst ds):q2f [h,l,b]=↥(.bl false):=by
 unfold q2f q3T;have e1:=q2P hh;have e2:=q2P hl;have e3:zCU .lst (some b)=↥(.bl false):=by
  cases b <;> first|rfl|exact vK rfl (hb' _)|cases hb
 simp_arith[e1,e2];cases XL h <;> cases XL l <;> simp_arith[e2,e3]
theorem q5n{α:Type}{g:FG}{c:FT}{f:FD}(P:WSt->Prop)(q:α->Bool)(B F:α->D):∀(xs:List α){ω:WSt},P ω ->
  (∀x∈xs,∀ω,P ω->∃w,g (B x) ω=some w/\P w/\c w=some (q x)/\(q x=true->f w=some (F x)))->XH g c f (xs.map B) ω=some ((xs.filter q).map F)
 | [],_,_,_=>rfl
 | x::xs,ω,h,t=>by
  obtain⟨w,h1,h2,h3,h4⟩:=t x zJ ω h;have ih:=q5n P q B F xs h2 (λe he=>t e (zI _ he));rw[zO,XH,h1,zX,h3,zX];cases hq:q x with
  | true=>rw[vG rfl,h4 hq,zX,ih,ZJ hq];rfl
  | false=>rw[vH (by decide),ih,ZK (by rw[hq];decide)]
def q7f{α:Type}{i:Nat}{c:FT}{f:FD}(q:α->Bool)(B F:α->D)(xs:List α){ω:WSt}(h:∀x∈xs,c (ω.set i ↥(B x))=some (q x)/\(q x=true->f (ω.set i ↥(B x))=some (F x))):XH (gN i) c f (xs.map B) ω=some ((xs.filter q).map F) :=
 q5n (g:=gN i) (c:=c) (f:=f) (λw=>∀x,w.set i x=ω.set i x) q B F xs (ω:=ω) (λx=>rfl) λd hd w hw=>
  ⟨w.set i ↥(B d),rfl,λx=>by rw[ZT,hw],by rw[hw];exact(h d hd).1,λz=>by rw[hw];exact(h d hd).2 z⟩
def q1T{α:Type}{i:Nat}{f:FD}(B F:α->D)(xs:List α){ω:WSt}(h:∀x∈xs,f (ω.set i ↥(B x))=some (F x)):XH (gN i) XF f (xs.map B) ω=some (xs.map F):=by
 have:=q7f (c:=XF) (i:=i) (f:=f) (λ_=>true) B F xs (ω:=ω) λx hx=>⟨rfl,λ_=>h x hx⟩;rw[this,Zj.mpr (λ_ _=>rfl)]
theorem qbU{α:Type}(f:α->Int):∀bs:List α,zC9 (bs.map λp=>D.int (f p))=some (bs.map f).sum
 | []=>rfl
 | b::r=>by
  show (zC9 (r.map λp=>D.int (f p))).map _=_;rw[qbU f r];rfl
def qfY{α:Type}(f:α->Int)(bs:List α):bSum [.lst (bs.map λp=>D.int (f p))]=↥(.int (bs.map f).sum):=by
 show (zC9 _).map _=_;rw[qbU];rfl
def qbt{d:D}(h:plD d=true):nsD d=true:=by cases d <;> first|rfl|cases h
def qfQ{d:D}(h:plB d=true):zCx d=true:=by
 match d,h with
 | .non,_=>rfl
 | .bl _,_=>rfl
 | .int _,_=>rfl
 | .str _,_=>rfl
 | .lst _,_=>rfl
 | .tup [],_=>rfl
 | .tup [_],_=>rfl
 | .tup [a,b],h=>
  have h':plD a=true/\plD b=true:=by simpa [plB]using h
  show (nsD a&&nsD b)=true;rw[qbt h'.1,qbt h'.2];rfl
 | .tup (_::_::_::_),_=>rfl
def minT2(x y:Int):zBR [.tup [.int x,.int y]]=↥(.int (zAs [x,y])):=qaH (ns:=[x,y]) (by simp)
def q8W{d:D}(h:XL d=true):∃k,d=.int k:=by
 cases d with
 | int k=>exact⟨k,rfl⟩
 | _=>cases h
def qdI{a:Int}{d:D}(h:geD a d=true):∃k,d=.int k:=by
 cases d with
 | int k=>exact⟨k,rfl⟩
 | _=>cases h
def qdl{d:D}(h:zAo d=true):∃x y,d=.tup [.int x,.int y]:=by
 match d,h with
 | .tup [a,b],h=>
  obtain⟨h1,h2⟩:=wJ.mp (show (XL a&&XL b)=true from h);obtain⟨x,rfl⟩:=q8W h1;obtain⟨y,rfl⟩:=q8W h2;exact⟨x,y,rfl⟩
def qeW(a x y:Int):zBG a (.tup [.int x,.int y])=decide (a<=zAs [x,y]):=by
 show (decide (a<=x)&&decide (a<=y))=decide (a<=if y<=x then y else x)
 by_cases h1:a<=x <;> by_cases h2:a<=y <;> by_cases h3:y<=x <;> simp[h1,h2,h3] <;> omega
def qdh{a:Int}{d:D}(h:zBG a d=true):zAo d=true:=by
 match d,h with
 | .tup [x,y],h=>
  obtain⟨h1,h2⟩:=wJ.mp (show (geD a x&&geD a y)=true from h);obtain⟨x,rfl⟩:=qdI h1;obtain⟨y,rfl⟩:=qdI h2;rfl
def q6y{g b:D}(hg:plD g=true)(hb:plL b=true):q2r [g,b]=↥(.bl (zBT g b)):=by
 unfold q2r q5K;have hg':=qbt hg
 by_cases hlst:∃ds,b=.lst ds
 ·obtain⟨ds,rfl⟩:=hlst
  have h':ds.all plB=true/\ds.length<=20:=by simpa [plL]using hb
  have hpl:=yz.mp h'.1;have hll:ds.length<=1000000:=∅
  have e1:=qcy (h:=g) (l:=g) (ds:=ds) hg' hg' (λd hd=>qfQ (hpl d hd)) hll;simp_arith[e1]
  by_cases hw:∃a,g=.int a
  ·obtain⟨a,rfl⟩:=hw
   by_cases hall:ds.all zAo=true
   ·have cm:XH (gN 0) XF q5A ds [none,↥(.int a)]=some (ds.map λd=>D.bl (zBG a d)):=by
     refine q7Y (λd=>D.bl (zBG a d)) ds λd hd=>?_;obtain⟨x,y,rfl⟩:=qdl (yz.mp hall d hd);unfold q5A;simp_arith[minT2,qeW]
    simp_arith[XL,hall,Xk hll,inW,zAg,cm,zB0,q70];rfl
   ·have hf:ds.all zAo=false:=by simpa using hall
    have hy:ds.all (zBG a)=false:=by
     cases h2:ds.all (zBG a)with
     | false=>rfl
     | true=>exact vK (yz.mpr λd hd=>qdh (yz.mp h2 d hd)) hall
    simp_arith[XL,hf];show _=some (O.sh (D.bl (ds.all (zBG a))));rw[hy]
  ·have hw':XL g=false:=by cases g <;> first|rfl|exact vK ⟨_,rfl⟩ hw
   have hy:zBT g (.lst ds)=false:=by cases g <;> first|rfl|exact vK ⟨_,rfl⟩ hw
   simp_arith[hw',hy]
 ·have hn:∀ds,b≠.lst ds:=λds e=>hlst ⟨ds,e⟩
  have hb':nsD b=true:=by
   cases b <;> first|rfl|exact vK ⟨_,rfl⟩ hlst|cases hb
  have hy:zBT g b=false:=by
   cases g <;> cases b <;> first|rfl|exact vK rfl (hn _)
  simp_arith[qcM hg' hg' hb' hn,hy]
def q7W(a b:Int):Yv (a,b)=.tup [.int a,.int b]:=rfl
noncomputable def over(s g:Int)(q:Int×Int):Bool:=decide (s<=q.1)&&decide (q.2<=g)
def q9q(s g a b:Int):q2n [.int s,.int g,.tup [.int a,.int b]]=↥(.bl (over s g (a,b))):=by
 unfold q2n q4k over;simp_arith[qE]
noncomputable def rts(bs:List (Int×Int))(q:Int×Int):Int:=((bs.filter λp=>over p.1 p.2 q).length:Nat)
noncomputable def lfs(bs:List (Int×Int))(q:Int×Int):Int:=((bs.filter λp=>over p.2 p.1 q).length:Nat)
noncomputable def onP(f:Int->Int->Bool):D->Bool
 | .tup [.int a,.int b]=>f a b
 | _=>false
def q8m(f:Int->Int->Bool)(bs:List (Int×Int)):((bs.map Yv).filter (onP f)).map (λd=>d)=(bs.filter λp=>f p.1 p.2).map Yv:=by
 rw[List.map_id',List.filter_map];rfl
def q7h{bs:List (Int×Int)}{q:Int×Int}(hb:bs.length<=1000):q2I [.lst (bs.map Yv),Yv q]=↥(.tup [.int (rts bs q),.int (lfs bs q)]):=by
 unfold q2I q5W;have hl:(bs.map Yv).length<=1000000:=by rw[zB];omega
 obtain⟨a,b⟩:=q;have c1:XH (gN 0) q5p q5B (bs.map Yv) [none,↥(.tup [.int a,.int b])]=some ((bs.filter λp=>over p.1 p.2 (a,b)).map Yv):=by
  rw[<- q8m (λs g=>over s g (a,b))];refine q8j (onP λs g=>over s g (a,b)) (λd=>d) (bs.map Yv) λd hd=>?_;obtain⟨⟨s,g⟩,_,rfl⟩:=xC.mp hd;unfold q5p q5B;simp_arith[q7W,q9q];exact⟨rfl,λ_=>trivial⟩
 have c2:XH (gN 0) q5v q5m (bs.map Yv) [none,↥(.tup [.int a,.int b])]=some ((bs.filter λp=>over p.2 p.1 (a,b)).map Yv):=by
  rw[<- q8m (λs g=>over g s (a,b))];refine q8j (onP λs g=>over g s (a,b)) (λd=>d) (bs.map Yv) λd hd=>?_;obtain⟨⟨s,g⟩,_,rfl⟩:=xC.mp hd;unfold q5v q5m;simp_arith[q7W,q9q];exact⟨rfl,λ_=>trivial⟩
 simp_arith[q7W,Xk hl,inW,zAg,c1,c2];rfl
def q4q{ns:List Int}{k:Int}(h:0<=k):q0U [.scr ns,.int k]=↥(.int (ns.getD k.toNat 0)):=by
 unfold q0U q4Y
 by_cases hk:k<ns.length
 ·simp_arith[hk,decide_true,q38 h hk]
  simp[zY,zG (show k.toNat<ns.length by omega)]
 ·simp_arith[hk,decide_false]
  simp[zY,yL (show ns.length<=k.toNat by omega)]
def q54{ds:List D}{i:Int}(P:D->Prop)(h0:0<=i)(h1:i<ds.length)(h:∀d∈ds,P d):∃d,atI ds i=some d/\P d :=
 ⟨_,q38 h0 h1,h _ (xX _)⟩
def qf1{ns:List Int}:∃(gate:Int) (ps:List Int),q3a [.scr ns]=some (.fr ((gate::ps).map D.int))/\ps.length=6/\∀p∈ps,gate<=p:=by
 unfold q3a q4V;have hc:=q4q (ns:=ns) (k:=0) (by decide);have h8:zCe (.int 10) (.int 39)=↥(.int (10^39)):=rfl;have h9:∀x,zCA (.int 2) (.int x)=↥(.int (2*x)):=λx=>q9k (by decide) (by decide);have h10:∀x,oMod (.int x) (.int (2*10^39))=↥(.int (x%(2*10^39))):=λx=>qz (by decide);have h11:∀x,oMod (.int x) (.int (10^39))=↥(.int (x%10^39)):=λx=>qz (by decide);have rg:rg1I (some [.int 6])=some (upTo 0 6):=rfl;have loop:∀gate:Int,∀x1:Option W,∃ω' ps,Wy (gN 4) q2H (Hk.upTo 0 6) [↥(.scr ns),x1,↥(.int gate),some (.ow [.int gate]),none]=some (.nx,ω')/\ω'[3]?=some (some (.ow ((gate::ps).map D.int)))/\ps.length=6/\∀p∈ps,gate<=p:=λgate x1=>by
  obtain⟨ω',e,ps,y1,y4,rfl,i1,i2⟩:=q8f (g:=gN 4) (b:=q2H) 0 6
   (λi ω=>∃(ps:List Int) (y1 y4:Option W),ω=[↥(.scr ns),y1,↥(.int gate),some (.ow ((gate::ps).map D.int)),y4]/\ps.length=i/\∀p∈ps,gate<=p)
   (λi ω hi ⟨ps,y1,y4,hω,i1,i2⟩=>by
    subst hω;refine⟨_,rfl,?_⟩;have hcc:=q4q (ns:=ns) (k:=2+(0+(i:Int))) ∅;generalize ns.getD (2+(0+(i:Int))).toNat 0=c at hcc;have h3:0<=c%3/\c%3<3:=∅
    obtain⟨d,hd,q,rfl,hq⟩:=q54 (ds:=[.int (0+(i:Int)+c/3%3),.int (c/3%100),.int (c/3%10^39)]) (i:=c%3) (λd=>∃q:Int,d=D.int q/\0<=q) h3.1 h3.2 (by
     intro d hd;simp only[zF,zv,or_false]at hd;rcases hd with rfl|rfl|rfl
     ·exact⟨_,rfl,∅⟩
     ·exact⟨_,rfl,∅⟩
     ·exact⟨_,rfl,ZZ _ (by decide)⟩)
    have hll:(D.int gate::ps.map D.int).length<1000000:=by rw[zC,zB];omega
    have hd':=hd;simp only[yD]at hd';unfold q2H;simp_arith[hcc,h8,h11,hd',yD,zO];rw[WK hll,qK];refine⟨ps++[gate+q],_,_,by rw[zk];rfl,by rw[zD,i1];rfl,λp hp=>?_⟩;rcases zT.mp hp with y|y
    ·exact i2 p y
    ·cases zb.mp y;omega)
   (ω:=[↥(.scr ns),x1,↥(.int gate),some (.ow [.int gate]),none]) ⟨[],x1,none,rfl,rfl,by simp⟩
  exact⟨_,ps,e,rfl,i1,i2⟩
 have fin:∀gate:Int,∀x1:Option W,∃ps:List Int,outM (zCC (Wy (gN 4) q2H (Hk.upTo 0 6) [↥(.scr ns),x1,↥(.int gate),some (.ow [.int gate]),none]) (zAn 3))=some (.fr ((gate::ps).map D.int))/\ps.length=6/\∀p∈ps,gate<=p:=λgate x1=>by
  obtain⟨ω',ps,e,e3,i1,i2⟩:=loop gate x1;refine⟨ps,?_,i1,i2⟩;rw[e,qL,q0n,e3,qJ,qM]
 by_cases hp:ns.getD 0 0%2=1
 ·simp_arith[hc,hp,h8,h9,h10,rg]
  obtain⟨ps,e,i⟩:=fin _ ↥(.int (ns.getD 0 0));exact⟨_,ps,e,i⟩
 ·have hp':(ns.getD 0 0%2==1)=false:=by simpa using hp
  simp_arith[hc,hp',rg];obtain⟨ps,e,i⟩:=fin _ ↥(.int (ns.getD 0 0));exact⟨_,ps,e,i⟩
def qce{ns:List Int}{some':List Int}(h7:some'.length=7)(hl:ns.length<=63):∃bs:List (Int×Int),q2M [.scr ns,.lst (some'.map D.int)]=some (.fr (bs.map pairD2))/\(∀b∈bs,b.1∈some'/\b.2∈some')/\bs.length<=9:=by
 unfold q2M q4r;have hc:=q4q (ns:=ns) (k:=1) (by decide);have h4:0<=ns.getD 1 0%4/\ns.getD 1 0%4<4:=∅
 obtain⟨d,hd,k,rfl,hk⟩:=q54 (ds:=[.int 9,.int 9,.int (ns.getD 1 0/4%10),.int (ns.getD 1 0/4%3)]) (i:=ns.getD 1 0%4) (λd=>∃k:Nat,d=D.int (k:Int)/\k<=9) h4.1 h4.2 (by
  intro d hd;simp only[zF,zv,or_false]at hd;rcases hd with rfl|rfl|rfl|rfl
  ·exact⟨9,rfl,by decide⟩
  ·exact⟨9,rfl,by decide⟩
  ·exact⟨(ns.getD 1 0/4%10).toNat,by rw[Zm ∅],∅⟩
  ·exact⟨(ns.getD 1 0/4%3).toNat,by rw[Zm ∅],∅⟩)
 simp_arith[hc,hd,qgj];have hcl:(cutD ns (some 8) (some (8+(k:Int)))).length<=9:=by
  have e1:HT.sIx ns.length 0 (some 8)=min 8 ns.length:=HT.q59 ns.length 0 8;have e2:HT.sIx ns.length ns.length (some (8+(k:Int)))=min (8+k) ns.length:=by
   have:=HT.q59 ns.length ns.length (8+k);rw[show ((8+k:Nat):Int)=8+(k:Int) by omega]at this;exact this
  unfold cutD;rw[e1,e2,yK];omega
 generalize cutD ns (some 8) (some (8+(k:Int)))=cells at hcl;obtain⟨ω',e,bs,x5,rfl,i1,i2⟩:=q2V (g:=gN 5) (b:=q45) D.int cells
  (λpre ω=>∃(bs:List (Int×Int)) (x5:Option W),ω=[↥(.scr ns),↥(.lst (some'.map D.int)),↥(.int (ns.getD 1 0)),↥(.int (k:Int)),some (.ow (bs.map pairD2)),x5]/\(∀b∈bs,b.1∈some'/\b.2∈some')/\bs.length=pre.length)
  (λpre c post ω hd' ⟨bs,x5,hω,i1,i2⟩=>by
   subst hω;refine⟨_,rfl,?_⟩;have hp:pre.length<cells.length:=by rw[hd',zD,zC];omega
   have pick:∀x:Int,∃y,y∈some'/\atI (some'.map D.int) (x%7)=some (.int y):=λx=>by
    refine⟨some'[(x%7).toNat]'∅,xX _,?_⟩;rw[q38 ∅ (by rw[zB];omega),wj]
   obtain⟨y1,m1,a1⟩:=pick c;obtain⟨y2,m2,a2⟩:=pick (c/7);have hll:(bs.map pairD2).length<1000000:=by rw[zB];omega
   unfold q45;simp_arith[a1,a2,WK hll];refine⟨bs++[(y1,y2)],_,by rw[zk];rfl,λb hb=>?_,by rw[zD,zD,i2];rfl⟩;rcases zT.mp hb with y|y
   ·exact i1 b y
   ·cases zb.mp y;exact⟨m1,m2⟩)
  (ω:=[↥(.scr ns),↥(.lst (some'.map D.int)),↥(.int (ns.getD 1 0)),↥(.int (k:Int)),some (.ow []),none]) ⟨[],none,rfl,by simp,rfl⟩
 simp_arith[e];exact⟨bs,rfl,i1,∅⟩
noncomputable def zAQ(g:Int)(bs:List (Int×Int)):List Int:=g::bs.flatMap λb=>if b.1=b.2 then []else [b.1,b.2]
def qcQ(g:Int)(bs:List (Int×Int))(b:Int×Int):zAQ g (bs++[b])=zAQ g bs++if b.1=b.2 then []else [b.1,b.2]:=by simp[zAQ]
def q4v(g:Int)(bs:List (Int×Int)):(zAQ g bs).length<=2*bs.length+1:=by
 induction bs with
 | nil=>simp[zAQ]
 | cons b r ih=>
  simp only[zAQ,zC,ZD,zD]at ih ⊢
  by_cases h:b.1=b.2
  ·rw[vG h,zS];omega
  ·rw[vH h,zC,zC,zS];omega
noncomputable def knw(g:Int)(bs:List (Int×Int)):List Int:=XX (zAQ g bs)
noncomputable def nbs(P:List Int):List (Int×Int):=P.zip (P.drop 1)
def q6h(P:List Int):(nbs P).length=P.length-1:=by
 unfold nbs;rw[List.length_zip,yy];omega
noncomputable def ovR(x:Int)(bs:List (Int×Int)):Nat:=bs.countP λb=>decide (b.1<x)&&decide (x<=b.2)
noncomputable def ovL(x:Int)(bs:List (Int×Int)):Nat:=bs.countP λb=>decide (b.2<x)&&decide (x<=b.1)
noncomputable def tri(x:Int×Int×Int):D:=.tup [.int x.1,.int x.2.1,.int x.2.2]
noncomputable def zBJ(K:List Int)(bs:List (Int×Int)):List (Int×Int×Int):=(nbs K).map λp=>(p.1,p.2,mx3 1 (ovR p.2 bs) (ovL p.2 bs))
def q3L{α:Type}{xs:List α}{i:Nat}{x:α}(h:xs[i]?=some x):xs.take (i+1)=xs.take i++[x]:=by
 rw[Z5,h];rfl
def q3E(a b:Int)(r:List Int):nbs (a::b::r)=(a,b)::nbs (b::r):=rfl
theorem q3M:∀{K:List Int},K.Pairwise (· < ·)->∀p∈nbs K,p.1∈K/\p.2∈K/\p.1<p.2/\∀y∈K,y<=p.1\/p.2<=y
 | [],_,p,h=>by cases h
 | [k],_,p,h=>by cases h
 | a::b::r,hp,p,h=>by
  rw[q3E]at h;have hab:a<b:=(zi.mp hp).1 b zJ;rcases zF.mp h with rfl|h
  ·refine⟨zJ,by simp,hab,λy hy=>?_⟩
   rcases zF.mp hy with rfl|hy
   ·left;exact yn _
   ·right
    rcases zF.mp hy with rfl|hy
    ·exact yn _
    ·exact xZ ((zi.mp (zi.mp hp).2).1 y hy)
  ·obtain⟨h1,h2,h3,h4⟩:=q3M (zi.mp hp).2 p h
   refine⟨zI _ h1,zI _ h2,h3,λy hy=>?_⟩;rcases zF.mp hy with rfl|hy
   ·left;exact xZ ((zi.mp hp).1 _ h1)
   ·exact h4 y hy
noncomputable def hiB(bs:List (Int×Int))(x:Int):Bool:=bs.any λb=>b.1 != b.2&&(decide (x<=b.1) || decide (x<=b.2))
noncomputable def pu(bs:List (Int×Int))(x:Int):Int:=if hiB bs x=true then mx3 1 (ovR x bs) (ovL x bs)else 0
noncomputable def yl(g:Int)(bs:List (Int×Int)):Int:=((zBJ (knw g bs) bs).map λp=>2*p.2.2*(p.2.1-p.1)).sum
def q0i{g x:Int}{bs:List (Int×Int)}:x∈knw g bs↔x=g\/∃b∈bs,b.1≠b.2/\(x=b.1\/x=b.2):=by
 unfold knw;rw[q4I];unfold zAQ;rw[zF,YI];refine or_congr Iff.rfl ⟨λ⟨b,hb,hx⟩=>?_,λ⟨b,hb,h1,h2⟩=>⟨b,hb,?_⟩⟩
 ·by_cases h:b.1=b.2
  ·rw[vG h]at hx;cases hx
  ·rw[vH h]at hx;exact⟨b,hb,h,by simpa using hx⟩
 ·rw[vH h1];simpa using h2
def qd1{x y:Int}{bs:List (Int×Int)}(hxy:x<=y)(h:∀b∈bs,b.1≠b.2->(b.1<x\/y<=b.1)/\(b.2<x\/y<=b.2)):ovR x bs=ovR y bs/\ovL x bs=ovL y bs:=by
 constructor
 ·unfold ovR
  refine YB λb hb=>?_
  by_cases e:b.1=b.2
  ·simp;omega
  ·have:=h b hb e;simp;omega
 ·unfold ovL
  refine YB λb hb=>?_
  by_cases e:b.1=b.2
  ·simp;omega
  ·have:=h b hb e;simp;omega
def q6v{bs:List (Int×Int)}{x:Int}:hiB bs x=true↔∃b∈bs,b.1≠b.2/\(x<=b.1\/x<=b.2):=by unfold hiB;simp
def qeH{g:Int}{bs:List (Int×Int)}(h:∀b∈bs,g<=b.1/\g<=b.2):∃r,knw g bs=g::r:=by
 have hm:g∈knw g bs:=q0i.mpr (.inl rfl);have hr:(knw g bs).Pairwise (· < ·):=q2Y;have hg:∀y∈knw g bs,g<=y:=λy hy=>by
  rcases q0i.mp hy with rfl|⟨b,hb,_,h2⟩
  ·exact yn _
  ·have:=h b hb;omega
 cases e:knw g bs with
 | nil=>rw[e]at hm;cases hm
 | cons k r=>
  rw[e]at hm hr hg;have h1:=hg k zJ;rcases zF.mp hm with rfl|hm
  ·exact⟨r,rfl⟩
  ·have:=(zi.mp hr).1 g hm;omega
theorem bound(g:Int):∀bs:List (Int×Int),∃N:Nat,∀b∈bs,b.1<=g+N/\b.2<=g+N
 | []=>⟨0,by simp⟩
 | b::r=>by
  obtain⟨N,h⟩:=bound g r;refine⟨N+(b.1-g).toNat+(b.2-g).toNat,λc hc=>?_⟩;rcases zF.mp hc with rfl|hc
  ·omega
  ·have:=h c hc;omega
def q91{bs:List (Int×Int)}(hb:bs.length<=20):plL (.lst (bs.map pairD2))=true:=by
 show ((bs.map pairD2).all plB&&decide ((bs.map pairD2).length<=20))=true;rw[wN,zB,vQ hb,yN];exact yz.mpr λ_ _=>rfl
def qdn{g:Int}{bs:List (Int×Int)}(hb:bs.length<=20)(h:∀b∈bs,g<=b.1/\g<=b.2):q2r [.int g,.lst (bs.map pairD2)]=↥(.bl true):=by
 rw[q6y rfl (q91 hb)];have:zBT (.int g) (.lst (bs.map pairD2))=true:=by
  show (bs.map pairD2).all (zBG g)=true;rw[wN];refine yz.mpr λb hb=>?_;show (decide (g<=b.1)&&decide (g<=b.2))=true;rw[vQ (h b hb).1,vQ (h b hb).2];rfl
 rw[this]
def zBm{g:Int}{bs:List (Int×Int)}(hb:bs.length<=20)(h:∀b∈bs,g<=b.1/\g<=b.2):qi [.int g,.lst (bs.map pairD2)]=some (.sh .non):=by
 unfold qi q3A;simp_arith[qdn hb h]
def qbd{g:Int}{bs:List (Int×Int)}(hb:bs.length<=20):q22 [.int g,.lst (bs.map pairD2)]=some (.fr ((knw g bs).map D.int)):=by
 unfold q22 q41;simp_arith[qE];obtain⟨ω',e,x3,x4,rfl⟩:=q2V (g:=gT 2 (Yw (gN 3) (Yw (gN 4) Xz))) (b:=q3K) pairD2 bs
  (λpre ω=>∃x3 x4,ω=[↥(.int g),↥(.lst (bs.map pairD2)),some (.ow ((zAQ g pre).map D.int)),x3,x4])
  (λpre p post ω hd ⟨x3,x4,hω⟩=>by
   subst hω;refine⟨_,rfl,?_⟩;have hl:(zAQ g pre).length<=1000:=by
    have:=uG wH hd;rw[zD,zC]at this;have:=q4v g pre;omega
   unfold q3K;rw[qcQ]
   by_cases z:p.1=p.2
   ·have z':(p.1==p.2)=true:=by simpa using z
    rw[vG z,yu];simp_arith[z'];exact⟨_,_,rfl⟩
   ·have z':(p.1==p.2)=false:=by simpa using z
    rw[vH z];have e1:=q0h (i:=2) (ω:=[↥(.int g),↥(.lst (bs.map pairD2)),some (.ow ((zAQ g pre).map D.int)),↥(.int p.1),↥(.int p.2)]) (ds:=(zAQ g pre).map D.int) (ds':=[.int p.1,.int p.2]) (by rw[zB,zC,zz];omega);simp_arith[z',e1,zk];exact⟨_,_,rfl⟩)
  (ω:=[↥(.int g),↥(.lst (bs.map pairD2)),some (.ow [.int g]),none,none]) ⟨none,none,rfl⟩
 simp_arith[e];have hlen:(zAQ g bs).length<64:=by have:=q4v g bs;omega
 have:WB (vOf (Yn 2)) [↥(.int g),↥(.lst (bs.map pairD2)),some (.ow ((zAQ g bs).map D.int)),x3,x4]=some (.fr ((knw g bs).map D.int)):=by
  show zAV (.lst ((zAQ g bs).map D.int))=_;show (intsOf ((zAQ g bs).map D.int)).bind _=_;rw[q2w];exact vG (qfR hlen)
 simp_arith[this]
theorem qap:∀(xs ys:List Int),zBF (xs.map D.int) (ys.map D.int)=(xs.zip ys).map Yv
 | x::xs,y::ys=>by show D.tup [.int x,.int y]::zBF (xs.map D.int) (ys.map D.int)=_;rw[qap xs ys];rfl
 | [],ys=>by cases ys <;> rfl
 | x::xs,[]=>rfl
def qfw(ds:List D):cutD ds (some 1) none=ds.drop 1:=by
 unfold cutD;have e:HT.sIx ds.length 0 (some 1)=min 1 ds.length:=HT.q59 ds.length 0 1;rw[e,HT.q6K];cases ds with
 | nil=>rfl
 | cons d r=>
  have:min 1 (d::r).length=1:=by rw[zC];omega
  rw[this];show List.take _ r=r;rw[zC,xm,wg]
def max3T(x y:Int):zBO [.tup [.int x,.int y,.int 1]]=↥(.int (zA0 [x,y,1])):=qai (ns:=[x,y,1]) (by simp)
def qg5(x y:Int):zA0 [x,y,1]=mx3 1 x y:=by
 show (if x<=(if y<=1 then 1 else y)then (if y<=1 then 1 else y)else x)=_;unfold mx3
 split <;> split <;> split <;> split <;> omega
def qcm{K:List Int}{bs:List (Int×Int)}{p:Int×Int}(hp:p.1<p.2)(h:∀b∈bs,b.1≠b.2->(b.1<=p.1\/p.2<=b.1)/\(b.2<=p.1\/p.2<=b.2)):rts bs p=ovR p.2 bs/\lfs bs p=ovL p.2 bs:=by
 have e1:(bs.filter λb=>over b.1 b.2 p)=bs.filter λb=>decide (b.1<p.2)&&decide (p.2<=b.2):=by
  refine YC λb hb=>?_;show (decide (b.1<=p.1)&&decide (p.2<=b.2))=_
  by_cases z:b.1=b.2
  ·rw[z];by_cases h1:b.2<=p.1 <;> by_cases h2:p.2<=b.2 <;> by_cases h3:b.2<p.2 <;> simp[h1,h2,h3] <;> omega
  ·have:=h b hb z
   by_cases h1:b.1<=p.1 <;> by_cases h2:p.2<=b.2 <;> by_cases h3:b.1<p.2 <;> simp[h1,h2,h3] <;> omega
 have e2:(bs.filter λb=>over b.2 b.1 p)=bs.filter λb=>decide (b.2<p.2)&&decide (p.2<=b.1):=by
  refine YC λb hb=>?_;show (decide (b.2<=p.1)&&decide (p.2<=b.1))=_
  by_cases z:b.1=b.2
  ·rw[z];by_cases h1:b.2<=p.1 <;> by_cases h2:p.2<=b.2 <;> by_cases h3:b.2<p.2 <;> simp[h1,h2,h3] <;> omega
  ·have:=h b hb z
   by_cases h1:b.2<=p.1 <;> by_cases h2:p.2<=b.1 <;> by_cases h3:b.2<p.2 <;> simp[h1,h2,h3] <;> omega
 unfold rts lfs ovR ovL;rw[e1,e2,wo,wo];exact⟨rfl,rfl⟩
def q3F(g:Int)(bs:List (Int×Int)):(knw g bs).Pairwise (· < ·):=q2Y
def qcV{g:Int}{bs:List (Int×Int)}{p:Int×Int}(hb:bs.length<=20)(hp:p∈nbs (knw g bs)):q1U [.lst (bs.map pairD2),Yv p]=↥(.int (mx3 1 (ovR p.2 bs) (ovL p.2 bs))):=by
 obtain⟨h1,h2,h3,h4⟩:=q3M (q3F g bs) p hp;obtain⟨r1,r2⟩:=qcm (K:=knw g bs) h3 (λb hb z=>⟨h4 b.1 (q0i.mpr (.inr ⟨b,hb,z,.inl rfl⟩)),h4 b.2 (q0i.mpr (.inr ⟨b,hb,z,.inr rfl⟩))⟩);have c:=q7h (bs:=bs) (q:=p) ∅;rw[show (bs.map Yv)=bs.map pairD2 from rfl,r1,r2]at c;unfold q1U q3P;have ha:X5 (.tup [.int (ovR p.2 bs),.int (ovL p.2 bs)]) (.tup [.int 1])=↥(.tup [.int (ovR p.2 bs),.int (ovL p.2 bs),.int 1]):=rfl;simp_arith[c,ha,max3T,qg5]
def q60(g:Int)(bs:List (Int×Int))(hb:bs.length<=20)(h:∀b∈bs,g<=b.1/\g<=b.2):q1w [.int g,.lst (bs.map pairD2)]=some (.fr ((zBJ (knw g bs) bs).map tri)):=by
 unfold q1w q6V;simp_arith[zBm hb h,qbd hb,qbn];have hz:zBF ((knw g bs).map D.int) (cutD ((knw g bs).map D.int) (some 1) none)=(nbs (knw g bs)).map Yv:=by
  rw[qfw,<- Zp,qap];rfl
 have hlen:((nbs (knw g bs)).map Yv).length<=1000000:=by
  rw[zB,q6h];have h1:(knw g bs).length<=(zAQ g bs).length:=q3X _;have:=q4v g bs;omega
 have cm:XH (gN 0) XF q4J ((nbs (knw g bs)).map Yv) [none,↥(.lst (bs.map pairD2))]=some ((zBJ (knw g bs) bs).map tri):=by
  unfold zBJ;rw[xU];have:=q1T (f:=q4J) Yv (λp:Int×Int=>tri (p.1,p.2,mx3 1 (ovR p.2 bs) (ovL p.2 bs))) (nbs (knw g bs)) (ω:=[none,↥(.lst (bs.map pairD2))]) (i:=0) (λp hp=>by
   have t:=qcV hb hp;have ha:∀x:Int,X5 (Yv p) (.tup [.int x])=↥(tri (p.1,p.2,x)):=λ_=>rfl;unfold q4J;show dOf _ [↥(Yv p),↥(.lst (bs.map pairD2))]=_;simp_arith[t,ha])
  exact this
 simp_arith[hz,Xk hlen,inW,zAg,cm]
theorem zCR(F:Int×Int×Int->D){f:FD}:∀(xs:List (Int×Int×Int)),(∀x∈xs,f [↥(.int x.1),↥(.int x.2.1),↥(.int x.2.2)]=some (F x))->∀a b c:Option W,XH (gT 3 (Yw (gN 0) (Yw (gN 1) (Yw (gN 2) Xz)))) XF f (xs.map tri) [a,b,c]=some (xs.map F)
 | [],_,_,_,_=>rfl
 | x::xs,h,a,b,c=>by
  have h1:=h x (by simp);have h2:=zCR F xs (λy hy=>h y (by simp[hy])) ↥(.int x.1) ↥(.int x.2.1) ↥(.int x.2.2);have z:XH (gT 3 (Yw (gN 0) (Yw (gN 1) (Yw (gN 2) Xz)))) XF f ((x::xs).map tri) [a,b,c]=(f [↥(.int x.1),↥(.int x.2.1),↥(.int x.2.2)]).bind λd=>(XH (gT 3 (Yw (gN 0) (Yw (gN 1) (Yw (gN 2) Xz)))) XF f (xs.map tri) [↥(.int x.1),↥(.int x.2.1),↥(.int x.2.2)]).map (d::·):=rfl;rw[z,h1,h2];rfl
def qbK(g:Int)(bs:List (Int×Int))(hb:bs.length<=20)(h:∀b∈bs,g<=b.1/\g<=b.2):q1J [.int g,.lst (bs.map pairD2)]=↥(.int (yl g bs)):=by
 unfold q1J q4i;have hlen:((zBJ (knw g bs) bs).map tri).length<=1000000:=by
  rw[zB];unfold zBJ;rw[zB,q6h];have h1:(knw g bs).length<=(zAQ g bs).length:=q3X _;have:=q4v g bs;omega
 have hsm:∀x∈zBJ (knw g bs) bs,0<=x.2.2/\x.2.2<=30:=λx hx=>by
  unfold zBJ at hx;obtain⟨q,_,rfl⟩:=xC.mp hx;have l1:ovR q.2 bs<=bs.length:=xn;have l2:ovL q.2 bs<=bs.length:=xn;show 0<=mx3 1 _ _/\mx3 1 _ _<=30;unfold mx3
  split <;> split <;> omega
 have cm:=zCR (f:=q43) (λx=>D.int (2*x.2.2*(x.2.1-x.1))) (zBJ (knw g bs) bs) (λx hx=>by
  have hs:=hsm x hx;have m0:zCA (.int 2) (.int (x.2.1-x.1))=↥(.int (2*(x.2.1-x.1))):=q9k (by decide) (by decide);have m1:zCA (.int (2*(x.2.1-x.1))) (.int x.2.2)=↥(.int (2*x.2.2*(x.2.1-x.1))):=by
   rw[qdf ∅ ∅,Int.mul_right_comm]
  unfold q43;simp_arith[m0,m1]) none none none
 have hs:bSum [.lst ((zBJ (knw g bs) bs).map λx=>D.int (2*x.2.2*(x.2.1-x.1)))]=↥(.int (yl g bs)):=by
  exact qfY (λx:Int×Int×Int=>2*x.2.2*(x.2.1-x.1)) (zBJ (knw g bs) bs)
 simp_arith[q60 g bs hb h,Xk hlen,inW,zAg,zQ,za,cm,hs]
inductive Mv where
 | go (p q:Int)|box (k:Nat) (p q:Int)
noncomputable def mvD:Mv->D
 | .go p q=>.tup [.str "go", .int p,.int q]
 | .box k p q=>.tup [.str "box", .int (k:Int),.int p,.int q]
noncomputable def Mv.frm:Mv->Int
 | .go p _=>p
 | .box _ p _=>p
noncomputable def Mv.to:Mv->Int
 | .go _ q=>q
 | .box _ _ q=>q
noncomputable def ends(h:Int):List Mv->Option Int
 | []=>some h
 | m::r=>if m.frm=h then ends m.to r else none
def q8I{α:Type}{xs:List α}{k:Int}(h:0<=k):cutD xs none (some k)=xs.take k.toNat:=by
 unfold cutD;have e:HT.sIx xs.length xs.length (some k)=min k.toNat xs.length:=by
  have:=HT.q59 xs.length xs.length k.toNat;rw[show ((k.toNat:Nat):Int)=k by omega]at this;exact this
 rw[HT.q6K,e,Nat.sub_zero,Ya,List.take_eq_take_iff];omega
def q8Y{α:Type}{xs:List α}{k:Int}(h:0<=k):cutD xs (some k) none=xs.drop k.toNat:=by
 unfold cutD;have e:HT.sIx xs.length 0 (some k)=min k.toNat xs.length:=by
  have:=HT.q59 xs.length 0 k.toNat;rw[show ((k.toNat:Nat):Int)=k by omega]at this;exact this
 rw[HT.q6K,e,xR (by rw[yy];omega)];rcases Nat.le_total k.toNat xs.length with z|z
 ·rw[YO z]
 ·rw[Nat.min_eq_right z,ZI,ZU z]
noncomputable def sts(as:List (Int×Int)):List Int:=as.map (·.1)
noncomputable def gls(as:List (Int×Int)):List Int:=as.map (·.2)
theorem q8P:∀(a b:List Int),PyData.eqvAll (D.pys (a.map D.int)) (D.pys (b.map D.int))=decide (a=b)
 | [],[]=>rfl
 | [],_::_=>rfl
 | _::_,[]=>rfl
 | x::a,y::b=>by
  show (x==y&&PyData.eqvAll (D.pys (a.map D.int)) (D.pys (b.map D.int)))=_;rw[q8P a b]
  by_cases z:x=y
  ·subst z
   simp
  ·have:(x==y)=false:=by simpa using z
   rw[this];simp[z]
def q8G(a:List Int):shp (.lst (a.map D.int))=true:=qer 2 (by decide) λd hd=>by
 obtain⟨m,_,rfl⟩:=xC.mp hd;exact⟨rfl,by show 0<=2;decide⟩
def q8K(a b:List Int):oEq false (.lst (a.map D.int)) (.lst (b.map D.int))=↥(.bl (decide (a=b))):=by
 unfold oEq;rw[q8G,q8G];show some (R.sh (.bl (PyData.eqvAll (D.pys (a.map D.int)) (D.pys (b.map D.int)))))=_;rw[q8P]
def qaw{as:List (Int×Int)}(hl:as.length<=9000):qy [.lst (as.map pairD2)]=↥(.bl (decide ((sts as).Perm (gls as)))):=by
 unfold qy q2d;have hl2:(as.map pairD2).length<=1000000:=by rw[zB];omega
 have c1:=q1T (i:=0) (f:=q1Y) pairD2 (λp=>D.int p.1) as (ω:=[none]) (λp _=>by
  unfold q1Y pairD2;simp_arith[qE])
 have c2:=q1T (i:=0) (f:=q1X) pairD2 (λp=>D.int p.2) as (ω:=[none]) (λp _=>by
  unfold q1X pairD2;simp_arith[qE])
 have e1:(as.map λp=>D.int p.1)=(sts as).map D.int:=by unfold sts;rw[xU];rfl
 have e2:(as.map λp=>D.int p.2)=(gls as).map D.int:=by unfold gls;rw[xU];rfl
 rw[e1]at c1;rw[e2]at c2;have s1:=q0V (ns:=sts as) (by unfold sts;rw[zB];omega);have s2:=q0V (ns:=gls as) (by unfold gls;rw[zB];omega);have q:oEq false (.lst ((Y7 (sts as)).map D.int)) (.lst ((Y7 (gls as)).map D.int))=↥(.bl (decide ((sts as).Perm (gls as)))):=by
  rw[q8K,decide_eq_decide.mpr (qcW (l:=sts as) (m:=gls as))]
 simp_arith[Xk hl2,inW,zAg,c1,c2,s1,s2,q]
noncomputable def starts(bs:List (Int×Int)):List Int:=bs.map (·.1)
noncomputable def goals(bs:List (Int×Int)):List Int:=bs.map (·.2)
def qe8{f:FD}{bs:List (Int×Int)}(h:∀b:Int×Int,f [↥(Yv b)]=some (.int b.1)):XH (gN 0) XF f (bs.map Yv) [none]=some ((starts bs).map D.int):=by
 have:=q1T (i:=0) (f:=f) Yv (λb=>D.int b.1) bs (ω:=[none]) λb _=>h b;rw[this];unfold starts;rw[xU];rfl
def qel{f:FD}{bs:List (Int×Int)}(h:∀b:Int×Int,f [↥(Yv b)]=some (.int b.2)):XH (gN 0) XF f (bs.map Yv) [none]=some ((goals bs).map D.int):=by
 have:=q1T (i:=0) (f:=f) Yv (λb=>D.int b.2) bs (ω:=[none]) λb _=>h b;rw[this];unfold goals;rw[xU];rfl
def qcg{gate:Int}{bs:List (Int×Int)}(hb:bs.length<=20)(hbs:∀b∈bs,gate<=b.1/\gate<=b.2):qi [.int gate,.lst (bs.map Yv)]=some (.sh .non):=by
 have pb:(bs.map Yv).all plB=true:=by
  rw[wN];exact yz.mpr λb _=>rfl
 have pL:plL (.lst (bs.map Yv))=true:=by
  show ((bs.map Yv).all plB&&decide ((bs.map Yv).length<=20))=true;rw[pb,zB];simp;omega
 have e:=q6y (g:=.int gate) (b:=.lst (bs.map Yv)) rfl pL;have ok:zBT (.int gate) (.lst (bs.map Yv))=true:=by
  show (bs.map Yv).all (zBG gate)=true;rw[wN];refine yz.mpr λb hb=>?_;obtain⟨a1,a2⟩:=hbs b hb;show (decide (gate<=b.1)&&decide (gate<=b.2))=true;simp;omega
 rw[ok]at e;unfold qi q3A;simp_arith[e]
noncomputable def crR(x:Int)(ms:List Mv):Nat:=ms.countP λm=>decide (m.frm<x)&&decide (x<=m.to)
noncomputable def crL(x:Int)(ms:List Mv):Nat:=ms.countP λm=>decide (m.to<x)&&decide (x<=m.frm)
def q4B(x:Int)(m:Mv)(ms:List Mv):(crR x (m::ms):Int)=(if m.frm<x/\x<=m.to then 1 else 0)+crR x ms:=by
 unfold crR;rw[xB]
 by_cases z:m.frm<x/\x<=m.to
 ·rw[vG z,vG ⇑z];omega
 ·rw[vH z,vH ⇑z];omega
def q4x(x:Int)(m:Mv)(ms:List Mv):(crL x (m::ms):Int)=(if m.to<x/\x<=m.frm then 1 else 0)+crL x ms:=by
 unfold crL;rw[xB]
 by_cases z:m.to<x/\x<=m.frm
 ·rw[vG z,vG ⇑z];omega
 ·rw[vH z,vH ⇑z];omega
def qfU{g:Int}{bs:List (Int×Int)}(hc:qi [.int g,.lst (bs.map Yv)]=some (.sh .non))(hb:bs.length<=30):∃o,ql [.int g,.lst (bs.map Yv),.lst []]=some o:=by
 have hl:(bs.map Yv).length<=1000000:=by rw[zB];omega
 have c1:=qe8 (f:=q2S) (bs:=bs) (λb=>by unfold q2S Yv;simp_arith[qE]);have c2:=qel (f:=q2T) (bs:=bs) (λb=>by unfold q2T Yv;simp_arith[qE]);have n0:([]:List D).length<=1000000:=yq _;have ld:q3f [.int g,.int g,.lst []]=↥(.bl true):=by
  unfold q3f q6w;have f0:∀ω,Wy (gN 4) q2X [] ω=some (.nx,ω):=λ_=>rfl;simp_arith[f0]
 have br:∃b,q1C [.lst (bs.map Yv),.lst []]=↥(.bl b):=by
  unfold q1C q35;have f0:∀ω,Wy (gN 3) q40 [] ω=some (.nx,ω):=λ_=>rfl;simp_arith[Xk hl,inW,zAg,c1,f0,c2,q8K];exact⟨_,rfl⟩
 obtain⟨b,br⟩:=br;have cn:∀ω,XH (gN 0) XF q0T [] ω=some []:=λ_=>rfl;have b0:zB0 [.lst []]=↥(.bl true):=rfl;unfold ql q1V;simp_arith[hc,Xk n0,cn,b0,ld,br];exact⟨_,rfl⟩
def qgs{g:Int}{bs:List (Int×Int)}(hc:qi [.int g,.lst (bs.map Yv)]=some (.sh .non)):∃o,ql [.int g,.lst (bs.map Yv),.lst [.tup [.str "go", .int 0,.int 1]]]=some o:=by
 have n1:[D.tup [.str "go", .int 0,.int 1]].length<=1000000:=by simp only[zC,zS];omega
 have gq:q3G [.tup [.str "go", .int 0,.int 1]]=some (.sh (.bl true)):=by
  have s0:oEq true (.str "go") (.str "go")=some (.sh (.bl false)):=q9r ⋯;have w0:=q2P (d:=.int 0) rfl;have w1:=q2P (d:=.int 1) rfl;unfold q3G q7N;simp_arith[s0,w0,w1];simp_arith[show (((0+1+1+1:Nat):Int)==3)=true from rfl,s0,w0,w1,XL]
 have cm:XH (gN 0) XF q0T [.tup [.str "go", .int 0,.int 1]] [none,some (.sh (.lst (bs.map Yv)))]=some [.bl true]:=by
  have:=q1T (i:=0) (f:=q0T) (λd:D=>d) (λ_=>D.bl true) [.tup [.str "go", .int 0,.int 1]] (ω:=[none,some (.sh (.lst (bs.map Yv)))]) (λd hd=>by
   rw[zb.mp hd];unfold q0T;simp_arith[gq])
  exact this
 have b0:zB0 [.lst [.bl true]]=some (.sh (.bl true)):=rfl;have ld:q3f [.int g,.int g,.lst [.tup [.str "go", .int 0,.int 1]]]=some (.sh (.bl false)):=by
  unfold q3f q6w;have i1:oIx (.tup [.str "go", .int 0,.int 1]) (.int (-2))=some (.sh (.int 0)):=rfl;have i2:oIx (.tup [.str "go", .int 0,.int 1]) (.int (-1))=some (.sh (.int 1)):=rfl
  by_cases z:g=0
  ·subst z
   have f0:Wy (gN 4) q2X [.tup [.str "go", .int 0,.int 1]] [some (.sh (.int 0)),some (.sh (.int 0)),some (.sh (.lst [.tup [.str "go", .int 0,.int 1]])),some (.sh (.int 0)),none]=some (.nx,[some (.sh (.int 0)),some (.sh (.int 0)),some (.sh (.lst [.tup [.str "go", .int 0,.int 1]])),some (.sh (.int 1)),some (.sh (.tup [.str "go", .int 0,.int 1]))]):=by
    rw[Wy];show Yg (q2X [some (.sh (.int 0)),some (.sh (.int 0)),some (.sh (.lst [.tup [.str "go", .int 0,.int 1]])),some (.sh (.int 0)),some (.sh (.tup [.str "go", .int 0,.int 1]))]) _=_;unfold q2X;simp_arith[i1,i2]
   simp_arith[f0]
  ·have z':(0==g)=false:=by simpa using λe:0=g=>z e.symm
   have f0:Wy (gN 4) q2X [.tup [.str "go", .int 0,.int 1]] [some (.sh (.int g)),some (.sh (.int g)),some (.sh (.lst [.tup [.str "go", .int 0,.int 1]])),some (.sh (.int g)),none]=some (.rt (.sh (.bl false)),[some (.sh (.int g)),some (.sh (.int g)),some (.sh (.lst [.tup [.str "go", .int 0,.int 1]])),some (.sh (.int g)),some (.sh (.tup [.str "go", .int 0,.int 1]))]):=by
    rw[Wy];show Yg (q2X [some (.sh (.int g)),some (.sh (.int g)),some (.sh (.lst [.tup [.str "go", .int 0,.int 1]])),some (.sh (.int g)),some (.sh (.tup [.str "go", .int 0,.int 1]))]) _=_;unfold q2X;simp_arith[i1,z']
   simp_arith[f0]
 unfold ql q1V;simp_arith[hc,Xk n1,inW,zAg,cm,b0,ld];exact⟨_,rfl⟩
def qfA{g:Int}{bs:List (Int×Int)}(hc:qi [.int g,.lst (bs.map Yv)]=some (.sh .non)):∃o,ql [.int g,.lst (bs.map Yv),.lst [.non]]=some o:=by
 have n1:[D.non].length<=1000000:=by simp only[zC,zS];omega
 have gq:q3G [.non]=↥(.bl false):=rfl;have cf:q2z [.non,.lst (bs.map Yv)]=↥(.bl false):=rfl;have cm:XH (gN 0) XF q0T [.non] [none,↥(.lst (bs.map Yv))]=some [.bl false]:=by
  have:=q1T (i:=0) (f:=q0T) (λd:D=>d) (λ_=>D.bl false) [.non] (ω:=[none,↥(.lst (bs.map Yv))]) (λd hd=>by
   rw[zb.mp hd];unfold q0T q29 q3t;simp_arith[gq,cf])
  exact this
 have b0:zB0 [.lst [.bl false]]=↥(.bl false):=rfl;unfold ql q1V;simp_arith[hc,Xk n1,inW,zAg,cm,b0];exact⟨_,rfl⟩
def q3I(x:Int)(a b:List Mv):crR x (a++b)=crR x a+crR x b:=Zv
def q3H(x:Int)(a b:List Mv):crL x (a++b)=crL x a+crL x b:=Zv
noncomputable def wcK:Nat->List (Int×Int)->List Mv
 | _,[]=>[]
 | k,b::r=>(if b.1=b.2 then []else [.box k b.1 b.2])++wcK (k+1) r
theorem qdM(x:Int):∀(bs:List (Int×Int))(k:Nat),crR x (wcK k bs)=ovR x bs/\crL x (wcK k bs)=ovL x bs
 | [],_=>⟨rfl,rfl⟩
 | b::r,k=>by
  have ih:=qdM x r (k+1);unfold wcK;rw[q3I,q3H,ih.1,ih.2];unfold ovR ovL;rw[xB,xB]
  by_cases z:b.1=b.2
  ·rw[vG z]
   have n1:¬((decide (b.1<x)&&decide (x<=b.2))=true):=by simp;omega
   have n2:¬((decide (b.2<x)&&decide (x<=b.1))=true):=by simp;omega
   rw[vH n1,vH n2];exact⟨zr _,zr _⟩
  ·rw[vH z]
   unfold crR crL;rw[xB,YR,xB,YR];exact⟨by show 0+_+_=_;rw[zr,Z1];rfl,by show 0+_+_=_;rw[zr,Z1];rfl⟩
noncomputable def tmG(bs:List (Int×Int))(p:Int×Int):Int:=mx3 1 (ovR p.2 bs) (ovL p.2 bs)
noncomputable def emG(bs:List (Int×Int))(p:Int×Int):List Mv:=zj (tmG bs p-ovR p.2 bs).toNat (.go p.1 p.2)++zj (tmG bs p-ovL p.2 bs).toNat (.go p.2 p.1)
noncomputable def emM(g:Int)(bs:List (Int×Int)):List Mv:=(nbs (knw g bs)).flatMap (emG bs)
def qaY(bs:List (Int×Int))(p:Int×Int):(ovR p.2 bs:Int)<=tmG bs p/\(ovL p.2 bs:Int)<=tmG bs p/\1<=tmG bs p:=by
 unfold tmG mx3;repeat' split
 all_goals omega
def qfp{bs:List (Int×Int)}{p:Int×Int}(hp:p.1<p.2)(x:Int):(crR x (emG bs p):Int)=(if p.1<x/\x<=p.2 then tmG bs p-ovR p.2 bs else 0)/\(crL x (emG bs p):Int)=(if p.1<x/\x<=p.2 then tmG bs p-ovL p.2 bs else 0):=by
 have t:=qaY bs p;unfold emG;rw[q3I,q3H];unfold crR crL;rw[wF,wF,wF,wF];have a1:(decide ((Mv.go p.1 p.2).frm<x)&&decide (x<=(Mv.go p.1 p.2).to))=(decide (p.1<x)&&decide (x<=p.2)):=rfl;have a2:(decide ((Mv.go p.2 p.1).frm<x)&&decide (x<=(Mv.go p.2 p.1).to))=(decide (p.2<x)&&decide (x<=p.1)):=rfl;have a3:(decide ((Mv.go p.1 p.2).to<x)&&decide (x<=(Mv.go p.1 p.2).frm))=(decide (p.2<x)&&decide (x<=p.1)):=rfl;have a4:(decide ((Mv.go p.2 p.1).to<x)&&decide (x<=(Mv.go p.2 p.1).frm))=(decide (p.1<x)&&decide (x<=p.2)):=rfl;have no:¬((decide (p.2<x)&&decide (x<=p.1))=true):=by simp;omega
 rw[a1,a2,a3,a4,vH no,vH no]
 by_cases z:p.1<x/\x<=p.2
 ·have z':(decide (p.1<x)&&decide (x<=p.2))=true:=by simpa using z
  rw[vG z',vG z',vG z,vG z];omega
 ·have z':¬(decide (p.1<x)&&decide (x<=p.2))=true:=by simpa using z
  rw[vH z',vH z',vH z,vH z];omega
theorem qdG{bs:List (Int×Int)}(x:Int):∀{L:List (Int×Int)},(∀p∈L,p.1<p.2)->(crR x (L.flatMap (emG bs)):Int)=(L.map λp=>if p.1<x/\x<=p.2 then tmG bs p-ovR p.2 bs else 0).sum/\(crL x (L.flatMap (emG bs)):Int)=(L.map λp=>if p.1<x/\x<=p.2 then tmG bs p-ovL p.2 bs else 0).sum
 | [],_=>⟨rfl,rfl⟩
 | p::L,h=>by
  have ih:=qdG x (bs:=bs) (L:=L) λq hq=>h q (zI _ hq);have e:=qfp (bs:=bs) (h p zJ) x;rw[ZD,q3I,q3H,zO,zO,wU,wU,<- ih.1,<- ih.2,<- e.1,<- e.2];exact⟨∅,∅⟩
theorem q8N(x:Int):∀(r:List Int)(k:Int),(k::r).Pairwise (· < ·) ->
  (∃p∈nbs (k::r),p.1<x/\x<=p.2/\∀c:Int×Int->Int,((nbs (k::r)).map λp=>if p.1<x/\x<=p.2 then c p else 0).sum=c p) \/
  ((x<=k\/∀q∈k::r,q<x)/\∀c:Int×Int->Int,((nbs (k::r)).map λp=>if p.1<x/\x<=p.2 then c p else 0).sum=0)
 | [],k,_=>by
  right
  refine⟨?_,λc=>rfl⟩
  by_cases z:x<=k
  ·exact .inl z
  ·exact .inr λq hq=>by rw[zb.mp hq];omega
 | b::r,k,h=>by
  obtain⟨h1,h2⟩:=zi.mp h;have kb:=h1 b zJ;rcases q8N x r b h2 with⟨p,hp,p1,p2,p3⟩|⟨n1,n2⟩
  ·left
   have pb:=(q3M h2 p hp).1;have:b<=p.1:=by
    rcases zF.mp pb with q|q
    ·omega
    ·have:=(zi.mp h2).1 _ q;omega
   refine⟨p,by rw[q3E];exact zI _ hp,p1,p2,λc=>?_⟩;rw[q3E,zO,wU,p3 c,vH (by show ¬(k<x/\x<=b);omega),Int.zero_add]
  ·by_cases z:k<x/\x<=b
   ·left
    refine⟨(k,b),by rw[q3E];exact zJ,z.1,z.2,λc=>?_⟩;rw[q3E,zO,wU,n2 c,vG z,Int.add_zero]
   ·right
    refine⟨?_,λc=>?_⟩
    ·by_cases y:x<=k
     ·exact .inl y
     ·right
      intro q hq;rcases zF.mp hq with rfl|hq
      ·omega
      ·rcases n1 with n|n
       ·exact vK ⟨∅,n⟩ z
       ·exact n q hq
    ·rw[q3E,zO,wU,n2 c,vH z,Int.zero_add]
def qf4{g:Int}{bs:List (Int×Int)}(h:∀b∈bs,g<=b.1/\g<=b.2){x:Int}(hx:g<x):(crR x (wcK 0 bs++emM g bs):Int)=pu bs x/\(crL x (wcK 0 bs++emM g bs):Int)=pu bs x:=by
 have rise:=q3F g bs;have am:=q3M rise;have w:=qdM x bs 0;have e:=qdG x (bs:=bs) (L:=nbs (knw g bs)) λp hp=>(am p hp).2.2.1;obtain⟨r,er⟩:=qeH h;have pk:=q8N x r g (by rw[<- er];exact rise);rw[<- er]at pk;rw[q3I,q3H,w.1,w.2];have e1:(crR x (emM g bs):Int)=_:=e.1;have e2:(crL x (emM g bs):Int)=_:=e.2;rw[YT,YT,e1,e2];rcases pk with⟨p,hp,p1,p2,p3⟩|⟨n1,n2⟩
 ·obtain⟨k1,k2,k3,k4⟩:=am p hp
  rw[p3 λp=>tmG bs p-ovR p.2 bs,p3 λp=>tmG bs p-ovL p.2 bs];have oc:=qd1 (bs:=bs) p2 λb hb ne=>by
   have a:=k4 b.1 (q0i.mpr (.inr ⟨b,hb,ne,.inl rfl⟩));have c:=k4 b.2 (q0i.mpr (.inr ⟨b,hb,ne,.inr rfl⟩));omega
  have hi:hiB bs x=true:=by
   rcases q0i.mp k2 with q|⟨b,hb,ne,q⟩
   ·omega
   ·exact q6v.mpr ⟨b,hb,ne,∅⟩
  have pe:pu bs x=tmG bs p:=by unfold pu tmG;rw[vG hi,oc.1,oc.2]
  rw[pe,oc.1,oc.2];exact⟨∅,∅⟩
 ·have all:∀q∈knw g bs,q<x:=by
   rcases n1 with n|n
   ·omega
   ·exact n
  rw[n2 λp=>tmG bs p-ovR p.2 bs,n2 λp=>tmG bs p-ovL p.2 bs];have far:∀b∈bs,b.1≠b.2->b.1<x/\b.2<x:=λb hb ne=>⟨all _ (q0i.mpr (.inr ⟨b,hb,ne,.inl rfl⟩)),all _ (q0i.mpr (.inr ⟨b,hb,ne,.inr rfl⟩))⟩;have hi:¬hiB bs x=true:=λq=>by
   obtain⟨b,hb,ne,k⟩:=q6v.mp q;have:=far b hb ne;omega
  have o1:ovR x bs=0:=by
   unfold ovR;refine xj.mpr λb hb=>?_;simp only[zc,decide_eq_true_eq];intro k;have:=far b hb ∅;omega
  have o2:ovL x bs=0:=by
   unfold ovL;refine xj.mpr λb hb=>?_;simp only[zc,decide_eq_true_eq];intro k;have:=far b hb ∅;omega
  unfold pu;rw[vH hi,o1,o2];exact⟨rfl,rfl⟩
inductive Rch (es:List (Int×Int)) (a:Int):Int->Prop where
 | refl:Rch es a a
 | step {b c:Int}:Rch es a b->((b,c)∈es\/(c,b)∈es)->Rch es a c
def Rch.trans{es:List (Int×Int)}{a b c:Int}(h:Rch es a b)(h':Rch es b c):Rch es a c:=by
 induction h' with
 | refl=>exact h
 | step _ e ih=>exact ih.step e
theorem Rch.symm{es:List (Int×Int)}{a b:Int}(h:Rch es a b):Rch es b a:=by
 induction h with
 | refl=>exact .refl
 | step _ e ih=>exact(Rch.refl.step e.symm).trans ih
def Rch.inv{es:List (Int×Int)}{a:Int}(P:Int->Prop)(h0:P a)(hs:∀b c,P b->((b,c)∈es\/(c,b)∈es)->P c){c:Int}(h:Rch es a c):P c:=by
 induction h with
 | refl=>exact h0
 | step _ e ih=>exact hs _ _ ih e
theorem q6R{α β:Type}(f:α->β):∀(ks:List Int)(xs:List α)(k:Int),Y6 ks (xs.map f) k=(Y6 ks xs k).map f
 | [],_,_=>rfl
 | _::_,[],_=>rfl
 | k'::ks,x::xs,k=>by
  show (if k'=k then some (f x)else Y6 ks (xs.map f) k)=(if k'=k then some x else Y6 ks xs k).map f
  by_cases z:k'=k
  ·rw[vG z,vG z];rfl
  ·rw[vH z,vH z,q6R f ks xs k]
theorem q5M{α:Type}:∀{ks:List Int}{xs:List α}{k:Int},ks.length=xs.length->(Y6 ks xs k).isSome=decide (k∈ks)
 | [],[],_,_=>rfl
 | [],_::_,_,h=>by simp at h
 | _::_,[],_,h=>by simp at h
 | k'::ks,x::xs,k,h=>by
  show (if k'=k then some x else Y6 ks xs k).isSome=_
  by_cases z:k'=k
  ·rw[vG z];simp[z]
  ·have z':¬k=k':=λy=>z y.symm
   rw[vH z,q5M ⇑h];simp[z']
theorem q6Q:∀(ks:List Int)(xss:List (List Int))(a' b a:Int),Y6 ks (Wv ks xss a' b) a=(Y6 ks xss a).map λxs=>if a=a' then xs++[b]else xs
 | [],_,_,_,_=>rfl
 | _::_,[],_,_,_=>rfl
 | k::ks,x::xss,a',b,a=>by
  unfold Wv
  by_cases z:k=a'
  ·rw[vG z]
   show (if k=a then some (x++[b])else Y6 ks xss a)=(if k=a then some x else Y6 ks xss a).map _
   by_cases y:k=a
   ·rw[vG y,vG y,zd,vG (y▸z)]
   ·rw[vH y,vH y]
    have:¬a=a':=λe=>y (z.trans e.symm);cases Y6 ks xss a with
    | none=>rfl
    | some v=>rw[zd,vH this]
  ·rw[vH z]
   show (if k=a then some x else Y6 ks (Wv ks xss a' b) a)=(if k=a then some x else Y6 ks xss a).map _
   by_cases y:k=a
   ·have:¬a=a':=λe=>z (y.trans e)
    rw[vG y,vG y,zd,vH this]
   ·rw[vH y,vH y];exact q6Q ks xss a' b a
def qeb(ts:List Int)(a:Int)(ha:a∈ts):∀(es:List (Int×Int)),∃xs,Y6 ts (nbT ts es) a=some xs/\∀c,c∈xs↔((a,c)∈es\/(c,a)∈es):=by
 intro es;have key:∀(post pre:List (Int×Int))(T:List (List Int))(xs:List Int),Y6 ts T a=some xs->(∀c,c∈xs↔((a,c)∈pre\/(c,a)∈pre))->∃xs',Y6 ts (post.foldl (WC ts) T) a=some xs'/\∀c,c∈xs'↔((a,c)∈pre++post\/(c,a)∈pre++post):=by
  intro post
  induction post with
  | nil=>intro pre T xs h1 h2;exact⟨xs,h1,by rw[yu];exact h2⟩
  | cons e post ih=>
   intro pre T xs h1 h2;have h3:Y6 ts (WC ts T e) a=some (let ys:=if a=e.1 then xs++[e.2]else xs;if a=e.2 then ys++[e.1]else ys):=by
    unfold WC;rw[q6Q,q6Q,h1];rfl
   obtain⟨xs',g1,g2⟩:=ih (pre++[e]) (WC ts T e) _ h3 (λc=>by
    obtain⟨e1,e2⟩:=e;have m:∀x y:Int,(x,y)∈pre++[(e1,e2)]↔(x,y)∈pre\/(x=e1/\y=e2):=λx y=>by simp
    rw[m,m]
    by_cases y1:a=e1 <;> by_cases y2:a=e2 <;> simp[y1,y2,h2] <;> (try subst y1) <;> (try subst y2) <;> simp_all <;> grind)
   refine⟨xs',g1,λc=>?_⟩;rw[g2,zR];rfl
 have h0:Y6 ts (ts.map λ_=>([]:List Int)) a=some []:=by
  have:(Y6 ts (ts.map λ_=>([]:List Int)) a).isSome=true:=by rw[q5M (by rw[zB]),vQ ha]
  obtain⟨x,hx⟩:=xF.mp this;rw[q6R]at hx ⊢;obtain⟨y,hy,e⟩:=wZ.mp hx;rw[hy];rfl
 obtain⟨xs',g1,g2⟩:=key es [] _ [] h0 (by simp);exact⟨xs',g1,by simpa using g2⟩
theorem q8O{fc:FT}{fb:FS}(I:Nat->WSt->Prop)(J:WSt->Prop)(stop:∀n ω,I n ω->fc ω=some false->J ω)(turn:∀n ω,I n ω->∃k,fc ω=some k/\(k=true->∃ω',fb ω=some (.nx,ω')/\∃m,m<n/\I m ω')):
  ∀(N n:Nat)(ω:WSt),I n ω->n<N->∃ω',sWh N fc fb ω=some (.nx,ω')/\J ω'
 | 0,_,_,_,z=>vK z (wV _)
 | N+1,n,ω,h,z=>by
  obtain⟨k,e,t⟩:=turn n ω h;show ∃ω',((fc ω).bind _)=_/\_;rw[e];cases k with
  | false=>exact⟨ω,rfl,stop n ω h e⟩
  | true=>
   obtain⟨w,e2,m,hm,im⟩:=t rfl;rw[show ∀(f:Bool->Option (Out×WSt)),(some true).bind f=f true from λ_=>rfl,vG rfl,e2];exact q8O I J stop turn N m w im ∅
structure Ok (ts:List Int) (es:List (Int×Int)):Prop where
 nd:ts.Nodup
 inn:∀e∈es,e.1∈ts/\e.2∈ts
 l1:ts.length<64
 l2:es.length<=1000
noncomputable def nbD(ts:List Int)(es:List (Int×Int)):List D:=(nbT ts es).map λxs=>.lst (xs.map D.int)
def q8C{ts:List Int}{es:List (Int×Int)}(h:Ok ts es):q3s [.lst (ts.map D.int),.lst (es.map pairD2)]=↥(.dic ts (nbD ts es)):=by
 have hl:=h.l1;have e:nbM (ts.map D.int) (es.map pairD2)=some (.dic ts (nbD ts es)):=by
  unfold nbM;rw[q2w,q4U];exact vG ⟨h.nd,h.inn,∅,h.l2⟩
 show outM ((nbM (ts.map D.int) (es.map pairD2)).map _)=_;rw[e];rfl
def Rch.mem{ts:List Int}{es:List (Int×Int)}(h:Ok ts es){a c:Int}(ha:a∈ts)(r:Rch es a c):c∈ts :=
 r.inv (λx=>x∈ts) ha λb c _ e=>by
  rcases e with e|e
  ·exact(h.inn _ e).2
  ·exact(h.inn _ e).1
noncomputable def W7(F:List Int):List D:=F.map λ_=>.bl true
def qcr(F:List Int):F.length=(W7 F).length:=by unfold W7;rw[zB]
def qeQ{F:List Int}{c:Int}(h:c∉F):Wg F c=F++[c]/\putA F (W7 F) c (.bl true)=W7 (F++[c]):=by
 unfold Wg putA W7;rw[vH h,vH h,zk];exact⟨rfl,rfl⟩
theorem q3h:∀{F ts:List Int},F.Nodup->(∀c∈F,c∈ts)->F.length<=ts.length
 | [],_,_,_=>yq _
 | a::r,ts,hn,hs=>by
  obtain⟨h1,h2⟩:=xh.mp hn;have ha:=hs a zJ;have:=q3h (F:=r) (ts:=ts.erase a) h2 λc hc=>(List.mem_erase_of_ne (show c≠a from λz=>h1 (by rw[<- z];exact hc))).mpr (hs c (zI _ hc));rw[List.length_erase_of_mem ha]at this;have hp:0<ts.length:=List.length_pos_of_mem ha;rw[zC];omega
structure GI (ts:List Int) (es:List (Int×Int)) (a:Int) (F Wt:List Int):Prop where
 nd:F.Nodup
 st:a∈F
 wl:Wt.length<=F.length
 w:∀c∈Wt,c∈F
 r:∀c∈F,Rch es a c
 cl:∀b∈F,b∉Wt->∀c,((b,c)∈es\/(c,b)∈es)->c∈F
def q9H{ts:List Int}{es:List (Int×Int)}(h:Ok ts es){a:Int}(ha:a∈ts):
  ∃F:List Int,q3x [.int a,.dic ts (nbD ts es)]=some (.fr ((Y7 F).map D.int))/\F.Nodup/\∀c,c∈F↔Rch es a c:=by
 unfold q3x q5f;simp_arith[qE];have hl1:=h.l1;obtain⟨ω',e,F,x4,x5,rfl,gi⟩:=q8O (fc:=q3Q) (fb:=q4S)
  (λn ω=>∃(F Wt:List Int) (x4 x5:Option W),ω=[↥(.int a),↥(.dic ts (nbD ts es)),some (.od F (W7 F)),some (.ow (Wt.map D.int)),x4,x5]/\GI ts es a F Wt/\n=(ts.length-F.length)+Wt.length)
  (λω=>∃(F:List Int) (x4 x5:Option W),ω=[↥(.int a),↥(.dic ts (nbD ts es)),some (.od F (W7 F)),some (.ow []),x4,x5]/\GI ts es a F [])
  (λn ω ⟨F,Wt,x4,x5,hω,gi,hn⟩ hf=>by
   subst hω;unfold q3Q at hf;simp -implicitDefEqProofs only[qA,q0V,q0M,q0x,qZ,Ww,q0y,Wf,qR,q19,q0N,q0J,q1n,q1e,q1u,q0v,q1s,q0f,q06,q1l,q1o,q18,qM,q08,qE,qL,q00,q1c,q1y,qP,qV,Wp,q0L,q0E,q1h,q09,q03,q0n,qJ,q0Y,WK,q1B,q0o,q0h,qX,qY,q1p,Wd,q1k,q0d,qU,e_c,e_e,We,e_d,q07,q01,e_v,q0b,qT,q0a,Wa,WU,q0z,Wn,q0e,qQ,WR,WW,Ws,q1v,q1j,q16,Wu,q1t,WZ,Wm,WS,Wl,q17,qu,qB,qp,qr,qw,qt,e_t,Wz,q1f,q1i,WY,q1A,q0H,Wi,q0w,qS,qC,q0F,WV,q1d,q1a,Wk,q0O,q0D,q1m,q0I,Xk,q1z,Wh,q0g,q02,qW,qK,q0G,q0A,qO,q0K,q0B,q04,q0Z,q1q,q1x,at0,at1,at2,qz,q0c,Xq,entry,zX,zd,zC,zS,zB,zO,yA,zn,zg,zQ,za,ze,zf,zV,zU,yP,yQ,yh,yi,yj,yR,yS,yT,yU,yV,yW,yD,yX,z9,↓reduceIte,yY,yZ,yB,yN,zt,yb,yM,yc,yH,yG,zr,beq_self_eq_true,zW]at hf;cases Wt with
   | nil=>exact⟨F,x4,x5,rfl,gi⟩
   | cons w r=>cases hf)
  (λn ω ⟨F,Wt,x4,x5,hω,gi,hn⟩=>by
   subst hω;refine⟨!Wt.isEmpty,?_,λhk=>?_⟩
   ·unfold q3Q
    simp_arith[qE];cases Wt <;> rfl
   ·obtain⟨Wr,here,rfl⟩:∃Wr here,Wt=Wr++[here]:=by
     cases Wt with
     | nil=>cases hk
     | cons w r=>exact⟨(w::r).dropLast,(w::r).getLast (by simp),(wp _).symm⟩
    have hF:here∈F:=gi.w here (by simp);have hts:here∈ts:=(gi.r here hF).mem h ha;obtain⟨xs,v1,v2⟩:=qeb ts here hts es;have vd:Y6 ts (nbD ts es) here=some (.lst (xs.map D.int)):=by unfold nbD;rw[q6R,v1];rfl
    have ew:(Wr++[here]).map D.int=Wr.map D.int++[D.int here]:=by rw[zk];rfl
    have ffl:=q3h gi.nd λc hc=>(gi.r c hc).mem h ha;unfold q4S;rw[ew];simp_arith[qes,vd];obtain⟨ω',e,F',W',x5',rfl,i1,i2,i3,i4,i5,i6,i7,i8⟩:=q2V (g:=gN 5) (b:=q4X) D.int xs
     (λpre ω=>∃(F' W':List Int) (x5:Option W),ω=[↥(.int a),↥(.dic ts (nbD ts es)),some (.od F' (W7 F')),some (.ow (W'.map D.int)),↥(.int here),x5]/\F'.Nodup/\(∀c∈F,c∈F')/\(∀c∈Wr,c∈W')/\(∀c∈W',c∈F')/\(∀c∈F',Rch es a c)/\(∀c∈F',c∈F\/c∈W')/\(∀c∈pre,c∈F')/\F'.length+Wr.length=F.length+W'.length)
     (λpre c post ω hd ⟨F',W',x5,hω,i1,i2,i3,i4,i5,i6,i7,i8⟩=>by
      subst hω;refine⟨_,rfl,?_⟩;have hcx:c∈xs:=by rw[hd];simp
      have hcr:Rch es a c:=(gi.r here hF).step ((v2 c).mp hcx);have fl:=q3h i1 λc hc=>(i5 c hc).mem h ha;have hs:(Y6 F' (W7 F') c).isSome=decide (c∈F'):=q5M (qcr F');unfold q4X
      by_cases hc:c∈F'
      ·simp_arith[hs,hc,decide_true]
       exact⟨F',W',_,rfl,i1,i2,i3,i4,i5,i6,λx hx=>(by rcases zT.mp hx with y|y;exact i7 x y;cases zb.mp y;exact hc),i8⟩
      ·obtain⟨p1,p2⟩:=qeQ hc
       have hwl:(W'.map D.int).length<1000000:=by
        rw[zB];have:=gi.wl;rw[zD,zz]at this;omega
       simp_arith[hs,hc,decide_false,qeu (show F'.length<1000000 by omega),p1,p2,WK hwl];refine⟨F'++[c],W'++[c],_,by rw[zk];rfl,?_,λx hx=>yJ _ (i2 x hx),λx hx=>yJ _ (i3 x hx),λx hx=>?_,λx hx=>?_,λx hx=>?_,λx hx=>?_,by rw[zD,zD,zz];omega⟩
       ·rw[ZA]
        exact⟨i1,by simp,λx hx y hy z=>by cases zb.mp hy;exact hc (z▸hx)⟩
       ·rcases zT.mp hx with y|y
        ·exact yJ _ (i4 x y)
        ·exact zu _ y
       ·rcases zT.mp hx with y|y
        ·exact i5 x y
        ·cases zb.mp y;exact hcr
       ·rcases zT.mp hx with y|y
        ·exact(i6 x y).elim .inl λz=>.inr (yJ _ z)
        ·exact .inr (zu _ y)
       ·rcases zT.mp hx with y|y
        ·exact yJ _ (i7 x y)
        ·exact zu _ y)
     (ω:=[↥(.int a),↥(.dic ts (nbD ts es)),some (.od F (W7 F)),some (.ow (Wr.map D.int)),↥(.int here),x5])
     ⟨F,Wr,x5,rfl,gi.nd,λc hc=>hc,λc hc=>hc,λc hc=>gi.w c (yJ _ hc),gi.r,λc hc=>.inl hc,λc hc=>(by cases hc),rfl⟩
    have fl':=q3h i1 λc hc=>(i5 c hc).mem h ha;simp_arith[e];have wl0:=gi.wl;rw[zD,zz]at wl0;rw[zD,zz]at hn;refine⟨_,rfl,(ts.length-F'.length)+W'.length,∅,F',W',_,_,rfl,⟨i1,i2 a gi.st,∅,i4,i5,λb hb hw c hc=>?_⟩,rfl⟩
    ·rcases i6 b hb with y|y
     ·by_cases z:b=here
      ·subst z
       exact i7 c ((v2 c).mpr hc)
      ·exact i2 c (gi.cl b y (λm=>by rcases zT.mp m with m|m;exact hw (i3 b m);exact z (zb.mp m)) c hc)
     ·exact vK y hw)
  1000000 ((ts.length-1)+1) [↥(.int a),↥(.dic ts (nbD ts es)),some (.od [a] [.bl true]),some (.ow [.int a]),none,none]
  ⟨[a],[a],none,none,rfl,⟨by simp,by simp,zL _,λc hc=>hc,λc hc=>by cases zb.mp hc;exact .refl,λb hb hw=>vK hb hw⟩,rfl⟩
  ∅
 have fl:=q3h gi.nd λc hc=>(gi.r c hc).mem h ha;simp_arith[e,qdx (show F.length<64 by omega)];exact⟨F,rfl,gi.nd,λc=>⟨gi.r c,λr=>r.inv (λx=>x∈F) gi.st λb c hb hc=>gi.cl b hb (by simp) c hc⟩⟩
structure Cls (ts:List Int) (es:List (Int×Int)) (g:List Int) (a:Int):Prop where
 inn:a∈ts
 up:g.Pairwise (· < ·)
 mem:∀c,c∈g↔Rch es a c
 hd:g.head?=some a
noncomputable def lst1(f:Int->Int)(ts:List Int)(a:Int):Bool:=ts.all λc=>f c != f a || decide (a<=c)
noncomputable def many(f:Int->Int)(ts:List Int):Nat:=(ts.filter (lst1 f ts)).length
def qfl{ts:List Int}(P:Int->Prop)[DecidablePred P]{p:Int}(hp:p∈ts)(h:P p):∃a∈ts,P a/\∀c∈ts,P c->a<=c:=by
 induction ts with
 | nil=>cases hp
 | cons t r ih=>
  by_cases z:∃x∈r,P x
  ·obtain⟨x,hx,px⟩:=z
   have ih':∃a∈r,P a/\∀c∈r,P c->a<=c:=by
    clear ih hp
    induction r generalizing x with
    | nil=>cases hx
    | cons u r ih2=>
     by_cases y:∃w∈r,P w
     ·obtain⟨w,hw,pw⟩:=y
      obtain⟨a,a1,a2,a3⟩:=ih2 w hw pw
      by_cases pu:P u
      ·by_cases l:u<=a
       ·exact⟨u,zJ,pu,λc hc pc=>(zF.mp hc).elim (λe=>by rw[e];exact yn _) λhc=>y9 l (a3 c hc pc)⟩
       ·exact⟨a,zI _ a1,a2,λc hc pc=>(zF.mp hc).elim (λe=>by rw[e];omega) λhc=>a3 c hc pc⟩
      ·exact⟨a,zI _ a1,a2,λc hc pc=>(zF.mp hc).elim (λe=>vK (e▸pc) pu) λhc=>a3 c hc pc⟩
     ·have pu:P u:=(zF.mp hx).elim (λe=>e▸px) λhx=>vK ⟨x,hx,px⟩ y
      exact⟨u,zJ,pu,λc hc pc=>(zF.mp hc).elim (λe=>by rw[e];exact yn _) λhc=>vK ⟨c,hc,pc⟩ y⟩
   obtain⟨a,a1,a2,a3⟩:=ih'
   by_cases pt:P t
   ·by_cases l:t<=a
    ·exact⟨t,zJ,pt,λc hc pc=>(zF.mp hc).elim (λe=>by rw[e];exact yn _) λhc=>y9 l (a3 c hc pc)⟩
    ·exact⟨a,zI _ a1,a2,λc hc pc=>(zF.mp hc).elim (λe=>by rw[e];omega) λhc=>a3 c hc pc⟩
   ·exact⟨a,zI _ a1,a2,λc hc pc=>(zF.mp hc).elim (λe=>vK (e▸pc) pt) λhc=>a3 c hc pc⟩
  ·have pt:P t:=(zF.mp hp).elim (λe=>e▸h) λhx=>vK ⟨p,hx,h⟩ z
   exact⟨t,zJ,pt,λc hc pc=>(zF.mp hc).elim (λe=>by rw[e];exact yn _) λhc=>vK ⟨c,hc,pc⟩ z⟩
noncomputable def Xj(m:Mv):Int×Int:=(m.frm,m.to)
structure Ym (g:Int) (bs:List (Int×Int)) (ms:List Mv):Prop where
 cr:∀x,g<x->(crR x ms:Int)=pu bs x/\(crL x ms:Int)=pu bs x
 inn:∀m∈ms,m.frm∈knw g bs/\m.to∈knw g bs/\m.frm≠m.to
 go:∀m∈ms,(∃p q,m=.go p q)->∀y∈knw g bs,(y<=m.frm/\y<=m.to)\/(m.frm<=y/\m.to<=y)
theorem qbm{g:Int}{bs0:List (Int×Int)}:∀(bs:List (Int×Int))(k:Nat),(∀b∈bs,b∈bs0)->∀m∈wcK k bs,(∃j p q,m=.box j p q)/\m.frm∈knw g bs0/\m.to∈knw g bs0/\m.frm≠m.to
 | [],_,_,m,hm=>by cases hm
 | b::r,k,h,m,hm=>by
  unfold wcK at hm;rcases zT.mp hm with q|q
  ·split at q
   ·cases q
   ·rename_i ne
    rw[zb.mp q];have hb:=h b zJ;exact⟨⟨_,_,_,rfl⟩,q0i.mpr (.inr ⟨b,hb,ne,.inl rfl⟩),q0i.mpr (.inr ⟨b,hb,ne,.inr rfl⟩),ne⟩
  ·exact qbm r (k+1) (λd hd=>h d (zI _ hd)) m q
def qdH{g:Int}{bs:List (Int×Int)}:∀m∈emM g bs,∃p∈nbs (knw g bs),m=.go p.1 p.2\/m=.go p.2 p.1:=λm hm=>by
 obtain⟨p,hp,q⟩:=YI.mp hm;refine⟨p,hp,?_⟩;rcases zT.mp q with q|q
 ·exact .inl (ZG q)
 ·exact .inr (ZG q)
def qd0{g:Int}{bs:List (Int×Int)}(h:∀b∈bs,g<=b.1/\g<=b.2):Ym g bs (wcK 0 bs++emM g bs):=by
 have am:=q3M (q3F g bs);refine⟨λx hx=>qf4 h hx,λm hm=>?_,λm hm hg y hy=>?_⟩
 ·rcases zT.mp hm with q|q
  ·exact(qbm bs 0 (λb hb=>hb) m q).2
  ·obtain⟨p,hp,e|e⟩:=qdH m q
   ·obtain⟨k1,k2,k3,_⟩:=am p hp
    rw[e];exact⟨k1,k2,λz=>by have:p.1=p.2:=z;omega⟩
   ·obtain⟨k1,k2,k3,_⟩:=am p hp
    rw[e];exact⟨k2,k1,λz=>by have:p.2=p.1:=z;omega⟩
 ·rcases zT.mp hm with q|q
  ·obtain⟨⟨j,u,v,e⟩,_⟩:=qbm (g:=g) bs 0 (λb hb=>hb) m q
   obtain⟨a,b,e2⟩:=hg;rw[e]at e2;cases e2
  ·obtain⟨p,hp,e|e⟩:=qdH m q
   ·obtain⟨_,_,k3,k4⟩:=am p hp
    have:=k4 y hy;rw[e];show (y<=p.1/\y<=p.2)\/(p.1<=y/\p.2<=y);omega
   ·obtain⟨_,_,k3,k4⟩:=am p hp
    have:=k4 y hy;rw[e];show (y<=p.2/\y<=p.1)\/(p.2<=y/\p.1<=y);omega
def ind3{a p b:Int}(x:Int)(h1:a<p)(h2:p<b):((if a<x/\x<=p then 1 else 0)+(if p<x/\x<=b then 1 else 0):Int)=if a<x/\x<=b then 1 else 0:=by
 by_cases c1:a<x
 ·by_cases c2:x<=p
  ·rw[vG ⟨c1,c2⟩,vH (λq=>vK q.1 (Int.not_lt.mpr c2)),vG ⟨c1,y9 c2 (xZ h2)⟩];rfl
  ·rw[vH (λq=>c2 q.2)]
   by_cases c3:x<=b
   ·rw[vG ⟨Int.not_le.mp c2,c3⟩,vG ⟨c1,c3⟩];rfl
   ·rw[vH (λq=>c3 q.2),vH (λq=>c3 q.2)];rfl
 ·rw[vH (λq=>c1 q.1),vH (λq=>c1 (Z7 h1 q.1)),vH (λq=>c1 q.1)];rfl
def ind0{a b:Int}(x:Int)(h:a<b):(if b<x/\x<=a then 1 else 0:Int)=0:=vH λq=>vK (Int.lt_of_lt_of_le q.1 q.2) (Int.not_lt.mpr (xZ h))
def qaa{a b p:Int}(h:(a<p/\p<b)\/(b<p/\p<a))(x:Int):((if a<x/\x<=p then 1 else 0)+(if p<x/\x<=b then 1 else 0):Int)=if a<x/\x<=b then 1 else 0:=by
 rcases h with⟨h1,h2⟩|⟨h1,h2⟩
 ·exact ind3 x h1 h2
 ·rw[ind0 x h2,ind0 x h1,ind0 x (Z7 h1 h2)];rfl
def qf7{k:Nat}{a b p:Int}(h:(a<p/\p<b)\/(b<p/\p<a))(u v:List Mv)(x:Int):crR x (u++[.box k a p,.box k p b]++v)=crR x (u++.box k a b::v)/\crL x (u++[.box k a p,.box k p b]++v)=crL x (u++.box k a b::v):=by
 have e1:(crR x (.box k a b::v):Int)=(if a<x/\x<=b then 1 else 0)+crR x v:=q4B x (.box k a b) v;have e2:(crL x (.box k a b::v):Int)=(if b<x/\x<=a then 1 else 0)+crL x v:=q4x x (.box k a b) v;have u1:(crR x [.box k a p,.box k p b]:Int)=(if a<x/\x<=p then 1 else 0)+crR x [.box k p b]:=q4B x (.box k a p) [.box k p b];have u2:(crR x [.box k p b]:Int)=(if p<x/\x<=b then 1 else 0)+((0:Nat):Int):=q4B x (.box k p b) [];have u3:(crL x [.box k a p,.box k p b]:Int)=(if p<x/\x<=a then 1 else 0)+crL x [.box k p b]:=q4x x (.box k a p) [.box k p b];have u4:(crL x [.box k p b]:Int)=(if b<x/\x<=p then 1 else 0)+((0:Nat):Int):=q4x x (.box k p b) [];have i1:=qaa h x;have i2:=qaa (a:=b) (b:=a) h.symm x;rw[<- i1]at e1;rw[<- i2]at e2;clear h i1 i2;rw[q3I,q3I,q3I,q3H,q3H,q3H];generalize (if a<x/\x<=p then 1 else 0:Int)=w1 at *;generalize (if p<x/\x<=b then 1 else 0:Int)=w2 at *;generalize (if b<x/\x<=p then 1 else 0:Int)=w3 at *;generalize (if p<x/\x<=a then 1 else 0:Int)=w4 at *;exact⟨∅,∅⟩
def Ym.cut{g:Int}{bs:List (Int×Int)}{u v:List Mv}{k:Nat}{a b p:Int}(Y:Ym g bs (u++.box k a b::v))(hp:p∈knw g bs)(h:(a<p/\p<b)\/(b<p/\p<a)):Ym g bs (u++[.box k a p,.box k p b]++v):=by
 have ab:=Y.inn (.box k a b) (by simp);have old:∀m∈u++[Mv.box k a p,.box k p b]++v,m=.box k a p\/m=.box k p b\/m∈u++.box k a b::v:=λm hm=>by
  simp only[zT,zF,zv,or_false]at hm ⊢;rcases hm with (q|q|q)|q
  ·exact .inr (.inr (.inl q))
  ·exact .inl q
  ·exact .inr (.inl q)
  ·exact .inr (.inr (.inr (.inr q)))
 refine⟨λx hx=>?_,λm hm=>?_,λm hm hg=>?_⟩
 ·have:=qf7 (k:=k) h u v x
  rw[this.1,this.2];exact Y.cr x hx
 ·rcases old m hm with q|q|q
  ·rw[q];exact⟨ab.1,hp,λe=>by have:a=p:=e;omega⟩
  ·rw[q];exact⟨hp,ab.2.1,λe=>by have:p=b:=e;omega⟩
  ·exact Y.inn m q
 ·rcases old m hm with q|q|q
  ·obtain⟨c,d,e⟩:=hg;rw[q]at e;cases e
  ·obtain⟨c,d,e⟩:=hg;rw[q]at e;cases e
  ·exact Y.go m q hg
def Ym.more{g:Int}{bs:List (Int×Int)}(hb:∀b∈bs,g<=b.1/\g<=b.2){ms:List Mv}(Y:Ym g bs ms){y:Int}(hy:y∈knw g bs)(ny:¬Rch (ms.map Xj) g y):∃m∈ms,∃p∈knw g bs,Rch (ms.map Xj) g m.frm/\¬Rch (ms.map Xj) g p/\((m.frm<p/\p<m.to)\/(m.to<p/\p<m.frm)):=by
 have ge:∀z∈knw g bs,g<=z:=λz hz=>by
  rcases q0i.mp hz with q|⟨b,k,_,q|q⟩
  ·omega
  ·rw[q];exact(hb b k).1
  ·rw[q];exact(hb b k).2
 classical
 obtain⟨p,p1,p2,p3⟩:=qfl (ts:=knw g bs) (λz=>¬Rch (ms.map Xj) g z) hy ny;have gp:g<p:=by
  have:=ge p p1;rcases Int.lt_or_eq_of_le this with q|q
  ·exact q
  ·exact vK (by rw[<- q];exact .refl) p2
 have hi:hiB bs p=true:=by
  rcases q0i.mp p1 with q|⟨b,k,ne,q⟩
  ·omega
  ·exact q6v.mpr ⟨b,k,ne,∅⟩
 have one:1<=pu bs p:=by
  unfold pu;rw[vG hi];unfold mx3;repeat' split
  all_goals omega
 have c:=(Y.cr p gp).1;have pos:0<crR p ms:=∅
 unfold crR at pos;obtain⟨m,hm,k⟩:=Zn.mp pos;simp only[zc,decide_eq_true_eq]at k;obtain⟨i1,i2,_⟩:=Y.inn m hm;have rf:Rch (ms.map Xj) g m.frm:=by
  by_cases z:Rch (ms.map Xj) g m.frm
  ·exact z
  ·have:=p3 _ i1 z;omega
 have rt:Rch (ms.map Xj) g m.to:=rf.step (.inl (xC.mpr ⟨m,hm,rfl⟩));have ne:m.to≠p:=λe=>p2 (e▸rt);exact⟨m,hm,p,p1,rf,p2,.inl ⟨k.1,∅⟩⟩
noncomputable def enK:Nat->List (Int×Int)->List (Nat×Int×Int)
 | _,[]=>[]
 | k,b::r=>(k,b.1,b.2)::enK (k+1) r
noncomputable def enD(q:Nat×Int×Int):D:=.tup [.int (q.1:Int),.tup [.int q.2.1,.int q.2.2]]
theorem qdK:∀(bs:List (Int×Int))(k:Nat),WL k (bs.map Yv)=(enK k bs).map enD
 | [],_=>rfl
 | b::r,k=>by
  show D.tup [.int (k:Int),Yv b]::WL (k+1) (r.map Yv)=_;rw[qdK r (k+1)];rfl
theorem qbS:∀(bs:List (Int×Int))(k:Nat),(enK k bs).length=bs.length
 | [],_=>rfl
 | b::r,k=>by show (enK (k+1) r).length+1=_;rw[qbS r (k+1)];rfl
theorem qdJ:∀(bs:List (Int×Int))(k:Nat),((enK k bs).filter λq=>!(q.2.1==q.2.2)).map (λq=>mvD (.box q.1 q.2.1 q.2.2))=(wcK k bs).map mvD
 | [],_=>rfl
 | b::r,k=>by
  have ih:=qdJ r (k+1);show (((k,b.1,b.2)::enK (k+1) r).filter λq=>!(q.2.1==q.2.2)).map _=((if b.1=b.2 then []else [Mv.box k b.1 b.2])++wcK (k+1) r).map mvD;rw[ZN,zk,<- ih]
  by_cases z:b.1=b.2
  ·rw[vH ⇑z,vG z];rfl
  ·rw[vG ⇑z,vH z];rfl
def qbT{bs:List (Int×Int)}(hb:bs.length<=30):q1r [.lst (bs.map Yv)]=some (.fr ((wcK 0 bs).map mvD)):=by
 unfold q1r q3y;have en:=qdK bs 0;have kl:((enK 0 bs).map enD).length<=1000000:=by rw[zB,qbS];omega
 have cm:=q5n (g:=gT 2 (Yw (gN 0) (Yw (gN 1) Xz))) (c:=q2v) (f:=q2u) (λw=>∃a b,w=[a,b]) (λq=>!(q.2.1==q.2.2)) enD (λq=>mvD (.box q.1 q.2.1 q.2.2)) (enK 0 bs) (ω:=[none,none]) ⟨_,_,rfl⟩ λq _ w hw=>by
  obtain⟨a,b,rfl⟩:=hw;refine⟨_,rfl,⟨_,_,rfl⟩,?_,λ_=>?_⟩
  ·show q2v [↥(.int (q.1:Int)),↥(.tup [.int q.2.1,.int q.2.2])]=_
   unfold q2v;simp_arith[qE]
  ·show q2u [↥(.int (q.1:Int)),↥(.tup [.int q.2.1,.int q.2.2])]=_
   unfold q2u;simp_arith[qE];rfl
 rw[qdJ]at cm;simp_arith[en,Xk kl,inW,zAg,cm]
def qbq(m:Mv):oSl (mvD m) (some (-2)) none=↥(.tup [.int m.frm,.int m.to]):=by cases m <;> rfl
def q7L{ms:List Mv}(hl:ms.length<=9000):q26 [.lst (ms.map mvD)]=some (.fr ((ms.map Xj).map pairD2)):=by
 unfold q26 q69;have kl:(ms.map mvD).length<=1000000:=by rw[zB];omega
 have cm:=q1T (i:=0) (f:=q5b) mvD (λm=>pairD2 (Xj m)) ms (ω:=[none]) (λm _=>by
  unfold q5b;simp_arith[qbq];rfl)
 have mm:ms.map (λm=>pairD2 (Xj m))=(ms.map Xj).map pairD2:=by rw[xU];rfl
 rw[mm]at cm;simp_arith[Xk kl,inW,zAg,cm]
theorem qdO{α:Type}(d:α):∀n:Nat,(zj n [d]).flatten=zj n d
 | 0=>rfl
 | n+1=>by rw[zQ,yv,qdO d n,zQ];rfl
def qdT{bs:List (Int×Int)}(hb:bs.length<=20)(p:Int×Int):tmG bs p<=20:=by
 have l1:ovR p.2 bs<=bs.length:=xn;have l2:ovL p.2 bs<=bs.length:=xn;unfold tmG mx3;repeat' split
 all_goals omega
theorem q9w{bs:List (Int×Int)}(hb:bs.length<=20):∀L:List (Int×Int),(L.flatMap (emG bs)).length<=40*L.length
 | []=>yq _
 | p::L=>by
  have ih:=q9w hb L;have t:=qdT hb p;have g:=qaY bs p;have e:(emG bs p).length<=40:=by unfold emG;rw[zD,yk,yk];omega
  rw[ZD,zD,zC];omega
def qbE{g:Int}{bs:List (Int×Int)}(hb:bs.length<=20)(h:∀b∈bs,g<=b.1/\g<=b.2):q1S [.int g,.lst (bs.map Yv)]=some (.fr ((emM g bs).map mvD)):=by
 unfold q1S q44 emM;have hp:=q60 g bs hb h;have ed:(zBJ (knw g bs) bs).map tri=(nbs (knw g bs)).map (λp=>D.tup [.int p.1,.int p.2,.int (tmG bs p)]):=by unfold zBJ;rw[xU];rfl
 rw[ed]at hp;have hp':q1w [.int g,.lst (bs.map Yv)]=some (.fr ((nbs (knw g bs)).map (λp=>D.tup [.int p.1,.int p.2,.int (tmG bs p)]))):=hp;have am:=q3M (q3F g bs);have nl:(nbs (knw g bs)).length<=50:=by
  rw[q6h];have h1:(knw g bs).length<=(zAQ g bs).length:=q3X _;have:=q4v g bs;omega
 clear hp ed;generalize nbs (knw g bs)=L at hp' am nl ⊢;simp_arith[hp'];obtain⟨ω',e,x3,x4,x5,x6,rfl⟩:=q2V (g:=gT 3 (Yw (gN 3) (Yw (gN 4) (Yw (gN 5) Xz)))) (b:=q3O) (λp:Int×Int=>D.tup [.int p.1,.int p.2,.int (tmG bs p)]) L
  (λpre ω=>∃x3 x4 x5 x6:Option W,ω=[↥(.int g),↥(.lst (bs.map Yv)),some (.ow ((pre.flatMap (emG bs)).map mvD)),x3,x4,x5,x6])
  (λpre p post ω hd ⟨x3,x4,x5,x6,hω⟩=>by
   subst hω;refine⟨_,rfl,?_⟩;have hp:p∈L:=by rw[hd];simp
   obtain⟨k1,k2,k3,k4⟩:=am p hp;obtain⟨r1,r2⟩:=qcm (K:=knw g bs) (bs:=bs) k3 (λb hb z=>⟨k4 b.1 (q0i.mpr (.inr ⟨b,hb,z,.inl rfl⟩)),k4 b.2 (q0i.mpr (.inr ⟨b,hb,z,.inr rfl⟩))⟩);have c:=q7h (bs:=bs) (q:=p) ∅;rw[r1,r2,show Yv p=D.tup [.int p.1,.int p.2]from rfl]at c;have t:=qaY bs p;have t2:=qdT hb p;have hr1:=λd:D=>qct (ds:=[d]) (k:=tmG bs p-ovR p.2 bs) ∅ ∅ (by simp);have hr2:=λd:D=>qct (ds:=[d]) (k:=tmG bs p-ovL p.2 bs) ∅ ∅ (by simp);have el:=q9w (bs:=bs) hb pre;have pl:pre.length<=L.length:=by rw[hd,zD];omega
   have l1:((pre.flatMap (emG bs)).map mvD).length+(zj (tmG bs p-ovR p.2 bs).toNat (D.tup [.str "go", .int p.1,.int p.2])).length<=1000000:=by rw[zB,yk];omega
   have l2:((pre.flatMap (emG bs)).map mvD++zj (tmG bs p-ovR p.2 bs).toNat (D.tup [.str "go", .int p.1,.int p.2])).length+(zj (tmG bs p-ovL p.2 bs).toNat (D.tup [.str "go", .int p.2,.int p.1])).length<=1000000:=by rw[zD,zB,yk,yk];omega
   have ea:(pre.flatMap (emG bs)).map mvD++zj (tmG bs p-ovR p.2 bs).toNat (D.tup [.str "go", .int p.1,.int p.2])++zj (tmG bs p-ovL p.2 bs).toNat (D.tup [.str "go", .int p.2,.int p.1])=((pre++[p]).flatMap (emG bs)).map mvD:=by
    rw[Zo,ZV,zk,zR]
    congr 1
    unfold emG;rw[zk,Zw,Zw];rfl
   unfold q3O;simp_arith[c,hr1,hr2,qdO,q0h l1,q0h l2,ea];exact⟨_,_,_,_,rfl⟩)
  (ω:=[↥(.int g),↥(.lst (bs.map Yv)),some (.ow []),none,none,none,none]) ⟨none,none,none,none,rfl⟩
 simp_arith[e]
noncomputable def WN(ms:List Mv):List Int:=ms.flatMap λm=>[m.frm,m.to]
theorem q6N:∀ms:List Mv,(WN ms).length=2*ms.length
 | []=>rfl
 | m::ms=>by
  have ih:=q6N ms;show ([m.frm,m.to]++WN ms).length=_;rw[zD,ih,zC];simp only[zC,zS];omega
def q2Q{ms:List Mv}{y:Int}:y∈WN ms↔∃m∈ms,y=m.frm\/y=m.to:=by unfold WN;simp
def q5c{ms:List Mv}(hl:ms.length<=1500)(hf:(XX (WN ms)).length<64):q2s [.lst (ms.map mvD)]=some (.fr ((XX (WN ms)).map D.int)):=by
 unfold q2s q6d;simp_arith[qE];obtain⟨ω',e,x2,rfl⟩:=q2V (g:=gN 2) (b:=q5k) mvD ms
  (λpre ω=>∃x2:Option W,ω=[↥(.lst (ms.map mvD)),some (.ow ((WN pre).map D.int)),x2])
  (λpre m post ω hd ⟨x2,hω⟩=>by
   subst hω;refine⟨_,rfl,?_⟩;have pl:pre.length<=ms.length:=by rw[hd,zD];omega
   have el:=q6N pre;have l1:((WN pre).map D.int).length+[D.int m.frm,D.int m.to].length<=1000000:=by
    rw[zB];simp only[zC,zS];omega
   have ea:(WN pre).map D.int++[D.int m.frm,D.int m.to]=(WN (pre++[m])).map D.int:=by
    unfold WN;rw[Zo,ZV,zk];rfl
   unfold q5k;simp_arith[qbq,q0o l1,ea];exact⟨_,rfl⟩)
  (ω:=[↥(.lst (ms.map mvD)),some (.ow []),none]) ⟨none,rfl⟩
 have hs:WB (vOf (Yn 1)) [↥(.lst (ms.map mvD)),some (.ow ((WN ms).map D.int)),x2]=some (.fr ((XX (WN ms)).map D.int)):=by
  show zAV (.lst ((WN ms).map D.int))=_;show (intsOf ((WN ms).map D.int)).bind _=_;rw[q2w];exact vG ⟨hf,by rw[q6N];omega⟩
 simp_arith[e,hs]
noncomputable def amB(p:Int)(m:Mv):Bool:=decide (zAs [m.frm,m.to]<p)&&decide (p<zA0 [m.frm,m.to])
def q7V{p:Int}{m:Mv}:amB p m=true↔(m.frm<p/\p<m.to)\/(m.to<p/\p<m.frm):=by
 unfold amB;rw[zc,decide_eq_true_eq,decide_eq_true_eq];show (if m.to<=m.frm then m.to else m.frm)<p/\p<(if m.frm<=m.to then m.to else m.frm)↔_
 split <;> split <;> omega
def q7P(p:Int)(m:Mv):q39 [.int p,mvD m]=↥(.bl (amB p m)):=by
 unfold q39 q4O amB;have h1:zBR [.tup [.int m.frm,.int m.to]]=↥(.int (zAs [m.frm,m.to])):=qaH (ns:=[m.frm,m.to]) (by simp);have h2:zBO [.tup [.int m.frm,.int m.to]]=↥(.int (zA0 [m.frm,m.to])):=qai (ns:=[m.frm,m.to]) (by simp);cases z:decide (zAs [m.frm,m.to]<p) <;> simp_arith[qbq,h1,h2,z]
def qeC(k:Nat)(a b p:Int):q2K [mvD (.box k a b),.int p]=some (.fr ([Mv.box k a p,.box k p b].map mvD)):=by
 unfold q2K q4e;have h1:oSl (mvD (.box k a b)) none (some 3)=some (.sh (.tup [.str "box", .int k,.int a])):=rfl;have h2:oSl (mvD (.box k a b)) none (some 2)=some (.sh (.tup [.str "box", .int k])):=rfl;have h3:X5 (.tup [.str "box", .int k,.int a]) (.tup [.int p])=some (.sh (mvD (.box k a p))):=rfl;have h4:X5 (.tup [.str "box", .int k]) (.tup [.int p,.int b])=some (.sh (mvD (.box k p b))):=rfl;have h5:oIx (mvD (.box k a b)) (.int 3)=some (.sh (.int b)):=rfl;simp_arith[h1,h2,h3,h4,h5]
theorem q5u{α:Type}{g:FG}{b:FS}{r:O}(F:α->D)(I:WSt->Prop):∀(pre:List α)(x:α)(post:List α)(ω:WSt),I ω ->
  (∀y∈pre,∀ω,I ω->∃w,g (F y) ω=some w/\zBl (b w) I) ->
  (∀ω,I ω->∃w,g (F x) ω=some w/\∃w',b w=some (.rt r,w'))->∃w',Wy g b ((pre++x::post).map F) ω=some (.rt r,w')
 | [],x,post,ω,hi,_,hx=>by
  obtain⟨w,h1,w',h2⟩:=hx ω hi;refine⟨w',?_⟩;rw[zg,zO,Wy,h1,zX,h2];rfl
 | y::pre,x,post,ω,hi,hp,hx=>by
  obtain⟨w,h1,h2⟩:=hp y zJ ω hi;rw[zn,zO,Wy,h1,zX]
  match hb:b w,h2 with
  | some (.nx,ω2),h2=>exact q5u F I pre x post ω2 h2 (λz hz=>hp z (zI _ hz)) hx
  | some (.ct,ω2),h2=>exact q5u F I pre x post ω2 h2 (λz hz=>hp z (zI _ hz)) hx
theorem q4M{α:Type}(P:α->Bool):∀{l:List α},(∃x∈l,P x=true)->∃u x v,l=u++x::v/\P x=true/\∀y∈u,P y=false
 | [],h=>by obtain⟨x,hx,_⟩:=h;cases hx
 | a::l,h=>by
  cases z:P a with
  | true=>exact⟨[],a,l,rfl,z,λy hy=>by cases hy⟩
  | false=>
   obtain⟨x,hx,px⟩:=h;have hx':x∈l:=(zF.mp hx).resolve_left λe=>by rw[e,z]at px;cases px
   obtain⟨u,y,v,e,py,hu⟩:=q4M P ⟨x,hx',px⟩;refine⟨a::u,y,v,by rw[e];rfl,py,λw hw=>?_⟩;rcases zF.mp hw with rfl|hw
   ·exact z
   ·exact hu w hw
noncomputable def enM:Nat->List Mv->List (Nat×Mv)
 | _,[]=>[]
 | k,m::r=>(k,m)::enM (k+1) r
noncomputable def enMD(q:Nat×Mv):D:=.tup [.int (q.1:Int),mvD q.2]
theorem q9a:∀(ms:List Mv)(k:Nat),WL k (ms.map mvD)=(enM k ms).map enMD
 | [],_=>rfl
 | m::r,k=>by
  show D.tup [.int (k:Int),mvD m]::WL (k+1) (r.map mvD)=_;rw[q9a r (k+1)];rfl
theorem qac(m:Mv)(v:List Mv):∀(u:List Mv)(k:Nat),enM k (u++m::v)=enM k u++(k+u.length,m)::enM (k+u.length+1) v
 | [],k=>rfl
 | x::u,k=>by
  show (k,x)::enM (k+1) (u++m::v)=_;rw[qac m v u (k+1),zC,show k+1+u.length=k+(u.length+1) by omega];rfl
theorem qaj:∀{u:List Mv}{k:Nat}{q:Nat×Mv},q∈enM k u->q.2∈u
 | [],_,_,h=>by cases h
 | x::u,k,q,h=>by
  rcases zF.mp h with rfl|h
  ·exact zJ
  ·exact zI _ (qaj h)
def qbi(m:Mv):oIx (mvD m) (.int (-2))=↥(.int m.frm):=by cases m <;> rfl
def qfz{a:Int}{ns:List Int}:oIn true (.int a) (.lst (ns.map D.int))=↥(.bl (!decide (a∈ns))):=by
 have h:=q7z (a:=a) (ns:=ns);have e1:oIn false (.int a) (.lst (ns.map D.int))=if (Xp (.int a)&&(ns.map D.int).all Xp)=true then ↥(.bl (inD (.int a) (ns.map D.int)))else none:=rfl
 have e2:oIn true (.int a) (.lst (ns.map D.int))=if (Xp (.int a)&&(ns.map D.int).all Xp)=true then ↥(.bl (!inD (.int a) (ns.map D.int)))else none:=rfl
 rw[e1]at h;rw[e2]
 split at h
 ·rename_i y
  rw[vG y];have:=R.sh.inj (z0 h);rw[D.bl.inj this]
 ·cases h
def qaE{K R:List Int}:XH (gN 0) q3l q3j (K.map D.int) [none,↥(.lst (R.map D.int))]=some ((K.filter λy=>!decide (y∈R)).map D.int):=by
 refine q7f (i:=0) (λy=>!decide (y∈R)) D.int D.int K (ω:=[none,↥(.lst (R.map D.int))]) λy _=>⟨?_,λ_=>?_⟩
 ·unfold q3l
  simp_arith[qfz]
 ·unfold q3j
  simp_arith[qE]
def qdU{ms:List Mv}{R ap:List Int}{n:Nat}{m:Mv}{x5:Option W}(h:¬(m.frm∈R/\∃p∈ap,amB p m=true)):
  zBl (q0S [↥(.lst (ms.map mvD)),↥(.lst (R.map D.int)),↥(.lst (ap.map D.int)),↥(.int (n:Int)),↥(mvD m),x5]) (λω=>∃x3 x4 x5:Option W,ω=[↥(.lst (ms.map mvD)),↥(.lst (R.map D.int)),↥(.lst (ap.map D.int)),x3,x4,x5]):=by
 unfold q0S
 by_cases z:m.frm∈R
 ·obtain⟨ω',e,y5,rfl⟩:=q2V (g:=gN 5) (b:=q1Q) D.int ap
   (λ_ ω=>∃x5:Option W,ω=[↥(.lst (ms.map mvD)),↥(.lst (R.map D.int)),↥(.lst (ap.map D.int)),↥(.int (n:Int)),↥(mvD m),x5])
   (λpre p post ω hd ⟨x5,hω⟩=>by
    subst hω;refine⟨_,rfl,?_⟩;have hp:p∈ap:=by rw[hd];simp
    have am:amB p m=false:=by
     cases q:amB p m with
     | false=>rfl
     | true=>exact vK ⟨z,p,hp,q⟩ h
    have a:=q7P p m;rw[am]at a;unfold q1Q;simp_arith[a];exact⟨_,rfl⟩)
   (ω:=[↥(.lst (ms.map mvD)),↥(.lst (R.map D.int)),↥(.lst (ap.map D.int)),↥(.int (n:Int)),↥(mvD m),x5]) ⟨x5,rfl⟩
  simp_arith[qbi,q7z,z,decide_true,e];exact⟨_,_,_,rfl⟩
 ·simp_arith[qbi,q7z,z,decide_false]
  exact⟨_,_,_,rfl⟩
def qgc{u v:List Mv}{R ap1 ap2:List Int}{k:Nat}{a b p:Int}{x5:Option W}(hl:(u++Mv.box k a b::v).length<=1500)(ha:a∈R)(h1:∀y∈ap1,amB y (.box k a b)=false)(h2:amB p (.box k a b)=true):
  ∃w',q0S [↥(.lst ((u++Mv.box k a b::v).map mvD)),↥(.lst (R.map D.int)),↥(.lst ((ap1++p::ap2).map D.int)),↥(.int (u.length:Int)),↥(mvD (.box k a b)),x5]=some (.rt (.fr ((u++[Mv.box k a p,Mv.box k p b]++v).map mvD)),w'):=by
 unfold q0S;have hf:a∈R:=ha;rw[zD,zC]at hl;obtain⟨w',e⟩:=q5u (g:=gN 5) (b:=q1Q) (r:=.fr ((u++[Mv.box k a p,Mv.box k p b]++v).map mvD)) D.int
  (λω=>∃x5:Option W,ω=[↥(.lst ((u++Mv.box k a b::v).map mvD)),↥(.lst (R.map D.int)),↥(.lst ((ap1++p::ap2).map D.int)),↥(.int (u.length:Int)),↥(mvD (.box k a b)),x5])
  ap1 p ap2 _ ⟨x5,rfl⟩
  (λy hy ω ⟨x5,hω⟩=>by
   subst hω;refine⟨_,rfl,?_⟩;have q:=q7P y (.box k a b);rw[h1 y hy]at q;unfold q1Q;simp_arith[q];exact⟨_,rfl⟩)
  (λω ⟨x5,hω⟩=>by
   subst hω;refine⟨_,rfl,?_⟩;have q:=q7P p (.box k a b);rw[h2]at q;have c1:=q8I (xs:=(u++Mv.box k a b::v).map mvD) (k:=(u.length:Int)) ∅;have c2:=q8Y (xs:=(u++Mv.box k a b::v).map mvD) (k:=(u.length:Int)+1) ∅;have d1:((u++Mv.box k a b::v).map mvD).take (u.length:Int).toNat=u.map mvD:=by
    rw[xI,<- Yd,List.take_left'];rfl
   have d2:((u++Mv.box k a b::v).map mvD).drop ((u.length:Int)+1).toNat=v.map mvD:=by
    rw[show ((u.length:Int)+1).toNat=u.length+1 by omega,<- Zp,List.drop_append,ZU ∅,show u.length+1-u.length=1 by omega];rfl
   rw[d1]at c1;rw[d2]at c2;have ct:=qeC k a b p;have a1:X5 (.lst (u.map mvD)) (.lst [mvD (.box k a p),mvD (.box k p b)])=some (.fr ((u++[Mv.box k a p,Mv.box k p b]).map mvD)):=by
    rw[q4c (by rw[zB,zC,zC,zS];omega),zk];rfl
   have a2:X5 (.lst ((u++[Mv.box k a p,.box k p b]).map mvD)) (.lst (v.map mvD))=some (.fr ((u++[Mv.box k a p,Mv.box k p b]++v).map mvD)):=by
    rw[q4c (by rw[zB,zB,zD,zC,zC,zS];omega),<- zk]
   unfold q1Q;simp_arith[q,qbn,c1,c2,ct,a1,a2];exact⟨_,rfl⟩)
 refine⟨w',?_⟩;have fm:(Mv.box k a b).frm=a:=rfl;simp_arith[qbi,q7z,fm,hf,decide_true,e]
def qe2{ms:List Mv}{K R:List Int}(hl:ms.length<=1500)(he:XX (WN ms)=K)(hk:K.length<64)(hx:∃m∈ms,m.frm∈R/\∃p∈K,p∉R/\amB p m=true)(hbx:∀m∈ms,∀p∈K,amB p m=true->∃k a b,m=.box k a b):
  ∃u k a b p v,ms=u++Mv.box k a b::v/\a∈R/\p∈K/\p∉R/\amB p (.box k a b)=true/\q1D [.lst (ms.map mvD),.lst (R.map D.int)]=some (.fr ((u++[Mv.box k a p,Mv.box k p b]++v).map mvD)):=by
 have hx':∃m∈ms,(decide (m.frm∈R)&&(K.filter λy=>!decide (y∈R)).any λp=>amB p m)=true:=by
  obtain⟨m,hm,h1,p,hp,h2,h3⟩:=hx;refine⟨m,hm,?_⟩;rw[zc,decide_eq_true_eq,YJ];exact⟨h1,p,wA.mpr ⟨hp,by simp[h2]⟩,h3⟩
 obtain⟨u,m,v,e1,pm,hu⟩:=q4M _ hx';rw[zc,decide_eq_true_eq,YJ]at pm;obtain⟨ap1,p,ap2,e2,pp,hap⟩:=q4M (λp=>amB p m) pm.2;have hp:p∈K.filter λy=>!decide (y∈R):=by rw[e2];simp
 obtain⟨pK,pR⟩:=wA.mp hp;have pR':p∉R:=by simpa using pR
 obtain⟨k,a,b,rfl⟩:=hbx m (by rw[e1];simp) p pK pp;refine⟨u,k,a,b,p,v,e1,pm.1,pK,pR',pp,?_⟩;have ee:=q5c hl (by rw[he];exact hk);rw[he]at ee;have kl:(K.map D.int).length<=1000000:=by rw[zB];omega
 have cm:=qaE (K:=K) (R:=R);have en:=q9a ms 0;have hl':=hl;rw[e1]at hl';obtain⟨w',e⟩:=q5u (g:=gT 2 (Yw (gN 3) (Yw (gN 4) Xz))) (b:=q0S) (r:=.fr ((u++[Mv.box k a p,Mv.box k p b]++v).map mvD)) enMD
  (λω=>∃x3 x4 x5:Option W,ω=[↥(.lst (ms.map mvD)),↥(.lst (R.map D.int)),↥(.lst ((K.filter λy=>!decide (y∈R)).map D.int)),x3,x4,x5])
  (enM 0 u) (0+u.length,.box k a b) (enM (0+u.length+1) v) _ ⟨none,none,none,rfl⟩
  (λq hq ω ⟨x3,x4,x5,hω⟩=>by
   subst hω;refine⟨_,rfl,?_⟩;refine qdU (n:=q.1) (m:=q.2) λ⟨z1,p',z2,z3⟩=>?_;have:=hu q.2 (qaj hq);rw[Bool.and_eq_false_iff]at this;rcases this with t|t
   ·exact vK z1 ⇑t
   ·rw[Zx]at t
    exact t p' z2 z3)
  (λω ⟨x3,x4,x5,hω⟩=>by
   subst hω;obtain⟨w',y⟩:=qgc (u:=u) (v:=v) (R:=R) (ap1:=ap1) (ap2:=ap2) (k:=k) (a:=a) (b:=b) (p:=p) (x5:=x5) hl' pm.1 hap pp;refine⟨_,rfl,w',?_⟩;rw[<- e1,<- e2]at y;show q0S [↥(.lst (ms.map mvD)),↥(.lst (R.map D.int)),↥(.lst ((K.filter λy=>!decide (y∈R)).map D.int)),↥(.int ((0+u.length:Nat):Int)),↥(mvD (.box k a b)),x5]=_;rw[zr];exact y)
 rw[<- qac,<- e1]at e;unfold q1D q32;simp_arith[ee,Xk kl,inW,zAg,cm,en,e]
def qeo{ms:List Mv}{K R:List Int}(hl:ms.length<=1500)(he:XX (WN ms)=K)(hk:K.length<64)(hx:∀p∈K,p∈R):
  q1D [.lst (ms.map mvD),.lst (R.map D.int)]=↥(.lst (ms.map mvD)):=by
 have ee:=q5c hl (by rw[he];exact hk);rw[he]at ee;have kl:(K.map D.int).length<=1000000:=by rw[zB];omega
 have cm:=qaE (K:=K) (R:=R);have nf:(K.filter λy=>!decide (y∈R))=[]:=List.filter_eq_nil_iff.mpr λy hy=>by simp[hx y hy]
 rw[nf,yA]at cm;have en:=q9a ms 0;obtain⟨ω',e,x3,x4,x5,rfl⟩:=q2V (g:=gT 2 (Yw (gN 3) (Yw (gN 4) Xz))) (b:=q0S) enMD (enM 0 ms)
  (λ_ ω=>∃x3 x4 x5:Option W,ω=[↥(.lst (ms.map mvD)),↥(.lst (R.map D.int)),↥(.lst []),x3,x4,x5])
  (λpre q post ω hd ⟨x3,x4,x5,hω⟩=>by
   subst hω;exact⟨_,rfl,qdU (ap:=[]) (n:=q.1) (m:=q.2) λ⟨_,p',z2,_⟩=>by cases z2⟩)
  (ω:=[↥(.lst (ms.map mvD)),↥(.lst (R.map D.int)),↥(.lst []),none,none,none]) ⟨none,none,none,rfl⟩
 unfold q1D q32;simp_arith[ee,Xk kl,inW,zAg,cm,en,e]
def Rch.sub{es fs:List (Int×Int)}(h:∀e∈es,Rch fs e.1 e.2){a c:Int}(r:Rch es a c):Rch fs a c:=by
 induction r with
 | refl=>exact .refl
 | step _ e ih=>
  rcases e with e|e
  ·exact ih.trans (h _ e)
  ·exact ih.trans (h _ e).symm
def q7R{u v:List Mv}{k:Nat}{a b p g y:Int}(r:Rch ((u++Mv.box k a b::v).map Xj) g y):Rch ((u++[Mv.box k a p,Mv.box k p b]++v).map Xj) g y:=by
 refine r.sub λe he=>?_;obtain⟨m,hm,rfl⟩:=xC.mp he;have hin:∀m',m'∈u++[Mv.box k a p,Mv.box k p b]++v->Rch ((u++[Mv.box k a p,Mv.box k p b]++v).map Xj) m'.frm m'.to:=λm' h=>Rch.refl.step (.inl (xC.mpr ⟨m',h,rfl⟩));rcases zT.mp hm with q|q
 ·exact hin m (by simp[q])
 ·rcases zF.mp q with rfl|q
  ·exact(hin (.box k a p) (by simp)).trans (hin (.box k p b) (by simp))
  ·exact hin m (by simp[q])
def qeI{u v:List Mv}{k:Nat}{a b p y:Int}(h:y∈WN (u++Mv.box k a b::v)):y∈WN (u++[Mv.box k a p,Mv.box k p b]++v):=by
 obtain⟨m,hm,q⟩:=q2Q.mp h;rcases zT.mp hm with z|z
 ·exact q2Q.mpr ⟨m,by simp[z],q⟩
 ·rcases zF.mp z with rfl|z
  ·rcases q with q|q
   ·exact q2Q.mpr ⟨.box k a p,by simp,.inl q⟩
   ·exact q2Q.mpr ⟨.box k p b,by simp,.inr q⟩
  ·exact q2Q.mpr ⟨m,by simp[z],q⟩
def Ym.ends{g:Int}{bs:List (Int×Int)}{ms:List Mv}(Y:Ym g bs ms)(E:∀y∈knw g bs,y∈WN ms):XX (WN ms)=knw g bs:=q7Q q2Y (q3F g bs) λy=>by
 rw[q4I];refine⟨λh=>?_,E y⟩;obtain⟨m,hm,q|q⟩:=q2Q.mp h
 ·rw[q];exact(Y.inn m hm).1
 ·rw[q];exact(Y.inn m hm).2.1
theorem q7p{α:Type}{P Q:α->Bool}:∀{l:List α},(∀x∈l,Q x=true->P x=true)->(∃x∈l,P x=true/\Q x=false)->l.countP Q<l.countP P
 | [],_,⟨x,hx,_⟩=>by cases hx
 | a::l,h,⟨x,hx,p1,p2⟩=>by
  have hl:∀x∈l,Q x=true->P x=true:=λx hx=>h x (zI _ hx);rw[xB,xB];rcases zF.mp hx with rfl|hx
  ·have:=List.countP_mono_left (l:=l) (p:=Q) (q:=P) hl
   rw[vG p1,vH (by rw[p2];decide)];omega
  ·have ih:=q7p (P:=P) (Q:=Q) (l:=l) hl ⟨x,hx,p1,p2⟩
   have ha:=h a zJ
   by_cases q:Q a=true
   ·rw[vG q,vG (ha q)];omega
   ·rw[vH q];omega
def qar{R K:List Int}(nR:R.Nodup)(s:∀c∈R,c∈K)(l:¬R.length<K.length):∀y∈K,y∈R:=λy hy=>Classical.byContradiction λn=>by
 have:=q3h (F:=y::R) (ts:=K) (xh.mpr ⟨n,nR⟩) λc hc=>(zF.mp hc).elim (λe=>e▸hy) (s c);rw[zC]at this;omega
open Classical in
noncomputable def unR(g:Int)(bs:List (Int×Int))(ms:List Mv):Nat:=(knw g bs).countP (λy=>decide (¬Rch (ms.map Xj) g y))
def qcI(g:Int)(bs:List (Int×Int))(ms:List Mv):unR g bs ms<=(knw g bs).length:=xn
open Classical in
def qg2{g:Int}{bs:List (Int×Int)}{u v:List Mv}{k:Nat}{a b p:Int}(hp:p∈knw g bs)(ra:Rch ((u++Mv.box k a b::v).map Xj) g a)(rp:¬Rch ((u++Mv.box k a b::v).map Xj) g p):unR g bs (u++[Mv.box k a p,Mv.box k p b]++v)<unR g bs (u++Mv.box k a b::v):=by
 unfold unR;refine q7p (λy _ q=>?_) ⟨p,hp,vQ rp,vX λn=>n ?_⟩
 ·exact vQ λr=>of_decide_eq_true q (q7R r)
 ·exact(q7R ra).step (.inl (xC.mpr ⟨.box k a p,by simp,rfl⟩))
def qbI(g:Int)(bs:List (Int×Int)):(knw g bs).Nodup:=(q3F g bs).imp λh=>Int.ne_of_lt h
def qdZ{g:Int}{bs:List (Int×Int)}(hk:(knw g bs).length<=22)(h:∀b∈bs,g<=b.1/\g<=b.2)(Φ:List Mv->Prop)(cut:∀u k a b p v,Ym g bs (u++Mv.box k a b::v)->Φ (u++Mv.box k a b::v)->((a<p/\p<b)\/(b<p/\p<a))->p∈knw g bs->Rch ((u++Mv.box k a b::v).map Xj) g a->¬Rch ((u++Mv.box k a b::v).map Xj) g p->Φ (u++[Mv.box k a p,Mv.box k p b]++v)){ms0:List Mv}(Y0:Ym g bs ms0)(E0:∀y∈knw g bs,y∈WN ms0)(l0:ms0.length<=900)(f0:Φ ms0):
  ∃ms,q0l [.int g,.lst (ms0.map mvD)]=↥(.lst (ms.map mvD))/\Ym g bs ms/\Φ ms/\(∀y∈knw g bs,Rch (ms.map Xj) g y)/\ms.length<=ms0.length+2*(knw g bs).length+1:=by
 have K0:g∈knw g bs:=q0i.mpr (.inl rfl);have nd:=qbI g bs;have e0:=q5c (ms:=ms0) ∅ (by rw[Y0.ends E0];omega);rw[Y0.ends E0]at e0;obtain⟨ω',e,ms,R,rfl,Y,F,al,ll⟩:=q8O (fc:=q1W) (fb:=q2x)
  (λn ω=>∃(ms:List Mv) (R:List Int),ω=[↥(.int g),↥(.lst (ms.map mvD)),↥(.lst ((knw g bs).map D.int)),↥(.lst (R.map D.int))]/\Ym g bs ms/\(∀y∈knw g bs,y∈WN ms)/\Φ ms/\ms.length+n<=ms0.length+2*(knw g bs).length+1/\(¬R.length<(knw g bs).length->∀y∈knw g bs,Rch (ms.map Xj) g y)/\n=2*unR g bs ms+(if R.length<(knw g bs).length then 1 else 0))
  (λω=>∃(ms:List Mv) (R:List Int),ω=[↥(.int g),↥(.lst (ms.map mvD)),↥(.lst ((knw g bs).map D.int)),↥(.lst (R.map D.int))]/\Ym g bs ms/\Φ ms/\(∀y∈knw g bs,Rch (ms.map Xj) g y)/\ms.length<=ms0.length+2*(knw g bs).length+1)
  (λn ω ⟨ms,R,hω,Y,E,F,ll,fu,hn⟩ hf=>by
   subst hω;unfold q1W at hf;simp -implicitDefEqProofs only[qA,q0V,q0M,q0x,qZ,Ww,q0y,Wf,qR,q19,q0N,q0J,q1n,q1e,q1u,q0v,q1s,q0f,q06,q1l,q1o,q18,qM,q08,qE,qL,q00,q1c,q1y,qP,qV,Wp,q0L,q0E,q1h,q09,q03,q0n,qJ,q0Y,WK,q1B,q0o,q0h,qX,qY,q1p,Wd,q1k,q0d,qU,e_c,e_e,We,e_d,q07,q01,e_v,q0b,qT,q0a,Wa,WU,q0z,Wn,q0e,qQ,WR,WW,Ws,q1v,q1j,q16,Wu,q1t,WZ,Wm,WS,Wl,q17,qu,qB,qp,qr,qw,qt,e_t,Wz,q1f,q1i,WY,q1A,q0H,Wi,q0w,qS,qC,q0F,WV,q1d,q1a,Wk,q0O,q0D,q1m,q0I,Xk,q1z,Wh,q0g,q02,qW,qK,q0G,q0A,qO,q0K,q0B,q04,q0Z,q1q,q1x,at0,at1,at2,qz,q0c,Xq,entry,zX,zd,zC,zS,zB,zO,yA,zn,zg,zQ,za,ze,zf,zV,zU,yP,yQ,yh,yi,yj,yR,yS,yT,yU,yV,yW,yD,yX,z9,↓reduceIte,yY,yZ,yB,yN,zt,yb,yM,yc,yH,yG,zr,beq_self_eq_true,zW]at hf;have hf':decide ((R.length:Int)<((knw g bs).length:Int))=false:=z0 hf;have:¬R.length<(knw g bs).length:=λz=>by
    have:=of_decide_eq_false hf';omega
   exact⟨ms,R,rfl,Y,F,fu this,∅⟩)
  (λn ω ⟨ms,R,hω,Y,E,F,ll,fu,hn⟩=>by
   subst hω;refine⟨decide ((R.length:Int)<((knw g bs).length:Int)),?_,λhk2=>?_⟩
   ·unfold q1W
    simp_arith[qE]
   ·have lt:R.length<(knw g bs).length:=by have:=of_decide_eq_true hk2;omega
    rw[vG lt]at hn;have ok:Ok (knw g bs) (ms.map Xj):=⟨nd,λe he=>by obtain⟨m,hm,rfl⟩:=xC.mp he;exact⟨(Y.inn m hm).1,(Y.inn m hm).2.1⟩,∅,by rw[zB];omega⟩;have ha:=q7L (ms:=ms) ∅;have hn2:=q8C ok;obtain⟨F',hg,nF,mF⟩:=q9H ok K0;have mem:∀y,y∈Y7 F'↔Rch (ms.map Xj) g y:=λy=>by rw[(q1F (l:=F')).mem_iff,mF]
    have nR:(Y7 F').Nodup:=(q1F (l:=F')).nodup_iff.mpr nF;have sR:∀c∈Y7 F',c∈knw g bs:=λc hc=>((mem c).mp hc).mem ok K0;have se:=Y.ends E;unfold q2x
    by_cases all:∀y∈knw g bs,Rch (ms.map Xj) g y
    ·have wc:=qeo (ms:=ms) (K:=knw g bs) (R:=Y7 F') ∅ se ∅ λp hp=>(mem p).mpr (all p hp)
     simp_arith[ha,hn2,hg,wc];refine⟨_,rfl,2*unR g bs ms,∅,ms,Y7 F',rfl,Y,E,F,∅,λ_=>all,?_⟩;have:=q3h nd (λc hc=>(mem c).mpr (all c hc));rw[vH ∅,Nat.add_zero]
    ·obtain⟨y,hy,ny⟩:∃y∈knw g bs,¬Rch (ms.map Xj) g y:=Classical.byContradiction λz=>all λy hy=>Classical.byContradiction λn=>z ⟨y,hy,n⟩
     obtain⟨m,hm,p,hp,r1,r2,am⟩:=Y.more h hy ny;obtain⟨u,k,a,b,p,v,e1,aR,pK,pR,amp,wc⟩:=qe2 (ms:=ms) (K:=knw g bs) (R:=Y7 F') ∅ se ∅ ⟨m,hm,(mem _).mpr r1,p,hp,λz=>r2 ((mem p).mp z),q7V.mpr am⟩ (λm hm p hp am=>by
      cases m with
      | box k a b=>exact⟨k,a,b,rfl⟩
      | go a b=>
       have g1:=Y.go (.go a b) hm ⟨a,b,rfl⟩ p hp;have g2:=q7V.mp am;simp only[Mv.frm,Mv.to]at g1 g2;omega)
     have amp':=q7V.mp amp;simp only[Mv.frm,Mv.to]at amp';have ra:=(mem a).mp aR;have rp:¬Rch (ms.map Xj) g p:=λz=>pR ((mem p).mpr z);simp_arith[ha,hn2,hg,wc];clear ha hn2 hg wc ok;subst e1;have Y':=Y.cut pK amp';have F2:=cut u k a b p v Y F amp' pK ra rp;have cl:=qg2 (bs:=bs) pK ra rp;have le:(u++[Mv.box k a p,Mv.box k p b]++v).length=(u++Mv.box k a b::v).length+1:=by
      rw[zD,zD,zD,zC,zC,zC,zS];omega
     have i1:(if (Y7 F').length<(knw g bs).length then 1 else 0)<=1:=by split <;> omega
     refine⟨_,rfl,2*unR g bs (u++[Mv.box k a p,Mv.box k p b]++v)+(if (Y7 F').length<(knw g bs).length then 1 else 0),∅,_,Y7 F',rfl,Y',λy hy=>qeI (E y hy),F2,∅,λz y hy=>?_,rfl⟩;exact q7R ((mem y).mp (qar nR sR z y hy)))
  1000000 (2*unR g bs ms0+(if [g].length<(knw g bs).length then 1 else 0))
  [↥(.int g),↥(.lst (ms0.map mvD)),↥(.lst ((knw g bs).map D.int)),↥(.lst [.int g])]
  ⟨ms0,[g],rfl,Y0,E0,f0,by have:=qcI g bs ms0;split <;> omega,λz y hy=>by
   have:=qar (R:=[g]) (K:=knw g bs) (by simp) (λc hc=>by rw[zb.mp hc];exact K0) z y hy;rw[zb.mp this];exact .refl,rfl⟩
  (by have:=qcI g bs ms0;split <;> omega)
 refine⟨ms,?_,Y,F,al,ll⟩;unfold q0l q2G;simp_arith[e0,e]
noncomputable def Xa(as:List (Int×Int))(n:Nat):Int:=(as.getD n (0,0)).1
noncomputable def zAa(as:List (Int×Int))(n:Nat):Int:=(as.getD n (0,0)).2
inductive Wlk (as:List (Int×Int)):Int->List Nat->Int->Prop where
 | nil (a:Int):Wlk as a [] a
 | cons {a b:Int} {n:Nat} {r:List Nat} (h:Xa as n=a) (t:Wlk as (zAa as n) r b):Wlk as a (n::r) b
def Wlk.app{as:List (Int×Int)}{a b c:Int}{r q:List Nat}(h:Wlk as a r b)(h':Wlk as b q c):Wlk as a (r++q) c:=by
 induction h with
 | nil _=>exact h'
 | cons e _ ih=>exact .cons e (ih h')
def Wlk.snoc{as:List (Int×Int)}{a b:Int}{r:List Nat}{n:Nat}(h:Wlk as a r b)(e:Xa as n=b):Wlk as a (r++[n]) (zAa as n):=h.app (.cons e (.nil _))
theorem Wlk.last{as:List (Int×Int)}:∀{r:List Nat}{a b:Int}{n:Nat},Wlk as a (r++[n]) b->b=zAa as n/\Wlk as a r (Xa as n)
 | [],a,b,n,h=>by
  cases h with
  | cons e t=>cases t;exact⟨rfl,by rw[<- e];exact .nil _⟩
 | m::r,a,b,n,h=>by
  cases h with
  | cons e t=>
   obtain⟨h1,h2⟩:=Wlk.last t;exact⟨h1,.cons e h2⟩
noncomputable def cS(as:List (Int×Int))(U:List Nat)(v:Int):Nat:=U.countP λn=>decide (Xa as n=v)
noncomputable def cD(as:List (Int×Int))(U:List Nat)(v:Int):Nat:=U.countP λn=>decide (zAa as n=v)
noncomputable def ind(v h:Int):Int:=if v=h then 1 else 0
def bal(as:List (Int×Int))(U:List Nat)(h x:Int):Prop:=∀v,(cS as U v:Int)-cD as U v=ind v h-ind v x
structure HI (as:List (Int×Int)) (s:Int) (U T B:List Nat) (h:Int):Prop where
 all:(U++(T++B)).Perm (ya as.length)
 inv:∃x T0 T1,T=T0++T1/\Wlk as s T0 x/\Wlk as x T1 h/\Wlk as x B.reverse s/\bal as U h x
 shut:∀n∈B,∀m∈U,Xa as m≠zAa as n
def qf2{as:List (Int×Int)}{U U':List Nat}{n:Nat}(h:U.Perm (n::U'))(v:Int):cS as U v=cS as U' v+if Xa as n=v then 1 else 0:=by
 unfold cS;rw[h.countP_eq,xB];simp
def qeh{as:List (Int×Int)}{U U':List Nat}{n:Nat}(h:U.Perm (n::U'))(v:Int):cD as U v=cD as U' v+if zAa as n=v then 1 else 0:=by
 unfold cD;rw[h.countP_eq,xB];simp
def HI.start{as:List (Int×Int)}{s:Int}{U:List Nat}(hU:U.Perm (ya as.length))(hb:∀v,cS as U v=cD as U v):HI as s U [] [] s :=
 ⟨by simpa using hU,⟨s,[],[],rfl,.nil _,.nil _,.nil _,λv=>by rw[hb v];omega⟩,λn hn=>by cases hn⟩
def HI.push{as:List (Int×Int)}{s h:Int}{U U' T B:List Nat}{n:Nat}(I:HI as s U T B h)(hn:U.Perm (n::U'))(hs:Xa as n=h):HI as s U' (T++[n]) B (zAa as n):=by
 obtain⟨x,T0,T1,rfl,w0,w1,w2,b⟩:=I.inv;refine⟨?_,⟨x,T0,T1++[n],by rw[zR],w0,w1.snoc hs,w2,λv=>?_⟩,λk hk m hm=>I.shut k hk m (hn.mem_iff.mpr (zI _ hm))⟩
 ·refine xV ?_ I.all
  have h1:(U++((T0++T1)++B)).Perm ((n::U')++((T0++T1)++B)):=hn.append_right _;refine xV ?_ h1.symm;rw[zR (T0++T1) [n] B];have h2:(U'++((T0++T1)++([n]++B))).Perm (U'++([n]++((T0++T1)++B))):=yo _ (by
   rw[<- zR,<- zR];exact xT _ xW)
  refine h2.trans ?_;show (U'++(n::((T0++T1)++B))).Perm (n::(U'++((T0++T1)++B)));exact YG
 ·have:=b v
  have e1:=qf2 (as:=as) hn v;have e2:=qeh (as:=as) hn v;unfold ind at this ⊢;rw[hs]at e1
  by_cases z1:v=h <;> by_cases z2:v=zAa as n
  ·rw[vG z1.symm]at e1;rw[vG z2.symm]at e2;rw[vG z1]at this;rw[vG z2];omega
  ·rw[vG z1.symm]at e1;rw[vH (λq=>z2 q.symm)]at e2;rw[vG z1]at this;rw[vH z2];omega
  ·rw[vH (λq=>z1 q.symm)]at e1;rw[vG z2.symm]at e2;rw[vH z1]at this;rw[vG z2];omega
  ·rw[vH (λq=>z1 q.symm)]at e1;rw[vH (λq=>z2 q.symm)]at e2;rw[vH z1]at this;rw[vH z2];omega
def qaF{as:List (Int×Int)}{U:List Nat}{v:Int}(h:∀m∈U,Xa as m≠v):cS as U v=0:=by
 unfold cS;rw[xj];intro m hm;simpa using h m hm
def stuck{as:List (Int×Int)}{U:List Nat}{h x:Int}(b:bal as U h x)(hs:∀m∈U,Xa as m≠h):h=x:=by
 have:=b h;rw[qaF hs]at this;unfold ind at this;rw[vG rfl]at this
 by_cases z:h=x
 ·exact z
 ·rw[vH z]at this;omega
def HI.pop{as:List (Int×Int)}{s h:Int}{U T B:List Nat}{n:Nat}(I:HI as s U (T++[n]) B h)(hs:∀m∈U,Xa as m≠h):HI as s U T (B++[n]) (Xa as n):=by
 obtain⟨x,T0,T1,e,w0,w1,w2,b⟩:=I.inv;have hx:=stuck b hs;subst hx;have w:Wlk as s (T++[n]) h:=by rw[e];exact w0.app w1
 obtain⟨e1,e2⟩:=w.last;refine⟨?_,⟨Xa as n,T,[],by rw[yu],e2,.nil _,?_,λv=>by have:=b v;omega⟩,λk hk m hm=>?_⟩
 ·refine xV (yo _ ?_) I.all
  rw[zR];exact yo _ xW
 ·rw[xy]
  exact .cons rfl (by rw[<- e1];exact w2)
 ·rcases zT.mp hk with y|y
  ·exact I.shut k y m hm
  ·cases zb.mp y
   rw[<- e1];exact hs m hm
structure Rnd (as:List (Int×Int)) (s:Int) (row U:List Nat):Prop where
 all:(U++row).Perm (ya as.length)
 walk:Wlk as s row s
 s0:∀m∈U,Xa as m≠s
 shut:∀n∈row,∀m∈U,Xa as m≠zAa as n
 even:∀v,cS as U v=cD as U v
def HI.done{as:List (Int×Int)}{s h:Int}{U B:List Nat}(I:HI as s U [] B h)(hs:∀m∈U,Xa as m≠h):Rnd as s B.reverse U:=by
 obtain⟨x,T0,T1,e,w0,w1,w2,b⟩:=I.inv;obtain⟨rfl,rfl⟩:=List.append_eq_nil_iff.mp e.symm;cases w0;cases w1;refine⟨?_,w2,hs,λn hn=>I.shut n (xG.mp hn),λv=>by have:=b v;omega⟩;have:=I.all;rw[zg]at this;exact(yo _ (List.reverse_perm B)).trans this
theorem Wlk.mem{as:List (Int×Int)}{V:Int->Prop}:∀{r:List Nat}{a b:Int},Wlk as a r b->V a->(∀n∈r,V (zAa as n))->∀n∈r,V (Xa as n)
 | [],_,_,_,_,_,n,hn=>by cases hn
 | m::r,a,b,h,ha,hv,n,hn=>by
  cases h with
  | cons e t=>
   rcases zF.mp hn with rfl|hn
   ·rw[e];exact ha
   ·exact t.mem (hv m zJ) (λk hk=>hv k (zI _ hk)) n hn
def Rnd.full{as:List (Int×Int)}{s:Int}{row U:List Nat}(R:Rnd as s row U)(hr:∀a∈as,Rch as s a.1):row.length=as.length:=by
 have hU:U=[]:=by
  cases U with
  | nil=>rfl
  | cons m U'=>
   exfalso
   let V:Int->Prop:=λv=>v=s\/∃n∈row,zAa as n=v
   have out:∀v,V v->∀k∈m::U',Xa as k≠v:=λv hv k hk=>by
    rcases hv with rfl|⟨n,hn,rfl⟩
    ·exact R.s0 k hk
    ·exact R.shut n hn k hk
   have inn:∀v,V v->∀k∈m::U',zAa as k≠v:=λv hv k hk e=>by
    have h1:=qaF (as:=as) (out v hv);have h2:=R.even v;rw[h1]at h2;have:cD as (m::U') v=0:=h2.symm;unfold cD at this;rw[xj]at this;exact this k hk ⇑e
   have row_of:∀(n:Nat),n<as.length->(V (Xa as n)\/V (zAa as n))->n∈row:=λn hn hv=>by
    have:n∈(m::U')++row:=R.all.mem_iff.mpr (xz.mpr hn);rcases zT.mp this with y|y
    ·rcases hv with hv|hv
     ·exact vK rfl (out _ hv n y)
     ·exact vK rfl (inn _ hv n y)
    ·exact y
   have sv:∀n∈row,V (Xa as n):=R.walk.mem (V:=V) (.inl rfl) λn hn=>.inr ⟨n,hn,rfl⟩;have cl:∀c,Rch as s c->V c:=λc h=>h.inv V (.inl rfl) λb c hb e=>by
    rcases e with e|e
    ·obtain⟨n,hn,he⟩:=ye.mp e
     have es:Xa as n=b/\zAa as n=c:=by
      unfold Xa zAa;rw[zY,zG hn,he];exact⟨rfl,rfl⟩
     exact .inr ⟨n,row_of n hn (.inl (by rw[es.1];exact hb)),es.2⟩
    ·obtain⟨n,hn,he⟩:=ye.mp e
     have es:Xa as n=c/\zAa as n=b:=by
      unfold Xa zAa;rw[zY,zG hn,he];exact⟨rfl,rfl⟩
     rw[<- es.1];exact sv n (row_of n hn (.inr (by rw[es.2];exact hb)))
   have hm:m<as.length:=xz.mp (R.all.mem_iff.mp (by simp));have hrm:=hr _ (xX hm);have es:Xa as m=(as[m]).1:=by unfold Xa;rw[zY,zG hm];rfl
   exact out _ (cl _ (by rw[<- es]at hrm;exact hrm)) m zJ rfl
 have:=R.all.length_eq;rw[hU,zg,yO]at this;exact this
noncomputable def cst(l:List Nat):List Int:=l.map λ(n:Nat)=>(n:Int)
structure WT (as:List (Int×Int)) (ks:List Int) (xss:List (List Int)) (U:List Nat):Prop where
 len:ks.length=xss.length
 nd:U.Nodup
 mem:∀(v k:Int),k∈Xl ks xss v↔∃n:Nat,k=n/\n∈U/\Xa as n=v
 gn:∀v,(Xl ks xss v).Nodup
theorem q5Z:∀{ks:List Int}{xss:List (List Int)}(h v:Int),ks.length=xss.length->Xl ks (Xw ks xss h) v=if v=h then (Xl ks xss h).dropLast else Xl ks xss v
 | [],[],h,v,_=>by
  show ([]:List Int)=if v=h then ([]:List Int).dropLast else []
  split <;> rfl
 | [],_::_,_,_,hl=>by simp at hl
 | _::_,[],_,_,hl=>by simp at hl
 | k::ks,x::xss,h,v,hl=>by
  have ih:=q5Z (ks:=ks) (xss:=xss) h v ⇑hl;unfold Xl at ih ⊢;show (Y6 (k::ks) (if k=h then x.dropLast::xss else x::Xw ks xss h) v).getD []=if v=h then ((if k=h then some x else Y6 ks xss h).getD []).dropLast else (if k=v then some x else Y6 ks xss v).getD []
  by_cases z:k=h
  ·rw[vG z,vG z]
   show (if k=v then some x.dropLast else Y6 ks xss v).getD []=_
   by_cases y:k=v
   ·rw[vG y,vG (by rw[<- y,z])];rfl
   ·rw[vH y,vH (λe=>y (by rw[z,e])),vH y]
  ·rw[vH z,vH z]
   show (if k=v then some x else Y6 ks (Xw ks xss h) v).getD []=_
   by_cases y:k=v
   ·rw[vG y,vH (λe=>z (by rw[y,e])),vG y]
   ·rw[vH y,ih,vH y]
theorem q88:∀(ks:List Int)(xss:List (List Int))(h:Int),(Xw ks xss h).length=xss.length
 | [],_,_=>rfl
 | _::_,[],_=>rfl
 | k::ks,x::xss,h=>by
  show (if k=h then x.dropLast::xss else x::Xw ks xss h).length=_
  split
  ·rfl
  ·rw[zC,q88,zC]
def q9u{l:List Int}{k a:Int}(nd:l.Nodup)(e:l.getLast?=some k):a∈l.dropLast↔a∈l/\a≠k:=by
 have hl:l=l.dropLast++[k]:=by
  have hne:l≠[]:=λz=>by rw[z]at e;cases e
  have:=wp hne;rw[List.getLast?_eq_getLast hne]at e;rw[z0 e]at this;exact this.symm
 rw[hl]at nd;have nd':=ZA.mp nd
 constructor
 ·intro h
  exact⟨by rw[hl];exact yJ _ h,λz=>nd'.2.2 a h k (by simp) z⟩
 ·rintro⟨h1,h2⟩
  rw[hl]at h1;rcases zT.mp h1 with y|y
  ·exact y
  ·exact vK (zb.mp y) h2
def WT.pop{as:List (Int×Int)}{ks:List Int}{xss:List (List Int)}{U:List Nat}(W:WT as ks xss U){h:Int}{m:Nat}(e:(Xl ks xss h).getLast?=some (m:Int)):WT as ks (Xw ks xss h) (U.erase m):=by
 have hm:(m:Int)∈Xl ks xss h:=Zh e;obtain⟨n,en,hn,hs⟩:=(W.mem h m).mp hm;have:n=m:=∅
 subst this;refine⟨by rw[q88];exact W.len,W.nd.erase _,λv k=>?_,λv=>?_⟩
 ·rw[q5Z h v W.len]
  by_cases z:v=h
  ·rw[vG z,q9u (W.gn h) e,W.mem h]
   constructor
   ·rintro⟨⟨n',rfl,h1,h2⟩,h3⟩
    exact⟨n',rfl,(W.nd.mem_erase_iff).mpr ⟨λq=>h3 (by rw[q]),h1⟩,by rw[z];exact h2⟩
   ·rintro⟨n',rfl,h1,h2⟩
    obtain⟨a,b⟩:=(W.nd.mem_erase_iff).mp h1;exact⟨⟨n',rfl,b,by rw[<- z];exact h2⟩,λq=>a ∅⟩
  ·rw[vH z,W.mem v]
   constructor
   ·rintro⟨n',rfl,h1,h2⟩
    exact⟨n',rfl,(W.nd.mem_erase_iff).mpr ⟨λq=>z (by rw[<- h2,q,hs]),h1⟩,h2⟩
   ·rintro⟨n',rfl,h1,h2⟩
    exact⟨n',rfl,((W.nd.mem_erase_iff).mp h1).2,h2⟩
 ·rw[q5Z h v W.len]
  split
  ·exact(W.gn h).sublist (List.dropLast_sublist _)
  ·exact W.gn v
def qaA{as:List (Int×Int)}{m:Nat}:(as.getD ((m:Int)).toNat (0,0)).1=Xa as m/\(as.getD ((m:Int)).toNat (0,0)).2=zAa as m:=by
 rw[xI];exact⟨rfl,rfl⟩
theorem q9s{as:List (Int×Int)}{s:Int}(hl:as.length<=9000){ks:List Int}:∀(n:Nat)(xss:List (List Int))(U T B:List Nat)(h:Int),HI as s U T B h->WT as ks xss U->2*U.length+T.length<n ->
  ∃row U',Xt as ks n xss (cst T) (cst B) h=some (cst row)/\Rnd as s row U'
 | 0,_,_,_,_,_,_,_,hn=>vK hn (wV _)
 | n+1,xss,U,T,B,h,I,W,hn=>by
  have tot:U.length+(T.length+B.length)=as.length:=by
   have:=I.all.length_eq;rw[zD,zD,yO]at this;exact this
  unfold Xt;cases e:(Xl ks xss h).getLast? with
  | some k=>
   obtain⟨m,rfl,hm,hs⟩:=(W.mem h k).mp (Zh e);have hlt:m<as.length:=xz.mp (I.all.mem_iff.mp (yJ _ hm));have pm:=List.perm_cons_erase hm;have I':=I.push pm hs;have ul:U.length=(U.erase m).length+1:=by have:=pm.length_eq;rw[zC]at this;exact this
   obtain⟨row,U',r1,r2⟩:=q9s hl n (Xw ks xss h) (U.erase m) (T++[m]) B _ I' (W.pop e) (by rw[zD,zz];omega);refine⟨row,U',?_,r2⟩;show (if 0<=(m:Int)/\(m:Int)<as.length/\(cst T).length<1000000 then Xt as ks n (Xw ks xss h) (cst T++[(m:Int)]) (cst B) (as.getD ((m:Int)).toNat (0,0)).2 else none)=_;rw[vG ⟨∅,∅,by unfold cst;rw[zB];omega⟩,qaA.2];rw[show cst T++[(m:Int)]=cst (T++[m]) by unfold cst;rw[zk];rfl];exact r1
  | none=>
   have hem:Xl ks xss h=[]:=wP.mp e;have hs:∀m∈U,Xa as m≠h:=λm hm z=>by
    have:(m:Int)∈Xl ks xss h:=(W.mem h m).mpr ⟨m,rfl,hm,z⟩;rw[hem]at this;cases this
   rcases List.eq_nil_or_concat T with rfl|⟨T0,m,rfl⟩
   ·refine⟨B.reverse,U,?_,I.done hs⟩
    show some (cst B).reverse=_;unfold cst;rw[YH]
   ·rw[List.concat_eq_append]at I hn tot ⊢
    have hlt:m<as.length:=xz.mp (I.all.mem_iff.mp (zu _ (yJ _ (by simp))));have I':=I.pop hs;rw[zD,zz]at hn tot;obtain⟨row,U',r1,r2⟩:=q9s hl n xss U T0 (B++[m]) _ I' W ∅;refine⟨row,U',?_,r2⟩;have ec:cst (T0++[m])=cst T0++[(m:Int)]:=by unfold cst;rw[zk];rfl
    rw[ec];show (match (cst T0++[(m:Int)]).getLast? with
     | some k=>if 0<=k/\k<as.length/\(cst B).length<1000000 then Xt as ks n xss (cst T0++[(m:Int)]).dropLast (cst B++[k]) (as.getD k.toNat (0,0)).1 else none
     | none=>some (cst B).reverse)=_
    rw[List.getLast?_concat];show (if 0<=(m:Int)/\(m:Int)<as.length/\(cst B).length<1000000 then Xt as ks n xss (cst T0++[(m:Int)]).dropLast (cst B++[(m:Int)]) (as.getD ((m:Int)).toNat (0,0)).1 else none)=_;rw[vG ⟨∅,∅,by unfold cst;rw[zB];omega⟩,qaA.1,List.dropLast_concat];rw[show cst B++[(m:Int)]=cst (B++[m]) by unfold cst;rw[zk];rfl];exact r1
theorem q6J:∀{ks:List Int}{xss:List (List Int)}(a b v:Int),ks.length=xss.length->a∈ks->Xl ks (Wv ks xss a b) v=if v=a then Xl ks xss v++[b]else Xl ks xss v
 | [],_,_,_,_,_,h=>by cases h
 | _::_,[],_,_,_,hl,_=>by simp at hl
 | k::ks,x::xss,a,b,v,hl,ha=>by
  unfold Xl;show (Y6 (k::ks) (if k=a then (x++[b])::xss else x::Wv ks xss a b) v).getD []=if v=a then ((if k=v then some x else Y6 ks xss v).getD [])++[b]else (if k=v then some x else Y6 ks xss v).getD []
  by_cases z:k=a
  ·rw[vG z]
   show (if k=v then some (x++[b])else Y6 ks xss v).getD []=_
   by_cases y:k=v
   ·rw[vG y,vG (by rw[<- y,z]),vG y];rfl
   ·rw[vH y,vH (λe=>y (by rw[z,e])),vH y]
  ·rw[vH z]
   have ha':a∈ks:=(zF.mp ha).resolve_left λe=>z e.symm;have ih:=q6J (ks:=ks) (xss:=xss) a b v ⇑hl ha';unfold Xl at ih;show (if k=v then some x else Y6 ks (Wv ks xss a b) v).getD []=_
   by_cases y:k=v
   ·rw[vG y,vH (λe=>z (by rw[y,e])),vG y]
   ·rw[vH y,ih,vH y]
theorem q9E:∀{ks:List Int}{xss:List (List Int)}(a v:Int),ks.length=xss.length->Xl (ks++[a]) (xss++[[]]) v=Xl ks xss v
 | [],[],a,v,_=>by
  unfold Xl;show (if a=v then some []else none).getD []=_
  split <;> rfl
 | [],_::_,_,_,hl=>by simp at hl
 | _::_,[],_,_,hl=>by simp at hl
 | k::ks,x::xss,a,v,hl=>by
  have ih:=q9E (ks:=ks) (xss:=xss) a v ⇑hl;unfold Xl at ih ⊢;show (if k=v then some x else Y6 (ks++[a]) (xss++[[]]) v).getD []=(if k=v then some x else Y6 ks xss v).getD []
  by_cases y:k=v
  ·rw[vG y,vG y]
  ·rw[vH y,vH y,ih]
theorem qdR(as:List (Int×Int)):∀n:Nat,n<=as.length->(byS as n).1.length=(byS as n).2.length/\∀v,Xl (byS as n).1 (byS as n).2 v=cst ((ya n).filter λj=>decide (Xa as j=v))
 | 0,_=>⟨rfl,λv=>rfl⟩
 | n+1,hn=>by
  obtain⟨h1,h2⟩:=qdR as n ∅;have hlt:n<as.length:=∅
  have eb:byS as (n+1)=Xh (byS as n) n (Xa as n):=by
   show (match as[n]? with|some a=>Xh (byS as n) n a.1|none=>byS as n)=_;rw[zG hlt];unfold Xa;rw[zY,zG hlt];rfl
  have er:∀v,cst ((ya (n+1)).filter λj=>decide (Xa as j=v))=if v=Xa as n then cst ((ya n).filter λj=>decide (Xa as j=v))++[(n:Int)]else cst ((ya n).filter λj=>decide (Xa as j=v)):=λv=>by
   rw[List.range_succ,List.filter_append]
   by_cases z:v=Xa as n
   ·rw[vG z]
    have:([n].filter λj=>decide (Xa as j=v))=[n]:=by rw[ZN,vG (vQ z.symm)];rfl
    rw[this];unfold cst;rw[zk];rfl
   ·rw[vH z]
    have:([n].filter λj=>decide (Xa as j=v))=[]:=by rw[ZN,vH ⇑(λe=>z e.symm)];rfl
    rw[this,yu]
  rw[eb];unfold Xh
  by_cases ha:Xa as n∈(byS as n).1
  ·rw[vG ha]
   exact⟨by show (byS as n).1.length=(Wv _ _ _ _).length;rw[q6O];exact h1,λv=>by
    show Xl (byS as n).1 (Wv (byS as n).1 (byS as n).2 (Xa as n) n) v=_;rw[q6J _ _ v h1 ha,er v,h2 v]⟩
  ·rw[vH ha]
   have hl':((byS as n).1++[Xa as n]).length=((byS as n).2++[[]]).length:=by rw[zD,zD,h1];rfl
   exact⟨by show ((byS as n).1++[Xa as n]).length=(Wv _ _ _ _).length;rw[q6O];exact hl',λv=>by
    show Xl ((byS as n).1++[Xa as n]) (Wv ((byS as n).1++[Xa as n]) ((byS as n).2++[[]]) (Xa as n) n) v=_;rw[q6J _ _ v hl' (by simp),q9E _ v h1,er v,h2 v]⟩
def qfD{l:List Nat}(h:l.Nodup):(cst l).Nodup:=by
 unfold cst List.Nodup;rw[List.pairwise_map];exact h.imp λ{a b} z e=>z ∅
def qde(as:List (Int×Int)):WT as (byS as as.length).1 (byS as as.length).2 (ya as.length):=by
 obtain⟨h1,h2⟩:=qdR as as.length (zL _);refine⟨h1,YK,λv k=>?_,λv=>by rw[h2 v];exact qfD (YK.filter _)⟩;rw[h2 v];unfold cst;rw[xC]
 constructor
 ·rintro⟨n,hn,rfl⟩
  obtain⟨a,b⟩:=wA.mp hn;exact⟨n,rfl,a,of_decide_eq_true b⟩
 ·rintro⟨n,rfl,a,b⟩
  exact⟨n,wA.mpr ⟨a,vQ b⟩,rfl⟩
def q9V{α:Type}(d:α):∀bs:List α,(ya bs.length).map (λk=>bs.getD k d)=bs:=λbs=>by
 apply List.ext_getElem
 ·rw[zB,yO]
 ·intro i h1 h2
  rw[wj,List.getElem_range,zY,zG h2];rfl
def qc4(as:List (Int×Int))(v:Int):cS as (ya as.length) v=(sts as).count v/\cD as (ya as.length) v=(gls as).count v:=by
 have h:∀f:Int×Int->Int,(ya as.length).countP (λn=>decide (f (as.getD n (0,0))=v))=(as.map f).count v:=λf=>by
  have e:=q9V (0,0) as;have:(as.map f)=(ya as.length).map λn=>f (as.getD n (0,0)):=by
   have:=uG (List.map f) e;rw[xU]at this;exact this.symm
  rw[this,Yb,Za];rfl
 exact⟨h (·.1),h (·.2)⟩
def q9p{as:List (Int×Int)}{s:Int}(hl:as.length<=9000)(hp:(sts as).Perm (gls as)):∃row U,zAH s as=some (cst row)/\Rnd as s row U:=by
 have hb:∀v,cS as (ya as.length) v=cD as (ya as.length) v:=λv=>by
  rw[(qc4 as v).1,(qc4 as v).2,hp.count_eq]
 obtain⟨row,U,r1,r2⟩:=q9s (s:=s) hl 100000 (byS as as.length).2 (ya as.length) [] [] s (HI.start (.refl _) hb) (qde as) (by rw[yO,zS];omega);exact⟨row,U,by unfold zAH;rw[vG hl];exact r1,r2⟩
theorem qc2(v:Int):∀ms:List Mv,((ms.countP λm=>decide (m.frm=v):Nat):Int)-(ms.countP λm=>decide (m.to=v):Nat)=((crR (v+1) ms:Int)-crL (v+1) ms)-((crR v ms:Int)-crL v ms)
 | []=>rfl
 | m::ms=>by
  have ih:=qc2 v ms;rw[q4B,q4x,q4B,q4x,xB,xB];simp only[decide_eq_true_eq]
  by_cases z1:m.frm=v <;> by_cases z2:m.to=v <;> simp only[z1,z2,if_true,if_false] <;> repeat' split
  all_goals omega
def Ym.all{g:Int}{bs:List (Int×Int)}{ms:List Mv}(h:∀b∈bs,g<=b.1/\g<=b.2)(Y:Ym g bs ms)(x:Int):crR x ms=crL x ms:=by
 rcases Int.lt_or_le g x with z|z
 ·have:=Y.cr x z;omega
 ·have ge:∀y∈knw g bs,g<=y:=λy hy=>by
   rcases q0i.mp hy with q|⟨b,k,_,q|q⟩
   ·omega
   ·rw[q];exact(h b k).1
   ·rw[q];exact(h b k).2
  have a:crR x ms=0:=xj.mpr λm hm=>by
   have:=ge _ (Y.inn m hm).1;simp only[zc,decide_eq_true_eq];omega
  have b:crL x ms=0:=xj.mpr λm hm=>by
   have:=ge _ (Y.inn m hm).2.1;simp only[zc,decide_eq_true_eq];omega
  rw[a,b]
def Ym.perm{g:Int}{bs:List (Int×Int)}{ms:List Mv}(h:∀b∈bs,g<=b.1/\g<=b.2)(Y:Ym g bs ms):(sts (ms.map Xj)).Perm (gls (ms.map Xj)):=by
 rw[List.perm_iff_count];intro v;have e1:(sts (ms.map Xj)).count v=ms.countP λm=>decide (m.frm=v):=by
  unfold sts;rw[xU,Yb,Za];rfl
 have e2:(gls (ms.map Xj)).count v=ms.countP λm=>decide (m.to=v):=by
  unfold gls;rw[xU,Yb,Za];rfl
 have:=qc2 v ms;rw[Y.all h,Y.all h]at this;rw[e1,e2];omega
def q7k{as:List (Int×Int)}{s:Int}{row:List Int}(h:zAH s as=some row):q2o [.int s,.lst (as.map pairD2)]=some (.fr (row.map D.int)):=by
 show ((pairsOf (as.map pairD2)).bind λas=>(zAH s as).map λrow=>O.fr (row.map D.int))=_;rw[q4U,zX,h];rfl
def qf0{as:List (Int×Int)}{s:Int}(hl:as.length<=9000)(pm:(sts as).Perm (gls as))(hg:∀q∈as,Rch as s q.1):∃row:List Nat,q3J [.int s,.lst (as.map pairD2)]=↥(.lst ((cst row).map D.int))/\row.Perm (ya as.length)/\Wlk as s row s:=by
 have hm:=qaw (as:=as) hl;rw[vQ pm]at hm;obtain⟨row,U,hr,R⟩:=q9p (s:=s) hl pm;have hrf:=q7k hr;have ha:row.length=as.length:=R.full hg;have e1:((((cst row).length:Nat):Int)==(as.length:Int))=true:=by
  have:(cst row).length=row.length:=by unfold cst;rw[zB]
  simp only[beq_iff_eq];omega
 have hU:U=[]:=by
  have:=R.all.length_eq;rw[zD,yO]at this;exact xM ∅
 refine⟨row,?_,by have:=R.all;rw[hU,zg]at this;exact this,R.walk⟩;unfold q3J q6H;simp_arith[hm,hrf,e1]
theorem qby:∀(bs:List (Int×Int))(k:Nat),(wcK k bs).length<=bs.length
 | [],_=>zL _
 | b::r,k=>by
  have ih:=qby r (k+1);unfold wcK;rw[zD,zC]
  split <;> simp only[zC,zS] <;> omega
theorem qcq:∀(bs:List (Int×Int))(k:Nat)(b:Int×Int),b∈bs->b.1≠b.2->∃j,Mv.box j b.1 b.2∈wcK k bs
 | c::r,k,b,hb,ne=>by
  unfold wcK;rcases zF.mp hb with rfl|hb
  ·exact⟨k,yJ _ (by rw[vH ne];exact zb.mpr rfl)⟩
  ·obtain⟨j,hj⟩:=qcq r (k+1) b hb ne
   exact⟨j,zu _ hj⟩
noncomputable def m0(g:Int)(bs:List (Int×Int)):List Mv:=wcK 0 bs++emM g bs
def q9t{g:Int}{bs:List (Int×Int)}(hb:bs.length<=20){n:Nat}(hk:(knw g bs).length<=n+1):(m0 g bs).length<=bs.length+40*n:=by
 have a:=qby bs 0;have b:=q9w hb (nbs (knw g bs));rw[q6h]at b;unfold m0 emM;rw[zD];omega
def q8Q{g:Int}{bs:List (Int×Int)}(hb:bs.length<=20)(hk:(knw g bs).length<=22)(h:∀b∈bs,g<=b.1/\g<=b.2)(Φ:List Mv->Prop)(cut:∀u k a b p v,Ym g bs (u++Mv.box k a b::v)->Φ (u++Mv.box k a b::v)->((a<p/\p<b)\/(b<p/\p<a))->p∈knw g bs->Rch ((u++Mv.box k a b::v).map Xj) g a->¬Rch ((u++Mv.box k a b::v).map Xj) g p->Φ (u++[Mv.box k a p,Mv.box k p b]++v))(f0:Φ (m0 g bs)):
  ∃ms,q0l [.int g,.lst ((m0 g bs).map mvD)]=↥(.lst (ms.map mvD))/\Ym g bs ms/\Φ ms/\(∀m∈ms,Rch (ms.map Xj) g m.frm)/\ms.length<=(m0 g bs).length+2*(knw g bs).length+1:=by
 have Y0:Ym g bs (m0 g bs):=qd0 h;have ml:=q9t (g:=g) hb (n:=21) hk
 by_cases z:∃b∈bs,b.1≠b.2
 ·obtain⟨b,hbb,ne⟩:=z
  have E0:∀y∈knw g bs,y∈WN (m0 g bs):=λy hy=>by
   rcases q0i.mp hy with q|⟨c,hc,nc,q⟩
   ·have hi:hiB bs (g+1)=true:=q6v.mpr ⟨b,hbb,ne,by have:=h b hbb;omega⟩
    have one:1<=pu bs (g+1):=by
     unfold pu;rw[vG hi];unfold mx3;repeat' split
     all_goals omega
    have c:=(Y0.cr (g+1) ∅).1;have pos:0<crR (g+1) (m0 g bs):=∅
    unfold crR at pos;obtain⟨m,hm,k⟩:=Zn.mp pos;simp only[zc,decide_eq_true_eq]at k;have i1:=(Y0.inn m hm).1;have:g<=m.frm:=by
     rcases q0i.mp i1 with r|⟨c,hc,_,r|r⟩
     ·omega
     ·rw[r];exact(h c hc).1
     ·rw[r];exact(h c hc).2
    exact q2Q.mpr ⟨m,hm,.inl ∅⟩
   ·obtain⟨j,hj⟩:=qcq bs 0 c hc nc
    exact q2Q.mpr ⟨_,yJ _ hj,q⟩
  obtain⟨ms,e,Y,F,al,ll⟩:=qdZ hk h Φ cut Y0 E0 ∅ f0;exact⟨ms,e,Y,F,λm hm=>al _ (Y.inn m hm).1,ll⟩
 ·have st:∀b∈bs,b.1=b.2:=λb hb=>Classical.byContradiction λn=>z ⟨b,hb,n⟩
  have k1:∀y∈knw g bs,y=g:=λy hy=>by
   rcases q0i.mp hy with q|⟨c,hc,nc,_⟩
   ·exact q
   ·exact vK (st c hc) nc
  have e0:m0 g bs=[]:=by
   cases q:m0 g bs with
   | nil=>rfl
   | cons m r=>
    have i:=Y0.inn m (by rw[q];exact zJ);exact vK (by rw[k1 _ i.1,k1 _ i.2.1]) i.2.2
  rw[e0]at f0 Y0 ⊢;refine⟨[],?_,Y0,f0,(λm hm=>by cases hm),by simp⟩;have ee:q2s [.lst []]=some (.fr []):=q5c (ms:=[]) (by simp) (by decide);have wh:sWh 1000000 q1W q2x [↥(.int g),↥(.lst []),↥(.lst []),↥(.lst [.int g])]=some (.nx,[↥(.int g),↥(.lst []),↥(.lst []),↥(.lst [.int g])]):=rfl;rw[yA];unfold q0l q2G;simp_arith[ee,wh]
noncomputable def zC6(ms:List Mv)(n:Nat):Mv:=ms.getD n (.go 0 0)
def qfd{g:Int}{bs:List (Int×Int)}(hb:bs.length<=20)(hk:(knw g bs).length<=22)(h:∀b∈bs,g<=b.1/\g<=b.2)(Φ:List Mv->Prop)(cut:∀u k a b p v,Ym g bs (u++Mv.box k a b::v)->Φ (u++Mv.box k a b::v)->((a<p/\p<b)\/(b<p/\p<a))->p∈knw g bs->Rch ((u++Mv.box k a b::v).map Xj) g a->¬Rch ((u++Mv.box k a b::v).map Xj) g p->Φ (u++[Mv.box k a p,Mv.box k p b]++v))(f0:Φ (m0 g bs)):
  ∃(ms:List Mv) (row:List Nat),q2h [.int g,.lst (bs.map Yv)]=some (.fr ((row.map (zC6 ms)).map mvD))/\Ym g bs ms/\Φ ms/\row.Perm (ya ms.length)/\Wlk (ms.map Xj) g row g/\ms.length<=(m0 g bs).length+2*(knw g bs).length+1:=by
 obtain⟨ms,e,Y,F,al,ll⟩:=q8Q hb hk h Φ cut f0;have ml:=q9t (g:=g) hb (n:=21) hk;have ha:=q7L (ms:=ms) ∅;obtain⟨row,hr,rp,rw'⟩:=qf0 (as:=ms.map Xj) (s:=g) (by rw[zB];omega) (Y.perm h) (λq hq=>by
  obtain⟨m,hm,rfl⟩:=xC.mp hq;exact al m hm)
 rw[zB]at rp;refine⟨ms,row,?_,Y,F,rp,rw',ll⟩;have hc:=zBm hb h;have hc':qi [.int g,.lst (bs.map Yv)]=some (.sh .non):=hc;have h1:=qbT (bs:=bs) ∅;have h2:=qbE hb h;have h3:X5 (.lst ((wcK 0 bs).map mvD)) (.lst ((emM g bs).map mvD))=some (.fr ((m0 g bs).map mvD)):=by
  rw[q4c,<- zk];rfl;have q:=ml;unfold m0 at q;rw[zD]at q;rw[zB,zB];omega
 have cq:(cst row).map D.int=row.map λn:Nat=>D.int (n:Int):=by unfold cst;rw[xU];rfl
 rw[cq]at hr;have hq:(row.map λn:Nat=>D.int (n:Int)).length<=1000000:=by
  rw[zB,rp.length_eq,yO];omega
 have cm:=q1T (i:=0) (f:=q4A) (λn:Nat=>D.int (n:Int)) (λn=>mvD (zC6 ms n)) row (ω:=[none,↥(.lst (ms.map mvD))]) (λn hn=>by
  have hlt:n<ms.length:=xz.mp (rp.mem_iff.mp hn);have hi:atI (ms.map mvD) (n:Int)=some (mvD (zC6 ms n)):=by
   rw[q38 ∅ (by rw[zB];omega)];have:((ms.map mvD)[((n:Int)).toNat]'(by rw[zB];omega))=mvD ms[n]:=by
    rw[wj];simp
   rw[this];unfold zC6;rw[zY,zG hlt];rfl
  unfold q4A;simp_arith[hi])
 have mm:row.map (λn=>mvD (zC6 ms n))=(row.map (zC6 ms)).map mvD:=by rw[xU];rfl
 rw[mm]at cm;unfold q2h q4T;simp_arith[hc',h1,h2,h3,e,ha,hr,Xk hq,inW,zAg,cm]
noncomputable def nxX(o:Option (Out×WSt))(g':FX):Option Str:=o.bind λp=>match p.1 with
 | .nx=>g' p.2
 | _=>none
noncomputable def seqX(o:Option Str)(f:FS)(g':FX)(ω:WSt):Option Str:=match o with
 | some c=>some c
 | none=>nxX (f ω) g'
def zCW{g g':FX}{f:FS}{ω:WSt}:zBu g f g' ω=seqX (g ω) f g' ω:=by
 unfold zBu seqX nxX;rfl
def y_s{g':FX}{f:FS}{ω:WSt}{c:Str}:seqX (some c) f g' ω=some c:=rfl
def y_n{g':FX}{f:FS}{ω:WSt}:seqX none f g' ω=nxX (f ω) g':=rfl
def y_x{g':FX}{w:WSt}:nxX (some (.nx,w)) g'=g' w:=rfl
def y_rt{g':FX}{w:WSt}{r:O}:nxX (some (.rt r,w)) g'=none:=rfl
def qaS{g b:D}(hg:plD g=true)(hb:plL b=true)(hy:zBT g b=false):qg [g,b]=some ("NoYard" : Str):=by
 have e:=q6y hg hb;rw[hy]at e;show q2i (entry 2 [g,b])=_;unfold q2i;simp -implicitDefEqProofs only[qA,q0V,q0M,q0x,qZ,Ww,q0y,Wf,qR,q19,q0N,q0J,q1n,q1e,q1u,q0v,q1s,q0f,q06,q1l,q1o,q18,qM,q08,qE,qL,q00,q1c,q1y,qP,qV,Wp,q0L,q0E,q1h,q09,q03,q0n,qJ,q0Y,WK,q1B,q0o,q0h,qX,qY,q1p,Wd,q1k,q0d,qU,e_c,e_e,We,e_d,q07,q01,e_v,q0b,qT,q0a,Wa,WU,q0z,Wn,q0e,qQ,WR,WW,Ws,q1v,q1j,q16,Wu,q1t,WZ,Wm,WS,Wl,q17,qu,qB,qp,qr,qw,qt,e_t,Wz,q1f,q1i,WY,q1A,q0H,Wi,q0w,qS,qC,q0F,WV,q1d,q1a,Wk,q0O,q0D,q1m,q0I,Xk,q1z,Wh,q0g,q02,qW,qK,q0G,q0A,qO,q0K,q0B,q04,q0Z,q1q,q1x,at0,at1,at2,qz,q0c,Xq,entry,zX,zd,zC,zS,zB,zO,yA,zn,zg,zQ,za,ze,zf,zV,zU,yP,yQ,yh,yi,yj,yR,yS,yT,yU,yV,yW,yD,yX,z9,↓reduceIte,yY,yZ,yB,yN,zt,yb,yM,yc,yH,yG,zr,beq_self_eq_true,zW,q0W,qI,qH,q1L,q1M,q0q,q0t,q1K,q05,q0s,zAD,q1O,zAC,q0u,zAJ,q1P,q0p,q0r,e]
def qg6{g b:D}(hg:plD g=true)(hb:plL b=true)(hy:zBT g b=true):qg [g,b]=none:=by
 have e:=q6y hg hb;rw[hy]at e;show q2i (entry 2 [g,b])=_;unfold q2i;simp -implicitDefEqProofs only[qA,q0V,q0M,q0x,qZ,Ww,q0y,Wf,qR,q19,q0N,q0J,q1n,q1e,q1u,q0v,q1s,q0f,q06,q1l,q1o,q18,qM,q08,qE,qL,q00,q1c,q1y,qP,qV,Wp,q0L,q0E,q1h,q09,q03,q0n,qJ,q0Y,WK,q1B,q0o,q0h,qX,qY,q1p,Wd,q1k,q0d,qU,e_c,e_e,We,e_d,q07,q01,e_v,q0b,qT,q0a,Wa,WU,q0z,Wn,q0e,qQ,WR,WW,Ws,q1v,q1j,q16,Wu,q1t,WZ,Wm,WS,Wl,q17,qu,qB,qp,qr,qw,qt,e_t,Wz,q1f,q1i,WY,q1A,q0H,Wi,q0w,qS,qC,q0F,WV,q1d,q1a,Wk,q0O,q0D,q1m,q0I,Xk,q1z,Wh,q0g,q02,qW,qK,q0G,q0A,qO,q0K,q0B,q04,q0Z,q1q,q1x,at0,at1,at2,qz,q0c,Xq,entry,zX,zd,zC,zS,zB,zO,yA,zn,zg,zQ,za,ze,zf,zV,zU,yP,yQ,yh,yi,yj,yR,yS,yT,yU,yV,yW,yD,yX,z9,↓reduceIte,yY,yZ,yB,yN,zt,yb,yM,yc,yH,yG,zr,beq_self_eq_true,zW,q0W,qI,qH,q1L,q1M,q0q,q0t,q1K,q05,q0s,zAD,q1O,zAC,q0u,zAJ,q1P,q0p,q0r,e]
def q6M{g b:D}{o:Option Str}(h:qg [g,b]=o):q2t [g,b]=o:=by
 show q5j (entry 3 [g,b])=_;unfold q5j;simp -implicitDefEqProofs only[qA,q0V,q0M,q0x,qZ,Ww,q0y,Wf,qR,q19,q0N,q0J,q1n,q1e,q1u,q0v,q1s,q0f,q06,q1l,q1o,q18,qM,q08,qE,qL,q00,q1c,q1y,qP,qV,Wp,q0L,q0E,q1h,q09,q03,q0n,qJ,q0Y,WK,q1B,q0o,q0h,qX,qY,q1p,Wd,q1k,q0d,qU,e_c,e_e,We,e_d,q07,q01,e_v,q0b,qT,q0a,Wa,WU,q0z,Wn,q0e,qQ,WR,WW,Ws,q1v,q1j,q16,Wu,q1t,WZ,Wm,WS,Wl,q17,qu,qB,qp,qr,qw,qt,e_t,Wz,q1f,q1i,WY,q1A,q0H,Wi,q0w,qS,qC,q0F,WV,q1d,q1a,Wk,q0O,q0D,q1m,q0I,Xk,q1z,Wh,q0g,q02,qW,qK,q0G,q0A,qO,q0K,q0B,q04,q0Z,q1q,q1x,at0,at1,at2,qz,q0c,Xq,entry,zX,zd,zC,zS,zB,zO,yA,zn,zg,zQ,za,ze,zf,zV,zU,yP,yQ,yh,yi,yj,yR,yS,yT,yU,yV,yW,yD,yX,z9,↓reduceIte,yY,yZ,yB,yN,zt,yb,yM,yc,yH,yG,zr,beq_self_eq_true,zW,q0W,qI,qH,q1L,q1M,q0q,q0t,q1K,q05,q0s,zAD,q1O,zAC,q0u,zAJ,q1P,q0p,q0r,h]
def qay{g b:D}{o:Option Str}(h:qg [g,b]=o):q2C [g,b]=o:=by
 show q3k (entry 2 [g,b])=_;unfold q3k;simp -implicitDefEqProofs only[qA,q0V,q0M,q0x,qZ,Ww,q0y,Wf,qR,q19,q0N,q0J,q1n,q1e,q1u,q0v,q1s,q0f,q06,q1l,q1o,q18,qM,q08,qE,qL,q00,q1c,q1y,qP,qV,Wp,q0L,q0E,q1h,q09,q03,q0n,qJ,q0Y,WK,q1B,q0o,q0h,qX,qY,q1p,Wd,q1k,q0d,qU,e_c,e_e,We,e_d,q07,q01,e_v,q0b,qT,q0a,Wa,WU,q0z,Wn,q0e,qQ,WR,WW,Ws,q1v,q1j,q16,Wu,q1t,WZ,Wm,WS,Wl,q17,qu,qB,qp,qr,qw,qt,e_t,Wz,q1f,q1i,WY,q1A,q0H,Wi,q0w,qS,qC,q0F,WV,q1d,q1a,Wk,q0O,q0D,q1m,q0I,Xk,q1z,Wh,q0g,q02,qW,qK,q0G,q0A,qO,q0K,q0B,q04,q0Z,q1q,q1x,at0,at1,at2,qz,q0c,Xq,entry,zX,zd,zC,zS,zB,zO,yA,zn,zg,zQ,za,ze,zf,zV,zU,yP,yQ,yh,yi,yj,yR,yS,yT,yU,yV,yW,yD,yX,z9,↓reduceIte,yY,yZ,yB,yN,zt,yb,yM,yc,yH,yG,zr,beq_self_eq_true,zW,q0W,qI,qH,q1L,q1M,q0q,q0t,q1K,q05,q0s,zAD,q1O,zAC,q0u,zAJ,q1P,q0p,q0r,q6M h]
def qc5{g b t:D}{o:Option Str}(h:qg [g,b]=o):q27 [g,b,t]=o:=by
 show q34 (entry 3 [g,b,t])=_;unfold q34;simp -implicitDefEqProofs only[qA,q0V,q0M,q0x,qZ,Ww,q0y,Wf,qR,q19,q0N,q0J,q1n,q1e,q1u,q0v,q1s,q0f,q06,q1l,q1o,q18,qM,q08,qE,qL,q00,q1c,q1y,qP,qV,Wp,q0L,q0E,q1h,q09,q03,q0n,qJ,q0Y,WK,q1B,q0o,q0h,qX,qY,q1p,Wd,q1k,q0d,qU,e_c,e_e,We,e_d,q07,q01,e_v,q0b,qT,q0a,Wa,WU,q0z,Wn,q0e,qQ,WR,WW,Ws,q1v,q1j,q16,Wu,q1t,WZ,Wm,WS,Wl,q17,qu,qB,qp,qr,qw,qt,e_t,Wz,q1f,q1i,WY,q1A,q0H,Wi,q0w,qS,qC,q0F,WV,q1d,q1a,Wk,q0O,q0D,q1m,q0I,Xk,q1z,Wh,q0g,q02,qW,qK,q0G,q0A,qO,q0K,q0B,q04,q0Z,q1q,q1x,at0,at1,at2,qz,q0c,Xq,entry,zX,zd,zC,zS,zB,zO,yA,zn,zg,zQ,za,ze,zf,zV,zU,yP,yQ,yh,yi,yj,yR,yS,yT,yU,yV,yW,yD,yX,z9,↓reduceIte,yY,yZ,yB,yN,zt,yb,yM,yc,yH,yG,zr,beq_self_eq_true,zW,q0W,qI,qH,q1L,q1M,q0q,q0t,q1K,q05,q0s,zAD,q1O,zAC,q0u,zAJ,q1P,q0p,q0r,h]
def qgq{g b:D}{c:Str}(h:qg [g,b]=some c):q2p [g,b]=some c:=by
 show q2E (entry 3 [g,b])=_;unfold q2E;simp -implicitDefEqProofs only[qA,q0V,q0M,q0x,qZ,Ww,q0y,Wf,qR,q19,q0N,q0J,q1n,q1e,q1u,q0v,q1s,q0f,q06,q1l,q1o,q18,qM,q08,qE,qL,q00,q1c,q1y,qP,qV,Wp,q0L,q0E,q1h,q09,q03,q0n,qJ,q0Y,WK,q1B,q0o,q0h,qX,qY,q1p,Wd,q1k,q0d,qU,e_c,e_e,We,e_d,q07,q01,e_v,q0b,qT,q0a,Wa,WU,q0z,Wn,q0e,qQ,WR,WW,Ws,q1v,q1j,q16,Wu,q1t,WZ,Wm,WS,Wl,q17,qu,qB,qp,qr,qw,qt,e_t,Wz,q1f,q1i,WY,q1A,q0H,Wi,q0w,qS,qC,q0F,WV,q1d,q1a,Wk,q0O,q0D,q1m,q0I,Xk,q1z,Wh,q0g,q02,qW,qK,q0G,q0A,qO,q0K,q0B,q04,q0Z,q1q,q1x,at0,at1,at2,qz,q0c,Xq,entry,zX,zd,zC,zS,zB,zO,yA,zn,zg,zQ,za,ze,zf,zV,zU,yP,yQ,yh,yi,yj,yR,yS,yT,yU,yV,yW,yD,yX,z9,↓reduceIte,yY,yZ,yB,yN,zt,yb,yM,yc,yH,yG,zr,beq_self_eq_true,zW,q0W,qI,qH,q1L,q1M,q0q,q0t,q1K,q05,q0s,zAD,q1O,zAC,q0u,zAJ,q1P,q0p,q0r,zCW,h,y_s]
def qcU{g b t:D}(h:qg [g,b]=some ("NoYard" : Str)){w:Int}(hw:w=0\/w=1\/w=2\/w=3):q2B [.int w,g,b,t]=some ("NoYard" : Str):=by
 show q2l (entry 4 [.int w,g,b,t])=_;unfold q2l;have a:=q6M h;have b1:=qay h;have c:=qc5 (t:=t) h;have d:=qgq h;rcases hw with rfl|rfl|rfl|rfl <;> simp -implicitDefEqProofs only[qA,q0V,q0M,q0x,qZ,Ww,q0y,Wf,qR,q19,q0N,q0J,q1n,q1e,q1u,q0v,q1s,q0f,q06,q1l,q1o,q18,qM,q08,qE,qL,q00,q1c,q1y,qP,qV,Wp,q0L,q0E,q1h,q09,q03,q0n,qJ,q0Y,WK,q1B,q0o,q0h,qX,qY,q1p,Wd,q1k,q0d,qU,e_c,e_e,We,e_d,q07,q01,e_v,q0b,qT,q0a,Wa,WU,q0z,Wn,q0e,qQ,WR,WW,Ws,q1v,q1j,q16,Wu,q1t,WZ,Wm,WS,Wl,q17,qu,qB,qp,qr,qw,qt,e_t,Wz,q1f,q1i,WY,q1A,q0H,Wi,q0w,qS,qC,q0F,WV,q1d,q1a,Wk,q0O,q0D,q1m,q0I,Xk,q1z,Wh,q0g,q02,qW,qK,q0G,q0A,qO,q0K,q0B,q04,q0Z,q1q,q1x,at0,at1,at2,qz,q0c,Xq,entry,zX,zd,zC,zS,zB,zO,yA,zn,zg,zQ,za,ze,zf,zV,zU,yP,yQ,yh,yi,yj,yR,yS,yT,yU,yV,yW,yD,yX,z9,↓reduceIte,yY,yZ,yB,yN,zt,yb,yM,yc,yH,yG,zr,beq_self_eq_true,zW,q0W,qI,qH,q1L,q1M,q0q,q0t,q1K,q05,q0s,zAD,q1O,zAC,q0u,zAJ,q1P,q0p,q0r,zCW,y_n,y_x,y_s,a,b1,c,d]
def q71{g b t:D}(h:qg [g,b]=some ("NoYard" : Str)){w:Int}(hw:w=0\/w=1\/w=2\/w=3):q1G [.int w,g,b,t]=some (.sh (.lst [.str "yard", .bl true,.bl false,.bl false])):=by
 have a:=qcU (t:=t) h hw;have hx:q2A [some (.sh (.int w)),some (.sh g),some (.sh b),some (.sh t),some (.sh (.lst [.str "answered", .bl true,.bl false,.bl false])),none]=some ("NoYard" : Str):=by
  unfold q2A;simp -implicitDefEqProofs only[qA,q0V,q0M,q0x,qZ,Ww,q0y,Wf,qR,q19,q0N,q0J,q1n,q1e,q1u,q0v,q1s,q0f,q06,q1l,q1o,q18,qM,q08,qE,qL,q00,q1c,q1y,qP,qV,Wp,q0L,q0E,q1h,q09,q03,q0n,qJ,q0Y,WK,q1B,q0o,q0h,qX,qY,q1p,Wd,q1k,q0d,qU,e_c,e_e,We,e_d,q07,q01,e_v,q0b,qT,q0a,Wa,WU,q0z,Wn,q0e,qQ,WR,WW,Ws,q1v,q1j,q16,Wu,q1t,WZ,Wm,WS,Wl,q17,qu,qB,qp,qr,qw,qt,e_t,Wz,q1f,q1i,WY,q1A,q0H,Wi,q0w,qS,qC,q0F,WV,q1d,q1a,Wk,q0O,q0D,q1m,q0I,Xk,q1z,Wh,q0g,q02,qW,qK,q0G,q0A,qO,q0K,q0B,q04,q0Z,q1q,q1x,at0,at1,at2,qz,q0c,Xq,entry,zX,zd,zC,zS,zB,zO,yA,zn,zg,zQ,za,ze,zf,zV,zU,yP,yQ,yh,yi,yj,yR,yS,yT,yU,yV,yW,yD,yX,z9,↓reduceIte,yY,yZ,yB,yN,zt,yb,yM,yc,yH,yG,zr,beq_self_eq_true,zW,q0W,qI,qH,q1L,q1M,q0q,q0t,q1K,q05,q0s,zAD,q1O,zAC,q0u,zAJ,q1P,q0p,q0r,a]
 have l1:([("NoYard", true),("NoRow", true)]:List (Str×Bool)).lookup ("NoYard" : Str)=some true:=⋯
 have l2:([("NoYard", false),("NoRow", true)]:List (Str×Bool)).lookup ("NoYard" : Str)=some false:=⋯
 have l3:([("NoYard", false),("NoRow", false)]:List (Str×Bool)).lookup ("NoYard" : Str)=some false:=⋯
 unfold q1G q3m;simp -implicitDefEqProofs only[qA,q0V,q0M,q0x,qZ,Ww,q0y,Wf,qR,q19,q0N,q0J,q1n,q1e,q1u,q0v,q1s,q0f,q06,q1l,q1o,q18,qM,q08,qE,qL,q00,q1c,q1y,qP,qV,Wp,q0L,q0E,q1h,q09,q03,q0n,qJ,q0Y,WK,q1B,q0o,q0h,qX,qY,q1p,Wd,q1k,q0d,qU,e_c,e_e,We,e_d,q07,q01,e_v,q0b,qT,q0a,Wa,WU,q0z,Wn,q0e,qQ,WR,WW,Ws,q1v,q1j,q16,Wu,q1t,WZ,Wm,WS,Wl,q17,qu,qB,qp,qr,qw,qt,e_t,Wz,q1f,q1i,WY,q1A,q0H,Wi,q0w,qS,qC,q0F,WV,q1d,q1a,Wk,q0O,q0D,q1m,q0I,Xk,q1z,Wh,q0g,q02,qW,qK,q0G,q0A,qO,q0K,q0B,q04,q0Z,q1q,q1x,at0,at1,at2,qz,q0c,Xq,entry,zX,zd,zC,zS,zB,zO,yA,zn,zg,zQ,za,ze,zf,zV,zU,yP,yQ,yh,yi,yj,yR,yS,yT,yU,yV,yW,yD,yX,z9,↓reduceIte,yY,yZ,yB,yN,zt,yb,yM,yc,yH,yG,zr,beq_self_eq_true,zW,q0W,qI,qH,q1L,q1M,q0q,q0t,q1K,q05,q0s,zAD,q1O,zAC,q0u,zAJ,q1P,q0p,q0r,hx,qH (zb.mpr rfl)];unfold q5D
 simp -implicitDefEqProofs only[qA,q0V,q0M,q0x,qZ,Ww,q0y,Wf,qR,q19,q0N,q0J,q1n,q1e,q1u,q0v,q1s,q0f,q06,q1l,q1o,q18,qM,q08,qE,qL,q00,q1c,q1y,qP,qV,Wp,q0L,q0E,q1h,q09,q03,q0n,qJ,q0Y,WK,q1B,q0o,q0h,qX,qY,q1p,Wd,q1k,q0d,qU,e_c,e_e,We,e_d,q07,q01,e_v,q0b,qT,q0a,Wa,WU,q0z,Wn,q0e,qQ,WR,WW,Ws,q1v,q1j,q16,Wu,q1t,WZ,Wm,WS,Wl,q17,qu,qB,qp,qr,qw,qt,e_t,Wz,q1f,q1i,WY,q1A,q0H,Wi,q0w,qS,qC,q0F,WV,q1d,q1a,Wk,q0O,q0D,q1m,q0I,Xk,q1z,Wh,q0g,q02,qW,qK,q0G,q0A,qO,q0K,q0B,q04,q0Z,q1q,q1x,at0,at1,at2,qz,q0c,Xq,entry,zX,zd,zC,zS,zB,zO,yA,zn,zg,zQ,za,ze,zf,zV,zU,yP,yQ,yh,yi,yj,yR,yS,yT,yU,yV,yW,yD,yX,z9,↓reduceIte,yY,yZ,yB,yN,zt,yb,yM,yc,yH,yG,zr,beq_self_eq_true,zW,q0W,qI,qH,q1L,q1M,q0q,q0t,q1K,q05,q0s,zAD,q1O,zAC,q0u,zAJ,q1P,q0p,q0r,l1,l2,l3]
def qgx{as:List (Int×Int)}{s:Int}(hl:as.length<=9000)(pm:(sts as).Perm (gls as))(hg:∀q∈as,Rch as s q.1):q3W [.int s,.lst (as.map pairD2)]=none:=by
 have hm:=qaw (as:=as) hl;rw[vQ pm]at hm;obtain⟨row,U,hr,R⟩:=q9p (s:=s) hl pm;have hrf:=q7k hr;have ha:row.length=as.length:=R.full hg;have e1:((((cst row).length:Nat):Int)==(as.length:Int))=true:=by
  have:(cst row).length=row.length:=by unfold cst;rw[zB]
  simp only[beq_iff_eq];omega
 show q5y (entry 3 [.int s,.lst (as.map pairD2)])=_;unfold q5y;simp -implicitDefEqProofs only[qA,q0V,q0M,q0x,qZ,Ww,q0y,Wf,qR,q19,q0N,q0J,q1n,q1e,q1u,q0v,q1s,q0f,q06,q1l,q1o,q18,qM,q08,qE,qL,q00,q1c,q1y,qP,qV,Wp,q0L,q0E,q1h,q09,q03,q0n,qJ,q0Y,WK,q1B,q0o,q0h,qX,qY,q1p,Wd,q1k,q0d,qU,e_c,e_e,We,e_d,q07,q01,e_v,q0b,qT,q0a,Wa,WU,q0z,Wn,q0e,qQ,WR,WW,Ws,q1v,q1j,q16,Wu,q1t,WZ,Wm,WS,Wl,q17,qu,qB,qp,qr,qw,qt,e_t,Wz,q1f,q1i,WY,q1A,q0H,Wi,q0w,qS,qC,q0F,WV,q1d,q1a,Wk,q0O,q0D,q1m,q0I,Xk,q1z,Wh,q0g,q02,qW,qK,q0G,q0A,qO,q0K,q0B,q04,q0Z,q1q,q1x,at0,at1,at2,qz,q0c,Xq,entry,zX,zd,zC,zS,zB,zO,yA,zn,zg,zQ,za,ze,zf,zV,zU,yP,yQ,yh,yi,yj,yR,yS,yT,yU,yV,yW,yD,yX,z9,↓reduceIte,yY,yZ,yB,yN,zt,yb,yM,yc,yH,yG,zr,beq_self_eq_true,zW,q0W,qI,qH,q1L,q1M,q0q,q0t,q1K,q05,q0s,zAD,q1O,zAC,q0u,zAJ,q1P,q0p,q0r,zCW,y_n,y_x,hm,hrf,e1]
def qeS{g:Int}{bs:List (Int×Int)}(hb:bs.length<=20)(hk:(knw g bs).length<=22)(h:∀b∈bs,g<=b.1/\g<=b.2)(ck:qg [.int g,.lst (bs.map Yv)]=none):
  (∃o,q2h [.int g,.lst (bs.map Yv)]=some o)/\q2p [.int g,.lst (bs.map Yv)]=none:=by
 obtain⟨ms,row,e0,_⟩:=qfd hb hk h (λ_=>True) (λ_ _ _ _ _ _ _ _ _ _ _ _=>trivial) trivial;refine⟨⟨_,e0⟩,?_⟩;obtain⟨ms,e,Y,F,al,ll⟩:=q8Q hb hk h (λ_=>True) (λ_ _ _ _ _ _ _ _ _ _ _ _=>trivial) trivial;have ml:=q9t (g:=g) hb (n:=21) hk;have ha:=q7L (ms:=ms) ∅;have hr:=qgx (as:=ms.map Xj) (s:=g) (by rw[zB];omega) (Y.perm h) (λq hq=>by
  obtain⟨m,hm,rfl⟩:=xC.mp hq;exact al m hm)
 have hc:=zBm hb h;have hc':qi [.int g,.lst (bs.map Yv)]=some (.sh .non):=hc;have h1:=qbT (bs:=bs) ∅;have h2:=qbE hb h;have h3:X5 (.lst ((wcK 0 bs).map mvD)) (.lst ((emM g bs).map mvD))=some (.fr ((m0 g bs).map mvD)):=by
  rw[q4c,<- zk];rfl;have q:=ml;unfold m0 at q;rw[zD]at q;rw[zB,zB];omega
 show q2E (entry 3 [.int g,.lst (bs.map Yv)])=_;unfold q2E;simp -implicitDefEqProofs only[qA,q0V,q0M,q0x,qZ,Ww,q0y,Wf,qR,q19,q0N,q0J,q1n,q1e,q1u,q0v,q1s,q0f,q06,q1l,q1o,q18,qM,q08,qE,qL,q00,q1c,q1y,qP,qV,Wp,q0L,q0E,q1h,q09,q03,q0n,qJ,q0Y,WK,q1B,q0o,q0h,qX,qY,q1p,Wd,q1k,q0d,qU,e_c,e_e,We,e_d,q07,q01,e_v,q0b,qT,q0a,Wa,WU,q0z,Wn,q0e,qQ,WR,WW,Ws,q1v,q1j,q16,Wu,q1t,WZ,Wm,WS,Wl,q17,qu,qB,qp,qr,qw,qt,e_t,Wz,q1f,q1i,WY,q1A,q0H,Wi,q0w,qS,qC,q0F,WV,q1d,q1a,Wk,q0O,q0D,q1m,q0I,Xk,q1z,Wh,q0g,q02,qW,qK,q0G,q0A,qO,q0K,q0B,q04,q0Z,q1q,q1x,at0,at1,at2,qz,q0c,Xq,entry,zX,zd,zC,zS,zB,zO,yA,zn,zg,zQ,za,ze,zf,zV,zU,yP,yQ,yh,yi,yj,yR,yS,yT,yU,yV,yW,yD,yX,z9,↓reduceIte,yY,yZ,yB,yN,zt,yb,yM,yc,yH,yG,zr,beq_self_eq_true,zW,q0W,qI,qH,q1L,q1M,q0q,q0t,q1K,q05,q0s,zAD,q1O,zAC,q0u,zAJ,q1P,q0p,q0r,zCW,y_n,y_x,ck,hc',h1,h2,h3,e,ha,hr]
def qch{g:Int}{bs:List (Int×Int)}{t:D}(hb:bs.length<=20)(hk:(knw g bs).length<=22)(h:∀b∈bs,g<=b.1/\g<=b.2)(hy:zBT (.int g) (.lst (bs.map Yv))=true)(ht:∃o,ql [.int g,.lst (bs.map Yv),t]=some o){w:Int}(hw:w=0\/w=1\/w=2\/w=3):
  q1G [.int w,.int g,.lst (bs.map Yv),t]=some (.sh (.lst [.str "answered", .bl true,.bl false,.bl false])):=by
 have ck:=qg6 (g:=.int g) rfl (q91 hb) hy;have ck':qg [.int g,.lst (bs.map Yv)]=none:=ck;obtain⟨⟨o3,y3⟩,x3⟩:=qeS hb hk h ck';obtain⟨o2,y2⟩:=ht;have y0:q1w [.int g,.lst (bs.map Yv)]=_:=q60 g bs hb h;have y1:q1J [.int g,.lst (bs.map Yv)]=_:=qbK g bs hb h;have x0:=q6M ck';have x1:=qay ck';have x2:=qc5 (t:=t) ck';have hx:q2B [.int w,.int g,.lst (bs.map Yv),t]=none:=by
  show q2l (entry 4 [.int w,.int g,.lst (bs.map Yv),t])=_;unfold q2l;rcases hw with rfl|rfl|rfl|rfl
  ·simp -implicitDefEqProofs only[qA,q0V,q0M,q0x,qZ,Ww,q0y,Wf,qR,q19,q0N,q0J,q1n,q1e,q1u,q0v,q1s,q0f,q06,q1l,q1o,q18,qM,q08,qE,qL,q00,q1c,q1y,qP,qV,Wp,q0L,q0E,q1h,q09,q03,q0n,qJ,q0Y,WK,q1B,q0o,q0h,qX,qY,q1p,Wd,q1k,q0d,qU,e_c,e_e,We,e_d,q07,q01,e_v,q0b,qT,q0a,Wa,WU,q0z,Wn,q0e,qQ,WR,WW,Ws,q1v,q1j,q16,Wu,q1t,WZ,Wm,WS,Wl,q17,qu,qB,qp,qr,qw,qt,e_t,Wz,q1f,q1i,WY,q1A,q0H,Wi,q0w,qS,qC,q0F,WV,q1d,q1a,Wk,q0O,q0D,q1m,q0I,Xk,q1z,Wh,q0g,q02,qW,qK,q0G,q0A,qO,q0K,q0B,q04,q0Z,q1q,q1x,at0,at1,at2,qz,q0c,Xq,entry,zX,zd,zC,zS,zB,zO,yA,zn,zg,zQ,za,ze,zf,zV,zU,yP,yQ,yh,yi,yj,yR,yS,yT,yU,yV,yW,yD,yX,z9,↓reduceIte,yY,yZ,yB,yN,zt,yb,yM,yc,yH,yG,zr,beq_self_eq_true,zW,q0W,qI,qH,q1L,q1M,q0q,q0t,q1K,q05,q0s,zAD,q1O,zAC,q0u,zAJ,q1P,q0p,q0r,zCW,y_n,y_x,y_rt,x0,y0]
  ·simp -implicitDefEqProofs only[qA,q0V,q0M,q0x,qZ,Ww,q0y,Wf,qR,q19,q0N,q0J,q1n,q1e,q1u,q0v,q1s,q0f,q06,q1l,q1o,q18,qM,q08,qE,qL,q00,q1c,q1y,qP,qV,Wp,q0L,q0E,q1h,q09,q03,q0n,qJ,q0Y,WK,q1B,q0o,q0h,qX,qY,q1p,Wd,q1k,q0d,qU,e_c,e_e,We,e_d,q07,q01,e_v,q0b,qT,q0a,Wa,WU,q0z,Wn,q0e,qQ,WR,WW,Ws,q1v,q1j,q16,Wu,q1t,WZ,Wm,WS,Wl,q17,qu,qB,qp,qr,qw,qt,e_t,Wz,q1f,q1i,WY,q1A,q0H,Wi,q0w,qS,qC,q0F,WV,q1d,q1a,Wk,q0O,q0D,q1m,q0I,Xk,q1z,Wh,q0g,q02,qW,qK,q0G,q0A,qO,q0K,q0B,q04,q0Z,q1q,q1x,at0,at1,at2,qz,q0c,Xq,entry,zX,zd,zC,zS,zB,zO,yA,zn,zg,zQ,za,ze,zf,zV,zU,yP,yQ,yh,yi,yj,yR,yS,yT,yU,yV,yW,yD,yX,z9,↓reduceIte,yY,yZ,yB,yN,zt,yb,yM,yc,yH,yG,zr,beq_self_eq_true,zW,q0W,qI,qH,q1L,q1M,q0q,q0t,q1K,q05,q0s,zAD,q1O,zAC,q0u,zAJ,q1P,q0p,q0r,zCW,y_n,y_x,y_rt,x1,y1]
  ·simp -implicitDefEqProofs only[qA,q0V,q0M,q0x,qZ,Ww,q0y,Wf,qR,q19,q0N,q0J,q1n,q1e,q1u,q0v,q1s,q0f,q06,q1l,q1o,q18,qM,q08,qE,qL,q00,q1c,q1y,qP,qV,Wp,q0L,q0E,q1h,q09,q03,q0n,qJ,q0Y,WK,q1B,q0o,q0h,qX,qY,q1p,Wd,q1k,q0d,qU,e_c,e_e,We,e_d,q07,q01,e_v,q0b,qT,q0a,Wa,WU,q0z,Wn,q0e,qQ,WR,WW,Ws,q1v,q1j,q16,Wu,q1t,WZ,Wm,WS,Wl,q17,qu,qB,qp,qr,qw,qt,e_t,Wz,q1f,q1i,WY,q1A,q0H,Wi,q0w,qS,qC,q0F,WV,q1d,q1a,Wk,q0O,q0D,q1m,q0I,Xk,q1z,Wh,q0g,q02,qW,qK,q0G,q0A,qO,q0K,q0B,q04,q0Z,q1q,q1x,at0,at1,at2,qz,q0c,Xq,entry,zX,zd,zC,zS,zB,zO,yA,zn,zg,zQ,za,ze,zf,zV,zU,yP,yQ,yh,yi,yj,yR,yS,yT,yU,yV,yW,yD,yX,z9,↓reduceIte,yY,yZ,yB,yN,zt,yb,yM,yc,yH,yG,zr,beq_self_eq_true,zW,q0W,qI,qH,q1L,q1M,q0q,q0t,q1K,q05,q0s,zAD,q1O,zAC,q0u,zAJ,q1P,q0p,q0r,zCW,y_n,y_x,y_rt,x2]
   cases o2 <;> simp -implicitDefEqProofs only[qA,q0V,q0M,q0x,qZ,Ww,q0y,Wf,qR,q19,q0N,q0J,q1n,q1e,q1u,q0v,q1s,q0f,q06,q1l,q1o,q18,qM,q08,qE,qL,q00,q1c,q1y,qP,qV,Wp,q0L,q0E,q1h,q09,q03,q0n,qJ,q0Y,WK,q1B,q0o,q0h,qX,qY,q1p,Wd,q1k,q0d,qU,e_c,e_e,We,e_d,q07,q01,e_v,q0b,qT,q0a,Wa,WU,q0z,Wn,q0e,qQ,WR,WW,Ws,q1v,q1j,q16,Wu,q1t,WZ,Wm,WS,Wl,q17,qu,qB,qp,qr,qw,qt,e_t,Wz,q1f,q1i,WY,q1A,q0H,Wi,q0w,qS,qC,q0F,WV,q1d,q1a,Wk,q0O,q0D,q1m,q0I,Xk,q1z,Wh,q0g,q02,qW,qK,q0G,q0A,qO,q0K,q0B,q04,q0Z,q1q,q1x,at0,at1,at2,qz,q0c,Xq,entry,zX,zd,zC,zS,zB,zO,yA,zn,zg,zQ,za,ze,zf,zV,zU,yP,yQ,yh,yi,yj,yR,yS,yT,yU,yV,yW,yD,yX,z9,↓reduceIte,yY,yZ,yB,yN,zt,yb,yM,yc,yH,yG,zr,beq_self_eq_true,zW,q0W,qI,qH,q1L,q1M,q0q,q0t,q1K,q05,q0s,zAD,q1O,zAC,q0u,zAJ,q1P,q0p,q0r,y2,y_rt]
  ·simp -implicitDefEqProofs only[qA,q0V,q0M,q0x,qZ,Ww,q0y,Wf,qR,q19,q0N,q0J,q1n,q1e,q1u,q0v,q1s,q0f,q06,q1l,q1o,q18,qM,q08,qE,qL,q00,q1c,q1y,qP,qV,Wp,q0L,q0E,q1h,q09,q03,q0n,qJ,q0Y,WK,q1B,q0o,q0h,qX,qY,q1p,Wd,q1k,q0d,qU,e_c,e_e,We,e_d,q07,q01,e_v,q0b,qT,q0a,Wa,WU,q0z,Wn,q0e,qQ,WR,WW,Ws,q1v,q1j,q16,Wu,q1t,WZ,Wm,WS,Wl,q17,qu,qB,qp,qr,qw,qt,e_t,Wz,q1f,q1i,WY,q1A,q0H,Wi,q0w,qS,qC,q0F,WV,q1d,q1a,Wk,q0O,q0D,q1m,q0I,Xk,q1z,Wh,q0g,q02,qW,qK,q0G,q0A,qO,q0K,q0B,q04,q0Z,q1q,q1x,at0,at1,at2,qz,q0c,Xq,entry,zX,zd,zC,zS,zB,zO,yA,zn,zg,zQ,za,ze,zf,zV,zU,yP,yQ,yh,yi,yj,yR,yS,yT,yU,yV,yW,yD,yX,z9,↓reduceIte,yY,yZ,yB,yN,zt,yb,yM,yc,yH,yG,zr,beq_self_eq_true,zW,q0W,qI,qH,q1L,q1M,q0q,q0t,q1K,q05,q0s,zAD,q1O,zAC,q0u,zAJ,q1P,q0p,q0r,zCW,y_n,y_x,y_rt,x3]
 have ha:∃o,q2L [.int w,.int g,.lst (bs.map Yv),t]=some o:=by
  unfold q2L q4D;rcases hw with rfl|rfl|rfl|rfl
  ·simp_arith[y0];exact⟨_,rfl⟩
  ·simp_arith[y1];exact⟨_,rfl⟩
  ·cases o2 <;> simp_arith[y2] <;> exact⟨_,rfl⟩
  ·cases o3 <;> simp_arith[y3] <;> exact⟨_,rfl⟩
 obtain⟨o,ha⟩:=ha;have hX:q2A [some (.sh (.int w)),some (.sh (.int g)),some (.sh (.lst (bs.map Yv))),some (.sh t),some (.sh (.lst [.str "answered", .bl true,.bl false,.bl false])),none]=none:=by
  unfold q2A;simp -implicitDefEqProofs only[qA,q0V,q0M,q0x,qZ,Ww,q0y,Wf,qR,q19,q0N,q0J,q1n,q1e,q1u,q0v,q1s,q0f,q06,q1l,q1o,q18,qM,q08,qE,qL,q00,q1c,q1y,qP,qV,Wp,q0L,q0E,q1h,q09,q03,q0n,qJ,q0Y,WK,q1B,q0o,q0h,qX,qY,q1p,Wd,q1k,q0d,qU,e_c,e_e,We,e_d,q07,q01,e_v,q0b,qT,q0a,Wa,WU,q0z,Wn,q0e,qQ,WR,WW,Ws,q1v,q1j,q16,Wu,q1t,WZ,Wm,WS,Wl,q17,qu,qB,qp,qr,qw,qt,e_t,Wz,q1f,q1i,WY,q1A,q0H,Wi,q0w,qS,qC,q0F,WV,q1d,q1a,Wk,q0O,q0D,q1m,q0I,Xk,q1z,Wh,q0g,q02,qW,qK,q0G,q0A,qO,q0K,q0B,q04,q0Z,q1q,q1x,at0,at1,at2,qz,q0c,Xq,entry,zX,zd,zC,zS,zB,zO,yA,zn,zg,zQ,za,ze,zf,zV,zU,yP,yQ,yh,yi,yj,yR,yS,yT,yU,yV,yW,yD,yX,z9,↓reduceIte,yY,yZ,yB,yN,zt,yb,yM,yc,yH,yG,zr,beq_self_eq_true,zW,q0W,qI,qH,q1L,q1M,q0q,q0t,q1K,q05,q0s,zAD,q1O,zAC,q0u,zAJ,q1P,q0p,q0r,hx]
 have hL:q47 [some (.sh (.int w)),some (.sh (.int g)),some (.sh (.lst (bs.map Yv))),some (.sh t),some (.sh (.lst [.str "answered", .bl true,.bl false,.bl false])),none]=some (.nx,[some (.sh (.int w)),some (.sh (.int g)),some (.sh (.lst (bs.map Yv))),some (.sh t),some (.sh (.lst [.str "answered", .bl true,.bl false,.bl false])),none]):=by
  unfold q47;cases o <;> simp -implicitDefEqProofs only[qA,q0V,q0M,q0x,qZ,Ww,q0y,Wf,qR,q19,q0N,q0J,q1n,q1e,q1u,q0v,q1s,q0f,q06,q1l,q1o,q18,qM,q08,qE,qL,q00,q1c,q1y,qP,qV,Wp,q0L,q0E,q1h,q09,q03,q0n,qJ,q0Y,WK,q1B,q0o,q0h,qX,qY,q1p,Wd,q1k,q0d,qU,e_c,e_e,We,e_d,q07,q01,e_v,q0b,qT,q0a,Wa,WU,q0z,Wn,q0e,qQ,WR,WW,Ws,q1v,q1j,q16,Wu,q1t,WZ,Wm,WS,Wl,q17,qu,qB,qp,qr,qw,qt,e_t,Wz,q1f,q1i,WY,q1A,q0H,Wi,q0w,qS,qC,q0F,WV,q1d,q1a,Wk,q0O,q0D,q1m,q0I,Xk,q1z,Wh,q0g,q02,qW,qK,q0G,q0A,qO,q0K,q0B,q04,q0Z,q1q,q1x,at0,at1,at2,qz,q0c,Xq,entry,zX,zd,zC,zS,zB,zO,yA,zn,zg,zQ,za,ze,zf,zV,zU,yP,yQ,yh,yi,yj,yR,yS,yT,yU,yV,yW,yD,yX,z9,↓reduceIte,yY,yZ,yB,yN,zt,yb,yM,yc,yH,yG,zr,beq_self_eq_true,zW,q0W,qI,qH,q1L,q1M,q0q,q0t,q1K,q05,q0s,zAD,q1O,zAC,q0u,zAJ,q1P,q0p,q0r,ha]
 unfold q1G q3m;simp -implicitDefEqProofs only[qA,q0V,q0M,q0x,qZ,Ww,q0y,Wf,qR,q19,q0N,q0J,q1n,q1e,q1u,q0v,q1s,q0f,q06,q1l,q1o,q18,qM,q08,qE,qL,q00,q1c,q1y,qP,qV,Wp,q0L,q0E,q1h,q09,q03,q0n,qJ,q0Y,WK,q1B,q0o,q0h,qX,qY,q1p,Wd,q1k,q0d,qU,e_c,e_e,We,e_d,q07,q01,e_v,q0b,qT,q0a,Wa,WU,q0z,Wn,q0e,qQ,WR,WW,Ws,q1v,q1j,q16,Wu,q1t,WZ,Wm,WS,Wl,q17,qu,qB,qp,qr,qw,qt,e_t,Wz,q1f,q1i,WY,q1A,q0H,Wi,q0w,qS,qC,q0F,WV,q1d,q1a,Wk,q0O,q0D,q1m,q0I,Xk,q1z,Wh,q0g,q02,qW,qK,q0G,q0A,qO,q0K,q0B,q04,q0Z,q1q,q1x,at0,at1,at2,qz,q0c,Xq,entry,zX,zd,zC,zS,zB,zO,yA,zn,zg,zQ,za,ze,zf,zV,zU,yP,yQ,yh,yi,yj,yR,yS,yT,yU,yV,yW,yD,yX,z9,↓reduceIte,yY,yZ,yB,yN,zt,yb,yM,yc,yH,yG,zr,beq_self_eq_true,zW,q0W,qI,qH,q1L,q1M,q0q,q0t,q1K,q05,q0s,zAD,q1O,zAC,q0u,zAJ,q1P,q0p,q0r,hX,qI,hL]
def qcl{gate:Int}{bs:List (Int×Int)}{d:D}(hc:qi [.int gate,.lst (bs.map Yv)]=some (.sh .non))(h:nsD d=true)(hn:∀ds,d≠.lst ds):ql [.int gate,.lst (bs.map Yv),d]=↥(.bl false):=by
 unfold ql q1V;cases d <;> first|(simp_arith[hc];done)|exact vK rfl (hn _)|cases h
def qeX{g:Int}{ps:List Int}{bs:List (Int×Int)}(h:∀b∈bs,b.1∈g::ps/\b.2∈g::ps):(knw g bs).length<=(g::ps).length:=by
 refine q3h (qbI g bs) λc hc=>?_;rcases q0i.mp hc with q|⟨b,hb,_,q|q⟩
 ·rw[q];exact zJ
 ·rw[q];exact(h b hb).1
 ·rw[q];exact(h b hb).2
def q6q{x0 x1 x6 x7 x8:Option W}{g b t:D}{c:Int}{due:Str}(hs:shp (.lst [.str due,.bl true,.bl false,.bl false])=true)(hn:∀w:Int,w=0\/w=1\/w=2\/w=3->q1G [.int w,g,b,t]=↥(.lst [.str due,.bl true,.bl false,.bl false])):
  ∃x10,Wy (gN 10) q7c (upTo 0 4) [x0,x1,↥g,↥b,↥(.int c),↥(.str due),x6,x7,x8,↥t,none]=some (.nx,[x0,x1,↥g,↥b,↥(.int c),↥(.str due),x6,x7,x8,↥t,x10]):=by
 obtain⟨ω',e,x10,rfl⟩:=q8f (g:=gN 10) (b:=q7c) 0 4
  (λi ω=>∃x10:Option W,ω=[x0,x1,↥g,↥b,↥(.int c),↥(.str due),x6,x7,x8,↥t,x10])
  (λi ω hi ⟨x10,hω⟩=>by
   subst hω;refine⟨_,rfl,?_⟩;have nm:=hn ((0+(i:Int)+c/5)%4) ∅;have ne:=q9r hs;unfold q7c;simp_arith[nm,ne];exact⟨_,rfl⟩)
  (ω:=[x0,x1,↥g,↥b,↥(.int c),↥(.str due),x6,x7,x8,↥t,none]) ⟨none,rfl⟩
 exact⟨x10,e⟩
def qcY(ns:List Int)(hl:ns.length<=63):q6m [.scr ns]=↥(.bl true):=by
 obtain⟨gate,ps,h2,h6,hps⟩:=qf1 (ns:=ns);have h7:(gate::ps).length=7:=by rw[zC,h6]
 obtain⟨bs,h4,h5,h9⟩:=qce (ns:=ns) (some':=gate::ps) h7 hl;have pe:(pairD2:Int×Int->D)=Yv:=rfl;rw[pe]at h4;have ge:∀p∈gate::ps,gate<=p:=λp hp=>(zF.mp hp).elim (λe=>by rw[e];exact yn _) (hps p);have hbs:∀b∈bs,gate<=b.1/\gate<=b.2:=λb hb=>⟨ge _ (h5 b hb).1,ge _ (h5 b hb).2⟩;have i0:atI ((gate::ps).map D.int) 0=some (.int gate):=by rw[q38 (by decide) (by simp)];rfl
 have hc:=qcg (gate:=gate) (bs:=bs) ∅ hbs;have kf:=qeX (g:=gate) (ps:=ps) h5;have hy:zBT (.int gate) (.lst (bs.map Yv))=true:=by
  show (bs.map Yv).all (zBG gate)=true;rw[wN];refine yz.mpr λb hb=>?_;show (decide (gate<=b.1)&&decide (gate<=b.2))=true;rw[vQ (hbs b hb).1,vQ (hbs b hb).2];rfl
 have hpl:plL (.lst (bs.map Yv))=true:=q91 ∅;have c17:=q4q (ns:=ns) (k:=17) (by decide);generalize ns.getD (Int.toNat 17) 0=c at c17;have c18:=q4q (ns:=ns) (k:=18) (by decide);generalize ns.getD (Int.toNat 18) 0=e at c18;obtain⟨t,ht,hT⟩:=q54 (ds:=[D.lst [],.non,.lst [.tup [.str "go", .int 0,.int 1]],.int 7,.lst [.non]]) (i:=e%5) (λt=>∃o,ql [.int gate,.lst (bs.map Yv),t]=some o) ∅ (by simp only[zC,zS];omega) (by
  intro d hd;simp only[zF,zv,or_false]at hd;rcases hd with rfl|rfl|rfl|rfl|rfl
  ·exact qfU hc ∅
  ·exact⟨_,qcl hc rfl λ_ e=>by cases e⟩
  ·exact qgs hc
  ·exact⟨_,qcl hc rfl λ_ e=>by cases e⟩
  ·exact qfA hc)
 have rg:rg1I (some [.int 4])=some (upTo 0 4):=rfl;have sy:shp (.lst [.str "yard", .bl true,.bl false,.bl false])=true:=⋯
 have sa:shp (.lst [.str "answered", .bl true,.bl false,.bl false])=true:=⋯
 have p39:zCe (.int 10) (.int 39)=↥(.int (10^39)):=rfl;have md:∀x,oMod (.int x) (.int (10^39))=↥(.int (x%10^39)):=λx=>qz (by decide);simp only[yD]at p39 md;have m0:0<=c%6/\c%6<6:=∅
 generalize hP:(gate::ps).map D.int=P at h2 h4 i0;unfold q6m qb1
 by_cases z1:c%6=1
 ·have q1:(c%6==1)=true:=by rw[z1];rfl
  have q2:(c%6==2)=false:=by rw[z1];rfl
  have q3:(c%6==3)=false:=by rw[z1];rfl
  obtain⟨g,hg,g1,g2⟩:=q54 (ds:=[D.non,.bl true,.bl false,.str "0", .lst [.int gate],.tup [.int gate]]) (i:=c/6%6) (λd=>plD d=true/\zBT d (.lst (bs.map Yv))=false) ∅ (by simp only[zC,zS];omega) (by
   intro d hd;simp only[zF,zv,or_false]at hd;rcases hd with rfl|rfl|rfl|rfl|rfl|rfl <;> exact⟨rfl,rfl⟩)
  obtain⟨x10,lp⟩:=q6q (x0:=some (.sh (.scr ns))) (x1:=some (.sh (.lst P))) (x6:=none) (x7:=none) (x8:=none) (c:=c) (g:=g) (b:=.lst (bs.map Yv)) (t:=t) (due := "yard") sy λw hw=>q71 (qaS g1 hpl g2) hw;simp_arith -implicitDefEqProofs [h2,i0,h4,c17,q1,q2,q3,hg,c18,ht,rg,lp]
 ·have q1:(c%6==1)=false:=by simpa using z1
  by_cases z2:c%6=2
  ·have q2:(c%6==2)=true:=by rw[z2];rfl
   have q3:(c%6==3)=false:=by rw[z2];rfl
   have bt:zBe [.lst (bs.map Yv)]=some (.sh (.tup (bs.map Yv))):=rfl;obtain⟨b,hb,b1,b2⟩:=q54 (ds:=[D.non,.tup (bs.map Yv),.str "", .bl true,.int 0,.tup [],.lst [.non],.lst [.lst []]]) (i:=c/6%8) (λd=>plL d=true/\zBT (.int gate) d=false) ∅ (by simp only[zC,zS];omega) (by
    intro d hd;simp only[zF,zv,or_false]at hd;rcases hd with rfl|rfl|rfl|rfl|rfl|rfl|rfl|rfl <;> exact⟨rfl,rfl⟩)
   obtain⟨x10,lp⟩:=q6q (x0:=some (.sh (.scr ns))) (x1:=some (.sh (.lst P))) (x6:=none) (x7:=none) (x8:=none) (c:=c) (g:=.int gate) (b:=b) (t:=t) (due := "yard") sy λw hw=>q71 (qaS rfl b1 b2) hw;simp_arith -implicitDefEqProofs [h2,i0,h4,c17,q1,q2,q3,bt,hb,c18,ht,rg,lp]
  ·have q2:(c%6==2)=false:=by simpa using z2
   by_cases z3:c%6=3
   ·have q3:(c%6==3)=true:=by rw[z3];rfl
    have fr:gate-1-c/60%1000000000000000000000000000000000000000<gate:=by
     have:=ZZ (c/60) (show (1000000000000000000000000000000000000000:Int)≠0 by decide);omega
    generalize hf:gate-1-c/60%1000000000000000000000000000000000000000=far at fr;obtain⟨d,hd,d1,d2⟩:=q54 (ds:=[D.non,.lst [.int gate,.int gate],.tup [.int gate],.tup [.int gate,.int gate,.int 0],.tup [.bl true,.int gate],.tup [.int gate,.non],.tup [.int far,.int gate],.tup [.int gate,.int far]]) (i:=c/7%8) (λd=>plB d=true/\zBG gate d=false) ∅ (by simp only[zC,zS];omega) (by
     have nf:decide (gate<=far)=false:=vX ∅;intro d hd;simp only[zF,zv,or_false]at hd;rcases hd with rfl|rfl|rfl|rfl|rfl|rfl|rfl|rfl
     ·exact⟨rfl,rfl⟩
     ·exact⟨rfl,rfl⟩
     ·exact⟨rfl,rfl⟩
     ·exact⟨rfl,rfl⟩
     ·exact⟨rfl,rfl⟩
     ·exact⟨rfl,by show (_&&false)=false;rw[zt]⟩
     ·exact⟨rfl,by show (decide (gate<=far)&&_)=false;rw[nf];rfl⟩
     ·exact⟨rfl,by show (_&&decide (gate<=far))=false;rw[nf,zt]⟩)
    have mo:oMod (.int (c/6)) (.int ((bs.length:Int)+1))=↥(.int (c/6%((bs.length:Int)+1))):=qz ∅;have a0:=ZZ (c/6) (show (bs.length:Int)+1≠0 by omega);generalize c/6%((bs.length:Int)+1)=k at mo a0;have s1:=q8I (xs:=bs.map Yv) (k:=k) a0;have s2:=q8Y (xs:=bs.map Yv) (k:=k) a0;have l1:((bs.map Yv).take k.toNat).length<=9:=by rw[yK,zB];omega
    have l2:((bs.map Yv).drop k.toNat).length<=9:=by rw[yy,zB];omega
    have l3:((bs.map Yv).take k.toNat).length+((bs.map Yv).drop k.toNat).length=bs.length:=by
     rw[<- zD,yx,zB]
    have w1:=q4c (xs:=(bs.map Yv).take k.toNat) (ys:=[d]) (by rw[zz];omega);have w2:=q4c (xs:=(bs.map Yv).take k.toNat++[d]) (ys:=(bs.map Yv).drop k.toNat) (by rw[zD,zz];omega);have pb:∀x∈bs.map Yv,plB x=true:=λx hx=>by obtain⟨b,_,rfl⟩:=xC.mp hx;rfl
    have b1:plL (.lst ((bs.map Yv).take k.toNat++[d]++(bs.map Yv).drop k.toNat))=true:=by
     show (_&&decide (_<=20))=true;rw[zc,decide_eq_true_eq,zD,zD,zz];refine⟨yz.mpr λx hx=>?_,∅⟩;rcases zT.mp hx with hx|hx
     ·rcases zT.mp hx with hx|hx
      ·exact pb x (xb hx)
      ·rw[zb.mp hx];exact d1
     ·exact pb x (xQ hx)
    have b2:zBT (.int gate) (.lst ((bs.map Yv).take k.toNat++[d]++(bs.map Yv).drop k.toNat))=false:=by
     show List.all _ (zBG gate)=false;rw[YU,YU,xv,d2];simp
    generalize hB:(bs.map Yv).take k.toNat++[d]++(bs.map Yv).drop k.toNat=B at b1 b2 w2;obtain⟨x10,lp⟩:=q6q (x0:=some (.sh (.scr ns))) (x1:=some (.sh (.lst P))) (x6:=some (.sh (.int k))) (x7:=some (.sh (.int far))) (x8:=some (.sh (.lst [D.non,.lst [.int gate,.int gate],.tup [.int gate],.tup [.int gate,.int gate,.int 0],.tup [.bl true,.int gate],.tup [.int gate,.non],.tup [.int far,.int gate],.tup [.int gate,.int far]]))) (c:=c) (g:=.int gate) (b:=.lst B) (t:=t) (due := "yard") sy λw hw=>q71 (qaS rfl b1 b2) hw;simp_arith -implicitDefEqProofs [h2,i0,h4,c17,q1,q2,q3,mo,p39,md,hf,hd,qbn,s1,s2,w1,w2,c18,ht,rg,lp]
   ·have q3:(c%6==3)=false:=by simpa using z3
    obtain⟨x10,lp⟩:=q6q (x0:=some (.sh (.scr ns))) (x1:=some (.sh (.lst P))) (x6:=none) (x7:=none) (x8:=none) (c:=c) (g:=.int gate) (b:=.lst (bs.map Yv)) (t:=t) (due := "answered") sa λw hw=>qch ∅ ∅ hbs hy hT hw;simp_arith -implicitDefEqProofs [h2,i0,h4,c17,q1,q2,q3,c18,ht,rg,lp]
def qfE{l:ZY}{w:vY}{K:zA}{h:vf}{mg:Str->Option Value}{fa:vC}(X:K.In h)(G:h.Ns vP mg)(hfa:mg "law" = some (.ref fa)){f0:vC}{f1:vC}{f2:vC}{f3:vC}{f4:vC}{f5:vC}{f6:vC}{f7:vC}{f8:vC}{f9:vC}{f10:vC}{f11:vC}{f12:vC}{f13:vC}{f14:vC}{f15:vC}{f16:vC}{f17:vC}{f18:vC}{f19:vC}{f20:vC}{f21:vC}{f22:vC}{f23:vC}{f24:vC}{f25:vC}{f26:vC}{f27:vC}{f28:vC}{f29:vC}{f30:vC}{f31:vC}{f32:vC}{f33:vC}{f34:vC}{f35:vC}{f36:vC}{f37:vC}{A_NoYard:vC}{A_NoRow:vC}{A_NoText:vC}{A_NoWord:vC}{A_NoBox:vC}{A_NoErrand:vC}{A_NoReason:vC}{A_NoRing:vC}{A_RailError:vC}(D0:Fd K "is_whole" q5C f0)(D1:Fd K "is_box" q6G f1)(D2:Fd K "is_errand" q4W f2)(D3:Fd K "leads_over" q4u f3)(D4:Fd K "crossed" q5U f4)(D5:Fd K "is_yard" q5X f5)(D6:Fd K "check_yard" q3u f6)(D7:Fd K "yard_places" q46 f7)(D8:Fd K "times_passed" q3N f8)(D9:Fd K "passes" q5z f9)(D10:Fd K "yard_least" q3i f10)(D11:Fd K "neighbours" q4f f11)(D12:Fd K "group_of" q5l f12)(D13:Fd K "numbers_by_start" q28 f13)(D14:Fd K "as_many_begin_as_end" q2e f14)(D15:Fd K "round_from" q2N f15)(D16:Fd K "row_of" q5s f16)(D17:Fd K "is_go" q7J f17)(D18:Fd K "has_carry_form" q3c f18)(D19:Fd K "leads" q7M f19)(D20:Fd K "is_yard_carry" q3B f20)(D21:Fd K "brings_each_box" q37 f21)(D22:Fd K "is_yard_tour" q33 f22)(D23:Fd K "whole_carries" q3n f23)(D24:Fd K "empty_moves" q42 f24)(D25:Fd K "arcs_of" q64 f25)(D26:Fd K "ends_of" q5O f26)(D27:Fd K "lies_amid" q4N f27)(D28:Fd K "cut_in_two" q4g f28)(D29:Fd K "with_one_cut" q3D f29)(D30:Fd K "hung_together" q3o f30)(D31:Fd K "yard_tour" q3R f31)(D32:Fd K "_law_cell" q4L f32)(D33:Fd K "_law_menu" q4P f33)(D34:Fd K "_law_boxes" q4t f34)(D35:Fd K "_law_asked" q3p f35)(D36:Fd K "_law_named" q4l f36)(D37:Fd K "law" q6l f37)(z_isinstance:zx K vP "isinstance" = some none)(z_bool:zx K vP "bool" = some none)(z_int:zx K vP "int" = some none)(z_len:zx K vP "len" = some none)(z_tuple:zx K vP "tuple" = some none)(z_list:zx K vP "list" = some none)(z_all:zx K vP "all" = some none)(z_min:zx K vP "min" = some none)(z_sorted:zx K vP "sorted" = some none)(z_set:zx K vP "set" = some none)(z_max:zx K vP "max" = some none)(z_zip:zx K vP "zip" = some none)(z_sum:zx K vP "sum" = some none)(z_enumerate:zx K vP "enumerate" = some none)(z_reversed:zx K vP "reversed" = some none)(z_range:zx K vP "range" = some none)(z_ValueError:zx K vP "ValueError" = some none)(i_int:IsT K .int)(i_bool:IsT K .bl)(i_tuple:IsT K .tup)(i_list:IsT K .lst)(ea_NoYard:zx K vP "NoYard" = some (some (.ref A_NoYard)))(ea_NoRow:zx K vP "NoRow" = some (some (.ref A_NoRow)))(ea_NoText:zx K vP "NoText" = some (some (.ref A_NoText)))(ea_NoWord:zx K vP "NoWord" = some (some (.ref A_NoWord)))(ea_NoBox:zx K vP "NoBox" = some (some (.ref A_NoBox)))(ea_NoErrand:zx K vP "NoErrand" = some (some (.ref A_NoErrand)))(ea_NoReason:zx K vP "NoReason" = some (some (.ref A_NoReason)))(ea_NoRing:zx K vP "NoRing" = some (some (.ref A_NoRing)))(ea_RailError:zx K vP "RailError" = some (some (.ref A_RailError)))(ex_NoYard:wC K A_NoYard vErr "ValueError.__new__" = true)(ex_NoRow:wC K A_NoRow vErr "ValueError.__new__" = true)(em_NoYard_NoYard:xN K A_NoYard (.ref A_NoYard)=some true)(q1_NoYard:xk K (.ref A_NoYard) "__getattribute__" = some (some (.builtin "BaseException.__getattribute__")))(q2_NoYard:xk K (.ref A_NoYard) "__getattr__" = some none)(q3_NoYard:xk K (.ref A_NoYard) "__class__" = some (some (.builtin "object.__class__")))(q4_NoYard:xN K A_NoYard (.type "object")=some true)(q5_NoYard:xN K A_NoYard (.type "BaseException")=some true)(q1_NoRow:xk K (.ref A_NoRow) "__getattribute__" = some (some (.builtin "BaseException.__getattribute__")))(q2_NoRow:xk K (.ref A_NoRow) "__getattr__" = some none)(q3_NoRow:xk K (.ref A_NoRow) "__class__" = some (some (.builtin "object.__class__")))(q4_NoRow:xN K A_NoRow (.type "object")=some true)(q5_NoRow:xN K A_NoRow (.type "BaseException")=some true)(ek_NoText_NoYard:zw K (.ref A_NoYard) (.ref A_NoText)=some false)(ek_NoText_NoRow:zw K (.ref A_NoRow) (.ref A_NoText)=some false)(ek_NoWord_NoYard:zw K (.ref A_NoYard) (.ref A_NoWord)=some false)(ek_NoWord_NoRow:zw K (.ref A_NoRow) (.ref A_NoWord)=some false)(ek_NoBox_NoYard:zw K (.ref A_NoYard) (.ref A_NoBox)=some false)(ek_NoBox_NoRow:zw K (.ref A_NoRow) (.ref A_NoBox)=some false)(ek_NoErrand_NoYard:zw K (.ref A_NoYard) (.ref A_NoErrand)=some false)(ek_NoErrand_NoRow:zw K (.ref A_NoRow) (.ref A_NoErrand)=some false)(ek_NoRow_NoYard:zw K (.ref A_NoYard) (.ref A_NoRow)=some false)(ek_NoRow_NoRow:zw K (.ref A_NoRow) (.ref A_NoRow)=some true)(ek_NoReason_NoYard:zw K (.ref A_NoYard) (.ref A_NoReason)=some false)(ek_NoReason_NoRow:zw K (.ref A_NoRow) (.ref A_NoReason)=some false)(ek_NoRing_NoYard:zw K (.ref A_NoYard) (.ref A_NoRing)=some false)(ek_NoRing_NoRow:zw K (.ref A_NoRow) (.ref A_NoRing)=some false)(ek_ValueError_NoYard:zw K (.ref A_NoYard) (.type "ValueError")=some true)(ek_ValueError_NoRow:zw K (.ref A_NoRow) (.type "ValueError")=some true)(ek_RailError_NoYard:zw K (.ref A_NoYard) (.ref A_RailError)=some true)(ek_RailError_NoRow:zw K (.ref A_NoRow) (.ref A_RailError)=some true): ∃fd:vN,(∀(s:vB)(v:Value),sF s fd ⟨[v],[]⟩ [("script", v)])/\∀base:vf,K.In base->base.Ns vP mg->FnOk l.prog w K mg base CX0 11 fa fd ["script"] (spD K 1 q6m):=by
 have e:=hfa.symm.trans (xJ X G D37.1);cases e;obtain⟨d0,F0⟩:=D0.2;obtain⟨d1,F1⟩:=D1.2;obtain⟨d2,F2⟩:=D2.2;obtain⟨d3,F3⟩:=D3.2;obtain⟨d4,F4⟩:=D4.2;obtain⟨d5,F5⟩:=D5.2;obtain⟨d6,F6⟩:=D6.2;obtain⟨d7,F7⟩:=D7.2;obtain⟨d8,F8⟩:=D8.2;obtain⟨d9,F9⟩:=D9.2;obtain⟨d10,F10⟩:=D10.2;obtain⟨d11,F11⟩:=D11.2;obtain⟨d12,F12⟩:=D12.2;obtain⟨d13,F13⟩:=D13.2;obtain⟨d14,F14⟩:=D14.2;obtain⟨d15,F15⟩:=D15.2;obtain⟨d16,F16⟩:=D16.2;obtain⟨d17,F17⟩:=D17.2;obtain⟨d18,F18⟩:=D18.2;obtain⟨d19,F19⟩:=D19.2;obtain⟨d20,F20⟩:=D20.2;obtain⟨d21,F21⟩:=D21.2;obtain⟨d22,F22⟩:=D22.2;obtain⟨d23,F23⟩:=D23.2;obtain⟨d24,F24⟩:=D24.2;obtain⟨d25,F25⟩:=D25.2;obtain⟨d26,F26⟩:=D26.2;obtain⟨d27,F27⟩:=D27.2;obtain⟨d28,F28⟩:=D28.2;obtain⟨d29,F29⟩:=D29.2;obtain⟨d30,F30⟩:=D30.2;obtain⟨d31,F31⟩:=D31.2;obtain⟨d32,F32⟩:=D32.2;obtain⟨d33,F33⟩:=D33.2;obtain⟨d34,F34⟩:=D34.2;obtain⟨d35,F35⟩:=D35.2;obtain⟨d36,F36⟩:=D36.2;obtain⟨_,F37⟩:=D37.2;obtain⟨_,_,kV,dc,pm,an,cd,ct,_,rfl,_,_⟩:=F37.ex;have y_isinstance:=yI X G z_isinstance;have y_bool:=yI X G z_bool;have y_int:=yI X G z_int;have y_len:=yI X G z_len;have y_tuple:=yI X G z_tuple;have y_list:=yI X G z_list;have y_all:=yI X G z_all;have y_min:=yI X G z_min;have y_sorted:=yI X G z_sorted;have y_set:=yI X G z_set;have y_max:=yI X G z_max;have y_zip:=yI X G z_zip;have y_sum:=yI X G z_sum;have y_enumerate:=yI X G z_enumerate;have y_reversed:=yI X G z_reversed;have y_range:=yI X G z_range;have y_ValueError:=yI X G z_ValueError;have e_NoYard:=xJ X G ea_NoYard;have e_NoRow:=xJ X G ea_NoRow;have e_NoText:=xJ X G ea_NoText;have e_NoWord:=xJ X G ea_NoWord;have e_NoBox:=xJ X G ea_NoBox;have e_NoErrand:=xJ X G ea_NoErrand;have e_NoReason:=xJ X G ea_NoReason;have e_NoRing:=xJ X G ea_NoRing;have e_RailError:=xJ X G ea_RailError;have x_NoYard:ECls K "NoYard" A_NoYard:=⟨ea_NoYard,ex_NoYard⟩;have x_NoRow:ECls K "NoRow" A_NoRow:=⟨ea_NoRow,ex_NoRow⟩;have w_NoYard:zAy K A_NoYard ["NoYard"]:=(qaK ea_NoYard ex_NoYard em_NoYard_NoYard qcz);have t_NoText:IsX K (.ref A_NoText) [("NoYard", false),("NoRow", false)]:=(q0j ea_NoYard (qD q4_NoYard) ⟨q1_NoYard,q2_NoYard,q3_NoYard,q4_NoYard,q5_NoYard⟩ ek_NoText_NoYard (q0j ea_NoRow (qD q4_NoRow) ⟨q1_NoRow,q2_NoRow,q3_NoRow,q4_NoRow,q5_NoRow⟩ ek_NoText_NoRow q31))
 have t_NoWord:IsX K (.ref A_NoWord) [("NoYard", false),("NoRow", false)]:=(q0j ea_NoYard (qD q4_NoYard) ⟨q1_NoYard,q2_NoYard,q3_NoYard,q4_NoYard,q5_NoYard⟩ ek_NoWord_NoYard (q0j ea_NoRow (qD q4_NoRow) ⟨q1_NoRow,q2_NoRow,q3_NoRow,q4_NoRow,q5_NoRow⟩ ek_NoWord_NoRow q31));have t_NoBox:IsX K (.ref A_NoBox) [("NoYard", false),("NoRow", false)]:=(q0j ea_NoYard (qD q4_NoYard) ⟨q1_NoYard,q2_NoYard,q3_NoYard,q4_NoYard,q5_NoYard⟩ ek_NoBox_NoYard (q0j ea_NoRow (qD q4_NoRow) ⟨q1_NoRow,q2_NoRow,q3_NoRow,q4_NoRow,q5_NoRow⟩ ek_NoBox_NoRow q31));have t_NoErrand:IsX K (.ref A_NoErrand) [("NoYard", false),("NoRow", false)]:=(q0j ea_NoYard (qD q4_NoYard) ⟨q1_NoYard,q2_NoYard,q3_NoYard,q4_NoYard,q5_NoYard⟩ ek_NoErrand_NoYard (q0j ea_NoRow (qD q4_NoRow) ⟨q1_NoRow,q2_NoRow,q3_NoRow,q4_NoRow,q5_NoRow⟩ ek_NoErrand_NoRow q31));have t_NoRow:IsX K (.ref A_NoRow) [("NoYard", false),("NoRow", true)]:=(q0j ea_NoYard (qD q4_NoYard) ⟨q1_NoYard,q2_NoYard,q3_NoYard,q4_NoYard,q5_NoYard⟩ ek_NoRow_NoYard (q0j ea_NoRow (qD q4_NoRow) ⟨q1_NoRow,q2_NoRow,q3_NoRow,q4_NoRow,q5_NoRow⟩ ek_NoRow_NoRow q31));have t_NoReason:IsX K (.ref A_NoReason) [("NoYard", false),("NoRow", false)]:=(q0j ea_NoYard (qD q4_NoYard) ⟨q1_NoYard,q2_NoYard,q3_NoYard,q4_NoYard,q5_NoYard⟩ ek_NoReason_NoYard (q0j ea_NoRow (qD q4_NoRow) ⟨q1_NoRow,q2_NoRow,q3_NoRow,q4_NoRow,q5_NoRow⟩ ek_NoReason_NoRow q31));have t_NoRing:IsX K (.ref A_NoRing) [("NoYard", false),("NoRow", false)]:=(q0j ea_NoYard (qD q4_NoYard) ⟨q1_NoYard,q2_NoYard,q3_NoYard,q4_NoYard,q5_NoYard⟩ ek_NoRing_NoYard (q0j ea_NoRow (qD q4_NoRow) ⟨q1_NoRow,q2_NoRow,q3_NoRow,q4_NoRow,q5_NoRow⟩ ek_NoRing_NoRow q31));have t_ValueError:IsX K (.type "ValueError") [("NoYard", true),("NoRow", true)]:=(q0j ea_NoYard (qD q4_NoYard) ⟨q1_NoYard,q2_NoYard,q3_NoYard,q4_NoYard,q5_NoYard⟩ ek_ValueError_NoYard (q0j ea_NoRow (qD q4_NoRow) ⟨q1_NoRow,q2_NoRow,q3_NoRow,q4_NoRow,q5_NoRow⟩ ek_ValueError_NoRow q31));have t_RailError:IsX K (.ref A_RailError) [("NoYard", true),("NoRow", true)]:=(q0j ea_NoYard (qD q4_NoYard) ⟨q1_NoYard,q2_NoYard,q3_NoYard,q4_NoYard,q5_NoYard⟩ ek_RailError_NoYard (q0j ea_NoRow (qD q4_NoRow) ⟨q1_NoRow,q2_NoRow,q3_NoRow,q4_NoRow,q5_NoRow⟩ ek_RailError_NoRow q31));refine⟨xr "law" "law" (X7 q6l) (Xf q6l) (Yo q6l) .none kV dc pm an cd ct,λs v=>.of_eq rfl,λbase _ _=>?_⟩;have C0:=qm l.prog w base X G D0 F0 (q9Y F0 y_isinstance y_bool y_int i_int i_bool) λ_ _ _ _ _ _ us hl=>match us,hl with|[_],_=>rfl
 have C1:=qm l.prog w base X G D1 F1 (qcO F1 C0 y_len y_isinstance y_tuple i_tuple) λ_ _ _ _ _ _ us hl=>match us,hl with|[_],_=>rfl
 have C2:=qm l.prog w base X G D2 F2 (q93 F2 C0 C1 y_isinstance y_list y_all i_list) λ_ _ _ _ _ _ us hl=>match us,hl with|[_,_,_],_=>rfl
 have C3:=qm l.prog w base X G D3 F3 (q8u F3) λ_ _ _ _ _ _ us hl=>match us,hl with|[_,_,_],_=>rfl
 have C4:=qm l.prog w base X G D4 F4 (qaU F4 C3 y_len) λ_ _ _ _ _ _ us hl=>match us,hl with|[_,_],_=>rfl
 have C5:=qm l.prog w base X G D5 F5 (qb0 F5 C2 y_min y_all) λ_ _ _ _ _ _ us hl=>match us,hl with|[_,_],_=>rfl
 have HX6:=q7T (P:=l.prog) (w:=w) (mg:=mg) (base:=base) F6 C5 e_NoYard x_NoYard;have C6:=qm l.prog w base X G D6 F6 (q8x F6 C5 e_NoYard x_NoYard) λ_ _ _ _ _ _ us hl=>match us,hl with|[_,_],_=>rfl
 have C7:=qm l.prog w base X G D7 F7 (q7U F7 y_sorted y_set) λ_ _ _ _ _ _ us hl=>match us,hl with|[_,_],_=>rfl
 have C8:=qm l.prog w base X G D8 F8 (q7x F8 C4 y_max) λ_ _ _ _ _ _ us hl=>match us,hl with|[_,_],_=>rfl
 have HX9:=qbk (P:=l.prog) (w:=w) (mg:=mg) (base:=base) F9 C6 HX6 C7 C8 y_zip;have C9:=qm l.prog w base X G D9 F9 (qcn F9 C6 HX6 C7 C8 y_zip) λ_ _ _ _ _ _ us hl=>match us,hl with|[_,_],_=>rfl
 have HX10:=q7D (P:=l.prog) (w:=w) (mg:=mg) (base:=base) F10 C9 HX9 y_sum;have C10:=qm l.prog w base X G D10 F10 (q8q F10 C9 HX9 y_sum) λ_ _ _ _ _ _ us hl=>match us,hl with|[_,_],_=>rfl
 have C11:=qm l.prog w base X G D11 F11 (q8z F11) λ_ _ _ _ _ _ us hl=>match us,hl with|[_,_],_=>rfl
 have C12:=qm l.prog w base X G D12 F12 (qa0 F12 y_sorted) λ_ _ _ _ _ _ us hl=>match us,hl with|[_,_],_=>rfl
 have C13:=q5H (P:=l.prog) (w:=w) (mg:=mg) (base:=base) F13 y_enumerate;have C14:=qm l.prog w base X G D14 F14 (q4E F14 y_sorted) λ_ _ _ _ _ _ us hl=>match us,hl with|[_],_=>rfl
 have C15:=qm l.prog w base X G D15 F15 (q8r F15 C13 (xJ X G D13.1) F13.kp (F13.binds (ps:=["arcs"]) λ_ _ _ _ _ _ us hl=>match us,hl with|[_],_=>rfl) y_list y_reversed) λ_ _ _ _ _ _ us hl=>match us,hl with|[_,_],_=>rfl
 have HX16:=qaL (P:=l.prog) (w:=w) (mg:=mg) (base:=base) F16 C14 C15 e_NoRow x_NoRow y_len;have C16:=qm l.prog w base X G D16 F16 (qbu F16 C14 C15 e_NoRow x_NoRow y_len) λ_ _ _ _ _ _ us hl=>match us,hl with|[_,_],_=>rfl
 have C17:=qm l.prog w base X G D17 F17 (qcR F17 C0 y_len y_isinstance y_tuple i_tuple) λ_ _ _ _ _ _ us hl=>match us,hl with|[_],_=>rfl
 have C18:=qm l.prog w base X G D18 F18 (q6B F18 C0 y_len y_isinstance y_tuple y_all i_tuple) λ_ _ _ _ _ _ us hl=>match us,hl with|[_,_],_=>rfl
 have C19:=qm l.prog w base X G D19 F19 (qdE F19) λ_ _ _ _ _ _ us hl=>match us,hl with|[_,_,_],_=>rfl
 have C20:=qm l.prog w base X G D20 F20 (q6T F20 C18) λ_ _ _ _ _ _ us hl=>match us,hl with|[_,_],_=>rfl
 have C21:=qm l.prog w base X G D21 F21 (q6c F21) λ_ _ _ _ _ _ us hl=>match us,hl with|[_,_],_=>rfl
 have HX22:=q6L (P:=l.prog) (w:=w) (mg:=mg) (base:=base) F22 C6 HX6 C20 C17 C21 C19 y_isinstance y_list y_all i_list;have C22:=qm l.prog w base X G D22 F22 (q7B F22 C6 HX6 C20 C17 C21 C19 y_isinstance y_list y_all i_list) λ_ _ _ _ _ _ us hl=>match us,hl with|[_,_,_],_=>rfl
 have C23:=qm l.prog w base X G D23 F23 (q73 F23 y_enumerate) λ_ _ _ _ _ _ us hl=>match us,hl with|[_],_=>rfl
 have C24:=qm l.prog w base X G D24 F24 (q7K F24 C9 C4) λ_ _ _ _ _ _ us hl=>match us,hl with|[_,_],_=>rfl
 have C25:=qm l.prog w base X G D25 F25 (qbl F25) λ_ _ _ _ _ _ us hl=>match us,hl with|[_],_=>rfl
 have C26:=qm l.prog w base X G D26 F26 (qb8 F26 y_sorted y_set) λ_ _ _ _ _ _ us hl=>match us,hl with|[_],_=>rfl
 have C27:=qm l.prog w base X G D27 F27 (q9A F27 y_max y_min) λ_ _ _ _ _ _ us hl=>match us,hl with|[_,_],_=>rfl
 have C28:=qm l.prog w base X G D28 F28 (q8v F28) λ_ _ _ _ _ _ us hl=>match us,hl with|[_,_],_=>rfl
 have C29:=qm l.prog w base X G D29 F29 (q7t F29 C26 C27 C28 y_enumerate) λ_ _ _ _ _ _ us hl=>match us,hl with|[_,_],_=>rfl
 have C30:=qm l.prog w base X G D30 F30 (q6W F30 C26 C12 C11 C25 C29 y_len) λ_ _ _ _ _ _ us hl=>match us,hl with|[_,_],_=>rfl
 have HX31:=q8y (P:=l.prog) (w:=w) (mg:=mg) (base:=base) F31 C6 HX6 C30 C23 C24 C16 HX16 C25;have C31:=qm l.prog w base X G D31 F31 (q9G F31 C6 HX6 C30 C23 C24 C16 HX16 C25) λ_ _ _ _ _ _ us hl=>match us,hl with|[_,_],_=>rfl
 have C32:=qm l.prog w base X G D32 F32 (q8M F32 y_len) λ_ _ _ _ _ _ us hl=>match us,hl with|[_,_],_=>rfl
 have C33:=qm l.prog w base X G D33 F33 (q9n F33 C32 y_range) λ_ _ _ _ _ _ us hl=>match us,hl with|[_],_=>rfl
 have C34:=qm l.prog w base X G D34 F34 (q8s F34 C32) λ_ _ _ _ _ _ us hl=>match us,hl with|[_,_],_=>rfl
 have HX35:=q7I (P:=l.prog) (w:=w) (mg:=mg) (base:=base) F35 C9 HX9 C10 HX10 C22 HX22 C31 HX31;have C35:=qm l.prog w base X G D35 F35 (q8t F35 C9 HX9 C10 HX10 C22 HX22 C31 HX31) λ_ _ _ _ _ _ us hl=>match us,hl with|[_,_,_,_],_=>rfl
 have C36:=qm l.prog w base X G D36 F36 (q8A F36 C35 HX35 e_NoYard e_NoText e_NoWord e_NoBox e_NoErrand e_NoRow e_NoReason e_NoRing e_RailError x_NoYard w_NoYard t_NoText t_NoWord t_NoBox t_NoErrand t_NoRow t_NoReason t_NoRing t_ValueError t_RailError y_isinstance y_ValueError) λ_ _ _ _ _ _ us hl=>match us,hl with|[_,_,_,_],_=>rfl
 exact qfq F37 C33 C34 C32 C36 y_tuple y_len y_range
def walk{l:ZY}{q:vS}{loose:List Str}{XP:(Str->Option Value)->vf->Prop}{YP:vY->vf->Prop}{d:DefRec}{K:Params->zA}(hn:l.most=some 63)(hdf:d.params.defaults=[])(hY:∀(w:vY)(h:vf),YP w h->(K w.params).In h)(F:∀(w:vY)(mg:Str->Option Value)(fa:vC)(h:vf),(K w.params).In h->h.Ns vP mg->mg d.name=some (.ref fa) ->
   ∃fd:vN,(∀(s:vB)(u:Value),sF s fd ⟨[u],[]⟩ [("script", u)])/\∀base:vf,(K w.params).In base->base.Ns vP mg->FnOk l.prog w (K w.params) mg base CX0 11 fa fd ["script"] (spD (K w.params) 1 q6m)) :
  Yc q loose XP YP l.row.toRowW d [] (λf vs=>PySem.call f vs) :=
 L2.qa8 (n:=63) (k:=11) (x := "script") (CX:=λ_=>CX0) (sp:=λw=>spD (K w.params) 1 q6m) hn (by decide) hdf ⟨rfl,by decide,by decide⟩ hY F
  (λ_ H a ns hl _ hS=>⟨H,[.scr ns],.sh (.bl true),qcY ns hl,rfl,Y1.refl _,⟨.ref a,[],rfl,⟨a,rfl,hS⟩,rfl⟩,λ_ _ _ _ y=>y⟩) λ_ _ _ _ _ z=>z
end Kx
namespace PySem.W.Fast
def tw6970905141034744740:=0
def tw970293132939457558:=0
def tw5176625890132063298:=0
def tw8453320813455848017:=0
def tw2131696254528270785:=0
def tw12632960651788278569:=0
def tw5299849051235243458:=0
def tw8211580076816299936:=0
def tw9583459471412839987:=0
def tw2403735790262967645:=0
def tw1220349746674948470:=0
def tw7129175059072446540:=0
def tw14910639048317801007:=0
def tw3603028640681176315:=0
def tw3728261684559898027:=0
def tw5175140799190037654:=0
def tw2606868216838981630:=0
def tw3182702999266338654:=0
def tw2908575921701697828:=0
def tw14957766440070285998:=0
def tw3178604246608653448:=0
def tw12472678334418436227:=0
def tw3341821438564161961:=0
def tw7700042700060412216:=0
def tw14655711321926152522:=0
def tw9160434786733514456:=0
def tw8573944731608395426:=0
def tw6205362600968167035:=0
def tw3057314789727742550:=0
def tw2732322999947327267:=0
def tw9231556392229983476:=0
def tw5135067438195786690:=0
def tw15469190857871552941:=0
def tw13263650052199591503:=0
def tw9923990862084314983:=0
def tw11095544068786270999:=0
def tw1374989786524389886:=0
def tw15270073192753264712:=0
def tw259951508928780821:=0
def tw8344014677128744968:=0
def tw17666512909782450215:=0
def tw1259195292360376084:=0
def tw1810134403313800584:=0
def tw4347589719691467652:=0
def tw7133582205342225117:=0
def tw6044836492381453221:=0
def tw111078479379551166:=0
def tw5054705034082290030:=0
def tw11866938623839231472:=0
def tw11004447053886148410:=0
def tw173503955758805336:=0
def tw8641150459610348066:=0
def tw7627524106673003672:=0
def tw7274594609483587567:=0
def tw5333229249350639222:=0
def tw11698213515867937224:=0
def tw14964636443817915781:=0
def tw12577692350019027965:=0
def tw12245316715541963456:=0
def tw12647370355170664496:=0
def tw7978929154799655213:=0
def tw12630881678824147491:=0
def tw6633294310177346617:=0
def tw12657895190836847303:=0
def tw13787874918778907091:=0
def tw3804168772121560327:=0
def tw14860889009212997001:=0
def tw5209498885619954039:=0
def tw14590974071583275026:=0
def tw8858654625769352290:=0
def tw15221916068021552180:=0
def tw8138444185754060415:=0
def tw5489039637408628645:=0
def tw11868643480499991419:=0
def tw11711243803981829148:=0
def tw13563208558211926646:=0
def tw13552707686524042070:=0
def tw9564419352088636405:=0
def tw267241201112862934:=0
def tw12297639664510280994:=0
def tw12824634612410923720:=0
def tw9993260112037241533:=0
def tw16956546854587926230:=0
def tw3740041379643824926:=0
def tw9654183009636425967:=0
def tw10338733893455322762:=0
def tw10706331908127077831:=0
def tw3749771480150571647:=0
def tw814241984136774443:=0
def tw1743842057307883235:=0
def tw15337743124976021019:=0
def tw16130964342753988448:=0
def tw10393697003897920414:=0
def tw11952881073448720927:=0
def tw6510567758647474093:=0
def tw4594943638018629099:=0
def tw14139327164685320911:=0
def tw3826025769909891861:=0
def tw11626948051715236450:=0
def tw17293761635703735540:=0
def tw1454968150942968324:=0
def tw7995192979429230396:=0
def tw5537718277908132198:=0
def tw17425180725178748613:=0
def tw9492087597895568791:=0
def tw15164167922653079280:=0
def tw11545099995239418706:=0
def tw4240155344553397174:=0
def tw14654835658956242485:=0
def tw14001978764923174148:=0
def tw5266342418196632998:=0
def tw4794085755781091259:=0
def tw14541590124801026822:=0
def tw14719635848650988698:=0
def tw16621181648630440555:=0
def tw1950254912787803861:=0
def tw8777779698889360377:=0
def tw17521796000957627976:=0
def tw7910087458213292982:=0
def tw2997870968746985470:=0
def tw12603692506330428150:=0
def tw8447423564051832331:=0
def tw5260367850827307982:=0
def tw6117528741240690011:=0
def tw1200566015712403895:=0
def tw8347349536901007810:=0
def tw4854522054217344118:=0
def tw10225510997343939006:=0
def tw11327113891138163476:=0
def tw6060594066144735054:=0
def tw11070971438105884112:=0
def tw6189273773752175791:=0
def tw17236239402620806713:=0
def tw13178727889658906229:=0
def tw15727119708815119510:=0
def tw14839217331660222408:=0
def tw7484903974036792529:=0
def tw11900049057252247551:=0
def tw13964749131208684381:=0
def tw11140834587479060152:=0
def tw2759061391993619360:=0
def tw1597112401028429092:=0
def tw11108734011101551405:=0
def tw12106158753198500737:=0
def tw6864639638310699228:=0
def tw13647917986731287007:=0
def tw15531075042375814578:=0
def tw632366967464500805:=0
def tw7418341082156816459:=0
def tw8598062922329720428:=0
def tw6261192578277698574:=0
def tw6592765916221764150:=0
def tw12459731207560518729:=0
def tw13809323761822523419:=0
def tw2268156143533840567:=0
def tw15111684680681851780:=0
def tw7929545871080610179:=0
def tw15001644657489774139:=0
def tw9315532963934536714:=0
def tw9122490563336454942:=0
def tw2907059750332312878:=0
def tw12240207082271187240:=0
def tw3617817399502696696:=0
def tw13090327320637869413:=0
def tw17927676687443543430:=0
def tw17263929392961345351:=0
def tw15373052301315404412:=0
def tw9922307007948231233:=0
def tw15183742532988159119:=0
def tw12147117320465936054:=0
def tw15243687401346500758:=0
def tw7391287993776675198:=0
def tw10559727433353571540:=0
def tw11660529907455478797:=0
def tw16399634420833980128:=0
def tw10392016471225108533:=0
def tw18365135688767814920:=0
def tw524542443409900296:=0
def tw18429011908723078050:=0
def tw15034055200511681407:=0
def tw1512369917798811870:=0
def tw11851601553708706434:=0
def tw1522447218435296929:=0
def tw6004143437134608909:=0
def tw15054244767001124871:=0
def tw12213810799945328167:=0
def tw9308115851193039868:=0
def tw13508823353147601166:=0
def tw1175648993103848831:=0
def tw12474030742910572707:=0
def tw8445698077825001651:=0
def tw3547539849317232110:=0
def tw6139829695817418205:=0
def tw1808600189570545557:=0
def tw3231915400950723283:=0
def tw10754498941991113259:=0
def tw17276837978097063177:=0
def tw4574629006025802014:=0
def tw15703439483935804232:=0
def tw14405967504158169034:=0
def tw8058769721472463475:=0
def tw17803516016246307234:=0
def tw6405078850168533822:=0
def tw6930426978322177977:=0
def tw3120525624002672202:=0
def tw17240487427527201140:=0
def tw12877613154003097485:=0
def tw4351217587276559019:=0
def tw6624070839613097076:=0
def tw11662238705257324667:=0
def tw14988497682141582426:=0
def tw5403045089374247041:=0
def tw15958586538146001636:=0
def tw18347996800929747544:=0
def tw14541104933023363166:=0
def tw15898648599553468396:=0
def tw2279380985189845598:=0
def tw17865289530265871672:=0
def tw15084499263701816299:=0
def tw1227938233325543262:=0
def tw2539813688960644616:=0
def tw9371454116155420219:=0
def tw16067682840516294230:=0
def tw4839251875514753407:=0
def tw6862823438529123894:=0
def tw14719594597117868098:=0
def tw1907291924601280444:=0
def tw4639472100577190673:=0
def tw11602167454735493687:=0
def tw6293488290027562242:=0
def tw15554539927060145352:=0
def tw10162586626724125591:=0
def tw10359176653453470231:=0
def tw7762787382705277618:=0
def tw9547838078267375256:=0
def tw6400955744825002524:=0
def tw8015090273106986373:=0
def tw8358297566163560971:=0
def tw12869976542080583909:=0
def tw6079829432067807083:=0
def tw14607887051258201709:=0
def tw12348490257087670047:=0
def tw15856266138309536296:=0
def tw1778849332106141166:=0
def tw6719636362802378068:=0
def tw14221233040081432011:=0
def tw4119737077884017725:=0
def tw4838984375808584283:=0
def tw8234209667138257549:=0
def tw5848664176649176575:=0
def tw5695332256292583533:=0
def tw1619388861935385220:=0
def tw2220176731318576707:=0
def tw14200060726135156604:=0
def tw12257315530317031840:=0
def tw9342362530702963704:=0
def tw11817552231712197952:=0
def tw3104873517813399904:=0
def tw17067552745276435427:=0
def tw1612547045721775706:=0
def tw18294461708005817089:=0
def tw16005346650065171356:=0
def tw15442460906317425309:=0
def tw16515285435670940689:=0
def tw9951911794253054804:=0
def tw2540779625572988871:=0
def tw2049539294015860301:=0
def tw13493018766742348226:=0
def tw17985757491703257983:=0
def tw854769212570637031:=0
def tw8079097988349822312:=0
def tw4883966349615606060:=0
def tw12775843071823681587:=0
def tw6185217805835975795:=0
def tw12375585600253344823:=0
def tw18071820639149082117:=0
def tw5739148573845774448:=0
def tw7989267963279642306:=0
def tw586672170486886659:=0
def tw8093700938476857541:=0
def tw11922150263433889325:=0
def tw10390243855905567193:=0
def tw13611213764991769100:=0
def tw17037868409632460112:=0
def tw5003477437216746218:=0
def tw16830653395372781393:=0
def tw6536200045406082435:=0
def tw16966530303574263018:=0
def tw16424289621752540518:=0
def tw11300213889041512381:=0
def tw8911096653265127726:=0
def tw17048583682802319311:=0
def tw3107420108269627743:=0
def tw7181502894327059369:=0
def tw127907023865177736:=0
def tw5973139886225488454:=0
def tw4273502525534069329:=0
def tw282448900597841003:=0
def tw18076464320164660136:=0
def tw6595639313238163809:=0
def tw708410851814874796:=0
def tw17315089937943958534:=0
def tw8897638120231551656:=0
def tw5686177032065713465:=0
def tw17169964305416627769:=0
def tw12894543099806473587:=0
def tw9142267533857016488:=0
def tw15886584096658760881:=0
def tw15573134887680079565:=0
def tw15337963389037857931:=0
def tw14158689069377626992:=0
def tw16915478294716060071:=0
def tw6451030217199491999:=0
def tw14656092312155800604:=0
def tw6703348981019755817:=0
def tw4446158154177976282:=0
def tw9668177724835710487:=0
def tw14309979301415599503:=0
def tw3472955487998297399:=0
def tw2310058967404580408:=0
def tw11838681644940678220:=0
def tw17947709158586226807:=0
def tw12744100799283066868:=0
def tw8842060584353699527:=0
def tw18431491891834618927:=0
def tw16628436296510323437:=0
def tw2484313356782566761:=0
def tw14232178335146066715:=0
def tw4626966603251946351:=0
def tw10517915974138491104:=0
def tw15569892986456756264:=0
def tw12371227607509744601:=0
def tw9368675286409749921:=0
def tw2848149288874009997:=0
def tw6818792740513400898:=0
def tw13782784957601146574:=0
def tw14104060459137519739:=0
def tw11180554906298358578:=0
def tw3121024400995886004:=0
def tw5443017404427808358:=0
def tw4349344679897392973:=0
def tw14333359276372943167:=0
def tw17736277938647820849:=0
def tw11729568004563987132:=0
def tw3967231755458855323:=0
def tw2709371746381581784:=0
def tw16703518105694271849:=0
def tw11780314820362003200:=0
def tw16021755461296052360:=0
def tw9481745910680326967:=0
def tw7066070451081707744:=0
def tw7940118460061653718:=0
def tw7433661457917403234:=0
def tw16437105772662102565:=0
def tw17580421077808037737:=0
def tw12931579103229366596:=0
def tw12516894517900696918:=0
end PySem.W.Fast
open PySem PySem.W PyProof.Rows
set_option maxRecDepth 100000 in
set_option maxHeartbeats 0 in
theorem PySem.Challenge.cw_hookrail_k56_refused_yards_holds : PySem.Challenge.rw_hookrail_k56_refused_yards.Holds := by
 w_on;o_law;k_head;(case hw=>w_witness2)
 k_fill
 refine Kx.walk (l:=PySem.Challenge.rw_hookrail_k56_refused_yards) rfl rfl (λw h Y=>YV Y) ?F
 case F =>
  intro w mg fa h KX G hmg;refine' Kx.qfE KX G hmg ?D0 ?D1 ?D2 ?D3 ?D4 ?D5 ?D6 ?D7 ?D8 ?D9 ?D10 ?D11 ?D12 ?D13 ?D14 ?D15 ?D16 ?D17 ?D18 ?D19 ?D20 ?D21 ?D22 ?D23 ?D24 ?D25 ?D26 ?D27 ?D28 ?D29 ?D30 ?D31 ?D32 ?D33 ?D34 ?D35 ?D36 ?D37 ?z_isinstance ?z_bool ?z_int ?z_len ?z_tuple ?z_list ?z_all ?z_min ?z_sorted ?z_set ?z_max ?z_zip ?z_sum ?z_enumerate ?z_reversed ?z_range ?z_ValueError ?i_int ?i_bool ?i_tuple ?i_list ?ea_NoYard ?ea_NoRow ?ea_NoText ?ea_NoWord ?ea_NoBox ?ea_NoErrand ?ea_NoReason ?ea_NoRing ?ea_RailError ?ex_NoYard ?ex_NoRow ?em_NoYard_NoYard ?q1_NoYard ?q2_NoYard ?q3_NoYard ?q4_NoYard ?q5_NoYard ?q1_NoRow ?q2_NoRow ?q3_NoRow ?q4_NoRow ?q5_NoRow ?ek_NoText_NoYard ?ek_NoText_NoRow ?ek_NoWord_NoYard ?ek_NoWord_NoRow ?ek_NoBox_NoYard ?ek_NoBox_NoRow ?ek_NoErrand_NoYard ?ek_NoErrand_NoRow ?ek_NoRow_NoYard ?ek_NoRow_NoRow ?ek_NoReason_NoYard ?ek_NoReason_NoRow ?ek_NoRing_NoYard ?ek_NoRing_NoRow ?ek_ValueError_NoYard ?ek_ValueError_NoRow ?ek_RailError_NoYard ?ek_RailError_NoRow
  (case D0|D1|D2|D3|D4|D5|D6|D7|D8|D9|D10|D11|D12|D13|D14|D15|D16|D17|D18|D19|D20|D21|D22|D23|D24|D25|D26|D27|D28|D29|D30|D31|D32|D33|D34|D35|D36|D37=>(refine' Hk.qgi ?a ?l ?c ?k;(case a=>k_is);(case l=>k_is);(case c=>k_is);(case k=>k_is)))
  (case z_isinstance|z_bool|z_int|z_len|z_tuple|z_list|z_all|z_min|z_sorted|z_set|z_max|z_zip|z_sum|z_enumerate|z_reversed|z_range|z_ValueError=>k_is)
  (case ea_NoYard|ea_NoRow|ea_NoText|ea_NoWord|ea_NoBox|ea_NoErrand|ea_NoReason|ea_NoRing|ea_RailError|em_NoYard_NoYard|q1_NoYard|q2_NoYard|q3_NoYard|q4_NoYard|q5_NoYard|q1_NoRow|q2_NoRow|q3_NoRow|q4_NoRow|q5_NoRow=>k_is)
  (case i_int=>intro t ht;cases t <;> first|(exact absurd rfl ht)|rfl|k_is)
  (case i_bool=>intro t ht;cases t <;> first|(exact absurd rfl ht)|rfl|k_is)
  (case i_tuple=>intro t ht;cases t <;> first|(exact absurd rfl ht)|rfl|k_is)
  (case i_list=>intro t ht;cases t <;> first|(exact absurd rfl ht)|rfl|k_is)
  (case ex_NoYard=>k_exc)
  (case ex_NoRow=>k_exc)
  (case ek_NoText_NoYard=>first|kit_is|rfl)
  (case ek_NoText_NoRow=>first|kit_is|rfl)
  (case ek_NoWord_NoYard=>first|kit_is|rfl)
  (case ek_NoWord_NoRow=>first|kit_is|rfl)
  (case ek_NoBox_NoYard=>first|kit_is|rfl)
  (case ek_NoBox_NoRow=>first|kit_is|rfl)
  (case ek_NoErrand_NoYard=>first|kit_is|rfl)
  (case ek_NoErrand_NoRow=>first|kit_is|rfl)
  (case ek_NoRow_NoYard=>first|kit_is|rfl)
  (case ek_NoRow_NoRow=>first|kit_is|rfl)
  (case ek_NoReason_NoYard=>first|kit_is|rfl)
  (case ek_NoReason_NoRow=>first|kit_is|rfl)
  (case ek_NoRing_NoYard=>first|kit_is|rfl)
  (case ek_NoRing_NoRow=>first|kit_is|rfl)
  (case ek_ValueError_NoYard=>first|kit_is|rfl)
  (case ek_ValueError_NoRow=>first|kit_is|rfl)
  (case ek_RailError_NoYard=>first|kit_is|rfl)
  (case ek_RailError_NoRow=>first|kit_is|rfl)
#print axioms PySem.Challenge.cw_hookrail_k56_refused_yards_holds
