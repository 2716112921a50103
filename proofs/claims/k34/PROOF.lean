import PyProof.Rows.All
import Wide.All
import OpenK.AllK
import Wide.FinOn
import Lean
import PyProof.EqAt
import PyProof.EqKinds
import PyProof.TupleCall
import PySem.SetOps
import KE.KDictSum
import KE.KDictList
import PyProof.ZipIter
import KE.KFind
import PyProof.MaxThree
import PyProof.Rows.IntMath
import PyProof.EnumMake
import PyProof.Rows.EnumRows
import KE.KDictLaws
import PyProof.DictWalks
import PyProof.Rows.SortRuns
import KE.KSortKey
import PyProof.Rows.SortRuns
import PyProof.Rows.SortShell
import PySem.Challenge.RW_hookrail_k34_the_told_tour
open Array renaming length_toList→zM,getElem?_toList→zZ,getElem?_eq_getElem→zz,toList_append→yD,getElem?_eq_none→ya,toArray_toList→xC,toList_extract→xX,toList_reverse→xp,perm_iff_toList_perm→xq,toList_eraseIdxIfInBounds→wQ,getElem?_eq_some_iff→ZD,toList_setIfInBounds→ZE,toList_push→ZJ,size_push→Zh,getElem?_push→Zt,forIn_toList→Z0,size_map→YW,toList→Yc
open Array.Perm renaming refl→Zk
open Bool renaming false_eq_true→zv,and_eq_true→z9,false_ne_true→yH,or_false→xb,false_and→xg,and_false→xi,and_true→xo,false_or→wB,not_true→wC,true_or→wK,not_false→wN,true_and→wk,and_eq_true_iff→wm,or_true→wx,not_eq_true'→YC
open Int renaming le_refl→yG,le_trans→yT,toNat_natCast→yi,le_of_lt→ym,reduceToNat→wE,reduceSub→wZ,reduceAdd→wb,reduceMul→wc,reduceMod→wd,reduceDiv→we,reduceNeg→wf,reducePow→wg,reduceBEq→wj,reduceLT→wv,reduceLE→ww,toNat_of_nonneg→Zv,sub_self→YD,natCast_zero→YK
open List renaming length_map→zB,length_append→zC,getElem?_eq_getElem→zD,mem_cons→zF,mem_cons_self→zG,mem_cons_of_mem→zH,getElem?_set_ne→zI,append_assoc→zJ,length_cons→zL,mem_append→zN,size_toArray→zP,mem_append_right→zQ,mem_singleton→zS,getD_eq_getElem?_getD→zT,length_singleton→zU,mem_append_left→zV,pairwise_append→zW,getElem?_append_right→zX,getElem?_map→zY,map_append→za,range→zb,map_cons→zc,pairwise_cons→zd,getElem?_append_left→ze,length_take→zf,mem_iff_getElem→zg,getElem?_eq_some_iff→zh,not_mem_nil→zi,replicate→zj,append_nil→zn,length_range→zo,getElem?_eq_none→zu,mem_of_getElem?→z0,take_append_drop→z7,replicate_succ→z8,mem_map→yB,nil_append→yE,flatten_cons→yF,length_drop→yI,mem_range→yK,filter_cons→yM,nodup_cons→yN,length_replicate→yO,map_nil→yP,pairwise_iff_getElem→yQ,length_set→yV,getElem_mem→yW,getElem?_cons_succ→yX,nodup_append→yY,getElem?_set_self→yZ,map_map→yb,mem_reverse→yf,mem_flatMap→yg,perm_append_comm→yh,getElem?_cons_zero→yj,take_of_length_le→yl,map_congr_left→yn,eq_nil_of_length_eq_zero→yo,getElem?_replicate→yr,sum_cons→yt,ext_getElem?→yu,replicate_zero→yw,length_nil→yz,drop_eq_getElem_cons→y0,getElem?_zip_eq_some→y8,mem_iff_getElem?→y9,length_filter_le→xA,lookup_cons→xB,reverse_reverse→xD,mem_of_mem_drop→xE,getElem_take→xG,mem_filter→xH,getElem?_range→xI,length_reverse→xJ,reverse_append→xK,all_eq_true→xL,nodup_nil→xO,getElem?_drop→xQ,getElem?_take→xS,length_zip→xU,getElem_drop→xY,mem_of_mem_take→xZ,filterMap_cons→xf,length→xj,set_cons_succ→xk,set_cons_zero→xl,find?_cons→xm,all_cons→xn,getElem_map→xt,cons_append→xu,getElem?_eq_none_iff→xv,getLast?_eq_none_iff→xw,extract_eq_take_drop→xx,flatMap_append→xy,getElem?_take_of_lt→xz,any_cons→wA,map_replicate→wG,mem_replicate→wH,pairwise_lt_range→wI,take_take→wM,pairwise_map→wO,eraseIdxIfInBounds_toArray→wP,getElem_inj→wS,countP_cons→wT,nodup_range→wU,mem_flatten→wV,dropLast_concat_getLast→wp,filter_eq_self→wq,length_eraseIdx_of_lt→wz,perm_ext_iff_of_nodup→w8,filter_append→w9,drop_take→ZA,drop_drop→ZB,drop_zero→ZC,getElem?_take_eq_none→ZF,take_sublist→ZH,reverse_cons→ZI,foldl_append→ZK,map_drop→ZM,take_append_getElem→ZN,length_erase_of_mem→ZO,perm_middle→ZP,drop_length→ZR,filter_cons_of_pos→ZS,filter_cons_of_neg→ZT,pairwise_singleton→ZU,take_length→ZV,length_eq_zero_iff→ZW,foldl→ZY,range_succ_eq_map→ZZ,zipWith→Za,filter_eq_nil_iff→Zb,length_pos_of_mem→Zc,flatMap_singleton→Zd,of_mem_zip→Zf,forIn_cons→Zi,filter_map→Zl,countP_map→Zm,dropLast_eq_take→Zn,mem_erase_of_ne→Zq,mem_of_getLast?→Zr,countP_eq_zero→Zu,map_take→Zw,mem_filterMap→Zy,filterMap_map→Zz,drop_sublist→Z5,all_map→Z8,set_set→Z9,map_reverse→YI,map_fst_zip→YJ,foldl_cons→YM,take_left'→YN,drop_left'→YO,range_succ→YQ,forIn_nil→YU,take_zero→YV,take_left→YX,Nodup→YY
open List.Pairwise renaming nil→xF,sublist→wR
open List.Perm renaming append_left→yL,append_right→yv,trans→yy,refl→xN
open List.Sublist renaming refl→YE
open List.cons renaming inj→Zx
open Nat renaming le_refl→zK,ne_of_lt→zr,lt_of_lt_of_le→zt,lt_or_ge→zw,zero_le→zy,le_trans→yJ,lt_succ_of_lt→yR,le_of_lt→yU,lt_succ_self→ye,zero_add→yq,le_succ→yx,add_sub_cancel→xP,lt_irrefl→xa,ne_of_gt→xr,not_lt_zero→wD,le_succ_of_le→wL,add_assoc→wW,reduceSub→wX,reduceAdd→wY,min_eq_left→wo,sub_self→wt,reduceLT→wu,add_sub_cancel_left→ZQ,min_le_left→Zj,eq_or_lt_of_le→Z2,lt_trans→Z6,le_total→YA,min_le_right→YG,not_lt→YT
open Option renaming bind_some→yA,map_some→yd,isSome_iff_exists→yp,map_eq_some_iff→wJ,isSome_map→YB,getD_none→YH,bind→YL,none→Yd
open Option.some renaming inj→zx
open PySem.Heap renaming get?_push_of_some→zE,lt_size→zO,get?_push_size→zR,get?_update_other→zk,size_push→yc,size_update→xM,get?_update_self→xT,SameBut→xV,get?_some_iff→wF
open PySem.Heap.IsSliceOf renaming new→Ye
open PySem.Heap.SameBut renaming update→Zs,refl→Z7
open PySem.W renaming Frag→zA,mg_none_of→yC,nsIn→yS,kia_one→yk,fnOf→xW,keepIn→xh,codeIn→wy,methodObj→ZG,mg_of→ZL,cellsFrom_some→ZX,instObj→Ze,OpenLaw→Zg,lookIn→Zo,kitOne→Zp,kf_at_spec→Z1,kitx_list→Z3,kitx_dict→Z4,plainGet→YF,findIn→YR,kIn_of→YS,WalkO→YZ,kf_at→Ya,kf_eq→Yb
open PyProof.Rows renaming wpS_bind→vL,arrOf→vM,wpS_pure→vN,Keyed→vT,pendingOf→vc,SortSt→vg,wpS_forRange→vi,seqObj→vt,wpS_mono→uA,oneType'→uB,IntsAre→uC,failedOf→uO,wpS_modify→uZ,SortedTo→ue,listUpdate_at→uk,wpS_get→um,wpS_lift→u4,SBase→u7,AllBare→tJ,mirror_perm→tL,subscriptTail_builtinR→tT,plain_sorted→tU,entry_sorted→tV,envOfC→tf,kind_sorted→tj,args_list_sort→tm,numOf→tt,K_mirror_equal→tu,wpS_reverse→tz,seqEpoch_at→t4,subscriptTail→t9,args_tuple_getitem→sD,args_sorted1→sI,minRun'→sK,listItems_at→sL,NonInc→se,K_bubble→sf
open PySem renaming wpAny_bind→vA,Value→vB,Shared→vF,wpAny_pure→vH,Addr→vJ,starEach→vK,wpAny→vO,FuncData→vQ,Program→vW,Expr→vX,mainGlobals→vY,World→vZ,Around→ve,wpAny_ite_split→vf,sizeLine_eq→vh,Heap→vj,backTo→vk,bootBuiltins→vm,wpAny_holding→vn,wpAny_newObj_type→vo,wpAny_call_entry→vp,wpAny_mono→vq,Stmt→vz,wpAny_Call_Name_kw→v3,keywordEach→v4,builtinLookup_eq_fast→v5,wpAny_setState_of→v6,swapsWith→v7,foldedSetIterable→v8,wpAny_rule→uD,behindInMarks→uE,wpAny_setField_rec→uF,attributeBase→uG,compareOp→uH,wpAny_truthy_bool→uI,sysModules→uJ,codeAny_builtin→uK,typeLookup_type→uL,wpAny_updateSeq→uM,backToKw→uN,Keyword→uP,plainId_quiet→uQ,wpAny_passesOwn→uR,assignEach→uS,wpAny_attempt→uT,pyNext→uU,binaryOp→uV,wpAny_isInstance→uW,wpAny_field→uX,rawInt→uY,NameKind→ua,wpAny_specialOf→ub,codeAny→uc,wpAny_seqItems→ud,codeAny_mono→uf,wpAny_typeOf→ug,scanBound→uh,cLine→ui,wpAny_newList→uj,call_meets→uo,tupleKind_room_in1→uq,sliceBounds→ur,isSubtype_type→ut,IsPair→uu,wpAny_nextOf_list_item→uv,Scope→uw,typeLookup→ux,pickOrder→uy,ZipApart→uz,wpAny_execs_nil→u5,letOwnedTupleGo→u6,intKind→u8,getItem→u9,setNext→tD,updateSeq→tE,wpAny_fieldsOf→tF,firstArgMember→tG,isSubtype_stop→tH,wpAny_newTuple→tI,wpAny_pyIter_list→tK,wpAny_comprehension_free→tM,tupleKind→tN,PassesOwn→tO,wpAny_askSetting→tP,wpAny_pyIter_zip→tQ,IsPart→tS,wpAny_isTrue_Compare1→tW,wpAny_nextOf_list_end→tX,wpAny_pyNext_zip_item→tY,GenState→tZ,codeAny_extend_loopS→ti,wpAny_pyNext_zip_end→tq,callerA→t6,valueAt→t7,wpAny_standAt→t8,Result→sC,checkCount→sF,BindsTo→sG,slotArgs→sH,call_meetsIn→sJ,Paired→sM,Drawn→sN,CmpOp→sO,wpAny_of_eq→sP,wpAny_letGo→sQ,atKey→sS,hashInt→sT,isTrue→sU,pyIter→sV,argsOk→sW,raiseNew→sZ
noncomputable def vC:=@if_pos
noncomputable def vG:=@if_neg
noncomputable def vP:=@absurd
noncomputable def vS:=@decide_eq_false
noncomputable def vU:=@decide_eq_true
noncomputable def v9:=@congrArg
local macro_rules|`(∅)=>`(by omega)
local macro_rules|`(⋯)=>`(by decide +kernel)
local macro_rules|`(↥$x)=>`(some (.sh $x))
local macro_rules|`(⇑$x)=>`(by simpa using $x)
local macro_rules|`(tactic|omega)=>`(tactic|lia)
set_option Elab.async false
set_option linter.all false
set_option maxRecDepth 100000
namespace L2
open PySem PySem.Spec PyProof.Rows
noncomputable abbrev Key:=Sum Int Str
noncomputable def zAs:Key->vB->Bool
 | .inl k,v=>Value.isInt k v
 | .inr x,v=>Value.isStrOf x v
noncomputable def keyH(w:vZ):Key->Int
 | .inl k=>sT k
 | .inr x=>hashStr w x
theorem qB:∀{k:Key}{v:vB},zAs k v=true->(∃i t,k=Sum.inl i/\v=Value.int i t)\/(∃x t,k=Sum.inr x/\v=Value.str x t)
 | .inl i,v,h=>by
  obtain⟨t,e⟩:=Value.isInt_shape (k:=i) (v:=v) h;exact .inl ⟨i,t,rfl,e⟩
 | .inr x,v,h=>by
  obtain⟨t,e⟩:=Value.isStrOf_shape (x:=x) (v:=v) h;exact .inr ⟨x,t,rfl,e⟩
theorem qcw(i:Int)(t:Tok):zAs (.inl i) (.int i t)=true:=by simp[zAs,Value.isInt]
theorem qc7(x:Str)(t:Tok):zAs (.inr x) (.str x t)=true:=by simp[zAs,Value.isStrOf]
theorem qg2(a b:Int):decide ((Sum.inl a:Key)=Sum.inl b)=(a==b):=by
 by_cases e:a=b
 ·subst e;simp
 ·have h:¬(Sum.inl a:Key)=Sum.inl b:=λq=>e (Sum.inl.inj q)
  rw[vS h];exact(beq_eq_false_iff_ne.mpr e).symm
theorem qgO(a b:Str):decide ((Sum.inr a:Key)=Sum.inr b)=decide (a=b):=by
 by_cases e:a=b
 ·subst e;simp
 ·have h:¬(Sum.inr a:Key)=Sum.inr b:=λq=>e (Sum.inr.inj q)
  rw[vS h,vS e]
theorem qgu(a:Int)(b:Str):decide ((Sum.inl a:Key)=Sum.inr b)=false:=vS (λq=>nomatch q)
theorem qgV(a:Str)(b:Int):decide ((Sum.inr a:Key)=Sum.inl b)=false:=vS (λq=>nomatch q)
noncomputable def Yw(prog:vW)(w:vZ):PySem.KeyKind prog w Key where
 is:=zAs
 hash:=keyH w
 inj:=λv a b ha hb=>by
  rcases qB ha with⟨i,t,rfl,rfl⟩|⟨x,t,rfl,rfl⟩
  ·rcases qB hb with⟨j,u,rfl,e⟩|⟨y,u,rfl,e⟩
   ·injection e with e1 _;rw[e1]
   ·exact nomatch e
  ·rcases qB hb with⟨j,u,rfl,e⟩|⟨y,u,rfl,e⟩
   ·exact nomatch e
   ·injection e with e1 _;rw[e1]
 byValue:=λk v h=>by
  rcases qB h with⟨i,t,rfl,rfl⟩|⟨x,t,rfl,rfl⟩ <;> rfl
 pyHash:=λhv h=>by
  rcases qB hv with⟨i,t,rfl,rfl⟩|⟨x,t,rfl,rfl⟩
  ·exact wpAny_pyHash_int h
  ·exact wpAny_pyHash_str h
 eqBool:=λhu hv h=>by
  rcases qB hu with⟨i,t,rfl,rfl⟩|⟨x,t,rfl,rfl⟩
  ·rcases qB hv with⟨j,u,rfl,rfl⟩|⟨y,u,rfl,rfl⟩
   ·rw[qg2]at h;exact wpAny_eqBool_int h
   ·rw[qgu]at h;exact SeqAt.EqAt.int_str i t y u _ _ _ _ h
  ·rcases qB hv with⟨j,u,rfl,rfl⟩|⟨y,u,rfl,rfl⟩
   ·rw[qgV]at h;exact SeqAt.EqAt.str_int x t j u _ _ _ _ h
   ·rw[qgO]at h;exact wpAny_eqBool_str h
 «strs»:=λk x t v h=>by
  rcases qB h with⟨i,u,rfl,e⟩|⟨y,u,rfl,e⟩
  ·exact nomatch e
  ·injection e with e1 _
   subst e1;cases v <;> rfl
theorem q9L(prog:vW)(w:vZ)(i:Int)(t:Tok):(Yw prog w).is (.inl i) (.int i t)=true:=qcw i t
theorem q9O(prog:vW)(w:vZ)(x:Str)(t:Tok):(Yw prog w).is (.inr x) (.str x t)=true:=qc7 x t
inductive V where
 | non|bl (b:Bool)|int (i:Int)|str (x:Str)|byt (b:Array UInt8)|flt (b:UInt64)|ref (a:vJ)|ty (n:String)
 deriving DecidableEq
def RelV:V->vB->Prop
 | .non,u=>u=Value.none
 | .bl b,u=>u=Value.bool b
 | .int i,u=>∃t,u=Value.int i t
 | .str x,u=>∃t,u=Value.str x t
 | .byt b,u=>∃t,u=Value.bytes b t
 | .flt b,u=>∃t,u=Value.float b t
 | .ref a,u=>u=Value.ref a
 | .ty n,u=>u=Value.type n
abbrev Yv:List V->List vB->Prop:=sM RelV
theorem Yv.length{xs:List V}{us:List vB}(r:Yv xs us):xs.length=us.length:=Paired.length r
theorem Yv.get:∀{xs:List V}{us:List vB}{i:Nat}{x:V},Yv xs us->xs[i]?=some x->∃u,us[i]?=some u/\RelV x u
 | _,_,_,_,.nil,e=>by simp at e
 | _,_,0,_,.cons r _,e=>by simp at e;subst e;exact⟨_,rfl,r⟩
 | _,_,i+1,x,.cons _ t,e=>by
  obtain⟨u,h1,h2⟩:=Yv.get (i:=i) (x:=x) t ⇑e;exact⟨u,by simpa using h1,h2⟩
theorem Yv.set{x:V}{u:vB}(r:RelV x u):∀{xs:List V}{us:List vB}(i:Nat),Yv xs us->Yv (xs.set i x) (us.set i u)
 | _,_,_,.nil=>.nil
 | _,_,0,.cons _ t=>.cons r t
 | _,_,i+1,.cons q t=>.cons q (Yv.set r i t)
theorem Yv.append:∀{xs ys:List V}{us ws:List vB},Yv xs us->Yv ys ws->Yv (xs++ys) (us++ws)
 | _,_,_,_,.nil,s=>s
 | _,_,_,_,.cons r t,s=>.cons r (Yv.append t s)
theorem Yv.take:∀{xs:List V}{us:List vB}(n:Nat),Yv xs us->Yv (xs.take n) (us.take n)
 | _,_,0,_=>.nil
 | _,_,_+1,.nil=>.nil
 | _,_,n+1,.cons r t=>.cons r (Yv.take n t)
theorem Yv.drop:∀{xs:List V}{us:List vB}(n:Nat),Yv xs us->Yv (xs.drop n) (us.drop n)
 | _,_,0,r=>r
 | _,_,_+1,.nil=>.nil
 | _,_,n+1,.cons _ t=>Yv.drop n t
def zAw:Option V->Option vB->Prop
 | some v,some u=>RelV v u
 | none,none=>True
 | _,_=>False
def KV{κ:Type}:List (κ×V)->List (κ×vB)->Prop:=sM λ(p:κ×V) (q:κ×vB)=>p.1=q.1/\RelV p.2 q.2
noncomputable def kV:Key->V
 | .inl i=>.int i
 | .inr x=>.str x
inductive HO where
 
 | lst (xs:List V)
 
 | tup (xs:List V)
 
 | dK (kvs:List (Key×V))|dT (kvs:List (List Key×V))
 
 | set (S:Int->Bool) (n:Nat)
 
 | ins (C dx:vJ) (fs:List (Str×V))
 
 | own (x:vJ)
 
 | xd (fs:List (Str×V))
 
 | met (f x:vJ)
 
 | rng (lo hi:Int)
 
 | frz (o:Obj) (u:HO)
 
 | tbl (ps:Array vB)
 
 | ext (φ:vj->Prop)
noncomputable abbrev Hp:=vJ->Option HO
noncomputable def upd(H:Hp)(a:vJ)(o:HO):Hp:=λb=>if b=a then some o else H b
theorem qe{H:Hp}{a:vJ}{o:HO}:upd H a o a=some o:=by unfold upd;rw[vC rfl]
theorem qd{H:Hp}{a b:vJ}{o:HO}(h:b≠a):upd H a o b=H b:=by unfold upd;rw[vG h]
theorem qhx{H:Hp}{a b:vJ}{o u:HO}(h:H a=some o)(h':H b=some u)(d:o≠u):a≠b:=by
 intro e;subst e;rw[h]at h';exact d (zx h')
theorem q0e{H:Hp}{a b:vJ}{o:HO}(h:H a=some o)(h':H b=none):a≠b:=by
 intro e;subst e;rw[h]at h';cases h'
section
variable(P:vW)(w:vZ)
def Y2(H:Hp)(h:vj)(a:vJ):HO->Prop
 | .lst xs=>xs.length<=sizeLine/\∃(its:List vB) (n:Nat),Yv xs its/\h.get? a=some { cls:=.type "list", data:=.seq its.toArray n }
 | .tup xs=>xs.length<=sizeLine/\∃its:List vB,Yv xs its/\IsTup h a its.toArray
 | .dK kvs=>kvs.length<=sizeLine/\(a==uJ)=false/\∃vs,KV kvs vs/\h.DictOf (Yw P w) a vs
 | .dT kvs=>kvs.length<=sizeLine/\(a==uJ)=false/\∃xs:List (List Key×vJ×vB),
   sM (λ(p:List Key×V) (q:List Key×vJ×vB)=>p.1=q.1/\H q.2.1=some (.tup (p.1.map kV))/\RelV p.2 q.2.2) kvs xs /\
   ∃o es ep,h.get? a=some o/\o.ExactDict/\o.data=.dict es ep/\es.toList=xs.map (entryOfKey (tN (Yw P w)))/\(xs.map (·.1)).Nodup
 | .set S n=>h.SetOf (u8 P w) a S n
 | .ins C dx fs=>H dx=some (.own a)/\fs.length<=1000/\dx≠a/\h.get? a=some (Ze C dx) /\
   ∃mA,h.Ns1 dx mA/\(∀f,zAw (fs.lookup f) (mA f))/\PySem.Within mA (fs.map (·.1))
 | .own _=>∃o,h.get? a=some o
 | .xd fs=>∃mA,h.Ns1 a mA/\∀f,zAw (fs.lookup f) (mA f)
 | .rng lo hi=>∃t u v,h.get? a=some { cls:=.type "range", data:=.fields #[.int lo t,.int hi u,.int 1 v] }
 | .frz o u=>h.get? a=some o/\Y2 H h a u
 | .tbl ps=>h.get? a=some { cls:=.none,data:=.fields ps }
 | .met f x=>h.get? a=some (ZG (.ref f) (.ref x))
 | .ext φ=>φ h/\(∃o,h.get? a=some o)/\∀h1 h2:vj,φ h1->(∀o,h1.get? a=some o->h2.get? a=some o)->φ h2
def HOk(H:Hp)(h:vj):Prop:=∀a o,H a=some o->Y2 P w H h a o
end
section
variable{P:vW}{w:vZ}{H H':Hp}{h h':vj}{a:vJ}{o:HO}
theorem Y2.lt(x:Y2 P w H h a o):a<h.objs.size:=by
 cases o with
 | lst xs=>obtain⟨_,_,_,_,e⟩:=x;exact zO e
 | tup xs=>obtain⟨_,_,_,p⟩:=x;exact p.lt
 | dK kvs=>obtain⟨_,_,_,_,o,_,_,e,_⟩:=x;exact zO e
 | dT kvs=>obtain⟨_,_,_,_,o,_,_,e,_⟩:=x;exact zO e
 | set S n=>obtain⟨o,_,_,_,e,_⟩:=x;exact zO e
 | ins C dx fs=>obtain⟨_,_,_,e,_⟩:=x;exact zO e
 | own y=>obtain⟨_,e⟩:=x;exact zO e
 | xd fs=>obtain⟨_,⟨_,_,_,e,_⟩,_⟩:=x;exact zO e
 | rng lo hi=>obtain⟨_,_,_,e⟩:=x;exact zO e
 | frz ob u=>obtain⟨e,_⟩:=x;exact zO e
 | tbl ps=>exact zO (show h.get? a=some _ from x)
 | met f y=>exact zO (show h.get? a=some _ from x)
 | ext φ=>obtain⟨_,⟨_,e⟩,_⟩:=x;exact zO e
theorem Paired.mapP{α β:Type}{F G:α->β->Prop}:∀{l₁:List α}{l₂:List β},sM F l₁ l₂->(∀a b,F a b->G a b)->sM G l₁ l₂
 | _,_,.nil,_=>.nil
 | _,_,.cons r t,f=>.cons (f _ _ r) (Paired.mapP t f)
theorem Y2.stay(x:Y2 P w H h a o)(k:∀b u,(b=a\/H b=some (.own a))->h.get? b=some u->h'.get? b=some u)(ho:∀b,H b=some (.own a)->H' b=some (.own a))(ht:∀b xs,H b=some (.tup xs)->H' b=some (.tup xs)):Y2 P w H' h' a o:=by
 induction o with
 | lst xs=>obtain⟨z,its,n,r,e⟩:=x;exact⟨z,its,n,r,k _ _ (.inl rfl) e⟩
 | tup xs=>obtain⟨z,its,r,ob,e,c⟩:=x;exact⟨z,its,r,ob,k _ _ (.inl rfl) e,c⟩
 | dK kvs=>obtain⟨z,y,vs,r,ob,es,ep,e,c⟩:=x;exact⟨z,y,vs,r,ob,es,ep,k _ _ (.inl rfl) e,c⟩
 | dT kvs=>
  obtain⟨z,y,xs,r,ob,es,ep,e,c⟩:=x;exact⟨z,y,xs,Paired.mapP r λp q z=>⟨z.1,ht _ _ z.2.1,z.2.2⟩,ob,es,ep,k _ _ (.inl rfl) e,c⟩
 | set S n=>obtain⟨ob,es,ep,t,e,c⟩:=x;exact⟨ob,es,ep,t,k _ _ (.inl rfl) e,c⟩
 | ins C dx fs=>
  obtain⟨d,z,ne,e,mA,⟨od,es,ep,e2,c⟩,r⟩:=x;exact⟨ho _ d,z,ne,k _ _ (.inl rfl) e,mA,⟨od,es,ep,k _ _ (.inr d) e2,c⟩,r⟩
 | own y=>obtain⟨ob,e⟩:=x;exact⟨ob,k _ _ (.inl rfl) e⟩
 | xd fs=>obtain⟨mA,⟨od,es,ep,e,c⟩,r⟩:=x;exact⟨mA,⟨od,es,ep,k _ _ (.inl rfl) e,c⟩,r⟩
 | rng lo hi=>obtain⟨t,u,v,e⟩:=x;exact⟨t,u,v,k _ _ (.inl rfl) e⟩
 | frz ob u ih=>obtain⟨e,q⟩:=x;exact⟨k _ _ (.inl rfl) e,ih q⟩
 | tbl ps=>
  have e:h.get? a=some { cls:=.none,data:=.fields ps }:=x;show h'.get? a=some { cls:=.none,data:=.fields ps };exact k a _ (.inl rfl) e
 | met f y=>
  have e:h.get? a=some (ZG (.ref f) (.ref y)):=x;show h'.get? a=some (ZG (.ref f) (.ref y));exact k a _ (.inl rfl) e
 | ext φ=>obtain⟨p,⟨o,e⟩,st⟩:=x;exact⟨st _ _ p λo q=>k _ _ (.inl rfl) q,⟨o,k _ _ (.inl rfl) e⟩,st⟩
theorem HOk.lt(x:HOk P w H h)(e:H a=some o):a<h.objs.size:=(x a o e).lt
theorem HOk.fresh(x:HOk P w H h)(e:h.objs.size<=a):H a=none:=by
 cases q:H a with
 | none=>rfl
 | some u=>exact vP (zt (x.lt q) e) (xa _)
theorem HOk.kept(x:HOk P w H h)(k:∀b u,h.get? b=some u->h'.get? b=some u):HOk P w H h':=λa o e=>
 (x a o e).stay (λb u _ q=>k b u q) (λ_ q=>q) λ_ _ q=>q
theorem HOk.laid(x:HOk P w H h)(k:∀b u,h.get? b=some u->h'.get? b=some u)(hp:h.objs.size<=a)(new:Y2 P w (upd H a o) h' a o):HOk P w (upd H a o) h':=λb u e=>by
 have hn:=x.fresh hp
 by_cases hb:b=a
 ·subst hb;rw[qe]at e;cases e;exact new
 ·rw[qd hb]at e
  exact(x b u e).stay (λc v _ q=>k c v q) (λc q=>by rw[qd (q0e q hn)];exact q) λc xs q=>by rw[qd (q0e q hn)];exact q
end
def Rd(H:Hp)(a:vJ)(u:HO):Prop:=H a=some u\/∃o,H a=some (.frz o u)
theorem Rd.ok{P:vW}{w:vZ}{H:Hp}{h:vj}{a:vJ}{u:HO}(r:Rd H a u)(x:HOk P w H h):Y2 P w H h a u:=by
 rcases r with r|⟨o,r⟩
 ·exact x a u r
 ·obtain⟨_,q⟩:=x a _ r
  exact q
def Mut:Option HO->Prop
 | some (.lst _)=>True
 | some (.dK _)=>True
 | some (.dT _)=>True
 | some (.set _ _)=>True
 | some (.ins _ _ _)=>True
 | some (.ext _)=>True
 | _=>False
section
variable{P:vW}{w:vZ}{H:Hp}{h h':vj}{x e:vJ}{o':HO}
theorem HOk.write(ok:HOk P w H h)(mu:Mut (H x))(he:e=x\/H e=some (.own x))(k:∀b u,b≠e->h.get? b=some u->h'.get? b=some u)(heo:∃u,h'.get? e=some u)(new:Y2 P w (upd H x o') h' x o'):HOk P w (upd H x o') h':=λb u q=>by
 have nown:∀c y,H c=some (.own y)->c≠x:=λc y r z=>by subst z;rw[r]at mu;exact mu
 have ntup:∀c xs,H c=some (.tup xs)->c≠x:=λc xs r z=>by subst z;rw[r]at mu;exact mu
 by_cases hb:b=x
 ·subst hb;rw[qe]at q;cases q;exact new
 ·rw[qd hb]at q
  by_cases hbe:b=e
  ·have q':H b=some (.own x):=by
    rcases he with z|z
    ·exact vP (hbe.trans z) hb
    ·rw[hbe];exact z
   rw[q]at q';cases q';obtain⟨v,hv⟩:=heo;exact⟨v,by rw[hbe];exact hv⟩
  ·refine(ok b u q).stay (λc v hc r=>k c v ?_ r) (λc r=>by rw[qd (nown c b r)];exact r) λc xs r=>by rw[qd (ntup c xs r)];exact r
   rcases hc with rfl|hc
   ·exact hbe
   ·rintro rfl
    rcases he with z|z
    ·exact nown c b hc z
    ·rw[hc]at z;cases z;exact hb rfl
end
structure Un (fs ex:List vJ) (H H':Hp) (h h':vj):Prop where
 keep:∀b o,h.get? b=some o->H b=none->b∉fs->b∉ex->h'.get? b=some o
 slot:∀b o,h.get? b=some o->H b=none->b∈fs->b∉ex->∃sl,h'.get? b=some { o with slots:=sl }
 free:∀b o,h.get? b=some o->H b=none->b∉ex->H' b=none
 there:∀b o,h.get? b=some o->b∉ex->∃o',h'.get? b=some o'
 tups:∀b xs,H b=some (.tup xs)->H' b=some (.tup xs)
 frzs:∀b o u,H b=some (.frz o u)->H' b=some (.frz o u)
 tbls:∀b ps,H b=some (.tbl ps)->∃more,H' b=some (.tbl (ps++more))
section
variable{fs fs' ex ex':List vJ}{H H1 H2:Hp}{h h1 h2 h':vj}{a x e:vJ}{o:HO}
theorem Un.any(u:Un fs ex H H1 h h1){b:vJ}{ob:Obj}(q:h.get? b=some ob)(n:H b=none)(hx:b∉ex):∃sl,h1.get? b=some { ob with slots:=sl }:=by
 by_cases hb:b∈fs
 ·exact u.slot b ob q n hb hx
 ·exact⟨ob.slots,u.keep b ob q n hb hx⟩
theorem Un.kept(k:∀b u,h.get? b=some u->h'.get? b=some u):Un fs ex H H h h' :=
 ⟨λb ob q _ _ _=>k b ob q,λb ob q _ _ _=>⟨ob.slots,k b ob q⟩,λ_ _ _ n _=>n,λb ob q _=>⟨ob,k b ob q⟩,λ_ _ q=>q,λ_ _ _ q=>q,λ_ ps q=>⟨#[],by rw[q];simp⟩⟩
theorem Un.refl:Un fs ex H H h h:=Un.kept λ_ _ q=>q
theorem Un.laid(k:∀b u,h.get? b=some u->h'.get? b=some u)(hp:h.objs.size<=a)(hn:H a=none):Un fs ex H (upd H a o) h h' where
 keep:=λb u q _ _ _=>k b u q
 slot:=λb u q _ _ _=>⟨u.slots,k b u q⟩
 free:=λb u q n _=>by rw[qd (zr (zt (zO q) hp))];exact n
 there:=λb u q _=>⟨u,k b u q⟩
 tups:=λb xs q=>by rw[qd (q0e q hn)];exact q
 frzs:=λb u xs q=>by rw[qd (q0e q hn)];exact q
 tbls:=λb ps q=>⟨#[],by rw[qd (q0e q hn),q];simp⟩
theorem Un.write(mu:Mut (H x))(he:e=x\/H e=some (.own x))(k:∀b u,b≠e->h.get? b=some u->h'.get? b=some u)(heo:∃u,h'.get? e=some u):Un fs ex H (upd H x o) h h':=by
 have hx:∀b,H b=none->b≠x:=λb n z=>by subst z;rw[n]at mu;exact mu
 have hb:∀b,H b=none->b≠e:=λb n z=>by
  subst z;rcases he with r|r
  ·exact hx b n r
  ·rw[n]at r;cases r
 have hm:∀b u,H b=some u->¬Mut (some u)->b≠x:=λb u q nm z=>by subst z;rw[q]at mu;exact nm mu
 refine⟨λb u q n _ _=>k b u (hb b n) q,λb u q n _ _=>⟨u.slots,k b u (hb b n) q⟩,λb u q n _=>by rw[qd (hx b n)];exact n,λb u q _=>?_,
  λb xs q=>by rw[qd (hm b _ q λz=>z)];exact q,λb u xs q=>by rw[qd (hm b _ q λz=>z)];exact q,λb ps q=>⟨#[],by rw[qd (hm b _ q λz=>z),q];simp⟩⟩
 by_cases hbe:b=e
 ·subst hbe;exact heo
 ·exact⟨u,k b u hbe q⟩
end
noncomputable def trk(h:vj)(H:Hp):List vJ:=(zb h.objs.size).filter λa=>(H a).isSome
noncomputable def zBo(h:vj)(H:Hp):vj:=PySem.W.hideAll h (trk h H)
theorem qc6(h:vj)(H:Hp):(zBo h H).objs.size=h.objs.size:=PySem.W.hideAll_size _ _
theorem qec{h:vj}{H:Hp}{b:vJ}{o:Obj}(e:h.get? b=some o)(n:H b=none):(zBo h H).get? b=some o :=
 PySem.W.hideAll_get _ e λhm=>by
  have q:(H b).isSome=true:=(xH.mp hm).2;rw[n]at q;simp at q
theorem qeZ{h:vj}{H:Hp}{b:vJ}{o:Obj}(e:(zBo h H).get? b=some o):h.get? b=some o/\H b=none:=by
 have e':h.get? b=some o:=PySem.W.of_hideAll (trk h H) e;refine⟨e',?_⟩;cases q:H b with
 | none=>rfl
 | some x=>
  have hm:b∈trk h H:=xH.mpr ⟨yK.mpr (zO e'),by simp[q]⟩;have z:(zBo h H).get? b=none:=PySem.W.hideAll_none (trk h H) hm;rw[z]at e;cases e
noncomputable def zCT(g h:vj)(L:vJ):List (vJ×Obj):=(zb h.objs.size).filterMap λa=>if a=L\/(g.get? a).isSome=true then none else (h.get? a).map λo=>(a,o)
noncomputable def rest(g h:vj)(L d:vJ):List (vJ×Obj):=(zCT g h L).filter λp=>decide (p.1≠d)
structure Mod (K:zA) (mg:Str->Option vB) (base:vj):Prop where
 kin:K.In base
 glob:base.Ns vY mg
 blt:∃mb,base.Ns builtinsNs mb/\∀x:Str,x ≠ "__name__" -> mb x=vm x
 nolimit:base.NoLimit
structure Cx where
 prog:vW
 w:vZ
 K:zA
 mg:Str->Option vB
 base:vj
 A:ve
 N:List Str
 s₀:vF
 H₀:Hp
 env:Env
 outer:List Env
 stack:List Env
 ex:List vJ
 fn:Str->Bool
 calm:Bool
 pn:List (vJ×Obj)
 xe:vB->vF->Prop
noncomputable def frs(l:List Env):List vJ:=l.filterMap (·.frame)
noncomputable abbrev Cx.fs(X:Cx):List vJ:=frs X.outer
def Vis(sc:uw)(x:Str):Prop:=sc.names.lookup x=some .local\/sc.names.lookup x=some .cell\/sc.names.lookup x=some .free
def Loc(sc:uw)(x:Str):Prop:=sc.names.lookup x=some .local\/sc.names.lookup x=some .cell
def Look(env:Env)(h:vj)(m:Str->Option vB)(x:Str)(u:vB):Prop :=
 (env.kindOf x=some .local/\m x=some u)\/((env.kindOf x=some .cell\/env.kindOf x=some .free)/\∃c,env.cells.lookup x=some c/\h.IsCell c (some u))
structure Cx.Ok (X:Cx):Prop where
 mod:Mod X.K X.mg X.base
 kind:X.env.scope.kind=.function
 glob:X.env.globals=vY
 blt:X.env.builtins=builtinsNs
 above:X.s₀.heap.objs.size<=X.env.locals
 inj:∀x y c,X.env.cells.lookup x=some c->X.env.cells.lookup y=some c->x=y
 has:∀x,(X.env.kindOf x=some .cell\/X.env.kindOf x=some .free)->∃c,X.env.cells.lookup x=some c
 cab:∀x c,X.fn x=true->X.env.cells.lookup x=some c->X.s₀.heap.objs.size<=c
 hd:X.calm=true->X.A.handled=none
 frames:X.A.frames=some X.stack
 stk:X.stack=X.outer\/(X.stack=X.env::X.outer/\X.env.frame=some X.env.locals)
 exf:∀b∈X.ex,b≠X.env.locals/\∀x c,X.env.cells.lookup x=some c->c≠b
 bs:∀b o,X.base.get? b=some o->X.s₀.heap.get? b=some o/\X.H₀ b=none
 bsz:X.base.objs.size<=X.s₀.heap.objs.size
 noex:∀b o,X.base.get? b=some o->b∉X.ex
 exfs:∀b∈X.ex,b∉X.fs
 funs:X.s₀.heap.FunFrames X.base X.outer
 frf:∀b∈X.fs,X.H₀ b=none
structure Inv (X:Cx) (pins:List (vJ×Obj)) (σ:List (Option V)) (H:Hp) (s:vF):Prop where
 ok:X.Ok
 os:s.os=X.s₀.os
 bare:tJ s.gens
 base:Un X.fs X.ex X.H₀ H X.s₀.heap s.heap
 loc:∃m,s.heap.Ns X.env.locals m/\∀(i:Nat)(x:Str)(v:V),X.N[i]?=some x->σ[i]?=some (some v)->Vis X.env.scope x->∃u,RelV v u/\Look X.env s.heap m x u
 cell:∀x c,X.env.cells.lookup x=some c->∃v,s.heap.IsCell c v
 free:H X.env.locals=none
 freeC:∀x c,X.env.cells.lookup x=some c->H c=none
 pin:∀p∈X.pn++pins,s.heap.get? p.1=some p.2/\H p.1=none/\p.1≠X.env.locals/\p.1∉X.fs/\∀v,p.2.data≠.cell v
 hok:HOk X.prog X.w H s.heap
 len:σ.length=X.N.length
section
variable{X:Cx}{pins:List (vJ×Obj)}{σ:List (Option V)}{H H':Hp}{s:vF}{h':vj}
theorem Cx.Ok.nofr(ok:X.Ok){b:vJ}{o:Obj}(e:X.base.get? b=some o):b∉X.fs:=λhb=>by
 have:=(ok.funs.mem hb).1;rw[e]at this;cases this
theorem Inv.bs(I:Inv X pins σ H s):∀b o,X.base.get? b=some o->s.heap.get? b=some o/\H b=none:=λb o e=>
 ⟨I.base.keep b o (I.ok.bs b o e).1 (I.ok.bs b o e).2 (I.ok.nofr e) (I.ok.noex b o e),I.base.free b o (I.ok.bs b o e).1 (I.ok.bs b o e).2 (I.ok.noex b o e)⟩
theorem Inv.bk(I:Inv X pins σ H s):∀b o,X.base.get? b=some o->s.heap.get? b=some o:=λb o e=>(I.bs b o e).1
theorem Inv.mod(I:Inv X pins σ H s):Mod X.K X.mg X.base:=I.ok.mod
theorem Inv.kIn(I:Inv X pins σ H s):X.K.In s.heap:=I.ok.mod.kin.keeps I.bk
theorem Inv.lt(I:Inv X pins σ H s):X.env.locals<s.heap.objs.size:=let ⟨_,hn,_⟩:=I.loc;hn.lt
theorem Inv.sz(I:Inv X pins σ H s):X.s₀.heap.objs.size<=s.heap.objs.size:=yJ I.ok.above (yU I.lt)
theorem Inv.nofs(I:Inv X pins σ H s){a:vJ}(h:s.heap.objs.size<=a):a∉X.fs:=λhb=>by
 obtain⟨_,o,ho,_⟩:=I.ok.funs.mem hb;exact vP (zt (zO ho) (yJ I.sz h)) (xa _)
theorem Inv.cne(I:Inv X pins σ H s):∀x c,X.env.cells.lookup x=some c->c≠X.env.locals:=λx c e z=>by
 obtain⟨v,o,ho,hd⟩:=I.cell x c e;obtain⟨m,⟨o',es,ep,ho',hd',_⟩,_⟩:=I.loc;rw[z,ho']at ho;cases ho;rw[hd']at hd;cases hd
theorem Inv.funs(I:Inv X pins σ H s):s.heap.FunFrames X.base X.outer:=by
 have all:∀(l:List Env),(∀b∈frs l,b∈X.fs)->X.s₀.heap.FunFrames X.base l->s.heap.FunFrames X.base l:=by
  intro l
  induction l with
  | nil=>intro _ _;trivial
  | cons env r ih=>
   intro hs hl;obtain⟨hk,⟨L,o,hf,hn,ho,hd⟩,hr⟩:=hl;have hL:L∈X.fs:=hs L (by unfold frs;rw[xf,hf];exact zG);obtain⟨sl,e⟩:=I.base.slot L o ho (I.ok.frf L hL) hL λz=>I.ok.exfs L z hL;exact⟨hk,⟨L,_,hf,hn,e,hd⟩,ih (λb hb=>hs b (by unfold frs;rw[xf,hf];exact zH _ hb)) hr⟩
 exact all X.outer (λ_ hb=>hb) I.ok.funs
theorem Inv.stack(I:Inv X pins σ H s):s.heap.FunFrames X.base X.stack:=by
 rcases I.ok.stk with e|⟨e,hf⟩
 ·rw[e];exact I.funs
 ·rw[e]
  obtain⟨m,hn,_⟩:=I.loc;refine .cons (by rw[I.ok.kind];decide) hf hn ?_ I.funs;exact Heap.get?_none_of_le (yJ I.ok.bsz I.ok.above)
theorem Inv.stkSub(I:Inv X pins σ H s):∀b∈frs X.stack,b∈X.env.locals::X.fs:=λb hb=>by
 rcases I.ok.stk with e|⟨e,hf⟩
 ·rw[e]at hb;exact zH _ hb
 ·rw[e]at hb
  unfold frs at hb;rw[xf,hf]at hb;exact hb
theorem Inv.stkFree(I:Inv X pins σ H s):∀b∈frs X.stack,H b=none:=λb hb=>by
 rcases zF.mp (I.stkSub b hb)with e|hb
 ·rw[e];exact I.free
 ·obtain⟨_,o,ho,_⟩:=I.ok.funs.mem hb
  exact I.base.free b o ho (I.ok.frf b hb) λz=>I.ok.exfs b z hb
theorem Inv.step{g':Array tZ}{t':Nat}{d':sN}{ch:List vJ}(I:Inv X pins σ H s)(hch:∀b∈ch,(b∈X.ex\/X.s₀.heap.objs.size<=b)/\b≠X.env.locals/\(∀x c,X.env.cells.lookup x=some c->c≠b)/\∀p∈X.pn++pins,p.1≠b)(keep:∀b o,b≠X.env.locals->b∉X.fs->b∉ch->s.heap.get? b=some o->H b=none->h'.get? b=some o)(slot:∀b o,b≠X.env.locals->b∈X.fs->b∉ch->s.heap.get? b=some o->H b=none->∃sl,h'.get? b=some { o with slots:=sl })(free:∀b o,b∉ch->s.heap.get? b=some o->H b=none->H' b=none)(there:∀b o,b∉ch->s.heap.get? b=some o->∃o',h'.get? b=some o')(tups:∀b xs,H b=some (.tup xs)->H' b=some (.tup xs))(frzs:∀b o u,H b=some (.frz o u)->H' b=some (.frz o u))(tbls:∀b ps,H b=some (.tbl ps)->∃more,H' b=some (.tbl (ps++more)))(ns:∀m,s.heap.Ns X.env.locals m->h'.Ns X.env.locals m)(hok:HOk X.prog X.w H' h')(hg:tJ g'):
  Inv X pins σ H' { s with heap:=h',gens:=g',drawn:=d',toks:=t' }:=by
 have neL:∀b o,X.s₀.heap.get? b=some o->b≠X.env.locals:=λb o e=>zr (zt (zO e) I.ok.above);have neC:∀b o,X.s₀.heap.get? b=some o->b∉X.ex->b∉ch:=λb o e hx hb=>by
  rcases (hch b hb).1 with z|z
  ·exact hx z
  ·exact vP (zt (zO e) z) (xa _)
 have cellK:∀x c,X.env.cells.lookup x=some c->∀v,s.heap.IsCell c v->h'.IsCell c v:=λx c e v ⟨o,ho,hd⟩=>by
  have nch:c∉ch:=λz=>(hch c z).2.2.1 x c e rfl
  by_cases hc:c∈X.fs
  ·obtain⟨sl,q⟩:=slot c o (I.cne x c e) hc nch ho (I.freeC x c e)
   exact⟨_,q,hd⟩
  ·exact⟨o,keep c o (I.cne x c e) hc nch ho (I.freeC x c e),hd⟩
 refine⟨I.ok,I.os,hg,⟨λb o e n hb hx=>?_,λb o e n hb hx=>?_,λb o e n hx=>?_,λb o e hx=>?_,λb xs e=>tups b xs (I.base.tups b xs e),λb o xs e=>frzs b o xs (I.base.frzs b o xs e),λb ps e=>?_⟩,?_,λx c e=>?_,?_,λx c e=>?_,λp hp=>?_,hok,I.len⟩
 ·exact keep b o (neL b o e) hb (neC b o e hx) (I.base.keep b o e n hb hx) (I.base.free b o e n hx)
 ·obtain⟨sl,e1⟩:=I.base.slot b o e n hb hx
  obtain⟨sl',e2⟩:=slot b _ (neL b o e) hb (neC b o e hx) e1 (I.base.free b o e n hx);exact⟨sl',e2⟩
 ·obtain⟨o',e1⟩:=I.base.there b o e hx
  exact free b o' (neC b o e hx) e1 (I.base.free b o e n hx)
 ·obtain⟨o',e1⟩:=I.base.there b o e hx
  exact there b o' (neC b o e hx) e1
 ·obtain⟨m1,e1⟩:=I.base.tbls b ps e
  obtain⟨m2,e2⟩:=tbls b _ e1;exact⟨m1++m2,by rw[e2,Array.append_assoc]⟩
 ·obtain⟨m,hn,hl⟩:=I.loc
  refine⟨m,ns m hn,λi x v e1 e2 e3=>?_⟩;obtain⟨u,r,l⟩:=hl i x v e1 e2 e3;refine⟨u,r,?_⟩;rcases l with l|⟨k,c,e,z⟩
  ·exact .inl l
  ·exact .inr ⟨k,c,e,cellK x c e _ z⟩
 ·obtain⟨v,z⟩:=I.cell x c e
  exact⟨v,cellK x c e v z⟩
 ·obtain⟨m,⟨o,_,_,ho,_⟩,_⟩:=I.loc
  exact free _ o (λz=>(hch _ z).2.1 rfl) ho I.free
 ·obtain⟨v,o,ho,hd⟩:=I.cell x c e
  exact free c o (λz=>(hch c z).2.2.1 x c e rfl) ho (I.freeC x c e)
 ·obtain⟨e,n,ne,nf,d⟩:=I.pin p hp
  have nch:p.1∉ch:=λz=>(hch p.1 z).2.2.2 p hp rfl;exact⟨keep p.1 p.2 ne nf nch e n,free p.1 p.2 nch e n,ne,nf,d⟩
theorem Inv.un{t':Nat}(I:Inv X pins σ H s)(u:Un X.fs [] H H' s.heap h')(hok:HOk X.prog X.w H' h'):Inv X pins σ H' { s with heap:=h',toks:=t' }:=by
 obtain⟨m,⟨o,es,ep,ho,r⟩,_⟩:=id I.loc;obtain⟨sl,hL⟩:=u.any ho I.free (by simp);exact I.step (g':=s.gens) (d':=s.drawn) (ch:=[]) (λ_ z=>nomatch z) (λb o _ hb _ e n=>u.keep b o e n hb (by simp)) (λb o _ hb _ e n=>u.slot b o e n hb (by simp)) (λb o _ e n=>u.free b o e n (by simp)) (λb o _ e=>u.there b o e (by simp)) u.tups u.frzs u.tbls (λm' hm=>by
  obtain⟨o',es',ep',ho',r'⟩:=hm;rw[ho]at ho';cases ho';exact⟨_,es',ep',hL,r'⟩) hok I.bare
theorem Inv.call{g':Array tZ}{t':Nat}{d':sN}{ch:List vJ}(I:Inv X pins σ H s)(u:Un (frs X.stack) ch H H' s.heap h')(hok:HOk X.prog X.w H' h')(hg:tJ g')(hch:∀b∈ch,(b∈X.ex\/X.s₀.heap.objs.size<=b)/\b≠X.env.locals/\(∀x c,X.env.cells.lookup x=some c->c≠b)/\∀p∈X.pn++pins,p.1≠b):
  Inv X pins σ H' { s with heap:=h',gens:=g',drawn:=d',toks:=t' }:=by
 obtain⟨m,⟨o,es,ep,ho,r⟩,_⟩:=id I.loc;obtain⟨sl,hL⟩:=u.any ho I.free λz=>(hch _ z).2.1 rfl;exact I.step (ch:=ch) hch (λb o hL hb hc e n=>u.keep b o e n (λz=>(zF.mp (I.stkSub b z)).elim hL hb) hc) (λb o _ _ hc e n=>u.any e n hc) (λb o hc e n=>u.free b o e n hc) (λb o hc e=>u.there b o e hc) u.tups u.frzs u.tbls (λm' hm=>by
  obtain⟨o',es',ep',ho',r'⟩:=hm;rw[ho]at ho';cases ho';exact⟨_,es',ep',hL,r'⟩) hok hg
theorem Inv.turned{t':Nat}{it:vJ}(I:Inv X pins σ H s)(k:∀b o,b≠it->s.heap.get? b=some o->h'.get? b=some o)(hn:H it=none)(hL:it≠X.env.locals)(h1:it∈X.ex\/X.s₀.heap.objs.size<=it)(h2:∀x c,X.env.cells.lookup x=some c->c≠it)(h3:∀p∈X.pn++pins,p.1≠it):Inv X pins σ H { s with heap:=h',toks:=t' }:=by
 have nit:∀b u,H b=some u->b≠it:=λb u e z=>by rw[z,hn]at e;cases e
 refine I.step (g':=s.gens) (d':=s.drawn) (ch:=[it]) (λb hb=>?_) (λb o _ _ hc e _=>k b o (λz=>hc (by simp[z])) e) (λb o _ _ hc e _=>⟨o.slots,k b o (λz=>hc (by simp[z])) e⟩) (λ_ _ _ _ n=>n)
  (λb o hc e=>⟨o,k b o (λz=>hc (by simp[z])) e⟩) (λ_ _ e=>e) (λ_ _ _ e=>e) (λb ps e=>⟨#[],by rw[e];simp⟩) (λm hm=>?_) (λb u e=>?_) I.bare
 ·have e:b=it:=by simpa using hb
  subst e;exact⟨h1,hL,h2,h3⟩
 ·obtain⟨o,es,ep,ho,r⟩:=hm
  exact⟨o,es,ep,k _ o (Ne.symm hL) ho,r⟩
 ·refine(I.hok b u e).stay (λc v hc q=>k c v ?_ q) (λ_ q=>q) λ_ _ q=>q
  rcases hc with z|z
  ·rw[z];exact nit b u e
  ·exact nit c _ z
theorem Inv.tok(I:Inv X pins σ H s)(t:Nat):Inv X pins σ H { s with toks:=t }:=I.un (h':=s.heap) (t':=t) Un.refl I.hok
theorem Inv.kept{t':Nat}(I:Inv X pins σ H s)(k:∀b u,s.heap.get? b=some u->h'.get? b=some u):Inv X pins σ H { s with heap:=h',toks:=t' }:=I.un (Un.kept k) (I.hok.kept k)
theorem Inv.laid{a:vJ}{o:HO}{t':Nat}(I:Inv X pins σ H s)(k:∀b u,s.heap.get? b=some u->h'.get? b=some u)(hp:s.heap.objs.size<=a)(new:Y2 X.prog X.w (upd H a o) h' a o):
  Inv X pins σ (upd H a o) { s with heap:=h',toks:=t' }:=I.un (Un.laid k hp (I.hok.fresh hp)) (I.hok.laid k hp new)
theorem Inv.write{x e:vJ}{o:HO}{t':Nat}(I:Inv X pins σ H s)(mu:Mut (H x))(he:e=x\/H e=some (.own x))(k:∀b u,b≠e->s.heap.get? b=some u->h'.get? b=some u)(heo:∃u,h'.get? e=some u)(new:Y2 X.prog X.w (upd H x o) h' x o):Inv X pins σ (upd H x o) { s with heap:=h',toks:=t' }:=I.un (Un.write mu he k heo) (I.hok.write mu he k heo new)
theorem Inv.pins_of{pins':List (vJ×Obj)}(I:Inv X pins σ H s)(h:∀p∈pins',s.heap.get? p.1=some p.2/\H p.1=none/\p.1≠X.env.locals/\p.1∉X.fs/\∀v,p.2.data≠.cell v):Inv X pins' σ H s :=
 ⟨I.ok,I.os,I.bare,I.base,I.loc,I.cell,I.free,I.freeC,λp hp=>(zN.mp hp).elim (λz=>I.pin p (zV _ z)) (h p),I.hok,I.len⟩
theorem q8r{N:List Str}(hN:N.Nodup){i j:Nat}{x:Str}(a:N[i]?=some x)(b:N[j]?=some x):i=j:=by
 obtain⟨h1,e1⟩:=zh.mp a;obtain⟨h2,e2⟩:=zh.mp b;exact(wS hN).mp (e1.trans e2.symm)
theorem q7S{M:Model}{A:ve}{E:vB->vF->Prop}{i:Nat}{x:Str}{v:V}{u:vB}{Q:Unit->vF->Prop}(I:Inv X pins σ H s)(hN:X.N.Nodup)(hi:X.N[i]?=some x)(hx:Loc X.env.scope x)(r:RelV v u)(h:∀s',Inv X pins (σ.set i (some v)) H s'->(∃a,xV a s.heap s'.heap/\(a=X.env.locals\/X.env.cells.lookup x=some a))->Q () s')(hf:X.fn x=true\/X.env.scope.names.lookup x=some .local:=by first|exact .inl rfl|exact .inr rfl|assumption):vO M A (storeName X.env x u) Q E s:=by
 obtain⟨m,hn,hl⟩:=id I.loc;have hcls:(X.env.scope.kind == .class || (X.env.scope.kind == .module&&X.env.locals != X.env.globals))=false:=by rw[I.ok.kind];rfl
 have hiσ:i<σ.length:=by rw[I.len];exact(zh.mp hi).1
 have cne:=I.cne;have tracked:∀{a:vJ}{h':vj},(∃o,s.heap.get? a=some o/\H a=none)->xV a s.heap h'->HOk X.prog X.w H h':=λ{a h'} ha hs b ob e=>by
  obtain⟨_,_,hfree⟩:=ha;refine(I.hok b ob e).stay (λc w' hc q=>(hs.2 c ?_).trans q) (λ_ q=>q) λ_ _ q=>q;rintro rfl;rcases hc with rfl|hc
  ·rw[hfree]at e;cases e
  ·rw[hfree]at hc;cases hc
 rcases hx with hk|hk
 ·refine wpAny_storeName_local hk hn (λh' hn' hs=>?_) hcls
  obtain⟨oL,_,_,hoL,_⟩:=id hn;refine h _ ⟨I.ok,I.os,I.bare,⟨λb o e n hb hx=>?_,λb o e n hb hx=>?_,I.base.free,λb o e hx=>?_,I.base.tups,I.base.frzs,I.base.tbls⟩,⟨_,hn',λj y v' e1 e2 e3=>?_⟩,λy c e=>?_,I.free,I.freeC,λp hp=>?_,tracked ⟨oL,hoL,I.free⟩ hs,by simpa using I.len⟩ ⟨_,hs,.inl rfl⟩
  ·exact(hs.2 b (zr (zt (zO e) I.ok.above))).trans (I.base.keep b o e n hb hx)
  ·obtain⟨sl,e1⟩:=I.base.slot b o e n hb hx
   exact⟨sl,(hs.2 b (zr (zt (zO e) I.ok.above))).trans e1⟩
  ·obtain⟨o',e1⟩:=I.base.there b o e hx
   exact⟨o',(hs.2 b (zr (zt (zO e) I.ok.above))).trans e1⟩
  ·by_cases hj:j=i
   ·subst hj
    rw[hi]at e1;cases e1;rw[yZ hiσ]at e2;cases e2;exact⟨u,r,.inl ⟨hk,by simp⟩⟩
   ·rw[zI (Ne.symm hj)]at e2
    obtain⟨u',r',q⟩:=hl j y v' e1 e2 e3;refine⟨u',r',?_⟩;rcases q with⟨k,e⟩|⟨k,c,e,z⟩
    ·refine .inl ⟨k,?_⟩
     have:y≠x:=λe=>hj (q8r hN e1 (e▸hi));simp[this,e]
    ·exact .inr ⟨k,c,e,z.sameBut hs (cne y c e)⟩
  ·obtain⟨w',z⟩:=I.cell y c e
   exact⟨w',z.sameBut hs (cne y c e)⟩
  ·obtain⟨e,n,ne,nf,d⟩:=I.pin p hp
   exact⟨(hs.2 p.1 ne).trans e,n,ne,nf,d⟩
 ·have hfn:X.fn x=true:=by
   rcases hf with z|z
   ·exact z
   ·rw[z]at hk;cases hk
  obtain⟨c,hc⟩:=I.ok.has x (.inl hk);obtain⟨w',z⟩:=I.cell x c hc;refine wpAny_storeName_cell I.ok.kind hk hc z (λh' hc' hs=>?_);obtain⟨oc,hoc,hocd⟩:=id z;refine h { s with heap:=h' } ⟨I.ok,I.os,I.bare,⟨λb o e n hb hx=>?_,λb o e n hb hx=>?_,I.base.free,λb o e hx=>?_,I.base.tups,I.base.frzs,I.base.tbls⟩,⟨m,hn.sameBut hs (Ne.symm (cne x c hc)),λj y v' e1 e2 e3=>?_⟩,λy c' e=>?_,I.free,I.freeC,λp hp=>?_,tracked ⟨oc,hoc,I.freeC x c hc⟩ hs,by simpa using I.len⟩ ⟨c,hs,.inr hc⟩
  ·exact(hs.2 b (zr (zt (zO e) (I.ok.cab x c hfn hc)))).trans (I.base.keep b o e n hb hx)
  ·obtain⟨sl,e1⟩:=I.base.slot b o e n hb hx
   exact⟨sl,(hs.2 b (zr (zt (zO e) (I.ok.cab x c hfn hc)))).trans e1⟩
  ·obtain⟨o',e1⟩:=I.base.there b o e hx
   exact⟨o',(hs.2 b (zr (zt (zO e) (I.ok.cab x c hfn hc)))).trans e1⟩
  ·by_cases hj:j=i
   ·subst hj
    rw[hi]at e1;cases e1;rw[yZ hiσ]at e2;cases e2;exact⟨u,r,.inr ⟨.inl hk,c,hc,hc'⟩⟩
   ·rw[zI (Ne.symm hj)]at e2
    obtain⟨u',r',q⟩:=hl j y v' e1 e2 e3;refine⟨u',r',?_⟩;rcases q with q|⟨k,c',e,z'⟩
    ·exact .inl q
    ·refine .inr ⟨k,c',e,z'.sameBut hs ?_⟩
     rintro rfl;exact hj (q8r hN e1 (I.ok.inj _ _ _ e hc▸hi))
  ·by_cases hcc:c'=c
   ·subst hcc;exact⟨_,hc'⟩
   ·obtain⟨w2,z2⟩:=I.cell y c' e
    exact⟨w2,z2.sameBut hs hcc⟩
  ·obtain⟨e,n,ne,nf,d⟩:=I.pin p hp
   refine⟨(hs.2 p.1 ?_).trans e,n,ne,nf,d⟩;intro q;rw[q,hoc]at e;have q':oc=p.2:=zx e;exact d w' (by rw[<- q'];exact hocd)
theorem q8p{M:Model}{A:ve}{E:vB->vF->Prop}{i:Nat}{x:Str}{v:V}{u:vB}{Q:Unit->vF->Prop}(I:Inv X pins σ H s)(hN:X.N.Nodup)(hi:X.N[i]?=some x)(hx:Loc X.env.scope x)(r:RelV v u)(h:∀s',Inv X pins (σ.set i (some v)) H s'->Q () s')(hf:X.fn x=true\/X.env.scope.names.lookup x=some .local:=by first|exact .inl rfl|exact .inr rfl|assumption):vO M A (storeName X.env x u) Q E s :=
 q7S I hN hi hx r (λs' I' _=>h s' I') hf
theorem Inv.call'{s':vF}{ch:List vJ}(I:Inv X pins σ H s)(ho:s'.os=s.os)(u:Un (frs X.stack) ch H H' s.heap s'.heap)(hok:HOk X.prog X.w H' s'.heap)(hg:tJ s'.gens)(hch:∀b∈ch,(b∈X.ex\/X.s₀.heap.objs.size<=b)/\b≠X.env.locals/\(∀x c,X.env.cells.lookup x=some c->c≠b)/\∀p∈X.pn++pins,p.1≠b):Inv X pins σ H' s':=by
 obtain⟨h',g',d',t',o'⟩:=s';have e:o'=s.os:=ho;subst e;exact I.call (g':=g') (t':=t') (d':=d') u hok hg hch
end
abbrev XK:=vB->Option vJ->Hp->Prop
noncomputable abbrev St:=List (Option V)
abbrev VK:=V->Hp->Prop
abbrev TE:=St->Hp->VK->Prop
abbrev TT:=St->Hp->(Bool->Hp->Prop)->Prop
abbrev TA:=St->Hp->(List V->Hp->Prop)->Prop
structure Ends where
 nx:St->Hp->Prop
 rt:VK
 bk:St->Hp->Prop:=λ_ _=>False
 ct:St->Hp->Prop:=λ_ _=>False
abbrev TS:=Ends->St->Hp->Prop
def EP(X:Cx)(pins:List (vJ×Obj))(σ:St)(Q:VK)(u:vB)(s':vF):Prop:=∃v H',Inv X pins σ H' s'/\RelV v u/\Q v H'
def TP(X:Cx)(pins:List (vJ×Obj))(σ:St)(Q:Bool->Hp->Prop)(b:Bool)(s':vF):Prop:=∃H',Inv X pins σ H' s'/\Q b H'
def AP(X:Cx)(pins:List (vJ×Obj))(σ:St)(Q:List V->Hp->Prop)(us:List vB)(s':vF):Prop:=∃vs H',Inv X pins σ H' s'/\Yv vs us/\Q vs H'
def SP(X:Cx)(pins:List (vJ×Obj))(D:Ends)(f:Flow)(s':vF):Prop :=
 match f with
 | .next=>∃σ' H',Inv X pins σ' H' s'/\D.nx σ' H'
 | .brk=>∃σ' H',Inv X pins σ' H' s'/\D.bk σ' H'
 | .cont=>∃σ' H',Inv X pins σ' H' s'/\D.ct σ' H'
 | .ret u=>∃v σ' H',Inv X pins σ' H' s'/\RelV v u/\D.rt v H'
def PE(X:Cx)(e:vX)(t:TE):Prop :=
 ∀(pins:List (vJ×Obj))(s:vF)(σ:St)(H:Hp)(Q:VK),Inv X pins σ H s->t σ H Q->vO (model X.prog X.w) X.A (eval e X.env) (EP X pins σ Q) X.xe s
def PT(X:Cx)(e:vX)(t:TT):Prop :=
 ∀(pins:List (vJ×Obj))(s:vF)(σ:St)(H:Hp)(Q:Bool->Hp->Prop),Inv X pins σ H s->t σ H Q->vO (model X.prog X.w) X.A (sU e X.env (eval e X.env)) (TP X pins σ Q) X.xe s
def PW(X:Cx)(e:vX)(t:TT):Prop :=
 ∀(whole:Sem vB)(pins:List (vJ×Obj))(s:vF)(σ:St)(H:Hp)(Q:Bool->Hp->Prop),Inv X pins σ H s->t σ H Q->vO (model X.prog X.w) X.A (sU e X.env whole) (TP X pins σ Q) X.xe s
theorem PW.pt{X:Cx}{e:vX}{t:TT}(h:PW X e t):PT X e t:=h _
def PA(X:Cx)(es:List vX)(t:TA):Prop :=
 ∀(pos:Pos)(pins:List (vJ×Obj))(s:vF)(σ:St)(H:Hp)(Q:List V->Hp->Prop),Inv X pins σ H s->t σ H Q->vO (model X.prog X.w) X.A (spliced (vk pos (vK es X.env))) (AP X pins σ Q) X.xe s
def PS(X:Cx)(st:vz)(t:TS):Prop :=
 ∀(pins:List (vJ×Obj))(s:vF)(σ:St)(H:Hp)(D:Ends),Inv X pins σ H s->t D σ H->vO (model X.prog X.w) X.A (exec st X.env) (SP X pins D) X.xe s
def PSs(X:Cx)(st:List vz)(t:TS):Prop :=
 ∀(pins:List (vJ×Obj))(s:vF)(σ:St)(H:Hp)(D:Ends),Inv X pins σ H s->t D σ H->vO (model X.prog X.w) X.A (execs st X.env) (SP X pins D) X.xe s
theorem thn{α:Type}{t:Sem α}{Q Q':α->vF->Prop}{M:Model}{A:ve}{E:vB->vF->Prop}{s:vF}(h:vO M A t Q E s)(hQ:∀a s,Q a s->Q' a s):vO M A t Q' E s:=vq h hQ λ_ _ x=>x
section
variable{X:Cx}
noncomputable def XJ(i:Nat):TE:=λσ H Q=>∃v,σ[i]?=some (some v)/\Q v H
noncomputable def tC(v:V):TE:=λ_ H Q=>Q v H
theorem qgF{i:Nat}{x:Str}{pos:Pos}(hN:X.N[i]?=some x)(hv:Vis X.env.scope x)(hd:(x==("__debug__" : Str))=false:=by decide)(hcd:(x==("__classdict__" : Str))=false:=by decide):PE X (.Name x pos) (XJ i):=by
 intro pins s σ H Q I h;obtain⟨v,e,h⟩:=h;obtain⟨m,hn,hl⟩:=I.loc;obtain⟨u,r,l⟩:=hl i x v hN e hv;have fin:EP X pins σ Q u s:=⟨v,H,I,r,h⟩;rcases l with⟨hk,hm⟩|⟨hk,c,hc,hcell⟩
 ·exact wpAny_Name (wpAny_loadName_local I.ok.kind hk hn hm fin) hd
 ·rcases hk with hk|hk
  ·exact wpAny_Name (wpAny_loadName_cell I.ok.kind hk hc hcell fin) hd
  ·exact wpAny_Name (wpAny_loadName_free I.ok.kind hk hc hcell fin hcd) hd
theorem qgU{i j pos}:PE X (.Constant (.int i) j pos) (tC (.int i)):=λ_ _ _ H _ I h=>wpAny_Constant_int ⟨.int i,H,I.tok _,⟨_,rfl⟩,h⟩
theorem qht{b j pos}:PE X (.Constant (.bool b) j pos) (tC (.bl b)):=λ_ _ _ H _ I h=>Constant_bool ⟨.bl b,H,I,rfl,h⟩
theorem qgE{x j pos}:PE X (.Constant (.str x) j pos) (tC (.str x)):=λ_ _ _ H _ I h=>Calls.Constant_str ⟨.str x,H,I.tok _,⟨_,rfl⟩,h⟩
def Gl(X:Cx)(x:Str):Prop:=X.env.kindOf x=some .globalImplicit
theorem qan{E:vB->vF->Prop}{pins:List (vJ×Obj)}{s:vF}{σ:St}{H:Hp}{x:Str}{u:vB}{pos:Pos}{Q:vB->vF->Prop}(I:Inv X pins σ H s)(hg:Gl X x)(hm:X.mg x=some u)(h:Q u s)(hd:(x==("__debug__" : Str))=false:=by decide):vO (model X.prog X.w) X.A (eval (.Name x pos) X.env) Q E s :=
 Calls.Name_function_global I.ok.kind hg (Calls.loadGlobal_global (by rw[I.ok.glob];exact I.mod.glob.keeps I.bk) hm h) hd
theorem q0b{E:vB->vF->Prop}{pins:List (vJ×Obj)}{s:vF}{σ:St}{H:Hp}{x:Str}{u:vB}{pos:Pos}{Q:vB->vF->Prop}(I:Inv X pins σ H s)(hg:Gl X x)(hm:X.mg x=none)(hv:vm x=some u)(h:Q u s)(hn:x ≠ "__name__" := by decide)(hd:(x==("__debug__" : Str))=false:=by decide):vO (model X.prog X.w) X.A (eval (.Name x pos) X.env) Q E s:=by
 obtain⟨mb,h1,h2⟩:=I.mod.blt;exact Calls.Name_function_global I.ok.kind hg (Calls.loadGlobal_builtin (by rw[I.ok.glob];exact I.mod.glob.keeps I.bk) hm (by rw[I.ok.blt];exact h1.keeps I.bk) ((h2 x hn).trans hv) h) hd
theorem qeL{x:Str}{v:V}{u:vB}{pos:Pos}(hg:Gl X x)(hm:X.mg x=some u)(r:RelV v u)(hd:(x==("__debug__" : Str))=false:=by decide):PE X (.Name x pos) (tC v) :=
 λ_ _ _ H _ I h=>qan I hg hm ⟨v,H,I,r,h⟩ hd
theorem qeK{x:Str}{v:V}{u:vB}{pos:Pos}(hg:Gl X x)(hm:X.mg x=none)(hv:vm x=some u)(r:RelV v u)(hn:x ≠ "__name__" := by decide)(hd:(x==("__debug__" : Str))=false:=by decide):PE X (.Name x pos) (tC v) :=
 λ_ _ _ H _ I h=>q0b I hg hm hv ⟨v,H,I,r,h⟩ hn hd
variable{a b:vX}{ta tb:TE}{pos:Pos}
def PC(X:Cx)(op:sO)(a b:vX)(t:TE):Prop :=
 ∀(pins:List (vJ×Obj))(s:vF)(σ:St)(H:Hp)(Q:VK),Inv X pins σ H s->t σ H Q ->
  vO (model X.prog X.w) X.A (eval a X.env) (λv s₁=>vO (model X.prog X.w) X.A (eval b X.env) (λu s₂=>vO (model X.prog X.w) X.A (uH op v u) (EP X pins σ Q) X.xe s₂) X.xe s₁) X.xe s
theorem zB0(b:vX){op:sO}(h:op≠.In)(h2:op≠.NotIn):uE op b=false:=by
 have e1:(op==CmpOp.In)=false:=by cases op <;> first|rfl|exact vP rfl h
 have e2:(op==CmpOp.NotIn)=false:=by cases op <;> first|rfl|exact vP rfl h2
 cases b <;> simp[uE,e1,e2]
noncomputable def tB(t:TE):TT:=λσ H Q=>t σ H λx H1=>∃c,x=.bl c/\Q c H1
theorem qg4{op:sO}{t:TE}(h:PC X op a b t)(h1:uE op b=false:=by first|exact zB0 _ (by decide) (by decide)|rfl):PT X (.Compare a [op] [b] pos) (tB t):=by
 intro pins s σ H Q I hw;refine tW (thn (h pins s σ H _ I hw) λv s1 h1=>thn h1 λu s2 h2=>thn h2 λc s3 ⟨x,H1,I1,r1,q1⟩=>?_) h1;obtain⟨d,rfl,q⟩:=q1;cases r1;exact uI ⟨H1,I1,q⟩
variable{tA tB':TT}{rest:List vX}
noncomputable def tAnd(t u:TT):TT:=λσ H Q=>t σ H λc H1=>if c=true then u σ H1 Q else Q false H1
noncomputable def tOr(t u:TT):TT:=λσ H Q=>t σ H λc H1=>if c=true then Q true H1 else u σ H1 Q
noncomputable def tNot(t:TT):TT:=λσ H Q=>t σ H λc H1=>Q (!c) H1
theorem qeB(ha:PT X a tA):PW X (.BoolOp .And [a] pos) tA:=by
 intro wh pins s σ H Q I h;refine isTrue_and (thn (ha pins s σ H Q I h) λc s1 e=>?_);cases c with
 | true=>exact isTrue_and_nil e
 | false=>exact e
theorem qcS(ha:PT X a tA):PW X (.BoolOp .Or [a] pos) tA:=by
 intro wh pins s σ H Q I h;refine isTrue_or (thn (ha pins s σ H Q I h) λc s1 e=>?_);cases c with
 | false=>exact isTrue_or_nil e
 | true=>exact e
theorem qfY(ha:PT X a tA)(hb:PW X (.BoolOp .And (b::rest) pos) tB'):PW X (.BoolOp .And (a::b::rest) pos) (tAnd tA tB'):=by
 intro wh pins s σ H Q I h;refine isTrue_and (thn (ha pins s σ H _ I h) λc s1 ⟨H1,I1,q1⟩=>?_);cases c with
 | true=>exact hb wh pins s1 σ H1 Q I1 q1
 | false=>exact⟨H1,I1,q1⟩
theorem qem(ha:PT X a tA)(hb:PW X (.BoolOp .Or (b::rest) pos) tB'):PW X (.BoolOp .Or (a::b::rest) pos) (tOr tA tB'):=by
 intro wh pins s σ H Q I h;refine isTrue_or (thn (ha pins s σ H _ I h) λc s1 ⟨H1,I1,q1⟩=>?_);cases c with
 | true=>exact⟨H1,I1,q1⟩
 | false=>exact hb wh pins s1 σ H1 Q I1 q1
theorem qg1(ha:PT X a tA):PT X (.UnaryOp .Not a pos) (tNot tA):=by
 intro pins s σ H Q I h;exact isTrue_not (ha pins s σ H (λc H1=>Q (!c) H1) I h)
noncomputable def tAndV(ta tb:TE):TE:=λσ H Q=>ta σ H λx H1=>∃c,x=.bl c/\if c=true then tb σ H1 Q else Q (.bl false) H1
noncomputable def tOrV(ta tb:TE):TE:=λσ H Q=>ta σ H λx H1=>∃c,x=.bl c/\if c=true then Q (.bl true) H1 else tb σ H1 Q
noncomputable def tNotV(ta:TE):TE:=λσ H Q=>ta σ H λx H1=>∃c,x=.bl c/\Q (.bl (!c)) H1
theorem qfZ{op}{t:TE}(h:PE X a t):PE X (.BoolOp op [a] pos) t:=λpins s σ H Q I hw=>BoolOp_one (h pins s σ H Q I hw)
theorem qh2(ha:PE X a ta)(hb:PE X (.BoolOp .And (b::rest) pos) tb):PE X (.BoolOp .And (a::b::rest) pos) (tAndV ta tb):=by
 intro pins s σ H Q I h;refine BoolOp_and (thn (ha pins s σ H _ I h) λv s1 ⟨x,H1,I1,r1,q1⟩=>?_);obtain⟨c,rfl,q1⟩:=q1;cases r1;refine uI ?_;cases c with
 | true=>exact hb pins s1 σ H1 Q I1 q1
 | false=>exact⟨.bl false,H1,I1,rfl,q1⟩
theorem qhA(ha:PE X a ta)(hb:PE X (.BoolOp .Or (b::rest) pos) tb):PE X (.BoolOp .Or (a::b::rest) pos) (tOrV ta tb):=by
 intro pins s σ H Q I h;refine BoolOp_or (thn (ha pins s σ H _ I h) λv s1 ⟨x,H1,I1,r1,q1⟩=>?_);obtain⟨c,rfl,q1⟩:=q1;cases r1;refine uI ?_;cases c with
 | false=>exact hb pins s1 σ H1 Q I1 q1
 | true=>exact⟨.bl true,H1,I1,rfl,q1⟩
theorem qgh(ha:PE X a ta):PE X (.UnaryOp .Not a pos) (tNotV ta):=by
 intro pins s σ H Q I h;refine UnaryOp_ (thn (ha pins s σ H _ I h) λv s1 ⟨x,H1,I1,r1,q1⟩=>?_);obtain⟨c,rfl,q1⟩:=q1;cases r1;exact not_of (uI ⟨.bl (!c),H1,I1,rfl,q1⟩)
noncomputable def tIf(t:TT)(ta tb:TE):TE:=λσ H Q=>t σ H λc H1=>if c=true then ta σ H1 Q else tb σ H1 Q
theorem qcW{c:vX}(hc:PT X c tA)(ha:PE X a ta)(hb:PE X b tb):PE X (.IfExp c a b pos) (tIf tA ta tb):=by
 intro pins s σ H Q I h;refine wpAny_IfExp (thn (hc pins s σ H _ I h) λd s1 ⟨H1,I1,q1⟩=>?_);cases d with
 | true=>exact ha pins s1 σ H1 Q I1 q1
 | false=>exact hb pins s1 σ H1 Q I1 q1
end
def SqL(K:zA)(H:Hp)(a:vJ)(xs:List V):Prop :=
 Rd H a (.lst xs) \/
  ∃(o:Obj) (its:Array vB) (n:Nat),K.lookup a=some o/\o.cls=.type "list" /\ o.dict=none/\o.data=.seq its n/\its.size<=sizeLine/\Yv xs its.toList
def SqT(K:zA)(H:Hp)(a:vJ)(xs:List V):Prop :=
 Rd H a (.tup xs) \/
  ∃(o:Obj) (its:Array vB) (n:Nat),K.lookup a=some o/\o.cls=.type "tuple" /\ o.data=.seq its n/\its.size<=sizeLine/\Yv xs its.toList
noncomputable def absV:vB->Option V
 | .none=>some .non
 | .bool b=>some (.bl b)
 | .int i _=>some (.int i)
 | .str x _=>some (.str x)
 | .bytes b _=>some (.byt b)
 | .float b _=>some (.flt b)
 | .ref a=>some (.ref a)
 | .type n=>some (.ty n)
 | _=>none
theorem RelV.abs{x:V}{u:vB}(r:RelV x u):absV u=some x:=by
 cases x with
 | non=>cases r;rfl
 | bl _=>cases r;rfl
 | int _=>obtain⟨t,rfl⟩:=r;rfl
 | str _=>obtain⟨t,rfl⟩:=r;rfl
 | byt _=>obtain⟨t,rfl⟩:=r;rfl
 | flt _=>obtain⟨t,rfl⟩:=r;rfl
 | ref _=>cases r;rfl
 | ty _=>cases r;rfl
theorem RelV.inj{x y:V}{u:vB}(r:RelV x u)(q:RelV y u):x=y:=zx (r.abs.symm.trans q.abs)
theorem Yv.inj:∀{xs ys:List V}{us:List vB},Yv xs us->Yv ys us->xs=ys
 | _,_,_,.nil,.nil=>rfl
 | _,_,_,.cons r t,.cons r' t'=>by rw[r.inj r',Yv.inj t t']
section
variable{X:Cx}{pins:List (vJ×Obj)}{σ:St}{H:Hp}{s:vF}{a:vJ}{xs ys:List V}
theorem SqL.of{K:zA}(h:H a=some (.lst xs)):SqL K H a xs:=.inl (.inl h)
theorem SqT.of{K:zA}(h:H a=some (.tup xs)):SqT K H a xs:=.inl (.inl h)
theorem Inv.list(I:Inv X pins σ H s)(h:SqL X.K H a xs):∃its:List vB,Yv xs its/\PlainL s.heap a its.toArray/\xs.length<=sizeLine:=by
 rcases h with h|⟨o,its,n,hk,hc,hd,hs,hz,r⟩
 ·obtain⟨z,its,n,r,e⟩:=h.ok I.hok
  exact⟨its,r,⟨_,n,e,rfl,rfl,rfl⟩,z⟩
 ·refine⟨its.toList,r,⟨o,n,I.kIn a o hk,hc,hd,by simpa using hs⟩,?_⟩
  have e:=r.length;simp only[zM]at e;omega
theorem Inv.tuple(I:Inv X pins σ H s)(h:SqT X.K H a xs):∃its:List vB,Yv xs its/\IsTup s.heap a its.toArray/\xs.length<=sizeLine:=by
 rcases h with h|⟨o,its,n,hk,hc,hs,hz,r⟩
 ·obtain⟨z,its,r,p⟩:=h.ok I.hok
  exact⟨its,r,p,z⟩
 ·refine⟨its.toList,r,⟨o,I.kIn a o hk,hc,n,by simpa using hs⟩,?_⟩
  have e:=r.length;simp only[zM]at e;omega
theorem Inv.list_inj(I:Inv X pins σ H s)(h:SqL X.K H a xs)(h':SqL X.K H a ys):xs=ys:=by
 obtain⟨its,r,⟨o,n,e,_,_,d⟩,_⟩:=I.list h;obtain⟨its',r',⟨o',n',e',_,_,d'⟩,_⟩:=I.list h';rw[e]at e';cases e';rw[d]at d';injection d' with d1 _;have:its=its':=by simpa using v9 Yc d1
 subst this;exact r.inj r'
theorem Inv.tuple_inj(I:Inv X pins σ H s)(h:SqT X.K H a xs)(h':SqT X.K H a ys):xs=ys:=by
 obtain⟨its,r,⟨o,e,_,n,d⟩,_⟩:=I.tuple h;obtain⟨its',r',⟨o',e',_,n',d'⟩,_⟩:=I.tuple h';rw[e]at e';cases e';rw[d]at d';injection d' with d1 _;have:its=its':=by simpa using v9 Yc d1
 subst this;exact r.inj r'
end
noncomputable abbrev Cx.wish(X:Cx)(E:vB->vF->Prop):Cx:={ X with xe:=E }
noncomputable abbrev Cx.nox(X:Cx):Cx:=X.wish λ_ _=>False
theorem Cx.Ok.wish{X:Cx}(ok:X.Ok)(E:vB->vF->Prop):(X.wish E).Ok :=
 ⟨ok.mod,ok.kind,ok.glob,ok.blt,ok.above,ok.inj,ok.has,ok.cab,ok.hd,ok.frames,ok.stk,ok.exf,ok.bs,ok.bsz,ok.noex,ok.exfs,ok.funs,ok.frf⟩
theorem Cx.Ok.unwish{X:Cx}{E:vB->vF->Prop}(ok:(X.wish E).Ok):X.Ok :=
 ⟨ok.mod,ok.kind,ok.glob,ok.blt,ok.above,ok.inj,ok.has,ok.cab,ok.hd,ok.frames,ok.stk,ok.exf,ok.bs,ok.bsz,ok.noex,ok.exfs,ok.funs,ok.frf⟩
section
variable{X:Cx}{pins:List (vJ×Obj)}{σ:St}{H:Hp}{s:vF}{E:vB->vF->Prop}
theorem Inv.wish(I:Inv X pins σ H s)(E:vB->vF->Prop):Inv (X.wish E) pins σ H s:=⟨I.ok.wish E,I.os,I.bare,I.base,I.loc,I.cell,I.free,I.freeC,I.pin,I.hok,I.len⟩
theorem Inv.unwish(I:Inv (X.wish E) pins σ H s):Inv X pins σ H s:=⟨I.ok.unwish,I.os,I.bare,I.base,I.loc,I.cell,I.free,I.freeC,I.pin,I.hok,I.len⟩
theorem SP.unwish{D:Ends}{f:Flow}{s':vF}(h:SP (X.wish E) pins D f s'):SP X pins D f s':=by
 cases f with
 | next=>obtain⟨σ',H',I,q⟩:=h;exact⟨σ',H',I.unwish,q⟩
 | brk=>obtain⟨σ',H',I,q⟩:=h;exact⟨σ',H',I.unwish,q⟩
 | cont=>obtain⟨σ',H',I,q⟩:=h;exact⟨σ',H',I.unwish,q⟩
 | ret u=>obtain⟨v,σ',H',I,r,q⟩:=h;exact⟨v,σ',H',I.unwish,r,q⟩
theorem PSs.nox{st:List vz}{t:TS}(h:PSs X.nox st t):PSs X st t:=λpins s σ H D I hw=>
 vq (h pins s σ H D (I.wish _) hw) (λ_ _ q=>q.unwish) λ_ _ z=>False.elim z
end
section
variable{X:Cx}{st:vz}{rest:List vz}{t u:TS}{e:vX}{te:TE}{pos:Pos}
noncomputable def tNext:TS:=λD σ H=>D.nx σ H
noncomputable def zA3(t u:TS):TS:=λD σ H=>t { D with nx:=u D } σ H
theorem qf9:PSs X [] tNext:=λ_ _ σ H _ I h=>u5 ⟨σ,H,I,h⟩
theorem qz(h1:PS X st t)(h2:PSs X rest u):PSs X (st::rest) (zA3 t u):=by
 intro pins s σ H D I h;refine wpAny_execs_cons (thn (h1 pins s σ H { D with nx:=u D } I h) λf s1 q=>?_);cases f with
 | next=>
  obtain⟨σ',H',I',q⟩:=q;exact h2 pins s1 σ' H' D I' q
 | ret v=>exact q
 | brk=>exact q
 | cont=>exact q
theorem q0o(h1:PS X st t):PSs X [st] t:=by
 intro pins s σ H D I h;refine wpAny_execs_cons (thn (h1 pins s σ H D I h) λf s1 q=>?_);cases f with
 | next=>exact u5 q
 | ret v=>exact q
 | brk=>exact q
 | cont=>exact q
theorem Inv.quiet{pins:List (vJ×Obj)}{σ:St}{H:Hp}{s:vF}(I:Inv X pins σ H s):interactive X.env=false:=by simp[interactive,I.ok.kind]
noncomputable def zBb(te:TE):TS:=λD σ H=>te σ H λ_ H1=>D.nx σ H1
theorem q0B(he:PE X e te)(hs:v7 e none pos.line X.env=pure false:=by rfl):PS X (.Expr e pos) (zBb te):=by
 intro pins s σ H D I h;exact wpAny_Expr_any (thn (he pins s σ H _ I h) λv s1 ⟨x,H1,I1,r1,q1⟩=>⟨σ,H1,I1,q1⟩) I.quiet hs
noncomputable def tRet(te:TE):TS:=λD σ H=>te σ H D.rt
theorem q4o(he:PE X e te):PS X (.Return (some e) pos) (tRet te):=by
 intro pins s σ H D I h;exact wpAny_Return_some (thn (he pins s σ H _ I h) λv s1 ⟨x,H1,I1,r1,q1⟩=>⟨x,σ,H1,I1,r1,q1⟩)
noncomputable def tIfS(c:TT)(t u:TS):TS:=λD σ H=>c σ H λb H1=>if b=true then t D σ H1 else u D σ H1
theorem qej{c:vX}{a b:List vz}{tc:TT}(hc:PT X c tc)(ha:PSs X a t)(hb:PSs X b u):PS X (.If c a b pos) (tIfS tc t u):=by
 intro pins s σ H D I h;refine wpAny_If (thn (hc pins s σ H _ I h) λd s1 ⟨H1,I1,q1⟩=>?_);cases d with
 | true=>exact ha pins s1 σ H1 D I1 q1
 | false=>exact hb pins s1 σ H1 D I1 q1
noncomputable def tNever:TS:=λ_ _ _=>False
theorem qdj:PS X st tNever:=λ_ _ _ _ _ _ h=>h.elim
end
abbrev TG:=V->St->Hp->(St->Hp->Prop)->Prop
abbrev TGs:=List V->St->Hp->(St->Hp->Prop)->Prop
def PG(X:Cx)(target:vX)(t:TG):Prop :=
 ∀(pins:List (vJ×Obj))(s:vF)(σ:St)(H:Hp)(v:V)(u:vB)(Q:St->Hp->Prop),Inv X pins σ H s->RelV v u->t v σ H Q ->
  vO (model X.prog X.w) X.A (assign target X.env u) (λ_ s'=>∃σ' H',Inv X pins σ' H' s'/\Q σ' H') X.xe s
def PGs(X:Cx)(ts:List vX)(t:TGs):Prop :=
 ∀(pins:List (vJ×Obj))(s:vF)(σ:St)(H:Hp)(vs:List V)(us:List vB)(Q:St->Hp->Prop),Inv X pins σ H s->Yv vs us->t vs σ H Q ->
  vO (model X.prog X.w) X.A (assignInOrder ((uS ts X.env).map (·.2)) us) (λ_ s'=>∃σ' H',Inv X pins σ' H' s'/\Q σ' H') X.xe s
section
variable{X:Cx}{pos:Pos}
noncomputable def Xt(i:Nat):TG:=λv σ H Q=>Q (σ.set i (some v)) H
theorem q3d{i:Nat}{x:Str}(hN:X.N.Nodup)(hi:X.N[i]?=some x)(hx:Loc X.env.scope x)(hf:X.fn x=true\/X.env.scope.names.lookup x=some .local:=by first|exact .inl rfl|exact .inr rfl|assumption):PG X (.Name x pos) (Xt i):=by
 intro pins s σ H v u Q I r h;exact wpAny_assign_Name (q8p I hN hi hx r (λs' I'=>⟨_,H,I',h⟩) hf)
noncomputable def gNil:TGs:=λvs σ H Q=>vs=[]/\Q σ H
noncomputable def gCons(t:TG)(u:TGs):TGs:=λvs σ H Q=>∃v r,vs=v::r/\t v σ H λσ' H'=>u r σ' H' Q
theorem qaI:PGs X [] gNil:=by
 intro pins s σ H vs us Q I r h;obtain⟨e,h⟩:=h;subst e;cases r;exact assignInOrder_nil ⟨σ,H,I,h⟩
theorem q5O{e:vX}{es:List vX}{t:TG}{u:TGs}(h1:PG X e t)(h2:PGs X es u)(hs:(uS (e::es) X.env).map (·.2)=assign e X.env::(uS es X.env).map (·.2):=by rfl):PGs X (e::es) (gCons t u):=by
 intro pins s σ H vs us Q I r h;obtain⟨v,vr,e1,h⟩:=h;subst e1;cases r with
 | cons r rr=>
  rw[hs];refine assignInOrder_cons (thn (h1 pins s σ H _ _ _ I r h) λ_ s1 ⟨σ1,H1,I1,q1⟩=>?_);exact h2 pins s1 σ1 H1 _ _ Q I1 rr q1
noncomputable def gTup(K:zA)(n:Nat)(t:TGs):TG:=λv σ H Q=>∃a xs,v=.ref a/\SqT K H a xs/\xs.length=n/\t xs σ H Q
theorem qcg{es:List vX}{k:Nat}{t:TGs}{n:Nat}(hc:X.calm=true)(h:PGs X es t)(hn:(uS es X.env).length=n:=by rfl)(hst:(uS es X.env).findIdx? (·.1)=none:=by rfl):PG X (.Tuple es k pos) (gTup X.K n t):=by
 intro pins s σ H v u Q I r hw;obtain⟨a,xs,e1,hq,hl,hw⟩:=hw;subst e1;cases r;obtain⟨its,rv,ht,hz⟩:=I.tuple hq;refine assign_Tuple_tuple (I.ok.hd hc) ht (by simp[hn,<- hl,rv.length]) hst λh' hx=>?_;have I1:Inv X pins σ H { s with heap:=h' }:=I.kept (t':=s.toks) λb o e=>hx b o (zr (zO e)) e;exact h pins _ σ H xs _ Q I1 ⇑rv hw
noncomputable def zAe(te:TE)(g:TG):TS:=λD σ H=>te σ H λx H1=>g x σ H1 D.nx
theorem qh0{tg e:vX}{te:TE}{g:TG}(he:PE X e te)(hg:PG X tg g)(hs:swapsWithSole [tg] e pos.line X.env=pure false:=by rfl)(hw:swappedStores [tg] e X.env=pure none:=by rfl)(h1:(uS [tg] X.env).map (·.2)=[assign tg X.env]:=by rfl):PS X (.Assign [tg] e pos) (zAe te g):=by
 intro pins s σ H D I h;refine wpAny_Assign_stores (thn (he pins s σ H _ I h) λv s1 ⟨x,H1,I1,r1,q1⟩=>?_) hs hw;rw[h1];exact thn (hg pins s1 σ H1 x v _ I1 r1 q1) λ_ s2 q=>q
theorem q04{i:Nat}{x:Str}{e:vX}{te:TE}{pos':Pos}(hN:X.N.Nodup)(hi:X.N[i]?=some x)(hx:Loc X.env.scope x)(he:PE X e te)(hs:v7 e (some (.Name x pos')) pos.line X.env=pure false:=by rfl)(hf:X.fn x=true\/X.env.scope.names.lookup x=some .local:=by first|exact .inl rfl|exact .inr rfl|assumption):
  PS X (.Assign [.Name x pos'] e pos) (zAe te (Xt i)):=by
 intro pins s σ H D I h;refine wpAny_Assign_Name (thn (he pins s σ H _ I h) λv s1 ⟨y,H1,I1,r1,q1⟩=>?_) hs;exact q8p I1 hN hi hx r1 (λs2 I2=>⟨_,H1,I2,q1⟩) hf
end
section
variable{X:Cx}{pos:Pos}
noncomputable def zBV(c:TT)(tb:TS):TS:=λD σ H=>∃W:Nat->St->Hp->Prop,(∃m,W m σ H)/\∀m σ H,W m σ H ->
 c σ H λb H1=>if b=true then ∃N:St->Hp->Prop,(∀σ' H',N σ' H'->∃m',m'<m/\W m' σ' H')/\tb { D with nx:=N,ct:=N,bk:=D.nx } σ H1 else D.nx σ H1
theorem q92{c:vX}{body:List vz}{tc:TT}{tb:TS}(hp:tO (model X.prog X.w) X.A X.env X.xe)(hc:PT X c tc)(hb:PSs X body tb):PS X (.While c body [] pos) (zBV tc tb):=by
 intro pins s σ H D I h;obtain⟨W,⟨m0,w0⟩,turn⟩:=h;refine wpAny_While (codeAny_whileLoop (λn s'=>∃σ' H',Inv X pins σ' H' s'/\W n σ' H') ?_ m0 ⟨σ,H,I,w0⟩);rintro n s1 ⟨σ1,H1,I1,w1⟩;refine uR hp (thn (hc pins s1 σ1 H1 _ I1 (turn n σ1 H1 w1)) λb s2 ⟨H2,I2,q2⟩=>?_);cases b with
 | true=>
  obtain⟨N,hN,q2⟩:=q2;rw[vC rfl];refine uR hp (thn (hb pins s2 σ1 H2 _ I2 q2) λf s3 q3=>?_);cases f with
  | next=>
   obtain⟨σ3,H3,I3,n3⟩:=q3;obtain⟨m',hm,w3⟩:=hN σ3 H3 n3;exact⟨m',hm,σ3,H3,I3,w3⟩
  | cont=>
   obtain⟨σ3,H3,I3,n3⟩:=q3;obtain⟨m',hm,w3⟩:=hN σ3 H3 n3;exact⟨m',hm,σ3,H3,I3,w3⟩
  | brk=>exact q3
  | ret v=>exact q3
 | false=>
  rw[vG yH];exact u5 ⟨σ1,H2,I2,q2⟩
end
structure It where
 go:Nat->Hp->Prop
 yld:Nat->Hp->V->Hp->Prop
 stop:Nat->Hp->Prop
def WH(X:Cx)(pins:List (vJ×Obj))(H:Hp)(b:vJ):Prop :=
 H b=none/\b≠X.env.locals/\b∉X.fs/\(b∈X.ex\/X.s₀.heap.objs.size<=b)/\(∀x c,X.env.cells.lookup x=some c->c≠b)/\∀p∈X.pn++pins,p.1≠b
theorem Inv.fpOk{X:Cx}{pins:List (vJ×Obj)}{σ:St}{H H':Hp}{s:vF}{b:vJ}(I:Inv X pins σ H s)(hb:s.heap.objs.size<=b)(hn:H' b=none):WH X pins H' b:=by
 refine⟨hn,xr (zt I.lt hb),I.nofs hb,.inr (yJ I.sz hb),λx c e z=>?_,λp hp z=>?_⟩
 ·obtain⟨v,q⟩:=I.cell x c e
  exact vP (zt q.lt (by rw[z];exact hb)) (xa _)
 ·exact vP (zt (zO (I.pin p hp).1) (by rw[z];exact hb)) (xa _)
structure Turn (P:vW) (w:vZ) (K:zA) (tg:vX) (J:It) (fp:List vJ) (it:vJ) (tn:Nat->vj->Prop):Prop where
 mem:it∈fp
 obj:∀i h,tn i h->∀b∈fp,∃o,h.get? b=some o/\∀v,o.data≠.cell v
 keep:∀i h h',tn i h->(∀b∈fp,∀o,h.get? b=some o->h'.get? b=some o)->tn i h'
 item:∀(X:Cx),X.prog=P->X.w=w->X.K=K->X.calm=true->∀(i:Nat)(pins:List (vJ×Obj))(s:vF)(σ:St)(H:Hp)(E:vB->vF->Prop),Inv X pins σ H s->(∀b∈fp,WH X pins H b)->tn i s.heap->J.go i H ->
  vO (model P w) X.A (uU (.ref it)) (λr s1=>∃u,r=some u /\
   vO (model P w) X.A (u6 tg (.ref it) u) (λ_ s2=>∃x H',Inv X pins σ H' s2/\RelV x u/\J.yld i H x H'/\tn (i+1) s2.heap/\∀b∈fp,H' b=none) E s1) E s
 done:∀(X:Cx),X.prog=P->X.w=w->X.K=K->X.calm=true->∀(i:Nat)(pins:List (vJ×Obj))(s:vF)(σ:St)(H:Hp)(E:vB->vF->Prop),Inv X pins σ H s->(∀b∈fp,WH X pins H b)->tn i s.heap->J.stop i H ->
  vO (model P w) X.A (uU (.ref it)) (λr s1=>r=none/\Inv X pins σ H s1) E s
 self:∀(A:ve)(i:Nat)(s:vF)(Q:vB->vF->Prop)(E:vB->vF->Prop),tn i s.heap->Q (.ref it) s->vO (model P w) A (sV (.ref it)) Q E s
abbrev TI:=St->Hp->(It->Hp->Prop)->Prop
def PIE(X:Cx)(pins:List (vJ×Obj))(σ:St)(tg:vX)(R:It->Hp->Prop)(itv:vB)(s2:vF):Prop :=
 ∃(it:vJ) (fp:List vJ) (tn:Nat->vj->Prop) (J:It) (H':Hp),itv=.ref it/\Inv X pins σ H' s2/\Turn X.prog X.w X.K tg J fp it tn/\tn 0 s2.heap/\(∀b∈fp,WH X pins H' b)/\R J H'
def PI(X:Cx)(tg iter:vX)(wi:TI):Prop :=
 ∀(pins:List (vJ×Obj))(s:vF)(σ:St)(H:Hp)(R:It->Hp->Prop),Inv X pins σ H s->wi σ H R ->
  vO (model X.prog X.w) X.A (eval iter X.env) (λv s1=>vO (model X.prog X.w) X.A (sV v) (PIE X pins σ tg R) X.xe s1) X.xe s
theorem q8k{M:Model}{A:ve}{E:vB->vF->Prop}{s:vF}{tg:vX}{it:vJ}{u:vB}{o:Obj}{n:String}{vs:Array vB}{Q:Unit->vF->Prop}(ho:s.heap.get? it=some o)(hc:o.cls=.type n)(hd:o.data=.fields vs)(hn:["enumerate", "zip", "dict_itemiterator", "dict_reverseitemiterator", "odict_iterator", "itertools.zip_longest", "itertools.pairwise"].contains n=false)(hQ:Q () s):vO M A (u6 tg (.ref it) u) Q E s:=by
 unfold u6;cases tg <;> first
  | exact vH hQ
  | (cases u <;> first
    | exact vH hQ
    | (refine vA (wpAny_load ho ?_)
       rw[hc,hd];show vO M A (if (["enumerate", "zip", "dict_itemiterator", "dict_reverseitemiterator", "odict_iterator", "itertools.zip_longest", "itertools.pairwise"].contains n&&vs[0]?==some (uY _))=true then _ else _) Q E s;rw[vG (by intro h;rw[hn,xg]at h;cases h)];exact vH hQ))
noncomputable def Itl(K:zA)(a:vJ):It :=
 ⟨λi H=>∃xs x,SqL K H a xs/\xs[i]?=some x,λi H x H'=>H'=H/\∀xs,SqL K H a xs->xs[i]?=some x,λi H=>∃xs,SqL K H a xs/\xs.length<=i⟩
noncomputable def Itt(K:zA)(a:vJ):It :=
 ⟨λi H=>∃xs x,SqT K H a xs/\xs[i]?=some x,λi H x H'=>H'=H/\∀xs,SqT K H a xs->xs[i]?=some x,λi H=>∃xs,SqT K H a xs/\xs.length<=i⟩
noncomputable def Itr(lo:Int)(n:Nat):It:=⟨λi _=>i<n,λi H x H'=>H'=H/\x=.int (lo+i),λi _=>n<=i⟩
theorem qbZ{P:vW}{w:vZ}{K:zA}{tg:vX}(a it:vJ):Turn P w K tg (Itl K a) [it] it (λi h=>h.IsListIter it a i) where
 mem:=by simp
 obj:=λi h st b hb=>by
  have e:b=it:=by simpa using hb
  subst e;obtain⟨o,e,c,d⟩:=st;exact⟨o,e,λv z=>by rw[d]at z;cases z⟩
 keep:=λi h h' st k=>st.at λo e=>k it (by simp) o e
 item:=by
  intro X hP hw hK hc i pins s σ H E I hf st hg;subst hP hw hK;obtain⟨xs,x,hq,hx⟩:=hg;obtain⟨its,rv,p,hz⟩:=I.list hq;obtain⟨u,hu,ru⟩:=rv.get hx;obtain⟨f0,f1,f2,f3,f4,f5⟩:=hf it (by simp);refine wpAny_pyNext_list_item st p.isList (x:=u) ⇑hu λh' st' sb=>?_;have I1:Inv X pins σ H { s with heap:=h' }:=I.turned (t':=s.toks) (λb o hb e=>(sb.2 b hb).trans e) f0 f1 f3 f4 f5;obtain⟨o,e,c,d⟩:=id st';exact⟨u,rfl,q8k (s:={ s with heap:=h' }) e c d (by decide) ⟨x,H,I1,ru,⟨rfl,λys hy=>by rw[I.list_inj hy hq];exact hx⟩,st',λb hb=>(hf b hb).1⟩⟩
 done:=by
  intro X hP hw hK hc i pins s σ H E I hf st hg;subst hP hw hK;obtain⟨xs,hq,hx⟩:=hg;obtain⟨its,rv,p,hz⟩:=I.list hq;obtain⟨f0,f1,f2,f3,f4,f5⟩:=hf it (by simp);have hl:=rv.length;exact wpAny_pyNext_list_end (I.ok.hd hc) st p.isList (by simp;omega) λh' eb=>⟨rfl,I.turned (t':=s.toks) (λb o hb e=>eb b o hb e) f0 f1 f3 f4 f5⟩
 self:=λ_ _ _ _ _ st h=>wpAny_pyIter_listiter st h
theorem qb7{P:vW}{w:vZ}{K:zA}{tg:vX}(a it:vJ):Turn P w K tg (Itt K a) [it] it (λi h=>h.IsTupleIter it a i) where
 mem:=by simp
 obj:=λi h st b hb=>by
  have e:b=it:=by simpa using hb
  subst e;obtain⟨o,e,c,d⟩:=st;exact⟨o,e,λv z=>by rw[d]at z;cases z⟩
 keep:=λi h h' st k=>st.at λo e=>k it (by simp) o e
 item:=by
  intro X hP hw hK hc i pins s σ H E I hf st hg;subst hP hw hK;obtain⟨xs,x,hq,hx⟩:=hg;obtain⟨its,rv,p,hz⟩:=I.tuple hq;obtain⟨u,hu,ru⟩:=rv.get hx;obtain⟨f0,f1,f2,f3,f4,f5⟩:=hf it (by simp);refine wpAny_pyNext_tuple_item st (show s.heap.IsTuple a its.toArray from p) (x:=u) ⇑hu λh' st' sb=>?_;have I1:Inv X pins σ H { s with heap:=h' }:=I.turned (t':=s.toks) (λb o hb e=>(sb.2 b hb).trans e) f0 f1 f3 f4 f5;obtain⟨o,e,c,d⟩:=id st';exact⟨u,rfl,q8k (s:={ s with heap:=h' }) e c d (by decide) ⟨x,H,I1,ru,⟨rfl,λys hy=>by rw[I.tuple_inj hy hq];exact hx⟩,st',λb hb=>(hf b hb).1⟩⟩
 done:=by
  intro X hP hw hK hc i pins s σ H E I hf st hg;subst hP hw hK;obtain⟨xs,hq,hx⟩:=hg;obtain⟨its,rv,p,hz⟩:=I.tuple hq;obtain⟨f0,f1,f2,f3,f4,f5⟩:=hf it (by simp);have hl:=rv.length;exact wpAny_pyNext_tuple_end (I.ok.hd hc) st (show s.heap.IsTuple a its.toArray from p) (by simp;omega) λh' eb=>⟨rfl,I.turned (t':=s.toks) (λb o hb e=>eb b o hb e) f0 f1 f3 f4 f5⟩
 self:=λ_ _ _ _ _ st h=>wpAny_pyIter_tupleiter st h
theorem qbl{P:vW}{w:vZ}{K:zA}{tg:vX}(it:vJ)(lo:Int)(n:Nat):Turn P w K tg (Itr lo n) [it] it (λi h=>IsRangeIter h it (lo+(i:Nat)*1) ((n:Int)-(i:Nat)) 1) where
 mem:=by simp
 obj:=λi h st b hb=>by
  have e:b=it:=by simpa using hb
  subst e;exact⟨_,st,λv z=>by
   have z':Data.fields _=Data.cell v:=z;cases z'⟩
 keep:=λi h h' st k=>k it (by simp) _ st
 item:=by
  intro X hP hw hK hc i pins s σ H E I hf st hg;subst hP hw hK;obtain⟨f0,f1,f2,f3,f4,f5⟩:=hf it (by simp);have W:=Walks.range (prog:=X.prog) (w:=X.w) (I.ok.hd hc) it lo 1 n;refine W.item i s _ _ hg st λv h' tk hv st' kk=>?_;obtain⟨t,rfl⟩:=hv;have I1:Inv X pins σ H { s with heap:=h',toks:=tk }:=I.turned (λb o hb e=>kk b o (by simpa using hb) e) f0 f1 f3 f4 f5;refine⟨_,rfl,q8k (s:={ s with heap:=h',toks:=tk }) (n := "range_iterator") st' rfl rfl (by decide) ⟨.int (lo+i),H,I1,⟨t,?_⟩,⟨rfl,rfl⟩,st',λb hb=>(hf b hb).1⟩⟩;rw[Int.mul_one]
 done:=by
  intro X hP hw hK hc i pins s σ H E I hf st hg;subst hP hw hK;obtain⟨f0,f1,f2,f3,f4,f5⟩:=hf it (by simp);exact wpAny_pyNext_range_end (I.ok.hd hc) st (by have:n<=i:=hg;omega) λh' eb=>⟨rfl,I.turned (t':=s.toks) (λb o hb e=>eb b o hb e) f0 f1 f3 f4 f5⟩
 self:=λ_ _ _ _ _ st h=>wpAny_pyIter_rangeiter st h
section
variable{X:Cx}{tg:vX}
noncomputable def iList(K:zA)(tl:TE):TI:=λσ H R=>tl σ H λx H1=>∃a,x=.ref a/\(∃xs,SqL K H1 a xs)/\R (Itl K a) H1
noncomputable def iTup(K:zA)(tl:TE):TI:=λσ H R=>tl σ H λx H1=>∃a,x=.ref a/\(∃xs,SqT K H1 a xs)/\R (Itt K a) H1
theorem q7w{l:vX}{tl:TE}(hl:PE X l tl):PI X tg l (iList X.K tl):=by
 intro pins s σ H R I h;refine thn (hl pins s σ H _ I h) λv s1 ⟨x,H1,I1,r1,q1⟩=>?_;obtain⟨a,e,⟨xs,hq⟩,q⟩:=q1;subst e;cases r1;obtain⟨its,rv,p,hz⟩:=I1.list hq;refine tK p.isList ?_;refine⟨s1.heap.objs.size,[s1.heap.objs.size],_,_,H1,rfl,I1.kept (t':=s1.toks) λb o e=>zE _ e,qbZ a _,⟨_,zR _ rfl,rfl,rfl⟩,λb hb=>?_,q⟩;have e:b=s1.heap.objs.size:=by simpa using hb
 subst e;exact I1.fpOk (zK _) (I1.hok.fresh (zK _))
theorem qfV{l:vX}{tl:TE}(hl:PE X l tl):PI X tg l (iTup X.K tl):=by
 intro pins s σ H R I h;refine thn (hl pins s σ H _ I h) λv s1 ⟨x,H1,I1,r1,q1⟩=>?_;obtain⟨a,e,⟨xs,hq⟩,q⟩:=q1;subst e;cases r1;obtain⟨its,rv,p,hz⟩:=I1.tuple hq;refine wpAny_pyIter_tuple (show s1.heap.IsTuple a its.toArray from p) ?_;refine⟨s1.heap.objs.size,[s1.heap.objs.size],_,_,H1,rfl,I1.kept (t':=s1.toks) λb o e=>zE _ e,qb7 a _,⟨_,zR _ rfl,rfl,rfl⟩,λb hb=>?_,q⟩;have e:b=s1.heap.objs.size:=by simpa using hb
 subst e;exact I1.fpOk (zK _) (I1.hok.fresh (zK _))
theorem qdA{pins:List (vJ×Obj)}{σ:St}{H:Hp}{s:vF}{R:It->Hp->Prop}{E:vB->vF->Prop}{lo hi:Int}{t u v:Tok}{tk:Nat}(I:Inv X pins σ H s)(h1:-(2^62)<=lo)(h2:lo<2^62)(h3:-(2^62)<=hi)(h4:hi<2^62)(q:R (Itr lo (hi-lo).toNat) H):vO (model X.prog X.w) X.A (sV (.ref s.heap.objs.size)) (PIE X pins σ tg R) E { s with heap:=s.heap.push { cls:=.type "range", data:=.fields #[.int lo t,.int hi u,.int 1 v] },toks:=tk }:=by
 refine wpAny_pyIter_range (IsRange.new ..) (small_one h1 h2 h3 h4) ?_;have I1:Inv X pins σ H { s with heap:=s.heap.push { cls:=.type "range", data:=.fields #[.int lo t,.int hi u,.int 1 v] },toks:=tk }:=I.kept λb o e=>zE _ e;refine⟨(s.heap.push { cls:=.type "range", data:=.fields #[.int lo t,.int hi u,.int 1 v] }).objs.size,[(s.heap.push { cls:=.type "range", data:=.fields #[.int lo t,.int hi u,.int 1 v] }).objs.size],_,_,H,rfl,
  I1.kept (t':=tk) λb o e=>zE _ e,qbl _ lo (hi-lo).toNat,?_,λb hb=>?_,q⟩
 ·have e1:lo+((0:Nat):Int)*1=lo:=by simp
  have e2:(((hi-lo).toNat:Nat):Int)-((0:Nat):Int)=Builtin.Range.rangeSize lo hi 1:=by rw[rangeSize_one];split <;> omega
  show IsRangeIter _ _ (lo+((0:Nat):Int)*1) ((((hi-lo).toNat:Nat):Int)-((0:Nat):Int)) 1;rw[e1,e2];exact zR _ rfl
 ·have e:b=(s.heap.push { cls:=.type "range", data:=.fields #[.int lo t,.int hi u,.int 1 v] }).objs.size:=by simpa using hb
  subst e;exact I1.fpOk (zK _) (I1.hok.fresh (zK _))
noncomputable def iRng1(ta:TA):TI:=λσ H R=>ta σ H λvs H1=>∃j:Int,vs=[.int j]/\-(2^62)<=j/\j<2^62/\R (Itr 0 j.toNat) H1
theorem qc0{a:vX}{ta:TA}{p pos:Pos}(hg:Gl X "range")(hm:X.mg "range" = none)(ha:PA X [a] ta)(hs:vK [a] X.env=[(false,eval a X.env)]:=by rfl):PI X tg (.Call (.Name "range" p) [a] [] pos) (iRng1 ta):=by
 intro pins s σ H R I h;refine Call_ (q0b I hg hm boot_range (PyProof.Rows.callWith_type1 (thn (ha pos pins s σ H _ I h) λus s1 ⟨vs,H1,I1,r1,q1⟩=>?_) hs rfl));obtain⟨j,e,q1,q2,q⟩:=q1;subst e;cases r1 with
 | cons r rr=>
  cases rr;obtain⟨t,rfl⟩:=r;exact call_range_1 (qdA I1 ∅ ∅ q1 q2 ⇑q)
noncomputable def tFor(wi:TI)(g:TG)(tb:TS):TS:=λD σ H=>wi σ H λJ H1=>∃W:Nat->Nat->St->Hp->Prop,(∃m,W 0 m σ H1)/\∀i m σ H,W i m σ H ->
 (J.stop i H/\D.nx σ H)\/(J.go i H/\∃N:St->Hp->Prop,(∀σ' H',N σ' H'->∃m',m'<m/\W (i+1) m' σ' H')/\∀x H',J.yld i H x H'->g x σ H' λσ2 H2=>tb { D with nx:=N,ct:=N,bk:=D.nx } σ2 H2)
noncomputable def zAI(fp:List vJ)(h:vj):List (vJ×Obj):=fp.filterMap λb=>(h.get? b).map λo=>(b,o)
theorem q20{fp:List vJ}{h:vj}{b:vJ}{o:Obj}(hb:b∈fp)(e:h.get? b=some o):(b,o)∈zAI fp h:=Zy.mpr ⟨b,hb,by rw[e];rfl⟩
theorem qc5{fp:List vJ}{h:vj}{p:vJ×Obj}(hp:p∈zAI fp h):p.1∈fp/\h.get? p.1=some p.2:=by
 obtain⟨b,hb,e⟩:=Zy.mp hp;cases q:h.get? b with
 | none=>rw[q]at e;cases e
 | some o=>
  rw[q]at e;have e':(b,o)=p:=zx e;subst e';exact⟨hb,q⟩
theorem Inv.pinned{pins:List (vJ×Obj)}{σ:St}{H:Hp}{s:vF}{fp:List vJ}(I:Inv X pins σ H s)(hf:∀b∈fp,WH X pins H b)(ho:∀b∈fp,∃o,s.heap.get? b=some o/\∀v,o.data≠.cell v):Inv X (pins++zAI fp s.heap) σ H s :=
 I.pins_of λp hp=>(zN.mp hp).elim (λz=>I.pin p (zQ _ z)) λz=>by
  obtain⟨hb,e⟩:=qc5 z;obtain⟨f0,f1,f2,_⟩:=hf p.1 hb;obtain⟨o,e',d⟩:=ho p.1 hb;rw[e]at e';cases e';exact⟨e,f0,f1,f2,d⟩
theorem Inv.unpinned{pins pl:List (vJ×Obj)}{σ:St}{H:Hp}{s:vF}(I:Inv X (pins++pl) σ H s):Inv X pins σ H s:=I.pins_of λp hp=>I.pin p (zQ _ (zV _ hp))
theorem q6x{iter:vX}{body:List vz}{wi:TI}{g:TG}{tb:TS}{pos:Pos}(hp:tO (model X.prog X.w) X.A X.env X.xe)(hc:X.calm=true)(hi:PI X tg iter wi)(hg:PG X tg g)(hb:PSs X body tb)(hs:∀x,v8 iter X.env x=pure x:=by intro _;rfl):PS X (.For tg iter body [] pos) (tFor wi g tb):=by
 intro pins s σ H D I h;refine wpAny_For (thn (hi pins s σ H _ I h) λv s1 h1=>thn h1 λitv s2 h2=>?_) hs;obtain⟨it,fp,tn,J,H2,e,I2,T,st2,f2,W,⟨m0,w0⟩,turn⟩:=h2;subst e;have stat:∀{H':Hp},(∀b∈fp,H' b=none)->∀b∈fp,WH X pins H' b:=λhn b hb=>⟨hn b hb,(f2 b hb).2⟩;refine codeAny_forLoop_any (λn s'=>∃i σ' H',Inv X pins σ' H' s'/\tn i s'.heap/\(∀b∈fp,H' b=none)/\W i n σ' H') ?_ m0 ⟨0,σ,H2,I2,st2,λb hb=>(f2 b hb).1,w0⟩;rintro n s3 ⟨i,σ3,H3,I3,st3,fr3,w3⟩;rcases turn i n σ3 H3 w3 with⟨stop,qn⟩|⟨go,N,hN,step⟩
 ·refine uR hp (thn (T.done X rfl rfl rfl hc i pins s3 σ3 H3 X.xe I3 (stat fr3) st3 stop) λr s4 ⟨hr,I4⟩=>?_)
  subst hr;exact u5 ⟨σ3,H3,I4,qn⟩
 ·refine uR hp (thn (T.item X rfl rfl rfl hc i pins s3 σ3 H3 X.xe I3 (stat fr3) st3 go) λr s4 ⟨u,hr,h4⟩=>?_)
  subst hr;refine uR hp (thn h4 λ_ s5 ⟨x,H5,I5,r5,y5,st5,fr5⟩=>?_);have I5':=I5.pinned (stat fr5) (T.obj _ _ st5);refine uR hp (thn (hg _ s5 σ3 H5 x u _ I5' r5 (step x H5 y5)) λ_ s6 ⟨σ6,H6,I6,q6⟩=>?_);refine uR hp (thn (hb _ s6 σ6 H6 _ I6 q6) λf s7 q7=>?_);have again:∀{σ7:St}{H7:Hp},Inv X (pins++zAI fp s5.heap) σ7 H7 s7->N σ7 H7->∃m,m<n/\∃i σ' H',Inv X pins σ' H' s7/\tn i s7.heap/\(∀b∈fp,H' b=none)/\W i m σ' H':=λ{σ7 H7} I7 n7=>by
   obtain⟨m',hm,w7⟩:=hN σ7 H7 n7;refine⟨m',hm,i+1,σ7,H7,I7.unpinned,T.keep _ _ _ st5 λb hb o e=>(I7.pin (b,o) (zQ _ (zQ _ (q20 hb e)))).1,λb hb=>?_,w7⟩;obtain⟨o,e,d⟩:=T.obj _ _ st5 b hb;exact(I7.pin (b,o) (zQ _ (zQ _ (q20 hb e)))).2.1
  cases f with
  | next=>obtain⟨σ7,H7,I7,n7⟩:=q7;exact again I7 n7
  | cont=>obtain⟨σ7,H7,I7,n7⟩:=q7;exact again I7 n7
  | brk=>obtain⟨σ7,H7,I7,q7⟩:=q7;exact⟨σ7,H7,I7.unpinned,q7⟩
  | ret v=>obtain⟨x7,σ7,H7,I7,r7,q7⟩:=q7;exact⟨x7,σ7,H7,I7.unpinned,r7,q7⟩
end
abbrev R2:=V->V->Hp->VK->Prop
def OpR(X:Cx)(f:vB->vB->Sem vB)(r:R2):Prop :=
 ∀(pins:List (vJ×Obj))(s:vF)(σ:St)(H:Hp)(x y:V)(v u:vB)(Q:VK),Inv X pins σ H s->RelV x v->RelV y u->r x y H Q ->
  vO (model X.prog X.w) X.A (f v u) (EP X pins σ Q) X.xe s
def UnR(X:Cx)(f:vB->Sem vB)(r:V->Hp->VK->Prop):Prop :=
 ∀(pins:List (vJ×Obj))(s:vF)(σ:St)(H:Hp)(x:V)(v:vB)(Q:VK),Inv X pins σ H s->RelV x v->r x H Q ->
  vO (model X.prog X.w) X.A (f v) (EP X pins σ Q) X.xe s
def X3(X:Cx)(f:vB)(r:List V->Hp->VK->Prop):Prop :=
 ∀(pins:List (vJ×Obj))(s:vF)(σ:St)(H:Hp)(xs:List V)(us:List vB)(Q:VK),Inv X pins σ H s->Yv xs us->r xs H Q ->
  vO (model X.prog X.w) X.A (call f us) (EP X pins σ Q) X.xe s
def TruR(X:Cx)(r:V->Hp->(Bool->Hp->Prop)->Prop):Prop :=
 ∀(pins:List (vJ×Obj))(s:vF)(σ:St)(H:Hp)(x:V)(v:vB)(Q:Bool->Hp->Prop),Inv X pins σ H s->RelV x v->r x H Q ->
  vO (model X.prog X.w) X.A (truthy v) (TP X pins σ Q) X.xe s
noncomputable def tOp(r:R2)(ta tb:TE):TE:=λσ H Q=>ta σ H λx H1=>tb σ H1 λy H2=>r x y H2 Q
noncomputable def tUn(r:V->Hp->VK->Prop)(ta:TE):TE:=λσ H Q=>ta σ H λx H1=>r x H1 Q
noncomputable def rI(C:Int->Int->Prop)(g:Int->Int->V):R2:=λx y H Q=>∃i j,x=.int i/\y=.int j/\C i j/\Q (g i j) H
noncomputable def rI0(g:Int->Int->V):R2:=λx y H Q=>∃i j,x=.int i/\y=.int j/\Q (g i j) H
def rU(g:Int->V):V->Hp->VK->Prop:=λx H Q=>∃i,x=.int i/\Q (g i) H
section
variable{X:Cx}{a b c:vX}{ta tb tc:TE}{pos:Pos}
theorem binT(ha:PE X a ta)(hb:PE X b tb){pins:List (vJ×Obj)}{s:vF}{σ:St}{H:Hp}{R:V->V->Hp->Prop}(I:Inv X pins σ H s)(h:ta σ H λx H1=>tb σ H1 λy H2=>R x y H2){Q:vB->vF->Prop}{f:vB->vB->Sem vB}(hf:∀v u s2 x y H2,Inv X pins σ H2 s2->RelV x v->RelV y u->R x y H2->vO (model X.prog X.w) X.A (f v u) Q X.xe s2):
  vO (model X.prog X.w) X.A (eval a X.env) (λv s₁=>vO (model X.prog X.w) X.A (eval b X.env) (λu s₂=>vO (model X.prog X.w) X.A (f v u) Q X.xe s₂) X.xe s₁) X.xe s:=by
 refine thn (ha pins s σ H _ I h) λv s1 ⟨x,H1,I1,r1,q1⟩=>?_;refine thn (hb pins s1 σ H1 _ I1 q1) λu s2 ⟨y,H2,I2,r2,q2⟩=>?_;exact hf v u s2 x y H2 I2 r1 r2 q2
theorem qhf{op:Operator}{r:R2}(ho:OpR X (uV op) r)(ha:PE X a ta)(hb:PE X b tb):PE X (.BinOp a op b pos) (tOp r ta tb):=by
 intro pins s σ H Q I h;exact wpAny_BinOp (binT ha hb I h λv u s2 x y H2 I2 rx ry q=>ho pins s2 σ H2 x y v u Q I2 rx ry q)
theorem qhh{op:UnaryOp}{r:V->Hp->VK->Prop}(ho:UnR X (unaryOp op) r)(ha:PE X a ta):PE X (.UnaryOp op a pos) (tUn r ta):=by
 intro pins s σ H Q I h;exact UnaryOp_ (thn (ha pins s σ H _ I h) λv s1 ⟨x,H1,I1,r1,q1⟩=>ho pins s1 σ H1 x v Q I1 r1 q1)
theorem opI{f:vB->vB->Sem vB}{C:Int->Int->Prop}{g:Int->Int->Int}(rule:∀(i j:Int)(t u:Tok)(s:vF)(Q:vB->vF->Prop)(E:vB->vF->Prop),C i j->Q (.int (g i j) s.toks) { s with toks:=s.toks+1 }->vO (model X.prog X.w) X.A (f (.int i t) (.int j u)) Q E s):
  OpR X f (rI C λi j=>.int (g i j)):=by
 intro pins s σ H x y v u Q I rx ry h;obtain⟨i,j,rfl,rfl,hc,q⟩:=h;obtain⟨t,rfl⟩:=rx;obtain⟨t',rfl⟩:=ry;exact rule i j t t' s _ _ hc ⟨.int (g i j),H,I.tok _,⟨_,rfl⟩,q⟩
theorem opI0{f:vB->vB->Sem vB}{g:Int->Int->Int}(rule:∀(i j:Int)(t u:Tok)(s:vF)(Q:vB->vF->Prop)(E:vB->vF->Prop),Q (.int (g i j) s.toks) { s with toks:=s.toks+1 }->vO (model X.prog X.w) X.A (f (.int i t) (.int j u)) Q E s):
  OpR X f (rI0 λi j=>.int (g i j)):=by
 intro pins s σ H x y v u Q I rx ry h;obtain⟨i,j,rfl,rfl,q⟩:=h;obtain⟨t,rfl⟩:=rx;obtain⟨t',rfl⟩:=ry;exact rule i j t t' s _ _ ⟨.int (g i j),H,I.tok _,⟨_,rfl⟩,q⟩
theorem opB0{f:vB->vB->Sem vB}{g:Int->Int->Bool}(rule:∀(i j:Int)(t u:Tok)(s:vF)(Q:vB->vF->Prop)(E:vB->vF->Prop),Q (.bool (g i j)) s->vO (model X.prog X.w) X.A (f (.int i t) (.int j u)) Q E s):
  OpR X f (rI0 λi j=>.bl (g i j)):=by
 intro pins s σ H x y v u Q I rx ry h;obtain⟨i,j,rfl,rfl,q⟩:=h;obtain⟨t,rfl⟩:=rx;obtain⟨t',rfl⟩:=ry;exact rule i j t t' s _ _ ⟨.bl (g i j),H,I,rfl,q⟩
def CDiv(i j:Int):Prop:=0<j/\j<1073741824
def CPow(i j:Int):Prop:=0<=j/\j<=1000000/\i.natAbs<2^64
def CMul(i j:Int):Prop:=(-(2^64)<i/\i<2^64)\/(-(2^64)<j/\j<2^64)
theorem CMul.ok{i j:Int}(h:CMul i j):IntMulOk i j:=by
 rcases h with⟨h1,h2⟩|⟨h1,h2⟩
 ·exact .of_left (intBits_le_64 h1 h2)
 ·exact .of_right (intBits_le_64 h1 h2)
theorem qh8:OpR X (uV .Add) (rI0 λi j=>.int (i+j)):=opI0 λ_ _ _ _ _ _ _ q=>add_int q
theorem qgy:OpR X (uV .Sub) (rI0 λi j=>.int (i-j)):=opI0 λ_ _ _ _ _ _ _ q=>sub_int q
theorem qgz:OpR X (uV .Mult) (rI CMul λi j=>.int (i*j)):=opI λ_ _ _ _ _ _ _ hc q=>mul_int q hc.ok
theorem qey:OpR X (uV .FloorDiv) (rI CDiv λi j=>.int (i/j)):=opI λi j _ _ _ _ _ hc q=>by
 have h1:(0:Int)<j:=hc.1;have h2:j<1073741824:=hc.2;exact floordiv_int ∅ (by rw[Int.fdiv_eq_ediv_of_nonneg i ∅];exact q) (.inl (PyProof.noPylong_small ∅))
theorem qfT:OpR X (uV .Mod) (rI (λ_ j=>0<j) λi j=>.int (i%j)):=opI λi j _ _ _ _ _ hc q=>by
 have h1:(0:Int)<j:=hc;exact mod_int' ∅ (by rw[Int.fmod_eq_emod_of_nonneg i ∅];exact q)
theorem qga:OpR X (uV .Pow) (rI CPow λi j=>.int (i^j.toNat)):=opI λ_ _ _ _ _ _ _ hc q=>pow_int_small hc.1 hc.2.1 hc.2.2 q
theorem unI{f:vB->Sem vB}{g:Int->Int}(rule:∀(i:Int)(t:Tok)(s:vF)(Q:vB->vF->Prop)(E:vB->vF->Prop),Q (.int (g i) s.toks) { s with toks:=s.toks+1 }->vO (model X.prog X.w) X.A (f (.int i t)) Q E s):
  UnR X f (rU λi=>.int (g i)):=by
 intro pins s σ H x v Q I rx h;obtain⟨i,rfl,q⟩:=h;obtain⟨t,rfl⟩:=rx;exact rule i t s _ _ ⟨.int (g i),H,I.tok _,⟨_,rfl⟩,q⟩
theorem qh3:UnR X (unaryOp .USub) (rU λi=>.int (-i)):=unI λ_ _ _ _ _ q=>neg_int q
end
section
variable{X:Cx}{a b c:vX}{ta tb tc:TE}{pos:Pos}
theorem qgA{pins:List (vJ×Obj)}{σ:St}{H:Hp}{s:vF}{Q:VK}{k k':Bool}(I:Inv X pins σ H s)(q:Q (.bl k) H)(e:k=k'):EP X pins σ Q (.bool k') s:=by
 subst e;exact⟨.bl k,H,I,rfl,q⟩
theorem qep:OpR X (uH .Lt) (rI0 λi j=>.bl (decide (i<j))):=opB0 λ_ _ _ _ _ _ _ q=>lt_int q
theorem qhk:OpR X (uH .LtE) (rI0 λi j=>.bl (decide (i<=j))):=opB0 λ_ _ _ _ _ _ _ q=>le_int q
theorem qhD:OpR X (uH .Gt) (rI0 λi j=>.bl (decide (j<i))):=opB0 λ_ _ _ _ _ _ _ q=>gt_int q
theorem qer:OpR X (uH .GtE) (rI0 λi j=>.bl (decide (j<=i))):=opB0 λ_ _ _ _ _ _ _ q=>ge_int q
theorem qgr:OpR X (uH .Is) (λx y H Q=>y=.non/\Q (.bl (decide (x=.non))) H):=by
 intro pins s σ H x y v u Q I rx ry h;obtain⟨rfl,q⟩:=h;cases ry;refine is_none_gen (qgA I q ?_);cases x <;> first
  | (cases rx;rfl)
  | (obtain⟨t,rfl⟩:=rx;rfl)
theorem OpR.or{f:vB->vB->Sem vB}{r r':R2}(h:OpR X f r)(h':OpR X f r'):OpR X f (λx y H Q=>r x y H Q\/r' x y H Q):=by
 intro pins s σ H x y v u Q I rx ry q;rcases q with q|q
 ·exact h pins s σ H x y v u Q I rx ry q
 ·exact h' pins s σ H x y v u Q I rx ry q
theorem Xl(b:vX){op:sO}(h:op≠.In:=by decide)(h2:op≠.NotIn:=by decide):uE op b=false:=by
 have e1:(op==CmpOp.In)=false:=by cases op <;> first|rfl|exact vP rfl h
 have e2:(op==CmpOp.NotIn)=false:=by cases op <;> first|rfl|exact vP rfl h2
 cases b <;> simp[uE,e1,e2]
theorem qeN{op:sO}{r:R2}(ho:OpR X (uH op) r)(ha:PE X a ta)(hb:PE X b tb)(hm:uE op b=false):PE X (.Compare a [op] [b] pos) (tOp r ta tb):=by
 intro pins s σ H Q I h;exact wpAny_Compare1 (binT ha hb I h λv u s2 x y H2 I2 rx ry q=>ho pins s2 σ H2 x y v u Q I2 rx ry q) hm
noncomputable def tTest(t:TE):TT:=λσ H Q=>t σ H λx H'=>∃k,x=.bl k/\Q k H'
theorem qf4{op:sO}{r:R2}(ho:OpR X (uH op) r)(ha:PE X a ta)(hb:PE X b tb)(hm:uE op b=false):PT X (.Compare a [op] [b] pos) (tTest (tOp r ta tb)):=by
 intro pins s σ H Q I h;refine tW (thn (ha pins s σ H _ I h) λv s1 ⟨x,H1,I1,r1,q1⟩=>thn (hb pins s1 σ H1 _ I1 q1) λu s2 ⟨y,H2,I2,r2,q2⟩=>
  thn (ho pins s2 σ H2 x y v u _ I2 r1 r2 q2) λc s3 ⟨z,H3,I3,r3,k,e,q3⟩=>?_) hm
 subst e;cases r3;exact uI ⟨H3,I3,q3⟩
def TruV(K:zA)(x:V)(H:Hp)(k:Bool):Prop :=
 match x with
 | .non=>k=false
 | .bl b=>k=b
 | .int i=>k=(i != 0)
 | .str y=>y.length<=sizeLine/\k=((y.length:Int) != 0)
 | .byt y=>y.size<=sizeLine/\k=((y.size:Int) != 0)
 | .ref p=>(∃xs,SqL K H p xs/\k=!xs.isEmpty)\/(∃xs,SqT K H p xs/\k=!xs.isEmpty)\/∃kvs,H p=some (.dK kvs)/\k=!kvs.isEmpty
 | _=>False
theorem qaU{κ:Type}{kvs:List (κ×V)}{vs:List (κ×vB)}(r:KV kvs vs):(!vs.isEmpty)=!kvs.isEmpty:=by
 cases r <;> rfl
theorem q6G{xs:List V}{its:List vB}(r:Yv xs its):(!its.toArray.isEmpty)=!xs.isEmpty:=by
 cases r <;> simp
theorem Wm:(sizeLine:Nat)<2^63:=by rw[vh];decide
theorem qh4:TruR X (λx H Q=>∃k,TruV X.K x H k/\Q k H):=by
 intro pins s σ H x v Q I rx h;obtain⟨k,e,q⟩:=h;have hl:=Wm;have hs:sizeLine=16777216:=vh;cases x with
 | non=>
  cases rx;have e':k=false:=e;subst e';exact truthy_none ⟨H,I,q⟩
 | bl b=>
  cases rx;have e':k=b:=e;subst e';exact uI ⟨H,I,q⟩
 | int i=>
  obtain⟨t,rfl⟩:=rx;have e':k=(i != 0):=e;subst e';exact PySem.P.truthy_int ⟨H,I,q⟩
 | str y=>
  obtain⟨t,rfl⟩:=rx;obtain⟨hy,e'⟩:y.length<=sizeLine/\k=((y.length:Int) != 0):=e;subst e';exact PySem.P.truthy_str ∅ ⟨H,I.tok _,q⟩
 | byt y=>
  obtain⟨t,rfl⟩:=rx;obtain⟨hy,e'⟩:y.size<=sizeLine/\k=((y.size:Int) != 0):=e;subst e';exact PySem.W.truthy_bytes ∅ ⟨H,I.tok _,q⟩
 | ref p=>
  cases rx;have e':(∃xs,SqL X.K H p xs/\k=!xs.isEmpty)\/(∃xs,SqT X.K H p xs/\k=!xs.isEmpty)\/∃kvs,H p=some (.dK kvs)/\k=!kvs.isEmpty:=e;rcases e' with⟨xs,hx,e'⟩|⟨xs,hx,e'⟩|⟨kvs,hx,e'⟩
  ·subst e'
   obtain⟨its,r,pl,hz⟩:=I.list hx;have hlen:=r.length;exact wpAny_truthy_list pl.isList (by simp only[zP];omega) ⟨H,I.tok _,by rw[q6G r];exact q⟩
  ·subst e'
   obtain⟨its,r,pl,hz⟩:=I.tuple hx;have hlen:=r.length;exact truthy_tuple pl (by simp only[zP];omega) ⟨H,I.tok _,by rw[q6G r];exact q⟩
  ·subst e'
   obtain⟨hz,hS,vs,r,m⟩:kvs.length<=sizeLine/\(p==uJ)=false/\∃vs,KV kvs vs/\s.heap.DictOf (Yw X.prog X.w) p vs:=I.hok p _ hx;have hlen:kvs.length=vs.length:=Paired.length r;exact wpAny_truthy_dict hS m ∅ ⟨H,I.tok _,by rw[qaU r];exact q⟩
 | _=>exact(show False from e).elim
theorem q3u(ha:PE X a ta)(he:∀whole,sU a X.env whole=(do let v <- whole;standAt a.pos;holding [v] (truthy v))):
  PT X a (λσ H Q=>ta σ H λx H'=>∃k,TruV X.K x H' k/\Q k H'):=by
 intro pins s σ H Q I h;exact isTrue_plain (thn (ha pins s σ H _ I h) λv s1 ⟨x,H1,I1,r1,q1⟩=>qh4 pins s1 σ H1 x v Q I1 r1 q1) (he _)
theorem vals1{x:V}{us:List vB}(r:Yv [x] us):∃u,us=[u]/\RelV x u:=by
 cases r with
 | cons r1 r2=>cases r2;exact⟨_,rfl,r1⟩
theorem vals2{x y:V}{us:List vB}(r:Yv [x,y] us):∃u w',us=[u,w']/\RelV x u/\RelV y w':=by
 cases r with
 | cons r1 r2=>
  cases r2 with
  | cons r3 r4=>cases r4;exact⟨_,_,rfl,r1,r3⟩
theorem qdX:X3 X (.builtin "abs") (λxs H Q=>∃i,xs=[.int i]/\Q (.int (if i<0 then -i else i)) H):=by
 intro pins s σ H xs us Q I r h;obtain⟨i,rfl,q⟩:=h;obtain⟨u,rfl,t,rfl⟩:=vals1 r;exact call_abs_int λu tk=>⟨.int (if i<0 then -i else i),H,I.tok _,⟨_,rfl⟩,q⟩
end
structure ObjM (h:vj) (x dx C:vJ) (mA:Str->Option vB):Prop where
 obj:h.get? x=some (Ze C dx)
 ns:h.Ns1 dx mA
 ne:dx≠x
theorem qc2{h:vj}{dx:vJ}{mA:Str->Option vB}(n:h.Ns1 dx mA):∃od,h.get? dx=some od/\∀name,Zo name od=some (mA name):=by
 obtain⟨o,es,ep,ho,hd,hk,_,hm⟩:=n;refine⟨o,ho,λname=>?_⟩;have e:=hm name;unfold nsFind findBy at e;rw[<- Array.find?_toList]at e;unfold Zo;rw[hd]
 dsimp only
 split
 ·rename_i y q
  rw[q]at e;exact v9 some e
 ·rename_i q
  rw[q]at e;have a:es.toList.any (·.refKey)=false:=by
   rw[List.any_eq_false];intro y hy;obtain⟨z,t,hkey⟩:=hk y (Array.mem_toList_iff.mp hy);simp[DictEntry.refKey,hkey]
  have a':¬es.toList.any (·.refKey)=true:=by rw[a];exact yH
  rw[vG a'];exact v9 some e
theorem ObjM.look{h:vj}{x dx C:vJ}{mA:Str->Option vB}(I:ObjM h x dx C mA):∃od,PySem.W.InstAt h x (Ze C dx) C (some od)/\∀name,Zo name od=some (mA name) :=
 let ⟨od,ho,hl⟩:=qc2 I.ns
 ⟨od,⟨I.obj,rfl,rfl,ho⟩,hl⟩
section
variable{prog:vW}{w:vZ}{A:ve}{E:vB->vF->Prop}{s:vF}{K:zA}{x dx C f:vJ}{mA:Str->Option vB}{name:Str}{v:vB}
end
theorem zAw.some_of{v:V}{o:Option vB}(r:zAw (some v) o):∃u,o=some u/\RelV v u:=by
 cases o with
 | none=>exact(show False from r).elim
 | some u=>exact⟨u,rfl,r⟩
section
variable{P:vW}{w:vZ}{H H':Hp}{h h':vj}{a C dx:vJ}{fs fs':List (Str×V)}
theorem qfh(hok:HOk P w H h)(e:H a=some (.ins C dx fs)):∃mA,ObjM h a dx C mA/\(∀f,zAw (fs.lookup f) (mA f))/\PySem.Within mA (fs.map (·.1))/\fs.length<=1000/\H dx=some (.own a):=by
 obtain⟨d,z,ne,ob,mA,n,r,q⟩:=(show Y2 P w H h a (.ins C dx fs)from hok a _ e);exact⟨mA,⟨ob,n,ne⟩,r,q,z,d⟩
end
structure Cls (K:zA) (C:vJ):Prop where
 pg:YF K C Str.empty=true
 hd:PySem.W.hasDictIn K C=true
 po:PySem.W.plainOver K C=true
 sa:YR K (.ref C) "__setattr__" = some (some (.builtin "object.__setattr__"))
theorem Cls.get{K:zA}{C:vJ}(c:Cls K C)(f:Str):YF K C f=true:=c.pg
section
variable{X:Cx}{pins:List (vJ×Obj)}{σ:St}{H:Hp}{s:vF}{a C dx:vJ}{fs:List (Str×V)}{f:Str}{v:V}{A:ve}{E:vB->vF->Prop}
end
section
variable{X:Cx}{o e value:vX}{f:Str}{pos pos' tpos:Pos}{ta tv:TE}
end
section
variable{X:Cx}{pins:List (vJ×Obj)}{σ:St}{H:Hp}{s:vF}{A:ve}{E:vB->vF->Prop}{Q:vB->vF->Prop}{c:vB}{b:Bool}
inductive TyOf (K:zA) (H:Hp):V->vB->Prop where
 | non:TyOf K H .non (.type "NoneType")
 | bl (x:Bool):TyOf K H (.bl x) (.type "bool")
 | int (i:Int):TyOf K H (.int i) (.type "int")
 | str (x:Str):TyOf K H (.str x) (.type "str")
 | flt (x:UInt64):TyOf K H (.flt x) (.type "float")
 | lst {a:vJ} {xs:List V} (e:H a=some (.lst xs)):TyOf K H (.ref a) (.type "list")
 | frz {a:vJ} {o:Obj} {xs:List V} (e:H a=some (.frz o (.lst xs))):TyOf K H (.ref a) (.type "list")
 | tup {a:vJ} {xs:List V} (e:H a=some (.tup xs)):TyOf K H (.ref a) (.type "tuple")
 | dK {a:vJ} {kvs:List (Key×V)} (e:H a=some (.dK kvs)):TyOf K H (.ref a) (.type "dict")
 | dT {a:vJ} {kvs:List (List Key×V)} (e:H a=some (.dT kvs)):TyOf K H (.ref a) (.type "dict")
 | ins {a C dx:vJ} {fs:List (Str×V)} (e:H a=some (.ins C dx fs)) (cl:Cls K C) (ha:YR K (.ref C) "__class__" = some (some (.builtin "object.__class__")))
   (hn:PySem.W.specialIn K (.builtin "object.__class__") "__get__" = some (some (.builtin "getset_descriptor.__get__"))) (htk:PySem.W.takesIn K (.builtin "object.__class__")=some true)
   (hm:PySem.W.mroIn K C (.type "object")=some true):TyOf K H (.ref a) (.ref C)
theorem qcN{x:V}{u t:vB}(I:Inv X pins σ H s)(rx:RelV x u)(ty:TyOf X.K H x t)(e:Zp X.K t c=some b)(h:∀tk,Q (.bool b) { s with toks:=tk }):
  vO (model X.prog X.w) A (call (.builtin "isinstance") [u,c]) Q E s:=by
 cases ty with
 | non=>cases (show u=Value.none from rx);exact yk PySem.W.kitx_none I.kIn True.intro e (λz=>nomatch z) h
 | bl y=>cases (show u=Value.bool y from rx);exact yk PySem.W.kitx_bool I.kIn True.intro e (λz=>nomatch z) h
 | int i=>obtain⟨t,q⟩:=(show ∃t,u=Value.int i t from rx);cases q;exact yk PySem.W.kitx_int I.kIn True.intro e (λz=>nomatch z) h
 | str y=>obtain⟨t,q⟩:=(show ∃t,u=Value.str y t from rx);cases q;exact yk PySem.W.kitx_str I.kIn True.intro e (λz=>nomatch z) h
 | flt y=>obtain⟨t,q⟩:=(show ∃t,u=Value.float y t from rx);cases q;exact yk PySem.W.kitx_float I.kIn True.intro e (λz=>nomatch z) h
 | @lst a xs ea=>
  cases (show u=Value.ref a from rx);obtain⟨_,_,n,_,h1⟩:=(show Y2 X.prog X.w H s.heap a (.lst xs)from I.hok a _ ea);exact yk Z3 I.kIn ⟨_,h1,rfl⟩ e (λz=>nomatch z) h
 | @frz a ob xs ea=>
  cases (show u=Value.ref a from rx);obtain⟨_,_,_,n,_,h1⟩:=(show Y2 X.prog X.w H s.heap a (.frz ob (.lst xs))from I.hok a _ ea);exact yk Z3 I.kIn ⟨_,h1,rfl⟩ e (λz=>nomatch z) h
 | @tup a xs ea=>
  cases (show u=Value.ref a from rx);obtain⟨_,_,_,p⟩:=(show Y2 X.prog X.w H s.heap a (.tup xs)from I.hok a _ ea);obtain⟨o,h1,h2,_⟩:=p;exact yk PySem.W.kitx_tuple I.kIn ⟨o,h1,h2⟩ e (λz=>nomatch z) h
 | @dK a kvs ea=>
  cases (show u=Value.ref a from rx);obtain⟨_,_,vs,_,p⟩:=(show Y2 X.prog X.w H s.heap a (.dK kvs)from I.hok a _ ea);obtain⟨o,es,ep,h1,h2,_⟩:=p;exact yk Z4 I.kIn ⟨o,h1,h2.1⟩ e (λz=>nomatch z) h
 | @dT a kvs ea=>
  cases (show u=Value.ref a from rx);obtain⟨_,_,xs,_,o,es,ep,h1,h2,_⟩:=(show Y2 X.prog X.w H s.heap a (.dT kvs)from I.hok a _ ea);exact yk Z4 I.kIn ⟨o,h1,h2.1⟩ e (λz=>nomatch z) h
 | @ins a C dx fs ea cl ha hn htk hm=>
  cases (show u=Value.ref a from rx);obtain⟨mA,O,_⟩:=qfh I.hok ea;obtain⟨od,J,_⟩:=O.look;exact yk (PySem.W.kitx_own (cl.get _) cl.hd ha hn htk hm) I.kIn J e (λz=>nomatch z) h
end
structure Room (k:Nat) (A:ve):Prop where
 hd:A.handled=none
 dp:A.depth+3*k+5<recursionLimit
 un:A.units+16*k+200<ui
theorem Room.mono{j k:Nat}{A:ve}(r:Room k A)(h:j<=k):Room j A:=⟨r.hd,by have:=r.dp;omega,by have:=r.un;omega⟩
theorem Room.deeper{k:Nat}{A:ve}(r:Room (k+1) A)(env:Env):Room k (A.deeper env) :=
 ⟨r.hd,by have:=r.dp;show A.depth+1+3*k+5<_;omega,by have:=r.un;show A.units+3+16*k+200<_;omega⟩
theorem Room.in1{k:Nat}{A:ve}(r:Room (k+1) A):Room k A.in1 :=
 ⟨r.hd,by have:=r.dp;show A.depth+3*k+5<_;omega,by have:=r.un;show A.units+1+16*k+200<_;omega⟩
theorem Room.depth{k:Nat}{A:ve}(r:Room k A):A.depth<recursionLimit:=by have:=r.dp;omega
theorem Room.units{k:Nat}{A:ve}(r:Room k A):A.units+64<ui:=by have:=r.un;omega
noncomputable def zAU:TA:=λ_ H Q=>Q [] H
noncomputable def Wb(ta:TE)(tr:TA):TA:=λσ H Q=>ta σ H λx H1=>tr σ H1 λxs H2=>Q (x::xs) H2
section
variable{X:Cx}{e:vX}{es:List vX}{te:TE}{t:TA}{pos:Pos}
theorem qr:PA X [] zAU:=λ_ _ _ _ H Q I h=>Calls.spliced_nil ⟨[],H,I,.nil,h⟩
theorem qt(ha:PE X e te)(hr:PA X es t)(hs:vK (e::es) X.env=(false,eval e X.env)::vK es X.env:=by rfl):PA X (e::es) (Wb te t):=by
 intro pos pins s σ H Q I h;rw[hs];show vO _ _ (spliced ((false,eval e X.env)::vk pos (vK es X.env))) _ _ s;refine Calls.spliced_cons (thn (ha pins s σ H _ I h) λu s1 ⟨x,H1,I1,r1,q1⟩=>?_);exact thn (hr pos pins s1 σ H1 _ I1 q1) λus s2 ⟨xs,H2,I2,r2,q2⟩=>⟨x::xs,H2,I2,.cons r1 r2,q2⟩
noncomputable def tTup(t:TA):TE:=λσ H Q=>t σ H λxs H1=>xs.length<=sizeLine/\∀p,H1 p=none->Q (.ref p) (upd H1 p (.tup xs))
noncomputable def zCY(t:TA):TE:=λσ H Q=>t σ H λxs H1=>xs.length<=sizeLine/\∀p,H1 p=none->Q (.ref p) (upd H1 p (.lst xs))
theorem qgw{x1}(h:PA X es t):PE X (.Tuple es x1 pos) (tTup t):=by
 intro pins s σ H Q I hq;refine wpAny_Tuple_spliced (thn (h pos pins s σ H _ I hq) λus s1 ⟨xs,H1,I1,r,z,q⟩=>⟨by rw[<- r.length];exact z,?_⟩);have hf:H1 s1.heap.objs.size=none:=I1.hok.fresh (zK _);refine⟨.ref s1.heap.objs.size,upd H1 s1.heap.objs.size (.tup xs),I1.laid (t':=s1.toks) (λb u e=>zE _ e) (zK _) ?_,rfl,q _ hf⟩;exact⟨z,us,r,⟨_,zR _ rfl,rfl,_,rfl⟩⟩
theorem q2b(h:PA X es t):PE X (.List es pos) (zCY t):=by
 intro pins s σ H Q I hq;refine wpAny_List_spliced (thn (h pos pins s σ H _ I hq) λus s1 ⟨xs,H1,I1,r,z,q⟩=>⟨by rw[<- r.length];exact z,?_⟩);have hf:H1 s1.heap.objs.size=none:=I1.hok.fresh (zK _);refine⟨.ref s1.heap.objs.size,upd H1 s1.heap.objs.size (.lst xs),I1.laid (t':=s1.toks) (λb u e=>zE _ e) (zK _) ?_,rfl,q _ hf⟩;exact⟨z,us,0,r,zR _ rfl⟩
end
abbrev Sp:=List V->Hp->VK->XK->Prop
abbrev CXT:=List Env->Hp->vF->XK->vB->vF->Prop
structure Env0 (P:vW) (w:vZ) (K:zA) (mg:Str->Option vB) (base:vj) (A:ve) (outer:List Env) (s:vF) (H:Hp):Prop where
 frames:A.frames=some outer
 mod:Mod K mg base
 bs:∀b o,base.get? b=some o->s.heap.get? b=some o/\H b=none
 bsz:base.objs.size<=s.heap.objs.size
 funs:s.heap.FunFrames base outer
 frf:∀b∈frs outer,H b=none
 hok:HOk P w H s.heap
 bare:tJ s.gens
def CE(outer:List Env)(P:vW)(w:vZ)(H:Hp)(s:vF)(Q:VK)(u:vB)(s':vF):Prop :=
 ∃v H',s'.os=s.os/\tJ s'.gens/\Un (frs outer) [] H H' s.heap s'.heap/\HOk P w H' s'.heap/\RelV v u/\Q v H'
def CR(CX:CXT)(outer:List Env)(P:vW)(w:vZ)(H:Hp)(s:vF)(Q:VK)(E:XK)(r:sC)(s':vF):Prop :=
 match r with
 | .ok (.ret u)=>CE outer P w H s Q u s'
 | .ok _=>False
 | .error e=>CX outer H s E e s'
structure FnOk (P:vW) (w:vZ) (K:zA) (mg:Str->Option vB) (base:vj) (CX:CXT) (k:Nat) (f:vJ) (fd:vQ) (ps:List Str) (sp:Sp):Prop where
 len:∀vs H Q E,sp vs H Q E->vs.length=ps.length
 run:∀(A:ve)(outer:List Env)(s:vF)(H:Hp)(args:Args)(us:List vB)(vs:List V)(Q:VK)(E:XK),Room k A->Env0 P w K mg base A outer s H->sG s fd args (ps.zip us)->Yv vs us->sp vs H Q E ->
  uc (model P w) A (.call (.ref f) args) (CR CX outer P w H s Q E) s
theorem Env0.in1{P:vW}{w:vZ}{K:zA}{mg:Str->Option vB}{base:vj}{A:ve}{outer:List Env}{s:vF}{H:Hp}(e:Env0 P w K mg base A outer s H):
  Env0 P w K mg base A.in1 outer s H:=⟨e.frames,e.mod,e.bs,e.bsz,e.funs,e.frf,e.hok,e.bare⟩
section
variable{X:Cx}{pins:List (vJ×Obj)}{σ:St}{H:Hp}{s s':vF}
theorem Inv.env0(I:Inv X pins σ H s):Env0 X.prog X.w X.K X.mg X.base X.A X.stack s H :=
 ⟨I.ok.frames,I.ok.mod,I.bs,yJ I.ok.bsz I.sz,I.stack,I.stkFree,I.hok,I.bare⟩
theorem Inv.after{Q:VK}{u:vB}(I:Inv X pins σ H s)(h:CE X.stack X.prog X.w H s Q u s'):EP X pins σ Q u s':=by
 obtain⟨v,H',os,bare,un,hok,r,q⟩:=h;obtain⟨hh,g,d,t,os'⟩:=s';obtain rfl:os'=s.os:=os;exact⟨v,H',I.call (h':=hh) (g':=g) (d':=d) (t':=t) (ch:=[]) un hok bare (λb z=>vP z (by simp)),r,q⟩
end
noncomputable def tCall(sp:Sp)(dvs:List V)(E:XK)(t:TA):TE:=λσ H Q=>t σ H λvs H1=>sp (vs++dvs) H1 Q E
def Binds(K:zA)(fd:vQ)(ps:List Str)(ds:List vB):Prop :=
 ∀(s:vF)(us:List vB),K.In s.heap->(us++ds).length=ps.length->sG s fd ⟨us,[]⟩ (ps.zip (us++ds))
theorem Binds.all{K:zA}{fd:vQ}{ps:List Str}(h:∀us:List vB,us.length=ps.length->bindArgs fd ⟨us,[]⟩=pure (ps.zip us)):Binds K fd ps []:=λs us _ hl=>by
 rw[zn]at hl ⊢;exact .of_eq (h us hl)
def zAW(CX:CXT)(X:Cx)(E:XK):Prop:=∀(pins:List (vJ×Obj))(σ:St)(H:Hp)(s:vF)(e:vB)(s':vF),Inv X pins σ H s->CX X.stack H s E e s'->X.xe e s'
section
variable{X:Cx}{CX:CXT}{k:Nat}{f C:vJ}{fd:vQ}{ps:List Str}{sp:Sp}{dvs:List V}{ds:List vB}{E:XK}{x m:Str}{p pos apos:Pos}{e o:vX}{es:List vX}{ta:TE}{t:TA}
theorem qg3{pins:List (vJ×Obj)}{σ:St}{H:Hp}{s:vF}{Q:VK}{us:List vB}{vs:List V}(F:FnOk X.prog X.w X.K X.mg X.base CX k f fd ps sp)(hr:Room k X.A)(hb:Binds X.K fd ps ds)(hd:Yv dvs ds)(hx:zAW CX X E)(I:Inv X pins σ H s)(r:Yv vs us)(h:sp (vs++dvs) H Q E):vO (model X.prog X.w) X.A (call (.ref f) us) (EP X pins σ Q) X.xe s:=by
 have r2:Yv (vs++dvs) (us++ds):=r.append hd;have hl:(us++ds).length=ps.length:=by rw[<- r2.length];exact F.len _ _ _ _ h
 refine wpAny_call (uf (F.run X.A X.stack s H ⟨us,[]⟩ (us++ds) (vs++dvs) Q E hr I.env0 (hb s us I.kIn hl) r2 h) λr s' hq=>?_);cases r with
 | error e=>exact hx pins σ H s e s' I hq
 | ok fl=>
  cases fl with
  | ret u=>exact I.after hq
  | next=>exact False.elim hq
  | brk=>exact False.elim hq
  | cont=>exact False.elim hq
theorem qaM(F:FnOk X.prog X.w X.K X.mg X.base CX k f fd ps sp)(hr:Room k X.A)(hg:Gl X x)(hm:X.mg x=some (.ref f))(hk:xh X.K (.ref f)=true)(hb:Binds X.K fd ps ds)(hd:Yv dvs ds)(hx:zAW CX X E)(ha:PA X (e::es) t)(hdb:(x==("__debug__" : Str))=false:=by decide)(he:vK (e::es) X.env=(false,eval e X.env)::vK es X.env:=by rfl)(hpl:(vk pos (vK es X.env)).any (·.1)=false:=by rfl):
  PE X (.Call (.Name x p) (e::es) [] pos) (tCall sp dvs E t):=by
 intro pins s σ H Q I h;refine v3 (qan I hg hm ?_ hdb);refine PySem.W.callWith_K (h₀:=X.base) I.ok.mod.kin hk (thn (ha pos pins s σ H _ I h) λus s1 ⟨vs,H1,I1,r,q⟩=>⟨I1.kIn,?_⟩) he hpl;exact qg3 F hr hb hd hx I1 r q
end
def PK(X:Cx)(kws:List uP)(t:TA):Prop :=
 ∀(pos:Pos)(pins:List (vJ×Obj))(s:vF)(σ:St)(H:Hp)(Q:List V->Hp->Prop),Inv X pins σ H s->t σ H Q->vO (model X.prog X.w) X.A (evalAll ((uN pos (v4 kws X.env)).map (·.2))) (AP X pins σ Q) X.xe s
section
variable{X:Cx}{CX:CXT}{k:Nat}{f C:vJ}{fd:vQ}{ps ks:List Str}{sp:Sp}{E:XK}{x m:Str}{p pos apos kpos:Pos}{e o:vX}{es:List vX}{kws:List uP}{te ta:TE}{t tk:TA}{nm:Option Str}
theorem qgc:PK X [] zAU:=λ_ _ _ _ H Q I h=>wpAny_evalAll_nil ⟨[],H,I,.nil,h⟩
theorem qfl(ha:PE X e te)(hr:PK X kws t):PK X (⟨nm,e,kpos⟩::kws) (Wb te t):=by
 intro pos pins s σ H Q I h;show vO _ _ (evalAll ((do let v <- eval e X.env;standAt pos;pure v)::(uN pos (v4 kws X.env)).map (·.2))) _ _ s;refine wpAny_evalAll_cons (vA (thn (ha pins s σ H _ I h) λu s1 ⟨x,H1,I1,r1,q1⟩=>vA (t8 (vH ?_))));exact thn (hr pos pins s1 σ H1 _ I1 q1) λus s2 ⟨xs,H2,I2,r2,q2⟩=>⟨x::xs,H2,I2,.cons r1 r2,q2⟩
variable{g:List vB->List vB->List vB}{gV:List V->List V->List V}
end
structure FnScope (N P:List Str) (sc:uw):Prop where
 kind:sc.kind=.function
 co:sc.isCoroutine=false
 gen:sc.isGenerator=false
 nd:N.Nodup
 pre:N.take P.length=P
 par:∀x∈P,sc.names.lookup x=some .local\/sc.names.lookup x=some .cell
 nofree:∀y∈sc.names,y.2≠.free
theorem q7F{kindOf:Str->Option ua}{x:Str}:∀{binds:List (Str×vB)}{m:Str->Option vB},(∀v,(x,v)∉binds)->bindL kindOf binds m x=m x
 | [],_,_=>rfl
 | (n,v)::r,m,h=>by
  unfold bindL;rw[q7F λw hw=>h w (zH _ hw)]
  split
  ·have:x≠n:=by rintro rfl;exact h v zG
   simp[this]
  ·rfl
theorem q7O{kindOf:Str->Option ua}{x:Str}:∀{binds:List (Str×vB)}{m:Str->Option vB},(∀v,(x,v)∉binds)->bindC kindOf binds m x=m x
 | [],_,_=>rfl
 | (n,v)::r,m,h=>by
  unfold bindC;rw[q7O λw hw=>h w (zH _ hw)]
  split
  ·rfl
  ·have:x≠n:=by rintro rfl;exact h v zG
   simp[this]
theorem q7X{kindOf:Str->Option ua}{x:Str}{v:vB}:∀{P:List Str}{vs:List vB}{i:Nat}{m:Str->Option vB},P.Nodup->P[i]?=some x->vs[i]?=some v->kindOf x=some .local ->
  bindL kindOf (P.zip vs) m x=some v
 | [],_,_,_,_,h,_,_=>by simp at h
 | _::_,[],_,_,_,_,h,_=>by simp at h
 | p::P,w::vs,0,m,nd,h1,h2,hk=>by
  simp at h1 h2;subst h1;subst h2;show bindL kindOf ((p,w)::P.zip vs) m p=_;unfold bindL;rw[q7F λv hv=>(yN.mp nd).1 (Zf hv).1,vC hk];simp
 | p::P,w::vs,i+1,m,nd,h1,h2,hk=>by
  show bindL kindOf ((p,w)::P.zip vs) m x=_;unfold bindL;exact q7X (i:=i) (yN.mp nd).2 ⇑h1 ⇑h2 hk
theorem q7V{kindOf:Str->Option ua}{x:Str}{v:vB}:∀{P:List Str}{vs:List vB}{i:Nat}{m:Str->Option vB},P.Nodup->P[i]?=some x->vs[i]?=some v->kindOf x≠some .local ->
  bindC kindOf (P.zip vs) m x=some v
 | [],_,_,_,_,h,_,_=>by simp at h
 | _::_,[],_,_,_,_,h,_=>by simp at h
 | p::P,w::vs,0,m,nd,h1,h2,hk=>by
  simp at h1 h2;subst h1;subst h2;show bindC kindOf ((p,w)::P.zip vs) m p=_;unfold bindC;rw[q7O λv hv=>(yN.mp nd).1 (Zf hv).1,vG hk];simp
 | p::P,w::vs,i+1,m,nd,h1,h2,hk=>by
  show bindC kindOf ((p,w)::P.zip vs) m x=_;unfold bindC;exact q7V (i:=i) (yN.mp nd).2 ⇑h1 ⇑h2 hk
noncomputable def start(N:List Str)(vs:List V):St:=vs.map some++zj (N.length-vs.length) none
noncomputable def zBg(CX:CXT)(P:vW)(w:vZ)(K:zA)(mg:Str->Option vB)(base:vj)(N:List Str)(qual:Str)(scope:uw)(f:vJ)(cd:vB)(A:ve)(outer:List Env)(s:vF)(H:Hp)(E:XK):Cx where
 prog:=P
 w:=w
 K:=K
 mg:=mg
 base:=base
 A:=A.deeper (tf qual scope s.heap.objs.size f cd)
 N:=N
 s₀:=s
 H₀:=H
 env:=tf qual scope s.heap.objs.size f cd
 outer:=outer
 stack:=tf qual scope s.heap.objs.size f cd::outer
 ex:=[]
 calm:=true
 fn:=λ_=>true
 pn:=[]
 xe:=λe s'=>vO (model P w) (A.deeper (tf qual scope s.heap.objs.size f cd)) (leaving (tf qual scope s.heap.objs.size f cd) e) (λ_ s''=>CX outer H s E e s'') (λe' s''=>CX outer H s E e' s'') s'
theorem q8T{sc:uw}{n:Nat}{x:Str}(h:sc.names.lookup x=some .cell):∃c,(cellsFrom n sc.names []).lookup x=some c:=by
 have q:=ZX sc.names n [] (.inl h);exact yp.mp q
theorem qbz{CX:CXT}{P:vW}{w:vZ}{K:zA}{mg:Str->Option vB}{base:vj}{N ps:List Str}{qual:Str}{scope:uw}{f:vJ}{cd:vB}{A:ve}{outer:List Env}{s s1:vF}{H:Hp}{E:XK}{us:List vB}{vs:List V}(S:FnScope N ps scope)(hd:A.handled=none)(e0:Env0 P w K mg base A outer s H)(hl:vs.length=ps.length)(r:Yv vs us)(x:InCallC s s.heap.objs.size (bindL (tf qual scope s.heap.objs.size f cd).kindOf (ps.zip us) λ_=>none) (cellsFrom (s.heap.objs.size+1) scope.names []) (bindC (tf qual scope s.heap.objs.size f cd).kindOf (ps.zip us) λ_=>none) s1):
  Inv (zBg CX P w K mg base N qual scope f cd A outer s H E) [] (start N vs) H s1:=by
 have hpl:ps.length<=N.length:=by have:=v9 xj S.pre;rw[zf]at this;omega
 obtain⟨h1,tk,rfl,hk⟩:=x.done;have noA:∀b:vJ,b∉(zBg CX P w K mg base N qual scope f cd A outer s H E).ex:=λb z=>vP (show b∈([]:List vJ)from z) (by simp);refine⟨⟨e0.mod,S.kind,rfl,rfl,zK _,λy z c h1 h2=>?_,λy hy=>?_,λy c _ h=>?_,λ_=>hd,Around.frames_deeper e0.frames,.inr ⟨rfl,rfl⟩,λb z=>vP z (noA b),e0.bs,e0.bsz,λb _ _=>noA b,λb z=>vP z (noA b),e0.funs,e0.frf⟩,
  rfl,e0.bare,Un.kept hk,⟨_,x.toInCall.ns,λi y v h1 h2 h3=>?_⟩,λy c h=>⟨_,x.cell y c h⟩,e0.hok.fresh (zK _),λy c h=>?_,λp hp=>vP (show p∈([]:List (vJ×Obj))from hp) (by simp),e0.hok.kept hk,?_⟩
 ·exact name_of_addr x.apart (PySem.mem_of_lookup h1) (PySem.mem_of_lookup h2)
 ·have hy:scope.names.lookup y=some .cell\/scope.names.lookup y=some .free:=hy
  rcases hy with hy|hy
  ·exact q8T hy
  ·exact vP rfl (S.nofree _ (PySem.mem_of_lookup hy))
 ·exact yU (x.above y c (PySem.mem_of_lookup h))
 ·have hi:i<vs.length:=by
   unfold start at h2
   by_cases hi:i<vs.length
   ·exact hi
   ·rw[zX ⇑hi]at h2
    rw[yr]at h2
    split at h2 <;> cases h2
  have ha:vs[i]?=some v:=by
   unfold start at h2;rw[ze ⇑hi,zY]at h2;cases e:vs[i]? with
   | none=>rw[e]at h2;cases h2
   | some a=>rw[e]at h2;cases h2;rfl
  obtain⟨u,hu,rv⟩:=r.get ha;have hp:ps[i]?=some y:=by
   rw[<- S.pre,xz ∅];exact h1
  have ndP:ps.Nodup:=by rw[<- S.pre];exact S.nd.sublist (ZH _ _)
  refine⟨u,rv,?_⟩;rcases S.par y (z0 hp)with k|k
  ·exact .inl ⟨k,q7X ndP hp hu k⟩
  ·obtain⟨c,e⟩:=q8T (n:=s.heap.objs.size+1) k
   refine .inr ⟨.inl k,c,e,?_⟩;have q:=x.cell y c e;rw[q7V ndP hp hu (by show scope.names.lookup y≠_;rw[k];decide)]at q;exact q
 ·exact e0.hok.fresh (yU (x.above y c (PySem.mem_of_lookup h)))
 ·unfold start
  show _=N.length;rw[zC,zB,yO];omega
theorem qhv{CX:CXT}{P:vW}{w:vZ}{K:zA}{mg:Str->Option vB}{base:vj}{k:Nat}{f:vJ}{name qual:Str}{params:Arguments}{body:List vz}{scope:uw}{dV kV doc pm cdv ct oc:vB}{an od:Option vJ}{osl:Array (Option vB)}{N ps:List Str}{sp:Sp}(lk:K.lookup f=some ⟨oc,od,.func (xW name qual params body scope dV kV doc pm an cdv ct),osl⟩)(hcd:wy K cdv qual=true)(S:FnScope N ps scope)(len:∀vs H Q E,sp vs H Q E->vs.length=ps.length)(hbody:∀(A:ve)(outer:List Env)(s:vF)(H:Hp)(vs:List V)(Q:VK)(E:XK),Room k (A.deeper (tf qual scope s.heap.objs.size f cdv))->sp vs H Q E ->
   ∃t,PSs (zBg CX P w K mg base N qual scope f cdv A outer s H E) body t/\t { nx:=λ_ H'=>Q .non H',rt:=Q } (start N vs) H) :
  FnOk P w K mg base CX (k+1) f (xW name qual params body scope dV kV doc pm an cdv ct) ps sp:=by
 refine⟨len,λA outer s H args us vs Q E hr e0 hb r hsp=>?_⟩;have hl:=len _ _ _ _ hsp;have KX:K.In s.heap:=e0.mod.kin.keeps λb o e=>(e0.bs b o e).1;have lim:s.heap.NoLimit:=e0.mod.nolimit.keeps λb o e=>(e0.bs b o e).1;have hkind:∀y∈ps.zip us,scope.names.lookup y.1=some .local\/(scope.names.lookup y.1=some .cell/\((cellsFrom (s.heap.objs.size+1) scope.names []).lookup y.1).isSome=true):=λ⟨n,v⟩ hy=>by
  rcases S.par n (Zf hy).1 with q|q
  ·exact .inl q
  ·exact .inr ⟨q,ZX _ _ _ (.inl q)⟩
 refine codeAny_call_function hr.depth (KX _ _ lk) rfl S.co S.gen rfl (PySem.W.codeRec_of KX hcd) (hb _ _ _ _ ?_);refine wpAny_newFunctionEnv_cells S.kind hkind λenv he s1 x=>?_;subst he;refine⟨lim.keeps x.toInCall.keep,codeAny_func ?_⟩;obtain⟨t,ht,hq⟩:=hbody A outer s H vs Q E (hr.deeper _) hsp;have I:Inv (zBg CX P w K mg base N qual scope f cdv A outer s H E) [] (start N vs) H s1:=qbz S hr.hd e0 hl r x;refine vq (ht [] s1 (start N vs) H _ I hq) (λfl s' hs=>?_) λe s' hs=>hs;have fin:∀{σ':St}{H':Hp}{v:V}{u:vB},Inv (zBg CX P w K mg base N qual scope f cdv A outer s H E) [] σ' H' s'->RelV v u->Q v H'->CE outer P w H s Q u s' :=
  λ{σ' H' v u} J rv q=>⟨v,H',J.os,J.bare,J.base,J.hok,rv,q⟩
 cases fl with
 | ret u=>
  obtain⟨v,σ',H',J,rv,q⟩:=hs;exact fin J rv q
 | next=>
  obtain⟨σ',H',J,q⟩:=hs;exact fin (v:=V.non) (u:=Value.none) J rfl q
 | brk=>
  obtain⟨_,_,_,q⟩:=hs;exact False.elim q
 | cont=>
  obtain⟨_,_,_,q⟩:=hs;exact False.elim q
section
variable{X:Cx}{x:Str}{p pos:Pos}{e:vX}{es:List vX}{t:TA}{id T:String}{r:List V->Hp->VK->Prop}
noncomputable def tCB(r:List V->Hp->VK->Prop)(t:TA):TE:=λσ H Q=>t σ H λvs H1=>r vs H1 Q
theorem q1x(hc:X3 X (.builtin id) r)(hg:Gl X x)(hm:X.mg x=none)(hv:vm x=some (.builtin id))(ha:PA X (e::es) t)(hn:x ≠ "__name__" := by decide)(hdb:(x==("__debug__" : Str))=false:=by decide)(he:vK (e::es) X.env=(false,eval e X.env)::vK es X.env:=by rfl)(hpl:(vk pos (vK es X.env)).any (·.1)=false:=by rfl):PE X (.Call (.Name x p) (e::es) [] pos) (tCB r t):=by
 intro pins s σ H Q I h;refine v3 (q0b I hg hm hv ?_ hn hdb);exact PyProof.Rows.callWith_builtin1 (thn (ha pos pins s σ H _ I h) λus s1 ⟨vs,H1,I1,r1,q1⟩=>hc pins s1 σ H1 vs us Q I1 r1 q1) he hpl
theorem q7G(hc:X3 X (.type T) r)(hg:Gl X x)(hm:X.mg x=none)(hv:vm x=some (.type T))(ha:PA X (e::es) t)(hn:x ≠ "__name__" := by decide)(hdb:(x==("__debug__" : Str))=false:=by decide)(he:vK (e::es) X.env=(false,eval e X.env)::vK es X.env:=by rfl)(hpl:(vk pos (vK es X.env)).any (·.1)=false:=by rfl):PE X (.Call (.Name x p) (e::es) [] pos) (tCB r t):=by
 intro pins s σ H Q I h;refine v3 (q0b I hg hm hv ?_ hn hdb);exact PyProof.Rows.callWith_type1 (thn (ha pos pins s σ H _ I h) λus s1 ⟨vs,H1,I1,r1,q1⟩=>hc pins s1 σ H1 vs us Q I1 r1 q1) he hpl
end
end L2
namespace HT
open PySem PyProof.Rows
section
open PySem.SeqAt
open PySem.AutoSeq1 (wpAny_loadPart')
open PySem.MeetsSeq PySem.MeetsSeq2 PySem.MeetsSeq3
end
section
variable{prog:vW}{w:vZ}{A:ve}{E:vB->vF->Prop}{s:vF}
theorem qeG{t b:vJ}{vs ws:List vB}{Q:vB->vF->Prop}(ht:IsTup s.heap t vs.toArray)(hb:IsTup s.heap b ws.toArray)(hv:vs≠[])(h1:ws=[]->Q (.ref t) s)(h2:ws≠[]->Q (.ref s.heap.objs.size) { s with heap:=s.heap.push { cls:=.type "tuple", data:=.seq (vs++ws).toArray } })(hsz:vs.length+ws.length<=sizeLine):vO (model prog w) A (uV .Add (.ref t) (.ref b)) Q E s:=by
 obtain⟨⟨cls,dd,data,sl⟩,ho,hc,n,hd⟩:=id ht;obtain⟨⟨cls2,dd2,data2,sl2⟩,ho2,hc2,n2,hd2⟩:=id hb;simp only at hc hd hc2 hd2;subst hc hd hc2 hd2;have e:vs.toArray++ws.toArray=(vs++ws).toArray:=by simp
 by_cases hw:ws=[]
 ·exact concat_meets ⟨_,ho,rfl⟩ ⟨_,ho2,rfl⟩ noFill_tuple_add seq_tuple_add PySem.F.slot_tuple_add PySem.F.entry_tuple_add (PySem.F.args_tuple_add_2 _ _)
   (tuple_addW1 t b vs.toArray ws.toArray n n2 dd dd2 sl sl2 ⇑hv (by simp[hw])) ⟨ho,ho2,h1 hw⟩
 ·refine concat_meets ⟨_,ho,rfl⟩ ⟨_,ho2,rfl⟩ noFill_tuple_add seq_tuple_add PySem.F.slot_tuple_add PySem.F.entry_tuple_add (PySem.F.args_tuple_add_2 _ _)
   (tuple_addW2 t b vs.toArray ws.toArray n n2 dd dd2 sl sl2 ⇑hv ⇑hw (by rw[zP,zP];exact hsz)) ⟨ho,ho2,?_⟩
  rw[e];exact h2 hw
noncomputable def sIx(n d:Nat):Option Int->Nat
 | none=>d
 | some v=>if v<0 then (v+(n:Int)).toNat else min v.toNat n
theorem q5B(n d:Nat):sIx n d none=d:=rfl
theorem q7m(n d k:Nat):sIx n d (some (k:Int))=min k n:=by
 show (if (k:Int)<0 then ((k:Int)+(n:Int)).toNat else min (k:Int).toNat n)=min k n;rw[vG ∅,yi]
theorem qgK(n d:Nat)(hd:d<=n)(o:Option Int):sIx n d o<=n:=by
 cases o with
 | none=>exact hd
 | some v=>
  show (if v<0 then (v+(n:Int)).toNat else min v.toNat n)<=n
  by_cases hv:v<0
  ·rw[vC hv];omega
  ·rw[vG hv];exact YG _ _
theorem qat(v:Int)(n d:Nat):(if v<0 then max (v+(n:Int)) 0 else min v (n:Int))=((sIx n d (some v):Nat):Int):=by
 show (if v<0 then max (v+(n:Int)) 0 else min v (n:Int))=(((if v<0 then (v+(n:Int)).toNat else min v.toNat n):Nat):Int)
 by_cases hv:v<0
 ·simp only[vC hv];omega
 ·simp only[vG hv];omega
theorem qb9(lo hi:Option Int)(n:Nat):Builtin.Slice.sliceAdjust lo hi 1 (n:Int)=(((sIx n 0 lo:Nat):Int),((sIx n n hi:Nat):Int)):=by
 have h1:¬((1:Int)<0):=∅
 unfold Builtin.Slice.sliceAdjust;simp only[h1,if_false];refine Prod.ext ?_ ?_
 ·cases lo with
  | none=>rfl
  | some v=>exact qat v n 0
 ·cases hi with
  | none=>rfl
  | some v=>exact qat v n n
theorem qbr(i j:Nat):Builtin.Slice.slicePlaces (i:Int) (j:Int) 1=j-i:=by
 unfold Builtin.Slice.slicePlaces;have h1:(1:Int)>0:=∅
 simp only[h1,if_true,Int.ediv_one]
 split <;> omega
theorem q6F{v:vB}{o:Option Int}{Q:Option Int->vF->Prop}(p:tS v o)(h:Q o s):vO (model prog w) A (Builtin.Slice.slicePartIndex v) Q E s:=by
 cases p with
 | none=>exact slicePart_none h
 | int i t=>exact slicePart_int h
theorem q29{sl:vJ}{vl vu:vB}{lo hi:Option Int}{n:Nat}{Q:Int×Int×Nat->vF->Prop}(hs:s.heap.IsSliceOf sl vl vu .none)(pl:tS vl lo)(pu:tS vu hi)(h:Q (((sIx n 0 lo:Nat):Int),1,sIx n n hi-sIx n 0 lo) s):vO (model prog w) A (Builtin.Slice.sliceApplied (.ref sl) (pure (n:Int))) Q E s:=by
 obtain⟨os,hos,hcs,hds⟩:=id hs;unfold Builtin.Slice.sliceApplied Builtin.Slice.sliceFields;refine vA (vA (uX hos hds (x:=vl) rfl (vA (uX hos hds (x:=vu) rfl (vA (uX hos hds (x:=.none) rfl (vH ?_)))))));refine vA (slicePart_none ?_);show vO _ _ (if ((1:Int)==0)=true then _ else _) _ _ s;rw[vG (by decide)];refine vA (q6F pl (vA (q6F pu (vA (vH ?_)))));show vO _ _ (match Builtin.Slice.sliceAdjust lo hi 1 (n:Int)with|(lo,hi)=>pure (lo,(1:Int),Builtin.Slice.slicePlaces lo hi 1)) _ _ s;rw[qb9 lo hi n];show vO _ _ (pure (((sIx n 0 lo:Nat):Int),(1:Int),Builtin.Slice.slicePlaces ((sIx n 0 lo:Nat):Int) ((sIx n n hi:Nat):Int) 1)) _ _ s;rw[qbr];exact vH h
theorem qdC(xs:Array vB)(i k:Nat):((zb k).filterMap λ(m:Nat)=>xs[((i:Int)+(m:Int)*1).toNat]?).toArray=((xs.toList.drop i).take k).toArray:=by
 have e:(λ(m:Nat)=>xs[((i:Int)+(m:Int)*1).toNat]?)=λm=>xs[i+m]?:=by
  funext m
  have:((i:Int)+(m:Int)*1).toNat=i+m:=∅
  rw[this]
 rw[e];have:=pick_run xs i k;rw[Zz]at this;have e2:((λx=>xs[x]?) ∘ λx=>i+x)=λm=>xs[i+m]?:=rfl;rw[e2]at this;rw[this]
theorem q5m{t sl:vJ}{items:Array vB}{vl vu:vB}{lo hi:Option Int}{Q:vB->vF->Prop}(ht:IsTup s.heap t items)(hs:s.heap.IsSliceOf sl vl vu .none)(pl:tS vl lo)(pu:tS vu hi)(hw:¬(sIx items.size 0 lo=0/\sIx items.size items.size hi=items.size))(h:Q (.ref s.heap.objs.size) { s with heap:=s.heap.push { cls:=.type "tuple", data:=.seq ((items.toList.drop (sIx items.size 0 lo)).take (sIx items.size items.size hi-sIx items.size 0 lo)).toArray } })(hsz:items.size<=sizeLine):vO (model prog w) A (u9 (.ref t) (.ref sl)) Q E s:=by
 have htake:sizeOk (.seq ((items.toList.drop (sIx items.size 0 lo)).take (sIx items.size items.size hi-sIx items.size 0 lo)).toArray):=by
  show ((items.toList.drop (sIx items.size 0 lo)).take (sIx items.size items.size hi-sIx items.size 0 lo)).toArray.size<=sizeLine;rw[zP,zf,yI,zM];omega
 have hj:sIx items.size items.size hi<=items.size:=qgK _ _ (zK _) hi;obtain⟨os,hos,hcs,hds⟩:=id hs;have hTs:s.TypeIs (.ref sl) "slice" := ⟨os,hos,hcs⟩;unfold u9
 try with_reducible refine vn ?_
 first|refine vA (vH ?_)|skip
 refine vA (wpAny_sequenceKey ht.typeIs (by decide) ?_);refine vA (wpAny_callSpecial?_slot (name:=Str.ofString "__getitem__") ht.typeIs PyProof.Rows.slot_tuple_getitem
  (vp PyProof.Rows.slot_tuple_getitem ht.typeIs entry_tuple_getitem ?_ (sD _ _)))
 show vO _ _ (Builtin.Tuple.tupleItemsOf (.ref t) >>= _) _ _ s;refine vA (tupleItemsOf_ ht ?_);refine vA (ug hTs ?_);rw[vC (by decide)];refine vA (q29 hs pl pu ?_);have hno:¬((((sIx items.size 0 lo:Nat):Int)==0&&(1:Int)==1&&(sIx items.size items.size hi-sIx items.size 0 lo)==items.size)=true):=by
  intro q;rw[z9,z9]at q;have q1:((sIx items.size 0 lo:Nat):Int)=0:=eq_of_beq q.1.1;have q2:sIx items.size items.size hi-sIx items.size 0 lo=items.size:=eq_of_beq q.2;exact hw ⟨∅,∅⟩
 show vO _ _ (if (((sIx items.size 0 lo:Nat):Int)==0&&(1:Int)==1&&(sIx items.size items.size hi-sIx items.size 0 lo)==items.size)=true then _ else _) _ _ s;rw[vG hno,qdC]
 first
  | exact vA (m:=Builtin.Tuple.tupleExact _) (vo (vH ⟨_,rfl,vH h⟩) htake)
  | exact vA (m:=Builtin.Tuple.tupleExact _) (vo (vA (vH (vH ⟨_,rfl,vH h⟩))) htake)
  | exact vA (vA (m:=Builtin.Tuple.tupleExact _) (vo (vH (vH ⟨_,rfl,vH h⟩)) htake))
  | exact vA (vA (m:=Builtin.Tuple.tupleExact _) (vo (vH ⟨_,rfl,vH h⟩) htake))
end
end HT
namespace L2
open PySem PySem.Spec PyProof.Rows
abbrev TO:=St->Hp->(Option Int->Hp->Prop)->Prop
def PO(X:Cx)(e:Option vX)(t:TO):Prop :=
 ∀(pins:List (vJ×Obj))(s:vF)(σ:St)(H:Hp)(Q:Option Int->Hp->Prop),Inv X pins σ H s->t σ H Q ->
  vO (model X.prog X.w) X.A (evalPart e X.env) (λu s'=>∃o H',Inv X pins σ H' s'/\tS u o/\Q o H') X.xe s
noncomputable def zCV:TO:=λ_ H Q=>Q none H
noncomputable def tPart(t:TE):TO:=λσ H Q=>t σ H λx H1=>∃i,x=.int i/\Q (some i) H1
theorem q3U{ns:List Int}:∀{us:List vB},Yv (ns.map V.int) us->uC us ns:=by
 induction ns with
 | nil=>intro us r;rw[yP]at r;cases r;exact .nil
 | cons n ns ih=>
  intro us r;rw[zc]at r;cases r with
  | cons r1 r2=>
   obtain⟨t,e⟩:=r1;subst e;exact .cons n t (ih r2)
section
variable{X:Cx}{e:vX}{te:TE}{lo hi:Option vX}{tl th:TO}{pos p2:Pos}
theorem qf8:PO X none zCV:=by
 intro pins s σ H Q I h;rw[evalPart_none];exact vH ⟨none,H,I,.none,h⟩
theorem qez(h:PE X e te):PO X (some e) (tPart te):=by
 intro pins s σ H Q I hw;rw[evalPart_some];refine thn (h pins s σ H _ I hw) λu s1 ⟨x,H1,I1,r1,q1⟩=>?_;obtain⟨i,rfl,q⟩:=q1;obtain⟨t,rfl⟩:=r1;exact⟨some i,H1,I1,.int i t,q⟩
def SlR(X:Cx)(r:V->Option Int->Option Int->Hp->VK->Prop):Prop :=
 ∀(pins:List (vJ×Obj))(s:vF)(σ:St)(H:Hp)(x:V)(v vl vu:vB)(lo hi:Option Int)(sl:vJ)(Q:VK),Inv X pins σ H s->RelV x v->s.heap.IsSliceOf sl vl vu .none->tS vl lo->tS vu hi->r x lo hi H Q ->
  ∃T id,ux (.type T) "__getitem__" = pure (some (.builtin id))/\s.TypeIs v T/\vO (model X.prog X.w) X.A (u9 v (.ref sl)) (EP X pins σ Q) X.xe s
theorem SlR.or{r r':V->Option Int->Option Int->Hp->VK->Prop}(h:SlR X r)(h':SlR X r'):SlR X (λx lo hi H Q=>r x lo hi H Q\/r' x lo hi H Q):=by
 intro pins s σ H x v vl vu lo hi sl Q I rx hs pl pu q;rcases q with q|q
 ·exact h pins s σ H x v vl vu lo hi sl Q I rx hs pl pu q
 ·exact h' pins s σ H x v vl vu lo hi sl Q I rx hs pl pu q
noncomputable def tSl(r:V->Option Int->Option Int->Hp->VK->Prop)(te:TE)(tl th:TO):TE:=λσ H Q=>te σ H λx H1=>tl σ H1 λl H2=>th σ H2 λu H3=>r x l u H3 Q
theorem qdD{r:V->Option Int->Option Int->Hp->VK->Prop}(hr:SlR X r)(he:PE X e te)(hl:PO X lo tl)(hu:PO X hi th):PE X (.Subscript e (.Slice lo hi none p2) pos) (tSl r te tl th):=by
 intro pins s σ H Q I h;refine Subscript_ (thn (he pins s σ H _ I h) λv s1 ⟨x,H1,I1,r1,q1⟩=>?_);refine wpAny_Slice (thn (hl pins s1 σ H1 _ I1 q1) λvl s2 ⟨l,H2,I2,pl,q2⟩=>thn (hu pins s2 σ H2 _ I2 q2) λvu s3 ⟨u,H3,I3,pu,q3⟩=>?_);rw[evalPart_none];refine vH ?_;have I4:Inv X pins σ H3 { s3 with heap:=s3.heap.push { cls:=.type "slice", data:=.fields #[vl,vu,.none] } }:=I3.kept (t':=s3.toks) λb ob q=>zE _ q;obtain⟨T,id,hT,ht,hg⟩:=hr pins { s3 with heap:=s3.heap.push { cls:=.type "slice", data:=.fields #[vl,vu,.none] } } σ H3 x v vl vu l u s3.heap.objs.size Q I4 r1 (Ye ..) pl pu q3;show vO (model X.prog X.w) X.A (t9 e (.Slice lo hi none p2) v (.ref s3.heap.objs.size)) (EP X pins σ Q) X.xe { s3 with heap:=s3.heap.push { cls:=.type "slice", data:=.fields #[vl,vu,.none] } };exact tail_any (ops:=[.ref s3.heap.objs.size,v]) ht hT hg (by with_unfolding_all rfl)
noncomputable def zBI(xs:List V)(lo hi:Option Int):List V:=(xs.drop (HT.sIx xs.length 0 lo)).take (HT.sIx xs.length xs.length hi-HT.sIx xs.length 0 lo)
theorem q5o(xs:List V)(lo hi:Option Int):(zBI xs lo hi).length<=xs.length:=by
 unfold zBI;rw[zf,yI];omega
def rSlT(K:zA):V->Option Int->Option Int->Hp->VK->Prop:=λx lo hi H Q=>∃a xs,x=.ref a/\SqT K H a xs /\
 ¬(HT.sIx xs.length 0 lo=0/\HT.sIx xs.length xs.length hi=xs.length)/\∀p,H p=none->Q (.ref p) (upd H p (.tup (zBI xs lo hi)))
theorem qgR:SlR X (rSlT X.K):=by
 intro pins s σ H x v vl vu lo hi sl Q I rx hs pl pu h;obtain⟨a,xs,rfl,hx,hw,q⟩:=h;cases rx;obtain⟨its,r,ht,hz⟩:=I.tuple hx;have hlen:its.toArray.size=xs.length:=by rw[zP];exact r.length.symm
 refine⟨"tuple", _,PyProof.Rows.slot_tuple_getitem.lookup,ht.typeIs,?_⟩;refine HT.q5m ht hs pl pu (by rw[hlen];exact hw) ?_ (by rw[hlen];exact hz);rw[hlen];refine⟨.ref s.heap.objs.size,_,I.laid (t':=s.toks) (o:=.tup (zBI xs lo hi)) (λb ob q=>zE _ q) (zK _) ?_,rfl,q _ (I.hok.fresh (zK _))⟩;exact⟨yJ (q5o xs lo hi) hz,_,(r.drop (HT.sIx xs.length 0 lo)).take (HT.sIx xs.length xs.length hi-HT.sIx xs.length 0 lo),IsTup.new _ _⟩
noncomputable def rCatT(K:zA):R2:=λx y H Q=>∃a b xs ys,x=.ref a/\y=.ref b/\SqT K H a xs/\SqT K H b ys/\xs≠[]/\xs.length+ys.length<=sizeLine /\
 (ys=[]->Q (.ref a) H)/\(ys≠[]->∀p,H p=none->Q (.ref p) (upd H p (.tup (xs++ys))))
theorem Yv.nil_iff{xs:List V}{us:List vB}(r:Yv xs us):us=[]↔xs=[]:=by
 cases r with
 | nil=>simp
 | cons _ _=>simp
theorem qeR:OpR X (uV .Add) (rCatT X.K):=by
 intro pins s σ H x y v u Q I rx ry h;obtain⟨a,b,xs,ys,rfl,rfl,ha,hb,hx,hz,q1,q2⟩:=h;cases rx;cases ry;obtain⟨its,r1,p1,_⟩:=I.tuple ha;obtain⟨its2,r2,p2,_⟩:=I.tuple hb;refine HT.qeG p1 p2 (λz=>hx (r1.nil_iff.mp z)) (λz=>⟨.ref a,H,I,rfl,q1 (r2.nil_iff.mp z)⟩) (λz=>?_) (by rw[<- r1.length,<- r2.length];exact hz);refine⟨.ref s.heap.objs.size,_,I.laid (t':=s.toks) (o:=.tup (xs++ys)) (λb ob q=>zE _ q) (zK _) ?_,rfl,q2 (λw=>z (r2.nil_iff.mpr w)) _ (I.hok.fresh (zK _))⟩;exact⟨by rw[zC];exact hz,_,r1.append r2,IsTup.new _ _⟩
end
noncomputable def ixN(n:Nat)(i:Int):Option Nat:=if 0<=i then (if i<n then some i.toNat else none)else if -(n:Int)<=i then some (i+n).toNat else none
noncomputable def atI{α:Type}(xs:List α)(i:Int):Option α:=(ixN xs.length i).bind λj=>xs[j]?
theorem qev{n:Nat}{i:Int}{j:Nat}(h:ixN n i=some j):seqIndex? i n=some j/\j<n/\-(n:Int)<=i/\i<n:=by
 unfold ixN at h
 by_cases h0:0<=i
 ·rw[vC h0]at h
  by_cases h1:i<n
  ·rw[vC h1]at h
   have e:i.toNat=j:=zx h;exact⟨by rw[seqIndex_of h0 h1,e],∅,∅,h1⟩
  ·rw[vG h1]at h;cases h
 ·rw[vG h0]at h
  by_cases h1:-(n:Int)<=i
  ·rw[vC h1]at h
   have e:(i+n).toNat=j:=zx h;exact⟨by rw[seqIndex_neg ∅ h1,e],∅,h1,∅⟩
  ·rw[vG h1]at h;cases h
theorem q7r{α:Type}{xs:List α}{i:Int}{v:α}(h:atI xs i=some v):∃j,seqIndex? i xs.length=some j/\xs[j]?=some v/\j<xs.length/\-(xs.length:Int)<=i/\i<xs.length:=by
 unfold atI at h;cases e:ixN xs.length i with
 | none=>rw[e]at h;cases h
 | some j=>
  rw[e]at h;obtain⟨h1,h2,h3,h4⟩:=qev e;exact⟨j,h1,h,h2,h3,h4⟩
def zAN(b:vX):Prop:=∀o i,subscripted b false o i=operate [o,i] (u9 o i)
def IxR(X:Cx)(r:R2):Prop :=
 ∀(value slice:vX)(pins:List (vJ×Obj))(s:vF)(σ:St)(H:Hp)(x y:V)(v u:vB)(Q:VK),Inv X pins σ H s->RelV x v->RelV y u->r x y H Q ->
  subscripted slice false v u=operate [v,u] (u9 v u)->vO (model X.prog X.w) X.A (t9 value slice v u) (EP X pins σ Q) X.xe s
def MtR(X:Cx)(id:String)(r:V->List V->Hp->VK->Prop):Prop :=
 ∀(pins:List (vJ×Obj))(s:vF)(σ:St)(H:Hp)(x:V)(xs:List V)(v:vB)(us:List vB)(Q:VK),Inv X pins σ H s->RelV x v->Yv xs us->r x xs H Q ->
  vO (model X.prog X.w) X.A (call (.builtin id) (v::us)) (EP X pins σ Q) X.xe s
section
variable{X:Cx}{a b:vX}{ta tb:TE}{pos:Pos}
theorem IxR.or{r r':R2}(h:IxR X r)(h':IxR X r'):IxR X (λx y H Q=>r x y H Q\/r' x y H Q):=by
 intro value slice pins s σ H x y v u Q I rx ry q hs;rcases q with q|q
 ·exact h value slice pins s σ H x y v u Q I rx ry q hs
 ·exact h' value slice pins s σ H x y v u Q I rx ry q hs
theorem qh9{r:R2}(hr:IxR X r)(ha:PE X a ta)(hb:PE X b tb)(hs:zAN b):PE X (.Subscript a b pos) (tOp r ta tb):=by
 intro pins s σ H Q I h;exact Subscript_ (binT ha hb I h λv u s2 x y H2 I2 rx ry q=>hr a b pins s2 σ H2 x y v u Q I2 rx ry q (hs _ _))
noncomputable def rIxL(K:zA):R2:=λx y H Q=>∃p xs i v,x=.ref p/\y=.int i/\SqL K H p xs/\atI xs i=some v/\Q v H
noncomputable def rIxT(K:zA):R2:=λx y H Q=>∃p xs i v,x=.ref p/\y=.int i/\SqT K H p xs/\atI xs i=some v/\Q v H
noncomputable def rIxS:R2:=λx y H Q=>∃z i c,x=.str z/\y=.int i/\z.length<=sizeLine/\atI z.cps.toList i=some c/\Q (.str ⟨#[c]⟩) H
theorem qfE:IxR X (rIxL X.K):=by
 intro value slice pins s σ H x y v u Q I rx ry h hs;obtain⟨p,xs,i,z,rfl,rfl,hq,he,q⟩:=h;cases rx;obtain⟨t,rfl⟩:=ry;obtain⟨its,r,pl,hz⟩:=I.list hq;obtain⟨j,h1,h2,h3,h4,h5⟩:=q7r he;obtain⟨w,ew,rw'⟩:=r.get h2;have hl:=r.length;have hn:=Wm;have fin:EP X pins σ Q w s:=⟨z,H,I,rw',q⟩
 by_cases h0:0<=i
 ·have hj:i.toNat=j:=by
   rw[seqIndex_of h0 h5]at h1;exact zx h1
  exact item_listR pl.isList h0 ∅ (by rw[hj];simpa using ew) fin hs
 ·have hj:(i+(its.toArray.size:Int)).toNat=j:=by
   rw[seqIndex_neg ∅ h4]at h1;rw[zP,<- hl];exact zx h1
  exact tT (x:=w) pl.isList.typeIs slot_list_getitem.lookup
   (wpAny_getItem_list_neg (Q:=λr s'=>r=w/\EP X pins σ Q r s') pl.isList ∅ (by rw[zP] <;> omega) ∅ (by rw[hj];simpa using ew) ⟨rfl,fin⟩) hs
theorem qgL:IxR X (rIxT X.K):=by
 intro value slice pins s σ H x y v u Q I rx ry h hs;obtain⟨p,xs,i,z,rfl,rfl,hq,he,q⟩:=h;cases rx;obtain⟨t,rfl⟩:=ry;obtain⟨its,r,pl,hz⟩:=I.tuple hq;obtain⟨j,h1,h2,h3,h4,h5⟩:=q7r he;obtain⟨w,ew,rw'⟩:=r.get h2;have hl:=r.length;have hn:=Wm;have fin:EP X pins σ Q w s:=⟨z,H,I,rw',q⟩;exact tT (x:=w) pl.typeIs slot_tuple_getitem.lookup
  (getItem_tuple (j:=j) (Q:=λr s'=>r=w/\EP X pins σ Q r s') pl ∅ ∅ (by rw[zP,<- hl];exact h1) ⇑ew ⟨rfl,fin⟩) hs
theorem qfR:IxR X rIxS:=by
 intro value slice pins s σ H x y v u Q I rx ry h hs;obtain⟨z,i,c,rfl,rfl,hz,he,q⟩:=h;obtain⟨t,rfl⟩:=rx;obtain⟨t',rfl⟩:=ry;obtain⟨j,h1,h2,h3,h4,h5⟩:=q7r he;have hl:z.cps.toList.length=z.length:=by simp[Str.length]
 rw[hl]at h1 h4 h5;have hn:=Wm;exact tail_any (typeIs_str s z t) slot_str_getitem.lookup (getItem_str (c:=c) (by
  have e1:decide (i < -(2^63:Int))=false:=vS ∅;have e2:decide (i>=2^63)=false:=vS ∅;rw[e1,e2,xb]) (by rw[h1];simpa using h2) ⟨.str ⟨#[c]⟩,H,I.tok _,⟨_,rfl⟩,q⟩) hs
noncomputable def rIx(K:zA):R2:=λx y H Q=>rIxL K x y H Q\/rIxT K x y H Q\/rIxS x y H Q
theorem qgf:IxR X (rIx X.K):=qfE.or (qgL.or qfR)
theorem Inv.lst{pins:List (vJ×Obj)}{σ:St}{H:Hp}{s:vF}{p:vJ}{xs:List V}(I:Inv X pins σ H s)(h:H p=some (.lst xs)):
  ∃(its:List vB) (n:Nat),Yv xs its/\s.heap.get? p=some { cls:=.type "list", data:=.seq its.toArray n }/\xs.length<=sizeLine:=by
 obtain⟨z,its,n,r,e⟩:=I.hok p _ h;exact⟨its,n,r,e,z⟩
theorem q8F(lo hi:Option Int)(n:Nat):(ur lo hi none n).1=((HT.sIx n 0 lo:Nat):Int)/\(ur lo hi none n).2.1=((HT.sIx n n hi:Nat):Int)/\(ur lo hi none n).2.2=1:=by
 refine⟨?_,?_,rfl⟩
 ·cases lo with
  | none=>simp[ur,HT.sIx]
  | some i=>
   simp only[ur,HT.sIx,YH,show (1:Int)>0 by decide,if_true]
   by_cases h:i<0
   ·simp only[h,if_true] <;> omega
   ·simp only[h,if_false] <;> omega
 ·cases hi with
  | none=>simp[ur,HT.sIx]
  | some i=>
   simp only[ur,HT.sIx,YH,show (1:Int)>0 by decide,if_true]
   by_cases h:i<0
   ·simp only[h,if_true] <;> omega
   ·simp only[h,if_false] <;> omega
theorem q8c(its:List vB)(lo hi:Option Int):slicePick its.toArray lo hi none=((its.drop (HT.sIx its.length 0 lo)).take (HT.sIx its.length its.length hi-HT.sIx its.length 0 lo)).toArray:=by
 obtain⟨h1,h2,h3⟩:=q8F lo hi its.toArray.size;unfold slicePick;rw[h1,h2,h3];simp only[sliceRange_one,pick_run,zP] <;> rfl
def rSlL(K:zA):V->Option Int->Option Int->Hp->VK->Prop:=λx lo hi H Q=>∃a xs,x=.ref a/\SqL K H a xs/\∀p,H p=none->Q (.ref p) (upd H p (.lst (zBI xs lo hi)))
theorem qf2:SlR X (rSlL X.K):=by
 intro pins s σ H x v vl vu lo hi sl Q I rx hs pl pu h;obtain⟨a,xs,rfl,hx,q⟩:=h;cases rx;obtain⟨its,r,ht,hz⟩:=I.list hx;have hlen:=r.length;refine⟨"list", _,slot_list_getitem.lookup,ht.isList.typeIs,?_⟩;refine wpAny_getItem_list_slice ht.isList hs pl pu .none (by simp) ?_ (by rw[zP] <;> omega);rw[q8c,<- hlen];refine⟨.ref s.heap.objs.size,_,I.laid (t':=s.toks) (o:=.lst (zBI xs lo hi)) (λb ob q=>zE _ q) (zK _) ?_,rfl,q _ (I.hok.fresh (zK _))⟩;exact⟨yJ (q5o xs lo hi) hz,_,0,(r.drop (HT.sIx xs.length 0 lo)).take (HT.sIx xs.length xs.length hi-HT.sIx xs.length 0 lo),zR _ rfl⟩
noncomputable def Wc:V->Bool
 | .non=>true
 | .bl _=>true
 | .int _=>true
 | .str _=>true
 | _=>false
noncomputable def eqV:V->V->Bool
 | .non,.non=>true
 | .bl a,.bl b=>a==b
 | .bl a,.int b=>(if a then 1 else 0)==b
 | .int a,.bl b=>a==(if b then 1 else 0)
 | .int a,.int b=>a==b
 | .str a,.str b=>a==b
 | _,_=>false
theorem qgj{A:ve}{s:vF}{y x:V}{u v:vB}(ry:RelV y u)(rx:RelV x v)(fy:Wc y=true)(fx:Wc x=true):SeqAt.EqAt A s u v (eqV y x):=by
 cases y with
 | non=>
  cases ry;cases x with
  | non=>cases rx;exact SeqAt.EqAt.same _
  | bl b=>cases rx;exact SeqAt.EqAt.none_bool b
  | int b=>obtain⟨t,rfl⟩:=rx;exact SeqAt.EqAt.none_int b t
  | str b=>obtain⟨t,rfl⟩:=rx;exact SeqAt.EqAt.none_str b t
  | _=>exact vP (show false=true from fx) yH
 | bl a=>
  cases ry;cases x with
  | non=>cases rx;exact SeqAt.EqAt.bool_none a
  | bl b=>cases rx;exact SeqAt.EqAt.bool_bool a b
  | int b=>obtain⟨t,rfl⟩:=rx;exact SeqAt.EqAt.bool_int a b t
  | str b=>obtain⟨t,rfl⟩:=rx;exact SeqAt.EqAt.bool_str a b t
  | _=>exact vP (show false=true from fx) yH
 | int a=>
  obtain⟨t',rfl⟩:=ry;cases x with
  | non=>cases rx;exact SeqAt.EqAt.int_none a t'
  | bl b=>cases rx;exact SeqAt.EqAt.int_bool a t' b
  | int b=>obtain⟨t,rfl⟩:=rx;exact SeqAt.EqAt.int_int a t' b t
  | str b=>obtain⟨t,rfl⟩:=rx;exact SeqAt.EqAt.int_str a t' b t
  | _=>exact vP (show false=true from fx) yH
 | str a=>
  obtain⟨t',rfl⟩:=ry;cases x with
  | non=>cases rx;exact SeqAt.EqAt.str_none a t'
  | bl b=>cases rx;exact SeqAt.EqAt.str_bool a t' b
  | int b=>obtain⟨t,rfl⟩:=rx;exact SeqAt.EqAt.str_int a t' b t
  | str b=>obtain⟨t,rfl⟩:=rx;exact SeqAt.EqAt.str_str a t' b t
  | _=>exact vP (show false=true from fx) yH
 | _=>exact vP (show false=true from fy) yH
noncomputable def eqU(x:V)(u:vB):Bool:=match u with
 | .none=>eqV .non x
 | .bool b=>eqV (.bl b) x
 | .int i _=>eqV (.int i) x
 | .str z _=>eqV (.str z) x
 | _=>false
theorem qc9{x y:V}{u:vB}(r:RelV y u)(f:Wc y=true):eqU x u=eqV y x:=by
 cases y with
 | non=>cases r;rfl
 | bl b=>cases r;rfl
 | int i=>obtain⟨t,rfl⟩:=r;rfl
 | str z=>obtain⟨t,rfl⟩:=r;rfl
 | _=>exact vP (show false=true from f) yH
theorem q7a{x:V}:∀{xs:List V}{us:List vB},Yv xs us->xs.all Wc=true->us.any (eqU x)=xs.any λy=>eqV y x
 | _,_,.nil,_=>rfl
 | y::xs,u::us,.cons r t,f=>by
  rw[xn,z9]at f;rw[wA,wA,qc9 r f.1,q7a t f.2]
theorem q5C{A:ve}{s:vF}{x:V}{v:vB}(rx:RelV x v)(fx:Wc x=true):∀{xs:List V}{us:List vB},Yv xs us->xs.all Wc=true->∀u∈us,SeqAt.EqAt A s u v (eqU x u)
 | _,_,.nil,_=>λu hu=>by cases hu
 | y::xs,u::us,.cons r t,f=>λu' hu=>by
  rw[xn,z9]at f;rcases zF.mp hu with rfl|hu
  ·rw[qc9 r f.1];exact qgj r rx f.1 fx
  ·exact q5C rx fx t f.2 u' hu
noncomputable def inV(x:V)(xs:List V):Bool:=xs.any λy=>eqV y x
noncomputable def rIn(K:zA)(neg:Bool):R2:=λx y H Q=>∃p xs,y=.ref p/\(SqL K H p xs\/SqT K H p xs)/\Wc x=true/\xs.all Wc=true/\Q (.bl (if neg then !inV x xs else inV x xs)) H
theorem q9t:OpR X (uH .NotIn) (rIn X.K true):=by
 intro pins s σ H x y v u Q I rx ry h;obtain⟨p,xs,rfl,hq,fx,fs,q⟩:=h;cases ry;rcases hq with hq|hq
 ·obtain⟨its,r,pl,hz⟩:=I.list hq
  refine SeqAt.notIn_listAt (eqU x) pl.isList (λw hw=>q5C rx fx r fs w ⇑hw) ⟨.bl _,H,I,rfl,?_⟩;rw[show its.toArray.any (eqU x)=its.any (eqU x) by simp,q7a r fs];exact q
 ·obtain⟨its,r,pl,hz⟩:=I.tuple hq
  refine SeqAt.notIn_tupleAt (eqU x) pl (λw hw=>q5C rx fx r fs w ⇑hw) ⟨.bl _,H,I,rfl,?_⟩;rw[show its.toArray.any (eqU x)=its.any (eqU x) by simp,q7a r fs];exact q
theorem qj:X3 X (.builtin "len") (λxs H Q=>∃p ys,xs=[.ref p]/\(SqL X.K H p ys\/SqT X.K H p ys)/\Q (.int ys.length) H):=by
 intro pins s σ H xs us Q I r h;obtain⟨p,ys,rfl,hq,q⟩:=h;obtain⟨u,rfl,rx⟩:=vals1 r;cases rx;have hn:=Wm;rcases hq with hq|hq
 ·obtain⟨its,r',pl,hz⟩:=I.list hq
  have hlen:=r'.length;exact Calls.call_len_list pl.isList (by simp only[zP] <;> omega) ⟨.int ys.length,H,I.tok _,⟨s.toks+1,by rw[zP,hlen]⟩,q⟩
 ·obtain⟨its,r',pl,hz⟩:=I.tuple hq
  have hlen:=r'.length;exact len_tuple pl (by simp only[zP] <;> omega) ⟨.int ys.length,H,I.tok _,⟨s.toks+1,by rw[zP,hlen]⟩,q⟩
theorem q4p:X3 X (.type "list") (λxs H Q=>∃p ys,xs=[.ref p]/\(SqL X.K H p ys\/SqT X.K H p ys)/\∀l,H l=none->Q (.ref l) (upd H l (.lst ys))):=by
 intro pins s σ H xs us Q I r h;obtain⟨p,ys,rfl,hq,q⟩:=h;obtain⟨u,rfl,rx⟩:=vals1 r;cases rx;have fin:∀(its:List vB),Yv ys its->ys.length<=sizeLine->∀(h':vj)(c':Nat),(∀b o',s.heap.get? b=some o'->h'.get? b=some o') ->
   h'.get? s.heap.objs.size=some { cls:=.type "list", dict:=none,data:=.seq its.toArray c',slots:=#[] }->EP X pins σ Q (.ref s.heap.objs.size) { s with heap:=h' }:=λits r' hz h' c' kp e=>
  ⟨.ref s.heap.objs.size,_,I.laid (t':=s.toks) kp (zK _) (show Y2 X.prog X.w _ h' _ (.lst ys)from ⟨hz,its,c',r',e⟩),rfl,q _ (I.hok.fresh (zK _))⟩
 rcases hq with hq|hq
 ·obtain⟨its,r',pl,hz⟩:=I.list hq
  have hlen:=r'.length;obtain⟨o,ho,hc,n,hd⟩:=pl.isList;exact call_list_seq p (.inl rfl) ho hc hd (λh' c' kp e=>fin its r' hz h' c' kp e) (by simp only[zP] <;> omega)
 ·obtain⟨its,r',pl,hz⟩:=I.tuple hq
  have hlen:=r'.length;obtain⟨o,ho,hc,n,hd⟩:=pl;exact call_list_seq p (.inr rfl) ho hc hd (λh' c' kp e=>fin its r' hz h' c' kp e) (by simp only[zP] <;> omega)
def tyV(K:zA)(T:String)(x:V)(H:Hp):Prop:=match x with
 | .str _=>T = "str"
 | .int _=>T = "int"
 | .ref p=>(T = "list" /\ ∃xs,SqL K H p xs)\/(T = "tuple" /\ ∃o,K.lookup p=some o/\o.cls=.type "tuple" /\ o.dict=none) \/
   (T = "dict" /\ ((∃kvs,H p=some (.dK kvs))\/∃kvs,H p=some (.dT kvs)))\/(T = "set" /\ ∃S n,H p=some (.set S n))
 | _=>False
theorem qbI{pins:List (vJ×Obj)}{σ:St}{H:Hp}{s:vF}{T:String}{x:V}{v:vB}(I:Inv X pins σ H s)(r:RelV x v)(ty:tyV X.K T x H):
  s.TypeIs v T/\∀a,v=.ref a->∃ob,s.heap.get? a=some ob/\ob.dict=none:=by
 cases x with
 | str z=>
  obtain⟨t,rfl⟩:=r;cases (show T = "str" from ty);exact⟨typeIs_str s z t,λ_ e=>nomatch e⟩
 | int i=>
  obtain⟨t,rfl⟩:=r;cases (show T = "int" from ty);exact⟨typeIs_int s i t,λ_ e=>nomatch e⟩
 | ref p=>
  cases r;rcases ty with⟨rfl,xs,hq⟩|⟨rfl,o,hk,hc,hd⟩|⟨rfl,hk⟩|⟨rfl,S,n,hk⟩
  ·obtain⟨its,_,pl,_⟩:=I.list hq
   refine⟨pl.isList.typeIs,λa e=>?_⟩;cases e;obtain⟨o,n,e,c,hd,_⟩:=pl;exact⟨o,e,hd⟩
  ·refine⟨⟨o,I.kIn p o hk,hc⟩,λa e=>?_⟩
   cases e;exact⟨o,I.kIn _ o hk,hd⟩
  ·have z:∃o,s.heap.get? p=some o/\o.ExactDict:=by
    rcases hk with⟨kvs,hk⟩|⟨kvs,hk⟩
    ·obtain⟨_,_,_,_,o,_,_,e,ex,_⟩:=I.hok p _ hk
     exact⟨o,e,ex⟩
    ·obtain⟨_,_,_,_,o,_,_,e,ex,_⟩:=I.hok p _ hk
     exact⟨o,e,ex⟩
   obtain⟨o,e,ex⟩:=z;refine⟨⟨o,e,ex.1⟩,λa e2=>?_⟩;cases e2;exact⟨o,e,ex.2.1⟩
  ·obtain⟨o,_,_,_,e,ex,_⟩:=I.hok p _ hk
   refine⟨⟨o,e,ex.1⟩,λa e2=>?_⟩;cases e2;exact⟨o,e,ex.2.1⟩
 | _=>exact False.elim ty
noncomputable def tBM0(K:zA)(T:String)(r:V->List V->Hp->VK->Prop)(to:TE):TE:=λσ H Q=>to σ H λx H1=>tyV K T x H1/\r x [] H1 Q
noncomputable def tBM(K:zA)(T:String)(r:V->List V->Hp->VK->Prop)(to:TE)(t:TA):TE:=λσ H Q=>to σ H λx H1=>tyV K T x H1/\t σ H1 λxs H2=>r x xs H2 Q
variable{o e:vX}{es:List vX}{to:TE}{t:TA}{name:Str}{apos cpos:Pos}{T id:String}{r:V->List V->Hp->VK->Prop}
theorem q8Q(pa:PlainAttrs T)(slot:Slot T name id)(hty:typeOf (.builtin id)=pure (.type "method_descriptor"))(hm:MtR X id r)(ho:PE X o to)(hbase:uG o name X.env (eval o X.env)=eval o X.env:=by rfl)(hline:(apos.endLine==cpos.line)=true:=by rfl):PE X (.Call (.Attribute o name apos) [] [] cpos) (tBM0 X.K T r to):=by
 intro pins s σ H Q I h;refine wpAny_Call_method0_late hbase hline (thn (ho pins s σ H _ I h) λv s1 ⟨x,H1,I1,r1,ty,q1⟩=>?_);obtain⟨h1,h2⟩:=qbI I1 r1 ty;exact⟨T,id,pa,slot,hty,h1,h2,Calls.callWith_builtin rfl (PySem.evalArgs_none (hm pins s1 σ H1 x [] v [] Q I1 r1 .nil q1))⟩
theorem q1X(pa:PlainAttrs T)(slot:Slot T name id)(hty:typeOf (.builtin id)=pure (.type "method_descriptor"))(hm:MtR X id r)(ho:PE X o to)(ha:PA X (e::es) t)(hbase:uG o name X.env (eval o X.env)=eval o X.env:=by rfl)(hfew:((vk cpos (vK (e::es) X.env)).all (λx=>!x.1)&&(uN cpos (v4 [] X.env)).all (λx=>x.1.isSome)
   && decide ((e::es).length+([]:List uP).length+(if ([]:List uP).isEmpty then 0 else 1)<30))=true:=by rfl)
  (hline:(apos.endLine==cpos.line)=true:=by rfl) (hs:vK (e::es) X.env=(false,eval e X.env)::vK es X.env:=by rfl) (hplain:(vk cpos (vK es X.env)).any (·.1)=false:=by rfl) :
  PE X (.Call (.Attribute o name apos) (e::es) [] cpos) (tBM X.K T r to t):=by
 intro pins s σ H Q I h;refine wpAny_Call_method_late hbase hfew hline rfl (thn (ho pins s σ H _ I h) λv s1 ⟨x,H1,I1,r1,ty,q1⟩=>?_);obtain⟨h1,h2⟩:=qbI I1 r1 ty;refine⟨T,id,pa,slot,hty,h1,h2,?_⟩;have hA:=ha cpos pins s1 σ H1 _ I1 q1;rw[hs]at hA ⊢;refine Calls.callWith_builtin (by show (false || (vk cpos (vK es X.env)).any (·.1))=false;rw[hplain] <;> rfl) (Calls.evalArgs_plain ?_);exact thn hA λus s2 ⟨vs,H2,I2,r2,q2⟩=>hm pins s2 σ H2 x vs v us Q I2 r1 r2 q2
end
def MtM(X:Cx)(id:String)(r:V->List V->Hp->VK->Prop):Prop :=
 ∀(pins:List (vJ×Obj))(s:vF)(σ:St)(H:Hp)(x:V)(xs:List V)(v:vB)(us:List vB)(Q:VK),Inv X pins σ H s->RelV x v->Yv xs us->r x xs H Q ->
  vO (model X.prog X.w) X.A (call (.builtin id) (v::us)) (EP X pins σ Q) X.xe s
theorem Yv.one:∀{x:V}{us:List vB},Yv [x] us->∃u,us=[u]/\RelV x u
 | _,_,.cons r .nil=>⟨_,rfl,r⟩
theorem Yv.zero:∀{us:List vB},Yv [] us->us=[]
 | _,.nil=>rfl
theorem Yv.dropLast{xs:List V}{us:List vB}(h:Yv xs us):Yv xs.dropLast us.dropLast:=by
 induction h with
 | nil=>exact .nil
 | cons r t ih=>
  cases t with
  | nil=>exact .nil
  | cons q t'=>exact .cons r ih
theorem Yv.eraseIdx:∀{xs:List V}{us:List vB}(i:Nat),Yv xs us->Yv (xs.eraseIdx i) (us.eraseIdx i)
 | _,_,_,.nil=>.nil
 | _,_,0,.cons _ t=>t
 | _,_,i+1,.cons r t=>.cons r (Yv.eraseIdx i t)
theorem Yv.reverse{xs:List V}{us:List vB}(h:Yv xs us):Yv xs.reverse us.reverse:=by
 induction h with
 | nil=>exact .nil
 | cons r t ih=>rw[ZI,ZI];exact Yv.append ih (.cons r .nil)
theorem Yv.rep{xs:List V}{us:List vB}(h:Yv xs us):∀k:Nat,Yv (zj k xs).flatten (zj k us).flatten
 | 0=>.nil
 | k+1=>by
  rw[z8,z8,yF,yF];exact Yv.append h (Yv.rep h k)
theorem qbg{α:Type}(l:List α):l.eraseIdx (l.length-1)=l.dropLast:=by
 induction l with
 | nil=>rfl
 | cons a r ih=>
  cases r with
  | nil=>rfl
  | cons b r=>
   have e:(a::b::r).length-1=((b::r).length-1)+1:=by
    have h1:(a::b::r).length=r.length+2:=rfl;have h2:(b::r).length=r.length+1:=rfl;omega
   rw[e,List.eraseIdx_cons_succ,ih]
   all_goals rfl
theorem q7W{α:Type}:∀(l:List α)(i:Nat),(l.eraseIdx i).length<=l.length
 | [],_=>zK _
 | _::_,0=>yx _
 | _::r,i+1=>Nat.succ_le_succ (q7W r i)
theorem q7H(its:List vB):∀(k:Nat)(acc:List vB),
  ZY (λx1 x2=>x1++x2) acc.toArray (zj k its.toArray)=(acc++(zj k its).flatten).toArray
 | 0,acc=>by simp
 | k+1,acc=>by
  have e:acc.toArray++its.toArray=(acc++its).toArray:=by simp
  have e2:(acc++its)++(zj k its).flatten=acc++(zj (k+1) its).flatten:=by
   rw[z8,yF,zJ]
  rw[<- e2,<- q7H its k (acc++its),<- e,z8,YM]
section
variable{X:Cx}{pins:List (vJ×Obj)}{σ:St}{H:Hp}{s:vF}{l b:vJ}{xs ys zs:List V}
theorem Inv.lset{its its':List vB}{n:Nat}{f:Array vB->Array vB}{t':Nat}(I:Inv X pins σ H s)(hH:H l=some (.lst xs))(e:s.heap.get? l=some { cls:=.type "list", data:=.seq its.toArray n })(hf:f its.toArray=its'.toArray)(hv:Yv ys its')(hz:ys.length<=sizeLine):
  Inv X pins σ (upd H l (.lst ys)) { s with heap:=s.heap.update l (Obj.mapSeq f),toks:=t' }:=by
 have q:=PySem.IsL.update e f;rw[hf]at q;refine I.write (x:=l) (e:=l) (by rw[hH];exact trivial) (.inl rfl) (λb' u hb hu=>(zk s.heap (Obj.mapSeq f) (Ne.symm hb)).trans hu) ⟨_,q⟩ ?_;exact⟨hz,its',_,hv,q⟩
theorem Inv.lnew{its:List vB}{t':Nat}(I:Inv X pins σ H s)(hv:Yv ys its)(hz:ys.length<=sizeLine):
  Inv X pins σ (upd H s.heap.objs.size (.lst ys)) { s with heap:=s.heap.push { cls:=.type "list", data:=.seq its.toArray },toks:=t' } :=
 I.laid (λ_ _ q=>zE _ q) (zK _) ⟨hz,its,0,hv,zR _ rfl⟩
theorem Inv.fresh(I:Inv X pins σ H s):H s.heap.objs.size=none:=I.hok.fresh (zK _)
theorem Inv.lstM(I:Inv X pins σ H s)(hH:H l=some (.lst xs)):xs.length<=sizeLine/\∃(its:List vB) (n:Nat),Yv xs its/\xs.length=its.length/\s.heap.get? l=some { cls:=.type "list", data:=.seq its.toArray n }:=by
 obtain⟨z,its,n,r,e⟩:=I.hok l _ hH;exact⟨z,its,n,r,r.length,e⟩
theorem Wz{n:Nat}(h:n<=sizeLine):Builtin.List.listTooLong n=false:=by
 unfold Builtin.List.listTooLong;exact vS ∅
end
section
variable{X:Cx}
def Xu:V->List V->Hp->VK->Prop:=λx vs H Q=>∃l xs y,x=.ref l/\vs=[y]/\H l=some (.lst xs)/\xs.length<sizeLine/\Q .non (upd H l (.lst (xs++[y])))
theorem q0z:MtM X "list.append" Xu:=by
 intro pins s σ H x vs v us Q I rx rv h;obtain⟨l,xs,y,rfl,rfl,hH,hz,q⟩:=h;cases rx;obtain⟨u,rfl,ru⟩:=rv.one;obtain⟨z,its,n,r,hl,e⟩:=I.lstM hH;refine uo F.slot_list_append ⟨_,e,rfl⟩ F.entry_list_append (F.args_list_append_2 _ _) (PySem.list_append l its.toArray n u (by rw[zP];omega)) ⟨e,?_⟩;refine⟨.non,_,I.lset (its':=its++[u]) hH e (by simp) (r.append (.cons ru .nil)) ?_,rfl,q⟩;rw[zC,zU];omega
def zBJ:V->List V->Hp->VK->Prop:=λx vs H Q=>∃l b xs zs,x=.ref l/\vs=[.ref b]/\H l=some (.lst xs)/\H b=some (.lst zs)/\xs.length+zs.length<=sizeLine/\Q .non (upd H l (.lst (xs++zs)))
theorem qbU:MtM X "list.extend" zBJ:=by
 intro pins s σ H x vs v us Q I rx rv h;obtain⟨l,b,xs,zs,rfl,rfl,hH,hB,hz,q⟩:=h;cases rx;obtain⟨u,rfl,ru⟩:=rv.one;cases ru;obtain⟨z,its,n,r,hl,e⟩:=I.lstM hH;obtain⟨z2,its2,n2,r2,hl2,e2⟩:=I.lstM hB;have hsz:its.toArray.size+its2.toArray.size<=sizeLine:=by rw[zP,zP];omega
 have hlong:¬(!its.toArray.isEmpty&&Builtin.List.listTooLong (its.toArray.size+its2.toArray.size))=true:=by
  rw[Wz hsz,xi];exact yH
 refine uo F.slot_list_extend ⟨_,e,rfl⟩ F.entry_list_extend (F.args_list_extend_2 _ _)
  (AutoSeq1.list_extend_list_list_0 l its.toArray n b its2.toArray n2 hlong (by rw[zP];omega) ∅) ⟨e,e2,?_⟩
 refine⟨.non,_,I.lset (its':=its++its2) hH e (by simp) (r.append r2) ?_,rfl,q⟩;rw[zC];omega
def rPop:V->List V->Hp->VK->Prop:=λx vs H Q=>∃l xs y,x=.ref l/\vs=[]/\H l=some (.lst xs)/\xs[xs.length-1]?=some y/\Q y (upd H l (.lst xs.dropLast))
theorem q9d:MtM X "list.pop" rPop:=by
 intro pins s σ H x vs v us Q I rx rv h;obtain⟨l,xs,y,rfl,rfl,hH,hy,q⟩:=h;cases rx;have hus:=rv.zero;subst hus;obtain⟨z,its,n,r,hl,e⟩:=I.lstM hH;obtain⟨u,hu,ru⟩:=r.get hy;have hy':its.toArray[its.toArray.size-1]?=some u:=by
  show its.toArray[its.length-1]?=some u;rw[<- zZ,<- hl];exact hu
 refine uo F.slot_list_pop ⟨_,e,rfl⟩ F.entry_list_pop (F.args_list_pop_1 _) (MeetsSeq.list_pop_last l its.toArray n u hy' (by rw[zP];omega)) ⟨e,?_⟩;refine⟨y,_,I.lset (its':=its.dropLast) hH e ?_ r.dropLast ?_,ru,q⟩
 ·show its.toArray.eraseIdxIfInBounds (its.toArray.size-1)=its.dropLast.toArray
  rw[zP,wP,qbg]
 ·rw[List.length_dropLast]
  omega
noncomputable def rCat:R2:=λx y H Q=>∃l b xs zs,x=.ref l/\y=.ref b/\H l=some (.lst xs)/\H b=some (.lst zs)/\xs.length+zs.length<=sizeLine/\∀p,H p=none->Q (.ref p) (upd H p (.lst (xs++zs)))
theorem qgn:OpR X (uV .Add) rCat:=by
 intro pins s σ H x y v u Q I rx ry h;obtain⟨l,b,xs,zs,rfl,rfl,hH,hB,hz,q⟩:=h;cases rx;cases ry;obtain⟨z,its,n,r,hl,e⟩:=I.lstM hH;obtain⟨z2,its2,n2,r2,hl2,e2⟩:=I.lstM hB;refine PySem.P.add_list e e2 ?_ (by rw[zP,zP];omega);have ea:its.toArray++its2.toArray=(its++its2).toArray:=by simp
 rw[ea];exact⟨.ref _,_,I.lnew (t':=s.toks) (r.append r2) (by rw[zC];omega),rfl,q _ I.fresh⟩
noncomputable def rRep:R2:=λx y H Q=>∃l k xs,x=.ref l/\y=.int k/\H l=some (.lst xs)/\-(2^63)<=k/\k<2^63/\xs.length*k.toNat<=sizeLine /\
 ∀p,H p=none->Q (.ref p) (upd H p (.lst (zj k.toNat xs).flatten))
theorem qfB{α:Type}(xs:List α)(k:Nat):(zj k xs).flatten.length=k*xs.length:=by
 induction k with
 | zero=>simp
 | succ k ih=>rw[z8,yF,zC,ih,Nat.succ_mul,Nat.add_comm]
theorem qgM:OpR X (uV .Mult) rRep:=by
 intro pins s σ H x y v u Q I rx ry h;obtain⟨l,k,xs,rfl,rfl,hH,h1,h2,hz,q⟩:=h;cases rx;obtain⟨t,rfl⟩:=ry;obtain⟨z,its,n,r,hl,e⟩:=I.lstM hH;have hlen:its.toArray.size*k.toNat<=sizeLine:=by rw[zP,<- hl];exact hz
 have hcap:¬its.toArray.size*k.toNat>(2^63-1)/8:=by
  have:(sizeLine:Nat)<=(2^63-1)/8:=by decide
  omega
 have hfit:¬(!Builtin.List.listFitsIndex k)=true:=by
  rw[fitsIndex_both h1 h2];exact yH
 have hlong:¬Builtin.List.listTooLong (its.toArray.size*k.toNat)=true:=by
  rw[Wz hlen];exact yH
 have hnew:ZY (λx1 x2=>x1++x2) #[] (zj (if its.toArray.isEmpty=true then 0 else k.toNat) its.toArray)=(zj k.toNat its).flatten.toArray:=by
  have f0:∀m:Nat,ZY (λx1 x2=>x1++x2) #[] (zj m its.toArray)=(zj m its).flatten.toArray:=λm=>by
   have:=q7H its m [];rw[yE]at this;exact this
  rw[f0];cases its with
  | nil=>simp
  | cons a r'=>rw[vG (by simp)]
 refine wpAny_binaryOp_repeat_ref (T := "list") (U := "int") (by decide) ⟨_,e,rfl⟩ (λs'=>typeIs_int s' k t) noFill_list_mul F.fills_int_mul F.slot_int_rmul repeat_list F.slot_int_index.lookup
  (uo F.slot_int_rmul (typeIs_int s k t) F.entry_int_rmul (F.args_int_rmul_2 _ _) (int___rmul___int_list k t l its.toArray n)
   ⟨e,rfl,⟨_,e,rfl⟩,uo F.slot_list_mul ⟨_,e,rfl⟩ F.entry_list_mul (F.args_list_mul_2 _ _) (AutoListH.list___mul___list_int_3 l its.toArray n k t hfit hcap hlong) ⟨e,?_⟩⟩)
 rw[hnew];exact⟨.ref _,_,I.lnew (t':=s.toks) (r.rep k.toNat) (by rw[qfB,Nat.mul_comm];exact hz),rfl,q _ I.fresh⟩
end
section
variable{prog:vW}{w:vZ}{A:ve}{E:vB->vF->Prop}{s:vF}
end
section
variable{X:Cx}
end
end L2
namespace Att
open PySem PySem.W PySem.Calls PyProof.Rows
theorem WX{P:Params}{h:vj}:∀(ns:List Int)(vs:List vB),WellAll P h vs (ns.map WData.int)->uC vs ns:=by
 intro ns
 induction ns with
 | nil=>
  intro vs w;rw[yP]at w;cases w;exact .nil
 | cons n ns ih=>
  intro vs w;rw[zc]at w;cases w with
  | cons a b=>
   cases a;exact .cons _ _ (ih _ b)
theorem zBc{l:OpenLaw}{n:Nat}(hn:l.most=some n){P:Params}{h:vj}{args:List WData}{vals:List vB}(hpre:l.row.toRowW.claim.pre args=true)(hwl:WellAll P h vals args):
  ∃a vs ns,vals=[Value.ref a]/\args=[WData.list (ns.map WData.int)]/\h.get? a=some { cls:=.type "list", data:=.seq vs.toArray }/\uC vs ns/\ns.length<=n:=by
 have hsh:WShape.hasAll [] args [.list .int]=true:=(pre_splitW hpre).1;have hc:l.pre.holds [] { args:=args }=true:=(pre_splitW hpre).2;obtain⟨d,r,rfl,h1,h2⟩:=hasAllW_cons hsh;obtain rfl:=hasAllW_nil h2;obtain⟨xs,rfl,h3⟩:=hasW_list h1;obtain⟨ns,rfl⟩:=items_int h3;have hlen:ns.length<=n:=by
  unfold OpenLaw.pre at hc;have h4:(WTm.not (.lt (.lit (.int (n:Int))) (.len (.arg 0)))).holds [] { args:=[.list (ns.map .int)] }=true:=by
   have h4:=(holds_andW hc).1;rw[hn]at h4;exact h4
  have h5:=condW_of h4 (w_not (w_lt w_lit (w_len_list (w_arg rfl))));rw[zB]at h5;refine Nat.le_of_not_lt λq=>?_;have q':(n:Int)<((ns.length:Nat):Int):=∅
  first
   | (rw[vU q']at h5;exact vP h5 (by decide))
   | (simp at h5;omega)
 cases hwl with
 | cons w1 w2=>
  cases w2;cases w1 with
  | list ho hall=>exact⟨_,_,ns,rfl,rfl,ho,WX ns _ hall,hlen⟩
theorem zA9(l:OpenLaw)(args:List WData):l.row.toRowW.claim.post args (.bool true) args=true :=
 postW_of (r:=l.row.toRowW) (X:=(true==true))
  (show WShape.has [] (.bool true) .bool=true by first|rfl|decide|simp[WShape.has,WShape.arms,WShape.armsAll])
  (show (WTm.eq .res (.lit (.bool true))).value [] { args:=args,res:=some (.bool true),after:=args }=some (.bool (true==true))from w_eq_bool (w_res rfl) w_lit) rfl
theorem attach_call{l:OpenLaw}{n:Nat}{q:vW}{loose:List Str}{XP:(Str->Option vB)->vj->Prop}{YP:vZ->vj->Prop}{d:DefRec}(hn:l.most=some n)(hdf:d.params.defaults=[])(call:∀(w:vZ)(s₀ s₁:vF)(mg mb:Str->Option vB)(fa:vJ)(o:Obj)(pm cd doc:vB)(a:vJ)(vs:List vB)(ns:List Int),
   Ground q loose [] XP w s₀ mg mb s₁.heap->YP w s₁.heap ->
   s₁.heap.get? fa=some o->o.data=.func (docDef d.name d.params d.body d.scope pm cd doc)->s₁.heap.CodeRec cd d.name->mg d.name=some (.ref fa) ->
   s₁.heap.get? a=some { cls:=.type "list", data:=.seq vs.toArray }->uC vs ns->ns.length<=n->s₁.gens=#[] ->
   uc (model l.prog w) t6 (.call (.ref fa) ⟨[.ref a],[]⟩) (λr s'=>r=.ok (.ret (.bool true))/\OldK s₁.heap s'.heap/\s'.os=s₁.os/\tJ s'.gens) s₁) :
  WalkO q loose XP YP l.row.toRowW d [] (λf vs=>PySem.call f vs):=by
 intro w s₀ s₁ mg mb G Y fa o pm cd doc dV kV ho hd hcd hD hmg hg args vals as hpre hlay hrd hwl hlo;obtain rfl:dV=.none:=Dflts.none hD hdf;obtain rfl:kV=.none:=Dflts.noKw hD;obtain⟨a,vs,ns,rfl,rfl,hobj,zAy,hlen⟩:=zBc hn hpre hwl;refine enter_call (uf (call w s₀ s₁ mg mb fa o pm cd doc a vs ns G Y ho (fd_plain hd) hcd hmg hobj zAy hlen hg) λr s' hq=>?_);obtain⟨rfl,h2,h3,h4⟩:=hq;exact⟨.inl ⟨.bool true,.bool true,[],rfl,λ_=>rfl,.bool true,zA9 l _,λ_=>⟨xF,λ_ hm=>(nomatch hm)⟩⟩,h2,h3,h4⟩
section
variable{prog:vW}{w:vZ}{A:ve}{E:vB->vF->Prop}{s:vF}{K:Frag}
end
end Att
namespace L2
open PySem PySem.Spec PyProof.Rows
theorem q0W:∀{vs:List vB}{ns:List Int},uC vs ns->Yv (ns.map V.int) vs
 | _,_,.nil=>.nil
 | _,_,.cons n t h=>.cons ⟨t,rfl⟩ (q0W h)
def Only(H:Hp):Prop:=∀b,H b=none\/∃o xs,H b=some (.frz o (.lst xs))
theorem qcV{P:vW}{w:vZ}{K:zA}{mg mb:Str->Option vB}{CX:CXT}{k:Nat}{fa a:vJ}{fd:vQ}{x:Str}{sp:Sp}{s₁:vF}{vs:List vB}{ns:List Int}(KX:K.In s₁.heap)(hns:s₁.heap.Ns vY mg)(hb:s₁.heap.Ns builtinsNs mb)(hbb:∀x:Str,x ≠ "__name__" -> mb x=vm x)(hlim:s₁.heap.NoLimit)(hg:s₁.gens=#[])(ha:s₁.heap.get? a=some { cls:=.type "list", data:=.seq vs.toArray })(hi:uC vs ns)(hl:ns.length<=sizeLine)(hr:Room k t6)(F:∀base:vj,K.In base->base.Ns vY mg->FnOk P w K mg base CX k fa fd [x] sp)(hbind:∀(s:vF)(u:vB),sG s fd ⟨[u],[]⟩ [(x,u)])(hsp:∀H:Hp,Only H->SqL K H a (ns.map V.int)->sp [.ref a] H (λv _=>v=.bl true) λ_ _ _=>False)(hCX:∀H e s',CX [] H s₁ (λ_ _ _=>False) e s'->False):
  uc (model P w) t6 (.call (.ref fa) ⟨[.ref a],[]⟩) (λr s'=>r=.ok (.ret (.bool true))/\OldK s₁.heap s'.heap/\s'.os=s₁.os/\tJ s'.gens) s₁:=by
 have rv:=q0W hi;have lenV:=hi.length;have core:∀H:Hp,Only H->SqL K H a (ns.map V.int)->HOk P w H s₁.heap->(∀b,H b≠none->b=a)->(H a≠none->K.lookup a=none) ->
   uc (model P w) t6 (.call (.ref fa) ⟨[.ref a],[]⟩) (λr s'=>r=.ok (.ret (.bool true))/\OldK s₁.heap s'.heap/\s'.os=s₁.os/\tJ s'.gens) s₁:=by
  intro H hO hS hok hA hK;have base_of:∀{b:vJ}{o:Obj},s₁.heap.get? b=some o->H b=none->(zBo s₁.heap H).get? b=some o:=λe n=>qec e n;have noA:∀{b:vJ}{o:Obj}{es:Array DictEntry}{ep:Nat},s₁.heap.get? b=some o->o.data=.dict es ep->H b=none:=λ{b o es ep} e d=>by
   cases q:H b with
   | none=>rfl
   | some u=>
    have e':b=a:=hA b (by rw[q];simp);subst e';rw[ha]at e;cases e;have d':Data.seq vs.toArray _=Data.dict es ep:=d;cases d'
  have nsK:∀{b:vJ}{m:Str->Option vB},s₁.heap.Ns b m->(zBo s₁.heap H).Ns b m:=λ{b m} ⟨o,es,ep,e,d,r⟩=>⟨o,es,ep,base_of e (noA e d),d,r⟩;have hKb:K.In (zBo s₁.heap H):=λb o e=>base_of (KX b o e) (by
   cases q:H b with
   | none=>rfl
   | some u=>
    have e':b=a:=hA b (by rw[q];simp);subst e';rw[hK (by rw[q];simp)]at e;cases e)
  have hM:Mod K mg (zBo s₁.heap H):=⟨hKb,nsK hns,⟨mb,nsK hb,hbb⟩,let ⟨mc,h1,h2⟩:=hlim;⟨mc,nsK h1,h2⟩⟩;have e0:Env0 P w K mg (zBo s₁.heap H) t6 [] s₁ H:=⟨rfl,hM,λb o e=>qeZ e,Nat.le_of_eq (qc6 _ _),trivial,λb hb=>vP (show b∈([]:List vJ)from hb) (by simp),hok,.of_eq hg⟩;refine uf ((F _ hKb (nsK hns)).run t6 [] s₁ H ⟨[.ref a],[]⟩ [.ref a] [.ref a] _ _ hr e0 (hbind s₁ (.ref a)) (.cons rfl .nil) (hsp H hO hS)) λr s' h=>?_;cases r with
  | error e=>exact(hCX H e s' h).elim
  | ok fl=>
   cases fl with
   | next=>exact False.elim h
   | brk=>exact False.elim h
   | cont=>exact False.elim h
   | ret u=>
    obtain⟨v,H',os,bare,un,hok',r',q⟩:=h;have q':v=.bl true:=q;subst q';obtain rfl:u=Value.bool true:=r';refine⟨rfl,OldK.of_keep λb o e=>?_,os,bare⟩;cases q:H b with
    | none=>exact un.keep b o e q (by intro z;exact vP (show b∈([]:List vJ)from z) (by simp)) (by simp)
    | some u=>
     rcases hO b with z|⟨ob,xs,z⟩
     ·rw[q]at z;cases z
     ·have z2:=un.frzs b ob _ z
      obtain⟨e1,_⟩:=hok b _ z;obtain⟨e2,_⟩:=hok' b _ z2;rw[e]at e1;cases e1;exact e2
 cases hk:K.lookup a with
 | some o=>
  have e:=KX a o hk;rw[ha]at e;cases e;refine core (λ_=>none) (λ_=>.inl rfl) (.inr ⟨_,vs.toArray,_,hk,rfl,rfl,rfl,by rw[zP,lenV];exact hl,by simpa using rv⟩) (λb u z=>by have z':(none:Option HO)=some u:=z;cases z') (λb z=>vP rfl z) λz=>vP rfl z
 | none=>
  refine core (λb=>if b=a then some (.frz { cls:=.type "list", data:=.seq vs.toArray } (.lst (ns.map V.int)))else none) (λb=>?_) (.inl (.inr ⟨{ cls:=.type "list", data:=.seq vs.toArray },vC rfl⟩)) (λb u z=>?_) (λb z=>?_) λ_=>hk
  ·by_cases hb:b=a
   ·exact .inr ⟨_,_,vC hb⟩
   ·exact .inl (vG hb)
  ·by_cases hb:b=a
   ·have z':=(vC hb).symm.trans z
    cases z';subst hb;exact⟨ha,by rw[zB];exact hl,vs,_,rv,ha⟩
   ·have z':=(vG hb).symm.trans z
    cases z'
  ·by_cases hb:b=a
   ·exact hb
   ·exact vP (vG hb) z
noncomputable abbrev KOf{K:zA}{h:vj}(_:K.In h):zA:=K
theorem qaw{l:Zg}{n k:Nat}{q:vW}{loose:List Str}{XP:(Str->Option vB)->vj->Prop}{YP:vZ->vj->Prop}{d:DefRec}{K:Params->zA}{CX:vZ->CXT}{sp:vZ->Sp}{x:Str}(hn:l.most=some n)(hn2:n<=sizeLine)(hdf:d.params.defaults=[])(hr:Room k t6)(hY:∀(w:vZ)(h:vj),YP w h->(K w.params).In h)(F:∀(w:vZ)(mg:Str->Option vB)(fa:vJ)(h:vj),(K w.params).In h->h.Ns vY mg->mg d.name=some (.ref fa) ->
   ∃fd:vQ,(∀(s:vF)(u:vB),sG s fd ⟨[u],[]⟩ [(x,u)]) /\
    ∀base:vj,(K w.params).In base->base.Ns vY mg->FnOk l.prog w (K w.params) mg base (CX w) k fa fd [x] (sp w))
  (hsp:∀(w:vZ)(H:Hp)(a:vJ)(ns:List Int),ns.length<=n->Only H->SqL (K w.params) H a (ns.map V.int)->sp w [.ref a] H (λv _=>v=.bl true) λ_ _ _=>False)
  (hCX:∀(w:vZ)(H:Hp)(s:vF)(e:vB)(s':vF),CX w [] H s (λ_ _ _=>False) e s'->False) :
  YZ q loose XP YP l.row.toRowW d [] (λf vs=>PySem.call f vs):=by
 refine Att.attach_call hn hdf λw s₀ s₁ mg mb fa o pm cd doc a vs ns G Y ho hd hcd hmg hobj zAy hlen hg=>?_;have KX:=hY w _ Y;obtain⟨fd,hb,hF⟩:=F w mg fa _ KX G.T.g hmg;exact qcV KX G.T.g G.T.b G.T.builtins G.T.nolimit hg hobj zAy (yJ hlen hn2) hr hF hb (λH hO hS=>hsp w H a ns hlen hO hS) λH e s'=>hCX w H s₁ e s'
end L2
namespace L2
open PySem PySem.Spec PyProof.Rows
noncomputable def Xy(s:vz):Arguments:=match s with
 | .FunctionDef _ a _ _ _ _ _ _ _ _=>a
 | _=>{ posonlyargs:=[],args:=[],vararg:=none,kwonlyargs:=[],kw_defaults:=[],kwarg:=none,defaults:=[] }
noncomputable def Xd(s:vz):List vz:=match s with
 | .FunctionDef _ _ b _ _ _ _ _ _ _=>b
 | _=>[]
noncomputable def Yk(s:vz):uw:=match s with
 | .FunctionDef _ _ _ _ _ _ sc _ _ _=>sc
 | _=>{ kind:=.function,names:=[],isGenerator:=false,isCoroutine:=false }
noncomputable abbrev CX0:CXT:=λ_ _ _ _ _ _=>False
noncomputable abbrev E0:XK:=λ_ _ _=>False
theorem pass0{X:Cx}:zAW CX0 X E0:=λ_ _ _ _ _ _ _ h=>h.elim
structure Fun (K:zA) (x qual:Str) (st:vz) (f:vJ) (fd:vQ):Prop where
 ex:∃(oc:vB) (od:Option vJ) (kV doc pm:vB) (an:Option vJ) (cdv ct:vB) (osl:Array (Option vB)),
  fd=xW x qual (Xy st) (Xd st) (Yk st) .none kV doc pm an cdv ct/\K.lookup f=some ⟨oc,od,.func fd,osl⟩/\wy K cdv qual=true
 kp:xh K (.ref f)=true
section
variable{P:vW}{w:vZ}{K:zA}{mg:Str->Option vB}{base:vj}
theorem Fun.ok{x qual:Str}{st:vz}{f:vJ}{fd:vQ}{N ps:List Str}{k:Nat}{sp:Sp}(F:Fun K x qual st f fd)(S:FnScope N ps (Yk st))(len:∀vs H Q E,sp vs H Q E->vs.length=ps.length)(hbody:∀(cdv:vB)(A:ve)(outer:List Env)(s:vF)(H:Hp)(vs:List V)(Q:VK)(E:XK),Room k (A.deeper (tf qual (Yk st) s.heap.objs.size f cdv))->sp vs H Q E ->
   ∃t,PSs (zBg CX0 P w K mg base N qual (Yk st) f cdv A outer s H E).nox (Xd st) t/\t { nx:=λ_ H'=>Q .non H',rt:=Q } (start N vs) H):FnOk P w K mg base CX0 (k+1) f fd ps sp:=by
 obtain⟨oc,od,kV,doc,pm,an,cdv,ct,osl,rfl,lk,hcd⟩:=F.ex;refine qhv lk hcd S len λA outer s H vs Q E hr hsp=>?_;obtain⟨t,h,q⟩:=hbody cdv A outer s H vs Q E hr hsp;exact⟨t,h.nox,q⟩
theorem Fun.binds{x qual:Str}{st:vz}{f:vJ}{fd:vQ}{ps:List Str}(F:Fun K x qual st f fd)(h:∀(kV doc pm:vB)(an:Option vJ)(cdv ct:vB)(us:List vB),us.length=ps.length->bindArgs (xW x qual (Xy st) (Xd st) (Yk st) .none kV doc pm an cdv ct) ⟨us,[]⟩=pure (ps.zip us)):Binds K fd ps []:=by
 obtain⟨oc,od,kV,doc,pm,an,cdv,ct,osl,rfl,lk,hcd⟩:=F.ex;exact .all (h kV doc pm an cdv ct)
theorem qgC{x qual:Str}{st:vz}{f:vJ}{oc:vB}{od an:Option vJ}{osl:Array (Option vB)}{kV doc pm cdv ct:vB}(l:K.lookup f=some ⟨oc,od,.func (xW x qual (Xy st) (Xd st) (Yk st) .none kV doc pm an cdv ct),osl⟩)(c:wy K cdv qual=true)(k:xh K (.ref f)=true):Fun K x qual st f (xW x qual (Xy st) (Xd st) (Yk st) .none kV doc pm an cdv ct):=⟨⟨oc,od,kV,doc,pm,an,cdv,ct,osl,rfl,l,c⟩,k⟩
end
theorem zBa{n:Nat}(h:n<=1000):n<sizeLine:=Nat.lt_of_le_of_lt h (by decide)
section
variable{X:Cx}
theorem pv(i:Nat){x:Str}{pos:Pos}(hN:X.N[i]?=some x:=by rfl)(hv:Vis X.env.scope x:=by first|exact Or.inl rfl|exact Or.inr (Or.inl rfl)|exact Or.inr (Or.inr rfl))(hd:(x==("__debug__" : Str))=false:=by decide)(hcd:(x==("__classdict__" : Str))=false:=by decide):PE X (.Name x pos) (XJ i):=qgF hN hv hd hcd
end
def Y0(H H':Hp):Prop:=∀b o,H b=some o->H' b=some o
theorem Y0.refl(H:Hp):Y0 H H:=λ_ _ h=>h
theorem Y0.trans{H H1 H2:Hp}(a:Y0 H H1)(b:Y0 H1 H2):Y0 H H2:=λc o h=>b c o (a c o h)
theorem Y0.free{H H':Hp}(e:Y0 H H'){l:vJ}(h:H' l=Yd):H l=Yd:=by
 cases q:H l with
 | none=>rfl
 | some o=>
  rw[e l o q]at h;cases h
theorem Y0.seq{K:zA}{H H':Hp}{a:vJ}{xs:List V}(e:Y0 H H')(h:SqL K H a xs):SqL K H' a xs:=by
 rcases h with (h|⟨o,h⟩)|h
 ·exact .inl (.inl (e _ _ h))
 ·exact .inl (.inr ⟨o,e _ _ h⟩)
 ·exact .inr h
end L2
namespace Hk
open PySem
def zA2(xs:Array Nat):Prop:=xs.toList.Pairwise (· < ·)
theorem q55{l:List Nat}(h:l.Pairwise (· < ·)){i j:Nat}(hi:i<l.length)(hj:j<l.length)(hij:i<j):l[i]<l[j]:=yQ.mp h i j hi hj hij
theorem qe5{xs:Array Nat}{j:Nat}(h:zA2 xs):∀(fuel lo hi:Nat),lo<=hi->hi<=xs.size->hi-lo<=fuel->(∀k(z:k<xs.toList.length),k<lo->xs.toList[k]<j)->(∀k(z:k<xs.toList.length),hi<=k->j<=xs.toList[k]) ->
  SetTable.below.go xs j fuel lo hi<=xs.size/\(∀k(z:k<xs.toList.length),k<SetTable.below.go xs j fuel lo hi->xs.toList[k]<j)/\(∀k(z:k<xs.toList.length),SetTable.below.go xs j fuel lo hi<=k->j<=xs.toList[k]):=by
 intro fuel
 induction fuel with
 | zero=>
  intro lo hi h1 h2 h3 h4 h5;have e:lo=hi:=∅
  subst e;exact⟨h2,h4,h5⟩
 | succ n ih=>
  intro lo hi h1 h2 h3 h4 h5;unfold SetTable.below.go
  by_cases hl:lo<hi
  ·rw[vC hl]
   have hm:(lo+hi)/2<xs.toList.length:=by rw[zM];omega
   have hg:xs.getD ((lo+hi)/2) j=xs.toList[(lo+hi)/2]:=by
    rw[Array.getD_eq_getD_getElem?,<- zZ,zD hm];rfl
   by_cases hc:xs.getD ((lo+hi)/2) j<j
   ·simp only[hc,if_true]
    refine ih _ _ ∅ h2 ∅ (λk z hk=>?_) h5
    by_cases e:k=(lo+hi)/2
    ·subst e;rw[hg]at hc;exact hc
    ·have:=q55 h z hm ∅
     rw[hg]at hc;omega
   ·simp only[hc,if_false]
    refine ih _ _ ∅ ∅ ∅ h4 (λk z hk=>?_)
    by_cases e:k=(lo+hi)/2
    ·subst e;rw[hg]at hc;omega
    ·have:=q55 h hm z ∅
     rw[hg]at hc;omega
  ·rw[vG hl]
   have e:lo=hi:=∅
   subst e;exact⟨h2,h4,h5⟩
theorem q94{xs:Array Nat}(h:zA2 xs)(j:Nat):SetTable.below xs j<=xs.size/\(∀k(z:k<xs.toList.length),k<SetTable.below xs j->xs.toList[k]<j)/\(∀k(z:k<xs.toList.length),SetTable.below xs j<=k->j<=xs.toList[k]) :=
 qe5 h xs.size 0 xs.size (zy _) (zK _) ∅ (λk z hk=>vP hk (wD _)) (λk z hk=>by rw[zM]at z;omega)
theorem q3W{α:Type}(xs:Array α)(p:Nat)(x:α):(SetTable.insertAt xs p x).toList=xs.toList.take p++x::xs.toList.drop p:=by
 unfold SetTable.insertAt;simp[xX,yl]
theorem q9v{xs:Array Nat}(h:zA2 xs){j:Nat}(hn:xs[SetTable.below xs j]?≠some j):zA2 (SetTable.insertAt xs (SetTable.below xs j) j):=by
 obtain⟨h1,h2,h3⟩:=q94 h j;unfold zA2;rw[q3W,zW];have lt:∀y∈xs.toList.drop (SetTable.below xs j),j<y:=by
  intro y hy;obtain⟨k,hk,e⟩:=zg.mp hy;rw[yI]at hk;rw[xY]at e;have hb:SetTable.below xs j<xs.toList.length:=∅
  have hh:=h3 _ hb (zK _);have ne:xs.toList[SetTable.below xs j]≠j:=λz=>hn (by rw[<- zZ,zD hb,z]);have hle:xs.toList[SetTable.below xs j]<=y:=by
   by_cases e0:k=0
   ·subst e0;rw[<- e];simp
   ·rw[<- e];exact yU (q55 h hb ∅ ∅)
  omega
 refine⟨wR (ZH _ _) h,zd.mpr ⟨lt,wR (Z5 _ _) h⟩,λa ha b hb=>?_⟩;have haj:a<j:=by
  obtain⟨k,hk,e⟩:=zg.mp ha;rw[zf]at hk;rw[xG]at e;rw[<- e];exact h2 k ∅ ∅
 rcases zF.mp hb with rfl|hb
 ·exact haj
 ·exact Z6 haj (lt b hb)
structure Tb (t:SetTable) (n:Nat):Prop where
 fits:t.fits n=true
 rise:zA2 t.place
 dum:t.dummies=#[]
theorem q9m{t:SetTable}(hd:t.dummies=#[])(j:Nat):t.slot j≠.dummy:=by
 unfold SetTable.slot;rw[hd]
 dsimp only
 split
 ·exact λz=>nomatch z
 ·have:SetTable.has #[] j=false:=by simp[SetTable.has]
  rw[this];exact λz=>nomatch z
theorem q9H{t:SetTable}(hd:t.dummies=#[]){h:Int}:∀(fuel:Nat)(p:SetTable.Probe)(m:SetTable.Met),p.dummy=none->SetTable.probe.go t (λ_=>h+1) h fuel p=some m->∃j,m=.empty j none/\t.slot j=.empty:=by
 intro fuel
 induction fuel with
 | zero=>intro p m _ e;cases e
 | succ n ih=>
  intro p m hp e;unfold SetTable.probe.go at e;cases hs:t.slot p.j with
  | empty=>
   rw[hs]at e;cases e;exact⟨p.j,by rw[hp],hs⟩
  | dummy=>exact vP hs (q9m hd _)
  | live i=>
   rw[hs]at e;have hne:(h+1==h)=false:=by simp only[beq_eq_false_iff_ne,ne_eq];omega
   dsimp only at e
   rw[hne]at e;refine ih _ m ?_ e;unfold SetTable.advance
   split
   ·exact hp
   ·exact hp
theorem q9u{t:SetTable}(hd:t.dummies=#[]){h:Int}{slot:Nat}{b:Bool}(e:t.freeSlot h=some (slot,b)):b=false/\t.place[SetTable.below t.place slot]?≠some slot:=by
 unfold SetTable.freeSlot at e;cases q:t.probe (λ_=>h+1) h (t.probeStart h)with
 | none=>rw[q]at e;cases e
 | some m=>
  rw[q]at e;obtain⟨j,rfl,hs⟩:=q9H hd _ _ m (by rfl) q;cases e;refine⟨rfl,λz=>?_⟩;unfold SetTable.slot at hs
  dsimp only at hs
  have:(t.place[SetTable.below t.place j]?==some j)=true:=by
   rw[show t.place[SetTable.below t.place j]?=some j from z];simp
  rw[vC this]at hs;cases hs
theorem qaV(n:Nat):zA2 (Array.range n):=by
 unfold zA2;rw[Array.toList_range];exact wI
theorem q1Z(t:SetTable)(n:Nat):Tb (t.standIn n) n:=by
 refine⟨?_,qaV n,rfl⟩;unfold SetTable.fits SetTable.standIn SetTable.fill;simp;omega
theorem qhb{t:SetTable}{n:Nat}(h:zA2 t.place)(hd:t.dummies=#[]):Tb (t.orStandIn n) n:=by
 unfold SetTable.orStandIn
 by_cases z:t.fits n=true
 ·rw[vC z];exact⟨z,h,hd⟩
 ·rw[vG z];exact q1Z t n
theorem qfS(t:SetTable)(n:Nat):(t.orStandIn n).led=t.led:=by
 unfold SetTable.orStandIn
 split <;> rfl
theorem qcR{t:SetTable}{es:Array (Int×vB)}{h:Int}{x:vB}(T:Tb t es.size):
  (layNew t es h x).2.2.1=false/\Tb (layNew t es h x).2.1 (layNew t es h x).1.size/\(layNew t es h x).2.1.led=t.led/\(layNew t es h x).1.toList.Perm ((h,x)::es.toList):=by
 unfold layNew;cases q:t.freeSlot h with
 | none=>
  refine⟨rfl,?_,rfl,?_⟩
  ·rw[Zh];exact q1Z t _
  ·rw[ZJ]
   exact List.perm_append_singleton _ _
 | some p=>
  obtain⟨slot,b⟩:=p;obtain⟨rfl,hn⟩:=q9u T.dum q;have hd:(t.put slot).1.dummies=#[]:=by
   unfold SetTable.put
   dsimp only
   rw[T.dum];simp[SetTable.has]
  refine⟨rfl,qhb (q9v T.rise hn) hd,(qfS _ _).trans rfl,?_⟩;rw[q3W];refine yy ZP ?_;rw[z7]
theorem q5L{α:Type}{f:α->Option α}(h:∀x y,f x=some y->y=x):∀l:List α,(l.filterMap f).Sublist l
 | []=>by simp
 | a::r=>by
  rw[xf];cases q:f a with
  | none=>exact(q5L h r).cons a
  | some b=>rw[h a b q];exact(q5L h r).cons_cons a
theorem q71{α:Type}:∀l:List α,(zb l.length).filterMap (λi=>l[i]?)=l
 | []=>rfl
 | a::r=>by
  rw[zL,ZZ,xf];simp only[yj];rw[Zz];have e:((λi=>(a::r)[i]?) ∘ Nat.succ)=λi=>r[i]?:=by funext i;simp
  rw[e,q71 r]
theorem qeI{mask finger moves:Nat}{led plain:Bool}{hs:Array Int}{t:SetTable}{o:Array Nat}(e:SetTable.laid mask finger moves led plain hs=some (t,o)):zA2 t.place/\t.dummies=#[]/\t.led=led:=by
 unfold SetTable.laid at e;cases q:SetTable.layClean mask hs with
 | none=>rw[q]at e;cases e
 | some owner=>
  rw[q]at e;cases e;refine⟨?_,rfl,rfl⟩;unfold zA2
  dsimp only
  rw[List.map_filterMap];refine wR (q5L (λx y z=>?_) _) wI;cases q2:owner.getD x none with
  | none=>rw[q2]at z;cases z
  | some c=>rw[q2]at z;exact(zx z).symm
theorem qdq{t:SetTable}{es:Array (Int×vB)}(w:Nat):Tb (relayAll t es w).2.1 (relayAll t es w).1.size/\(relayAll t es w).2.1.led=t.led/\(relayAll t es w).1.toList.Perm es.toList:=by
 unfold relayAll;cases q:t.relaid (es.map (·.1)) w with
 | none=>exact⟨q1Z t _,rfl,xN _⟩
 | some p=>
  obtain⟨t',order⟩:=p
  dsimp only
  obtain⟨h1,h2,h3⟩:=qeI q
  by_cases z:(coversAll order es.size&&t'.fits (order.filterMap (es[·]?)).size)=true
  ·rw[vC z]
   rw[z9]at z;refine⟨⟨z.2,h1,h2⟩,h3,?_⟩;have hp:order.toList.Perm (zb es.size):=List.isPerm_iff.mp z.1;rw[Array.toList_filterMap];have e:(λ(i:Nat)=>es[i]?)=λ(i:Nat)=>es.toList[i]?:=by funext i;simp
   rw[e];have q2:=hp.filterMap λi=>es.toList[i]?;rw[<- zM,q71]at q2;exact q2
  ·rw[vG z]
   exact⟨q1Z t _,rfl,xN _⟩
end Hk
namespace Hk
open PySem PySem.Spec PyProof.Rows
noncomputable def vI:vB->Int
 | .int i _=>i
 | _=>0
def Wx(e:Int×vB):Prop:=∃x t,e=(sT x,Value.int x t)
theorem qaP{prog:vW}{w:vZ}{l:List (Int×vB)}(h:∀e∈l,Wx e):ElemsOf (u8 prog w) l:=λe he=>by
 obtain⟨x,t,rfl⟩:=h e he;exact⟨⟨x,intKind_is _ _ _ _,rfl⟩,rfl⟩
def zAR(h:vj)(a:vJ)(led:Bool)(xs:List Int):Prop:=∃o es ep t,h.get? a=some o/\o.ExactSet/\o.data=.set es ep t/\Tb t es.size/\t.led=led/\es.size<uh /\
 (∀e∈es.toList,Wx e)/\es.toList.map (λe=>vI e.2)=xs/\xs.Nodup
theorem zAR.len{h:vj}{a:vJ}{led:Bool}{xs:List Int}(S:zAR h a led xs):xs.length<uh:=by
 obtain⟨o,es,ep,t,_,_,_,_,_,z,_,e,_⟩:=S;rw[<- e,zB,zM];exact z
theorem zAR.at{h h':vj}{a:vJ}{led:Bool}{xs:List Int}(S:zAR h a led xs)(k:∀o,h.get? a=some o->h'.get? a=some o):zAR h' a led xs:=by
 obtain⟨o,es,ep,t,e,r⟩:=S;exact⟨o,es,ep,t,k o e,r⟩
theorem qaE{prog:vW}{w:vZ}{e:Int×vB}(h:Wx e)(x:Int):(u8 prog w).is x e.2=decide (vI e.2=x):=by
 obtain⟨y,t,rfl⟩:=h;show Value.isInt x (.int y t)=decide (y=x)
 by_cases z:y=x
 ·subst z;simp[Value.isInt]
 ·simp[Value.isInt,z]
theorem qbK{prog:vW}{w:vZ}{l:List (Int×vB)}(h:∀e∈l,Wx e){x:Int}(q:l.findIdx? (λe=>(u8 prog w).is x e.2)=none):x∉l.map (λe=>vI e.2):=λz=>by
 obtain⟨e,he,ex⟩:=yB.mp z;have:=List.findIdx?_eq_none_iff.mp q e he;rw[qaE (h e he),ex]at this;simp at this
theorem qbD{prog:vW}{w:vZ}{l:List (Int×vB)}(h:∀e∈l,Wx e){x:Int}{j:Nat}(q:l.findIdx? (λe=>(u8 prog w).is x e.2)=some j):x∈l.map (λe=>vI e.2):=by
 obtain⟨hj,hp,_⟩:=List.findIdx?_eq_some_iff_getElem.mp q;rw[qaE (h _ (yW hj))]at hp;exact yB.mpr ⟨_,yW hj,of_decide_eq_true hp⟩
section
variable{prog:vW}{w:vZ}{A:ve}{E:vB->vF->Prop}{s:vF}
theorem qaC{h:vj}{a:vJ}{o:Obj}{es es':Array (Int×vB)}{ep:Nat}{t t':SetTable}{led:Bool}{xs:List Int}(go:h.get? a=some o)(gx:o.ExactSet)(gd:o.data=.set es ep t)(T:Tb t' es'.size)(gl:t'.led=led)(gb:es'.size<uh)(gg:∀e∈es'.toList,Wx e)(gv:es'.toList.map (λe=>vI e.2)=xs)(gn:xs.Nodup):
  (h.update a (Obj.putSet es' t')).get? a=some { o with data:=.set es' (ep+1) t' }/\zAR (h.update a (Obj.putSet es' t')) a led xs:=by
 have q:=xT (Obj.putSet es' t') go (by rw[putSet_of es' t' gd];rfl);rw[putSet_of es' t' gd]at q;exact⟨q,_,es',ep+1,t',q,gx,rfl,T,gl,gb,gg,gv,gn⟩
theorem qcD{g:Bool->Sem Unit}(gw:∀(b:Bool)(s1:vF)(Q':Unit->vF->Prop),Q' () s1->vO (model prog w) A (g b) Q' E s1){a:vJ}{o:Obj}{es es1:Array (Int×vB)}{ep:Nat}{t t2:SetTable}{led:Bool}{xs:List Int}(go:s.heap.get? a=some o)(gx:o.ExactSet)(gd:o.data=.set es ep t)(T:Tb t2 es1.size)(gl:t2.led=led)(gb:es1.size<uh)(gg:∀e∈es1.toList,Wx e)(gv:es1.toList.map (λe=>vI e.2)=xs)(gn:xs.Nodup){dm:Bool}{R:Option Bool->vF->Prop}(k:∀h' ys,xV a s.heap h'->zAR h' a led ys->ys.Perm xs->R (some true) { s with heap:=h' }):
  vO (model prog w) A (do
    storeSet a es1 t2
    if (!dm&&t2.tooFull)=true then do
      g (relayAll t2 es1 (SetTable.grown es1.size)).2.2
      storeSet a (relayAll t2 es1 (SetTable.grown es1.size)).1 (relayAll t2 es1 (SetTable.grown es1.size)).2.1
      pure (some true)
     else pure (some true)) R E s:=by
 refine vA (wpAny_storeSet_of go gd ?_ (fits_of_scanBound gb));obtain⟨g1,S1⟩:=qaC go gx gd T gl gb gg gv gn;have sb:=Zs s.heap a (Obj.putSet es1 t2)
 split
 ·obtain⟨T2,l2,p2⟩:=qdq (t:=t2) (es:=es1) (SetTable.grown es1.size)
  generalize relayAll t2 es1 (SetTable.grown es1.size)=rl at T2 l2 p2 ⊢;obtain⟨es2,t3,gv2⟩:=rl
  dsimp only at T2 l2 p2 ⊢
  have hz:es2.size=es1.size:=by rw[<- zM,p2.length_eq,zM]
  have gb2:es2.size<uh:=by rw[hz];exact gb
  have pv:(es2.toList.map λe=>vI e.2).Perm xs:=by rw[<- gv];exact p2.map _
  refine vA (gw _ _ _ ?_);refine vA (wpAny_storeSet_of g1 rfl ?_ (fits_of_scanBound gb2));obtain⟨_,S2⟩:=qaC g1 gx rfl T2 (l2.trans gl) gb2 (λe he=>gg e (p2.mem_iff.mp he)) rfl (pv.nodup_iff.mpr gn);exact vH (k _ _ (sb.trans (Zs _ a _)) S2 pv)
 ·exact vH (k _ _ sb S1 (xN _))
theorem qho{a:vJ}{led:Bool}{xs:List Int}{x:Int}{tk:Tok}{Q:Bool->vF->Prop}(S:zAR s.heap a led xs)(room:xs.length+1<uh)(k:∀b h' ys,xV a s.heap h'->zAR h' a led ys->(x∈xs->ys=xs)->(x∉xs->ys.Perm (x::xs))->Q b { s with heap:=h' }):
  vO (model prog w) A (setAddHashed a (.int x tk) (sT x)) Q E s:=by
 obtain⟨o,es,ep,t,go,gx,gd,T,gl,gb,gg,gv,gn⟩:=id S;have hl:es.size=xs.length:=by rw[<- gv,zB,zM]
 have el:ElemsOf (u8 prog w) es.toList:=qaP gg;unfold setAddHashed setAddHashedIn;refine vn (vA (v6 go gd T.fits ?_))
 dsimp only
 rw[byScan_of (knd:=u8 prog w) (x:=.int x tk) rfl gb el];simp only[↓reduceIte];unfold setAddByScan;refine vA (vA (uD (vA (wpAny_setScan_of (knd:=u8 prog w) (k:=x) (intKind_is _ _ _ _) go gd T.fits el ?_))));cases q:List.findIdx? (λe=>(u8 prog w).is x e.2) es.toList with
 | some j=>
  dsimp only
  have hx:x∈xs:=by rw[<- gv];exact qbD gg q
  refine vH (vH ?_);exact k false s.heap xs (Z7 a s.heap) S (λ_=>rfl) λz=>vP hx z
 | none=>
  dsimp only
  have hx:x∉xs:=by rw[<- gv];exact qbK gg q
  obtain⟨d0,T1,l1,p1⟩:=qcR (t:=t) (es:=es) (h:=sT x) (x:=.int x tk) T;generalize layNew t es (sT x) (.int x tk)=ly at d0 T1 l1 p1 ⊢;obtain⟨es1,t1,dm,gave⟩:=ly
  dsimp only at d0 T1 l1 p1 ⊢
  have gg1:∀e∈es1.toList,Wx e:=λe he=>by
   rcases zF.mp (p1.mem_iff.mp he)with rfl|he
   ·exact⟨x,tk,rfl⟩
   ·exact gg e he
  have pv:(es1.toList.map λe=>vI e.2).Perm (x::xs):=by rw[<- gv];exact p1.map _
  have gn1:(es1.toList.map λe=>vI e.2).Nodup:=pv.nodup_iff.mpr (yN.mpr ⟨hx,gn⟩);have gb1:es1.size<uh:=by
   have:=pv.length_eq;rw[zB,zM,zL]at this;omega
  have gw:∀(b:Bool)(s1:vF)(Q':Unit->vF->Prop),Q' () s1->vO (model prog w) A (match b with|true=>rule "set.scan.the-table-gave-way" | false=>pure ()) Q' E s1 :=
   λb s1 Q' z=>by cases b <;> first|exact vH z|exact uD z
  refine vA (gw _ _ _ ?_);have fin:∀h' ys,xV a s.heap h'->zAR h' a led ys->ys.Perm (es1.toList.map λe=>vI e.2)->Q true { s with heap:=h' }:=λh' ys sb S' p=>k true h' ys sb S' (λz=>vP z hx) λ_=>p.trans pv
  split
  ·refine vA ?_
   rw[hashByValue_scannable 8 (x:=Value.int x tk) rfl];refine vH ?_;refine qcD (λb s1 Q' z=>by cases b <;> first|exact vH z|exact uD z) go gx gd T1 (l1.trans gl) gb1 gg1 rfl gn1 λh' ys sb S' p=>?_;exact vH (fin h' ys sb S' p)
  ·refine vA (vH ?_)
   simp only[↓reduceIte];refine qcD (λb s1 Q' z=>by cases b <;> first|exact vH z|exact uD z) go gx gd T1 (l1.trans gl) gb1 gg1 rfl gn1 λh' ys sb S' p=>?_;exact vH (fin h' ys sb S' p)
end
def zBm(h:vj)(S:vJ)(led:Bool)(val:Nat->Int)(m:Nat):Prop:=∃xs,zAR h S led xs/\xs.length<=m/\∀x,x∈xs↔∃i,i<m/\val i=x
theorem zBm.at{h h':vj}{a:vJ}{led:Bool}{val:Nat->Int}{m:Nat}(S:zBm h a led val m)(k:∀o,h.get? a=some o->h'.get? a=some o):zBm h' a led val m:=by
 obtain⟨xs,q,r⟩:=S;exact⟨xs,q.at k,r⟩
section
variable{prog:vW}{w:vZ}{A:ve}{R:sC->vF->Prop}{I:vJ}{fp wr:List vJ}{G:Array tZ->Array tZ->Prop}{n:Nat}{P:Nat->vB->Prop}{St:Nat->vF->Prop}
theorem zCP(W:WalksS prog w A.in1 I fp wr G n P St)(S:vJ)(hS:S∉fp){led:Bool}(val:Nat->Int)(hv:∀i v,P i v->∃t,v=.int (val i) t)(hb:n+1<uh):
  ∀(k i:Nat)(s:vF),n-i=k->i<=n->St i s->zBm s.heap S led val i->(∀s',Moved (S::wr) G s s'->zBm s'.heap S led val n->R (.ok (.ret .none)) s') ->
   uc (model prog w) A (.builtin "set.update.loop" ⟨[.ref S,.ref I],[]⟩) R s:=by
 have hw:S∉wr:=λz=>hS (W.sub _ z);have hsub:∀b∈wr,b∈S::wr:=λb z=>zH _ z;intro k
 induction k with
 | zero=>
  intro i s hk hi st SV hR;have hin:i=n:=∅
  subst hin;refine uK PyProof.Rows.F.entry_set_update_loop ?_;rw[Around.under_plainId PyProof.Rows.F.plain_set_update_loop _];show vO _ A.in1 (uU (.ref I) >>= _) _ _ s;refine vA (W.done s _ _ st λs' hm=>?_);show vO _ A.in1 (ret Value.none) _ _ s';exact vH (hR s' (hm.mono hsub) (SV.at λo e=>hm.heap S o hw e))
 | succ k ih=>
  intro i s hk hi st SV hR;have hlt:i<n:=∅
  refine uK PyProof.Rows.F.entry_set_update_loop ?_;rw[Around.under_plainId PyProof.Rows.F.plain_set_update_loop _];show vO _ A.in1 (uU (.ref I) >>= _) _ _ s;refine vA (W.item i s _ _ hlt st λv s1 hP st1 hm=>?_);obtain⟨t,rfl⟩:=hv i v hP;obtain⟨xs,S1,hl,hx⟩:=SV.at (h':=s1.heap) λo e=>hm.heap S o hw e;show vO _ A.in1 (holding [Value.int (val i) t] (setAdd S (.int (val i) t)) >>= _) _ _ s1;refine vA (vn ?_);unfold setAdd;refine vn ?_;refine vA ((u8 prog w).pyHash (k:=val i) (intKind_is _ _ _ _) ?_);refine qho (s:={ s1 with toks:=s1.toks+1 }) (x:=val i) S1 ∅ λb h' ys sb S2 y1 y2=>?_;have SV2:zBm h' S led val (i+1):=by
   refine⟨ys,S2,?_,λx=>?_⟩
   ·by_cases z:val i∈xs
    ·rw[y1 z];omega
    ·rw[(y2 z).length_eq,zL];omega
   ·by_cases z:val i∈xs
    ·rw[y1 z,hx]
     refine⟨λ⟨j,h1,h2⟩=>⟨j,∅,h2⟩,λ⟨j,h1,h2⟩=>?_⟩
     by_cases e:j=i
     ·subst e;exact(hx x).mp (by rw[<- h2];exact z)
     ·exact⟨j,∅,h2⟩
    ·rw[(y2 z).mem_iff,zF,hx]
     refine⟨λh=>?_,λ⟨j,h1,h2⟩=>?_⟩
     ·rcases h with h|⟨j,h1,h2⟩
      ·exact⟨i,∅,h.symm⟩
      ·exact⟨j,∅,h2⟩
     ·by_cases e:j=i
      ·subst e;exact .inl h2.symm
      ·exact .inr ⟨j,∅,h2⟩
  refine vH ⟨uQ PyProof.Rows.F.plain_set_update_loop _,ih (i+1) _ ∅ hlt (W.frame _ s1 _ _ st1 (yx _) λb z o e=>?_) SV2 λs2 hm2 S3=>?_⟩
  ·rw[sb.2 b (λy:b=S=>hS (by rw[<- y];exact z))];exact e
  ·refine hR s2 (Moved.trans W.gtrans ((hm.mono hsub).then_heap (yx _) λb o z e=>?_) hm2) S3
   rw[sb.2 b (λy:b=S=>z (by rw[y];exact zG))];exact e
end
noncomputable abbrev XX(w:vZ):Bool:=!w.params.followText "set-order"
section
variable{prog:vW}{w:vZ}{A:ve}{E:vB->vF->Prop}{s:vF}
theorem qfr(a:vB){Q1:vB->vF->Prop}(h:Q1 (.ref s.heap.objs.size) { s with heap:=s.heap.push { cls:=.type "set", data:=.set #[] 0 (.fresh 0 0 (XX w)) } }):
  uc (model prog w) A (.call (.builtin "set.__new__") ⟨[.type "set", a],[]⟩) (wants Q1 E) s:=by
 refine codeAny_of_tree ?_;show vO _ A.in1 (checkBuiltinCall "set.__new__" ⟨[.type "set", a],[]⟩ >>= λ_=>again (.builtin "set.__new__" ⟨[.type "set", a],[]⟩)) _ _ s;refine vA (sP (PySem.F.newCall_set_1 a) (vH ⟨uQ PySem.F.plain_set_new _,uK PySem.F.entry_set_new ?_⟩));rw[Around.under_plainId PySem.F.plain_set_new _];unfold Builtin.«set.__new__» Builtin.Frozenset.newClass;have p1:=sub_set_self;obtain⟨hp,g,d,tk,os⟩:=s
 dsimp only
 wp_walk
 refine tP (vH ?_)
 dsimp only
 simp only[newObj];refine vA (wpAny_alloc (vH ?_));exact vH h
set_option maxHeartbeats 3200000 in
theorem q9C{l:vJ}{items:Array vB}{ns:List Int}{Q:vB->vF->Prop}(hh:A.handled=none)(il:s.heap.IsList l items)(ia:uC items.toList ns)(hb:items.size+1<uh)(k:∀(h':vj)(tk:Nat),zBm h' s.heap.objs.size (XX w) (λi=>ns.getD i 0) items.size->(∀b o,b<s.heap.objs.size->s.heap.get? b=some o->h'.get? b=some o)->Q (.ref s.heap.objs.size) { s with heap:=h',toks:=tk }):
  vO (model prog w) A (call (.type "set") [.ref l]) Q E s:=by
 obtain⟨c,tl,c1⟩:=PySem.F.called_set.mro;have c2:=PySem.F.called_set.made;have c3:=PySem.F.called_set.sub;refine wpAny_call (codeAny_of_tree ?_);show vO _ _ (callAny (.type "set") _) _ _ _;refine vH ⟨Code.quiet_builtin _ ⋯,uK PySem.F.entry_type_call ?_⟩;rw[Around.under_plain (weight_type_call_type "set" [.ref l] []) rfl];have c4:=PySem.F.called_set.notType;have c5:=PySem.F.called_set.canCreate;have c6:=PySem.F.typeCall_set_1 (.ref l)
 repeat (any_goals (first|assumption|wp_step))
 refine uf (qfr (.ref l) (E:=E) (Q1:=λobj s1=>obj=.ref s.heap.objs.size/\s1={ s with heap:=s.heap.push { cls:=.type "set", data:=.set #[] 0 (.fresh 0 0 (XX w)) } }) ⟨rfl,rfl⟩) λr s1 hr=>?_;cases r with
 | error e=>exact hr
 | ok fl=>
  cases fl with
  | ret obj=>
   obtain⟨rfl,rfl⟩:=hr;have hS:(s.heap.push { cls:=.type "set", data:=.set #[] 0 (.fresh 0 0 (XX w)) }).get? s.heap.objs.size=some { cls:=.type "set", data:=.set #[] 0 (.fresh 0 0 (XX w)) }:=zR _ rfl;have hT:Shared.TypeIs { s with heap:=s.heap.push { cls:=.type "set", data:=.set #[] 0 (.fresh 0 0 (XX w)) } } (.ref s.heap.objs.size) "set" := ⟨_,hS,rfl⟩;have c7:=PySem.F.called_set.init.lookup;have c8:=PySem.F.called_set.init.bind (.ref s.heap.objs.size)
   repeat (any_goals (first|assumption|wp_step))
   refine uf (codeAny_call_builtin (R:=wants (λr s2=>r=.none/\∃h' tk,s2={ s with heap:=h',toks:=tk }/\zBm h' s.heap.objs.size (XX w) (λi=>ns.getD i 0) items.size /\
     (∀b o,b<s.heap.objs.size->s.heap.get? b=some o->h'.get? b=some o)) E) PySem.F.called_set.init.plain PySem.F.entry_set_init (check_set_init_1 hT ?_)) λr2 s2 hr2=>?_
   ·obtain⟨ol,e1,e2,nl,e3⟩:=il
    obtain⟨ocls,odict,odata,oslots⟩:=ol;simp only at e2 e3;subst e2;subst e3;have e1':(s.heap.push { cls:=.type "set", data:=.set #[] 0 (.fresh 0 0 (XX w)) }).get? l=some { cls:=.type "list", dict:=odict,data:=.seq items nl,slots:=oslots }:=zE _ e1;have d1:=PySem.F.sub_list_set;have d2:=PySem.F.sub_list_frozenset;have d3:(Value.type "list" == Value.type "dict")=false:=by decide
    have il1:(s.heap.push { cls:=.type "set", data:=.set #[] 0 (.fresh 0 0 (XX w)) }).IsList l items:=⟨_,e1',rfl,nl,rfl⟩;unfold Builtin.«set.__init__» noKeywords Builtin.Frozenset.updateFrom;generalize hPI:sV=PI
    wp_walk
    subst hPI;refine tK il1 ?_;refine vA (wpAny_runValue ?_);have lS:l<s.heap.objs.size:=zO e1;have h3:A.in1.in1.in1.handled=none:=by simp[hh]
    have nI:l≠(s.heap.push { cls:=.type "set", data:=.set #[] 0 (.fresh 0 0 (XX w)) }).objs.size:=by rw[yc];exact zr (yR lS)
    have nS:s.heap.objs.size∉[(s.heap.push { cls:=.type "set", data:=.set #[] 0 (.fresh 0 0 (XX w)) }).objs.size,l]:=by
     rw[yc];simp only[zF,zS,zi,or_false,not_or];exact⟨zr (ye _),xr lS⟩
    have hv:∀(i:Nat)(v:vB),items[i]?=some v->∃t,v=.int ((λi=>ns.getD i 0) i) t:=λi v z=>IntsAre.int_at ia i v (by rw[zZ];exact z);refine zCP ((Walks.list h3 _ l nI items).toS) s.heap.objs.size nS (led:=XX w) (λi=>ns.getD i 0) hv hb (items.size-0) 0 _ ∅ (zy _) ⟨⟨_,zR _ rfl,rfl,rfl⟩,(il1.push _)⟩ ?S0 ?RR
    case S0=>
     refine⟨[],⟨_,#[],0,.fresh 0 0 (XX w),zE _ hS,⟨rfl,rfl,rfl⟩,rfl,⟨rfl,xF,rfl⟩,rfl,by show 0<uh;decide,λe z=>by simp at z,rfl,xO⟩,zK _,λx=>⟨λz=>(by cases z),λ⟨i,z,_⟩=>vP z (wD _)⟩⟩
    case RR=>
     intro s' hm S';obtain⟨h',g',d',tk',os'⟩:=s';have eg:g'=s.gens:=hm.gens;have ed:d'=s.drawn:=hm.drawn;have eos:os'=s.os:=hm.os;subst eg;subst ed;subst eos;show vO _ _ _ _ _ _;refine vH ?_;show vO _ _ (ret Value.none) _ _ _;refine vH ⟨rfl,h',tk',rfl,S',λb o z y=>?_⟩;refine hm.heap b o ?_ (zE _ (zE _ y));simp only[zF,zS,zi,or_false,not_or];exact⟨zr z,by rw[yc];exact zr (yR z)⟩
   ·cases r2 with
    | error e=>exact hr2
    | ok fl2=>
     cases fl2 with
     | ret r=>
      obtain⟨rfl,h',tk,rfl,S',kp⟩:=hr2
      repeat (any_goals (first|assumption|wp_step))
      exact k _ _ S' kp
     | next=>exact hr2.elim
     | brk=>exact hr2.elim
     | cont=>exact hr2.elim
  | next=>exact hr.elim
  | brk=>exact hr.elim
  | cont=>exact hr.elim
end
end Hk
namespace PySem.F
theorem slotSetNext:Slot "set_iterator" "__next__" "set_iterator.__next__" := .of (owner := "set_iterator") (n := "__next__") (by rw[uL,v5];kernel_rfl) ⋯ ⋯ ⋯ (by first|exact .inl ⋯|exact .inr ⋯) (by rw[ut];kernel_rfl)
theorem slotSetIt:Slot "set_iterator" "__iter__" "set_iterator.__iter__" := .of (owner := "set_iterator") (n := "__iter__") (by rw[uL,v5];kernel_rfl) ⋯ ⋯ ⋯ (by first|exact .inl ⋯|exact .inr ⋯) (by rw[ut];kernel_rfl)
theorem zAc:Manifest.owners.lookup (String.ofList ['r','o','t','a','r','e','t','i','_','t','e','s'].reverse)=some Manifest.sig_set_iterator:=by kernel_rfl
theorem argsSetNext(a:vB):sW "set_iterator.__next__" ⟨[a],[]⟩:=by
 unfold sW;rw[signature?_of (id := "set_iterator.__next__") (n:=['_','_','t','x','e','n','_','_']) (o:=['r','o','t','a','r','e','t','i','_','t','e','s']) (by kernel_rfl) zAc]
 kernel_rfl
theorem argsSetIt(a:vB):sW "set_iterator.__iter__" ⟨[a],[]⟩:=by
 unfold sW;rw[signature?_of (id := "set_iterator.__iter__") (n:=['_','_','r','e','t','i','_','_']) (o:=['r','o','t','a','r','e','t','i','_','t','e','s']) (by kernel_rfl) zAc]
 kernel_rfl
theorem entSetNext:entryFor table "set_iterator.__next__" = some Builtin.«set_iterator.__next__»:=entryFor_of_tree (by kernel_rfl)
theorem entSetIter:entryFor table "set.__iter__" = some Builtin.«frozenset.__iter__»:=entryFor_alias (id' := "frozenset.__iter__") (by kernel_rfl) rfl ⋯ (by kernel_rfl)
theorem entSetIt:entryFor table "set_iterator.__iter__" = some Builtin.«dict_keyiterator.__iter__»:=entryFor_alias (id' := "dict_keyiterator.__iter__") (by kernel_rfl) rfl ⋯ (by kernel_rfl)
end PySem.F
namespace Hk
open PySem PySem.Spec PyProof.Rows
section
variable{prog:vW}{w:vZ}{A:ve}{E:vB->vF->Prop}{s:vF}
theorem q3M{α:Type}:∀(l:List α)(k:Nat)(h:k<l.length),(l[k]::l.eraseIdx k).Perm l
 | a::r,0,_=>xN _
 | a::r,k+1,h=>by
  have h':k<r.length:=by simpa using h
  show (r[k]::a::r.eraseIdx k).Perm (a::r);exact(List.Perm.swap a r[k] _).trans ((q3M r k h').cons a)
theorem qaj{α:Type}(next:Nat->Nat):∀(fuel k:Nat)(left:List α)(out:Array α),left.length=fuel->(pickOrder.go next fuel k left out).toList.Perm (out.toList++left)
 | 0,k,left,out,h=>by
  have e:left=[]:=yo h;subst e;unfold pickOrder.go;rw[zn]
 | fuel+1,k,left,out,h=>by
  unfold pickOrder.go;have hlt:next k%left.length<left.length:=Nat.mod_lt _ ∅
  rw[zD hlt]
  dsimp only
  refine(qaj next fuel (k+1) _ _ (by rw[wz hlt,h];rfl)).trans ?_;rw[ZJ,zJ];exact yL _ (q3M left _ hlt)
theorem qbV{α:Type}(next:Nat->Nat)(xs:Array α):(uy next xs).toList.Perm xs.toList:=by
 have:=qaj next xs.size 0 xs.toList #[] (by simp)
 simpa [uy]using this
theorem qcz{M:Model}{src:Source}{n:Nat}{Q:Nat->vF->Prop}(hn:n≠0)(h:Q (M.w.draws src (s.drawn.get src)%n) { s with drawn:=s.drawn.bump src }):vO M A (choose src n) Q E s:=λ_ _ _=>⟨hn,h⟩
theorem q46{M:Model}{α:Type}:∀(n:Nat)(xs:List α)(s:vF)(Q:List α->vF->Prop),xs.length=n->(∀ys d,ys.Perm xs->Q ys { s with drawn:=d })->vO M A (drawOrder n xs) Q E s
 | 0,xs,s,Q,hl,h=>by
  have e:xs=[]:=yo hl;subst e;exact vH (h [] s.drawn (xN _))
 | n+1,[],s,Q,hl,h=>by cases hl
 | n+1,x::r,s,Q,hl,h=>by
  unfold drawOrder;refine vA (qcz (by simp) ?_);generalize hk:M.w.draws Source.order (s.drawn.get Source.order)%(x::r).length=k;have hlt:k<(x::r).length:=by rw[<- hk];exact Nat.mod_lt _ (by simp)
  rw[zD hlt]
  dsimp only
  have hl2:((x::r).eraseIdx k).length=n:=by rw[wz hlt,hl];rfl
  refine vA (q46 n _ _ _ hl2 λys d p=>vH (h _ d ?_));refine yy (p.cons _) ?_;exact q3M _ k hlt
end
noncomputable abbrev WA(f:vB)(i:Nat)(a:vJ)(n ep:Nat):Obj:={ cls:=.type "set_iterator", data:=.fields #[f,.int i 0,.ref a,.int n 0,.int ep 0] }
section
variable{prog:vW}{w:vZ}{A:ve}{E:vB->vF->Prop}{s:vF}
theorem q1c{a:vJ}{o:Obj}{es:Array (Int×vB)}{ep:Nat}{t:SetTable}{Q:Array (Int×vB)->vF->Prop}(go:s.heap.get? a=some o)(gd:o.data=.set es ep t)(gf:t.fits es.size=true)(h:Q es s):vO (model prog w) A (setEntries a) Q E s:=by
 unfold setEntries;exact vA (v6 go gd gf (vH h))
theorem qbM{it a:vJ}{slot i n ep:Nat}{o:Obj}{es:Array (Int×vB)}{t:SetTable}{x:vB}{nxt:Nat}{Q:Option vB->vF->Prop}(e:s.heap.get? it=some (WA (.int slot 0) i a n ep))(go:s.heap.get? a=some o)(gd:o.data=.set es ep t)(gf:t.fits es.size=true)(hn:es.size=n)(hnext:∀A' Q' E',Q' (some (x,nxt)) s->vO (model prog w) A' (tD a slot i ep) Q' E' s)(k:∀h',h'.get? it=some (WA (.int nxt 0) (i+1) a n ep)->xV it s.heap h'->Q (some x) { s with heap:=h' }):
  vO (model prog w) A (uU (.ref it)) Q E s:=by
 have hT:s.TypeIs (.ref it) "set_iterator" := ⟨_,e,rfl⟩;unfold uU;refine vA (uT (wpAny_callSpecial?_slot (name:=Str.ofString "__next__") hT F.slotSetNext (vp F.slotSetNext hT F.entSetNext ?_ (F.argsSetNext _))));unfold Builtin.«set_iterator.__next__»;refine vA (m:=sH "__next__" 0 ⟨[.ref it],[]⟩) (vH ?_);refine vA (tF e rfl ?_)
 dsimp only
 refine vA (q1c go gd gf ?_);rw[vG (by rw[hn];simp)];simp only[yi];refine vA (hnext _ _ _ ?_)
 dsimp only
 refine vA (uF e (by simp) λh1 e1 sb1=>?_);refine vA (uF (s:={ s with heap:=h1 }) e1 (by simp) λh2 e2 sb2=>?_);refine vH ⟨_,rfl,vH (k h2 ?_ (sb1.trans sb2))⟩;rw[e2];simp[uY]
theorem qc8{it a:vJ}{slot i n ep:Nat}{o:Obj}{es:Array (Int×vB)}{t:SetTable}{Q:Option vB->vF->Prop}(hh:A.handled=none)(e:s.heap.get? it=some (WA (.int slot 0) i a n ep))(go:s.heap.get? a=some o)(gd:o.data=.set es ep t)(gf:t.fits es.size=true)(hn:es.size=n)(hnext:∀A' Q' E',Q' none s->vO (model prog w) A' (tD a slot i ep) Q' E' s)(k:∀h',Heap.ExtBut it s.heap h'->Q none { s with heap:=h' }):
  vO (model prog w) A (uU (.ref it)) Q E s:=by
 have hT:s.TypeIs (.ref it) "set_iterator" := ⟨_,e,rfl⟩;unfold uU;refine vA (uT (wpAny_callSpecial?_slot (name:=Str.ofString "__next__") hT F.slotSetNext (vp F.slotSetNext hT F.entSetNext ?_ (F.argsSetNext _))));unfold Builtin.«set_iterator.__next__»;refine vA (m:=sH "__next__" 0 ⟨[.ref it],[]⟩) (vH ?_);refine vA (tF e rfl ?_)
 dsimp only
 refine vA (q1c go gd gf ?_);rw[vG (by rw[hn];simp)];simp only[yi];refine vA (hnext _ _ _ ?_)
 dsimp only
 refine vA (uF e (by simp) λh1 e1 sb1=>?_);show vO _ _ (newExc (.type "StopIteration") [] >>= λx=>sZ x) _ _ _;refine vA ?_;simp only[newExc,newTuple];refine vA (vo ?_ (by size_fits));refine vA (m:=tG _ _) (sP (a:=Value.none) (by first|rfl|(simp only[tG];rfl)) ?_);refine vo ?_ (by size_fits);simp only[sZ];refine vA (wpAny_handled ?_);rw[show A.in1.handled=none from hh];refine vA (vH (wpAny_throw ?_));refine vA (uW (T := "StopIteration") (b:=true) ⟨_,zR _ rfl,rfl⟩ tH ?_);exact vH (k _ ((sb1.extBut.push _).push _))
end
section
variable{prog:vW}{w:vZ}{A:ve}{E:vB->vF->Prop}{s:vF}
theorem q2v{Q:Bool->vF->Prop}(h:Q (w.params.followText "set-order") s):vO (model prog w) A setsByText Q E s:=by
 unfold setsByText;exact vA (tP (vH h))
theorem q6N{a:vJ}{o:Obj}{es:Array (Int×vB)}{ep:Nat}{t:SetTable}{slot i:Nat}{r:Option (vB×Nat)}{Q:Option (vB×Nat)->vF->Prop}(go:s.heap.get? a=some o)(gd:o.data=.set es ep t)(gf:t.fits es.size=true)(hB:w.params.followText "set-order" = false)(hl:t.led=true)(hd:(!t.plain&&decide (es.size>1))=false)(hr:(match es[SetTable.below t.place slot]?,t.place[SetTable.below t.place slot]? with|some (_,x),some j=>some (x,j+1)|_,_=>none)=r)(h:Q r s):vO (model prog w) A (tD a slot i ep) Q E s:=by
 unfold tD;refine vA (v6 go gd gf ?_)
 dsimp only
 refine vA (q2v ?_);rw[hB];refine vf (λz=>vP z (by decide)) (λ_=>?_);refine vf (λz=>vP ((show (!t.plain&&decide (es.size>1))=true from z).symm.trans hd) (by decide)) (λ_=>?_);refine vA ?_;refine vf (λz=>?_) (λ_=>?_)
 ·have z':(!t.led && !es.isEmpty)=true:=z
  rw[hl]at z';exact vP z' (by simp)
 ·refine vH ?_
  refine vH ?_;rw[<- hr]at h;exact h
theorem qbJ{a:vJ}{o:Obj}{es:Array (Int×vB)}{ep:Nat}{t:SetTable}{Q:Array (Int×vB)->vF->Prop}(go:s.heap.get? a=some o)(gd:o.data=.set es ep t)(gf:t.fits es.size=true)(hB:w.params.followText "set-order" = true)(h:Q (uy (w.params.setOrder a ep) es) s):vO (model prog w) A (setWalk a) Q E s:=by
 unfold setWalk;refine vA (v6 go gd gf ?_)
 dsimp only
 refine vA (q2v ?_);rw[hB];refine vf (λ_=>?_) (λz=>vP rfl z);exact vA (tP (vH h))
theorem q80{a:vJ}{o:Obj}{es:Array (Int×vB)}{ep:Nat}{t:SetTable}{slot i:Nat}{Q:Option (vB×Nat)->vF->Prop}(go:s.heap.get? a=some o)(gd:o.data=.set es ep t)(gf:t.fits es.size=true)(hB:w.params.followText "set-order" = true)(h:Q (((uy (w.params.setOrder a ep) es)[i]?).map λe=>(e.2,slot)) s):vO (model prog w) A (tD a slot i ep) Q E s:=by
 unfold tD;refine vA (v6 go gd gf ?_)
 dsimp only
 refine vA (q2v ?_);rw[hB];refine vf (λ_=>?_) (λz=>vP rfl z);refine vf (λz=>vP z (by simp)) (λ_=>?_);exact vA (qbJ go gd gf hB (vH h))
theorem qab{it:vJ}{f:vB}{i:Nat}{a:vJ}{n ep:Nat}{Q:vB->vF->Prop}(e:s.heap.get? it=some (WA f i a n ep))(h:Q (.ref it) s):vO (model prog w) A (sV (.ref it)) Q E s:=by
 have hT:s.TypeIs (.ref it) "set_iterator" := ⟨_,e,rfl⟩;refine wpAny_pyIter_slot hT F.slotSetIt (vp F.slotSetIt hT F.entSetIt ?_ (F.argsSetIt _));show vO _ _ (ret (.ref it)) _ _ s;exact vH ⟨_,rfl, "set_iterator", _,hT,F.slotSetNext.lookup,h⟩
theorem qb3(hh:A.handled=none){I a:vJ}(hne:a≠I){o:Obj}{es:Array (Int×vB)}{ep:Nat}{t:SetTable}(gd:o.data=.set es ep t)(gf:t.fits es.size=true)(slot:Nat->Nat)(val:Nat->vB)(hn:∀(i:Nat)(s:vF),i<es.size->s.heap.get? a=some o->∀A' Q' E',Q' (some (val i,slot (i+1))) s->vO (model prog w) A' (tD a (slot i) i ep) Q' E' s)(hz:∀(s:vF),s.heap.get? a=some o->∀A' Q' E',Q' none s->vO (model prog w) A' (tD a (slot es.size) es.size ep) Q' E' s):
  Walks prog w A I [I,a] [I] es.size (λi v=>v=val i) (λi h=>h.get? I=some (WA (.int (slot i) 0) i a es.size ep)/\h.get? a=some o) where
 sub:=λb hb=>by simp at hb;simp[hb]
 frame:=λ_ _ _ st hk=>⟨hk I (by simp) _ st.1,hk a (by simp) _ st.2⟩
 item:=λi s Q E hi st hQ=>by
  refine qbM st.1 st.2 gd gf rfl (hn i s hi st.2) λh' e' sb=>?_;exact hQ _ h' s.toks rfl ⟨e',sb.extBut a o hne st.2⟩ λb u hb e=>sb.extBut b u (λz=>hb (by simp[z])) e
 done:=λs Q E st hQ=>qc8 hh st.1 st.2 gd gf rfl (hz s st.2) λh' eb=>hQ h' s.toks λb u hb e=>eb b u (λz=>hb (by simp[z])) e
 self:=λ_ _ _ _ st hQ=>qab st.1 hQ
theorem qb5{it a tp:vJ}{i n ep p:Nat}{o:Obj}{es:Array (Int×vB)}{t:SetTable}{x:Int×vB}{ps:Array vB}{ot:Obj}{nt:Nat}{Q:Option vB->vF->Prop}(e:s.heap.get? it=some (WA (.ref tp) i a n ep))(go:s.heap.get? a=some o)(gd:o.data=.set es ep t)(gf:t.fits es.size=true)(hn:es.size=n)(gt:s.heap.get? tp=some ot)(gtd:ot.data=.seq ps nt)(hp:ps[i]?=some (.int p 0))(hx:es[p]?=some x)(k:∀h',h'.get? it=some (WA (.ref tp) (i+1) a n ep)->xV it s.heap h'->Q (some x.2) { s with heap:=h' }):
  vO (model prog w) A (uU (.ref it)) Q E s:=by
 have hT:s.TypeIs (.ref it) "set_iterator" := ⟨_,e,rfl⟩;unfold uU;refine vA (uT (wpAny_callSpecial?_slot (name:=Str.ofString "__next__") hT F.slotSetNext (vp F.slotSetNext hT F.entSetNext ?_ (F.argsSetNext _))));unfold Builtin.«set_iterator.__next__»;refine vA (m:=sH "__next__" 0 ⟨[.ref it],[]⟩) (vH ?_);refine vA (tF e rfl ?_)
 dsimp only
 refine vA (q1c go gd gf ?_);rw[vG (by rw[hn];simp)];refine vA (ud gt gtd ?_)
 dsimp only
 simp only[yi];rw[hp]
 dsimp only
 unfold setNextDrawn;refine vA (vA (v6 go gd gf ?_))
 dsimp only
 refine vf (λz=>vP z (by simp)) (λ_=>?_);simp only[yi];rw[hx];refine vH ?_;refine vA (uF e (by simp) λh1 e1 sb1=>?_);refine vH ⟨_,rfl,vH (k h1 ?_ sb1)⟩;rw[e1];simp[uY]
theorem qaQ{it a tp:vJ}{i n ep:Nat}{o:Obj}{es:Array (Int×vB)}{t:SetTable}{ps:Array vB}{ot:Obj}{nt:Nat}{Q:Option vB->vF->Prop}(hh:A.handled=none)(e:s.heap.get? it=some (WA (.ref tp) i a n ep))(go:s.heap.get? a=some o)(gd:o.data=.set es ep t)(gf:t.fits es.size=true)(hn:es.size=n)(gt:s.heap.get? tp=some ot)(gtd:ot.data=.seq ps nt)(hp:ps[i]?=none)(k:∀h',Heap.ExtBut it s.heap h'->Q none { s with heap:=h' }):
  vO (model prog w) A (uU (.ref it)) Q E s:=by
 have hT:s.TypeIs (.ref it) "set_iterator" := ⟨_,e,rfl⟩;unfold uU;refine vA (uT (wpAny_callSpecial?_slot (name:=Str.ofString "__next__") hT F.slotSetNext (vp F.slotSetNext hT F.entSetNext ?_ (F.argsSetNext _))));unfold Builtin.«set_iterator.__next__»;refine vA (m:=sH "__next__" 0 ⟨[.ref it],[]⟩) (vH ?_);refine vA (tF e rfl ?_)
 dsimp only
 refine vA (q1c go gd gf ?_);rw[vG (by rw[hn];simp)];refine vA (ud gt gtd ?_)
 dsimp only
 simp only[yi];rw[hp]
 dsimp only
 refine vA (uF e (by simp) λh1 e1 sb1=>?_);refine vA (uF (s:={ s with heap:=h1 }) e1 (by simp) λh2 e2 sb2=>?_);show vO _ _ (newExc (.type "StopIteration") [] >>= λx=>sZ x) _ _ _;refine vA ?_;simp only[newExc,newTuple];refine vA (vo ?_ (by size_fits));refine vA (m:=tG _ _) (sP (a:=Value.none) (by first|rfl|(simp only[tG];rfl)) ?_);refine vo ?_ (by size_fits);simp only[sZ];refine vA (wpAny_handled ?_);rw[show A.in1.handled=none from hh];refine vA (vH (wpAny_throw ?_));refine vA (uW (T := "StopIteration") (b:=true) ⟨_,zR _ rfl,rfl⟩ tH ?_);exact vH (k _ (((sb1.trans sb2).extBut.push _).push _))
theorem q9R(hh:A.handled=none){I a tp:vJ}(hne:a≠I)(htp:tp≠I){o:Obj}{es:Array (Int×vB)}{ep:Nat}{t:SetTable}(gd:o.data=.set es ep t)(gf:t.fits es.size=true){ot:Obj}{nt:Nat}(ord:List Nat)(hp:ord.Perm (zb es.size))(gtd:ot.data=.seq (ord.map λ(i:Nat)=>uY i).toArray nt):
  Walks prog w A I [I,a,tp] [I] es.size (λi v=>∃p x,ord[i]?=some p/\es[p]?=some x/\v=x.2) (λi h=>h.get? I=some (WA (.ref tp) i a es.size ep)/\h.get? a=some o/\h.get? tp=some ot) where
 sub:=λb hb=>by simp at hb;simp[hb]
 frame:=λ_ _ _ st hk=>⟨hk I (by simp) _ st.1,hk a (by simp) _ st.2.1,hk tp (by simp) _ st.2.2⟩
 item:=λi s Q E hi st hQ=>by
  have hl:ord.length=es.size:=by rw[hp.length_eq,zo]
  have ho:ord[i]?=some (ord[i]'∅):=zD _;have hlt:ord[i]'∅<es.size:=yK.mp (hp.mem_iff.mp (yW _));refine qb5 (p:=ord[i]'∅) (x:=es[ord[i]'∅]) st.1 st.2.1 gd gf rfl st.2.2 gtd (by simp[uY,ho]) (by simp[hlt]) λh' e' sb=>?_;exact hQ _ h' s.toks ⟨_,_,ho,by simp[hlt],rfl⟩ ⟨e',sb.extBut a o hne st.2.1,sb.extBut tp ot htp st.2.2⟩ λb u hb e=>sb.extBut b u (λz=>hb (by simp[z])) e
 done:=λs Q E st hQ=>qaQ hh st.1 st.2.1 gd gf rfl st.2.2 gtd (by simp[hp.length_eq]) λh' eb=>hQ h' s.toks λb u hb e=>eb b u (λz=>hb (by simp[z])) e
 self:=λ_ _ _ _ st hQ=>qab st.1 hQ
end
end Hk
namespace PySem.F
theorem slotSetLen:ux (.type "set") "__len__" = pure (some (.builtin "set.__len__")):=by rw[uL,v5];kernel_rfl
theorem slotSetIter:Slot "set" "__iter__" "set.__iter__" := .of (owner := "set") (n := "__iter__") (by rw[uL,v5];kernel_rfl) ⋯ ⋯ ⋯ (by first|exact .inl ⋯|exact .inr ⋯) (by rw[ut];kernel_rfl)
theorem argsSetIter(a:vB):sW "set.__iter__" ⟨[a],[]⟩:=by
 unfold sW;kernel_rfl
end PySem.F
namespace Hk
open PySem PySem.Spec PyProof.Rows
noncomputable def slotAt(xs:Array Nat):Nat->Nat
 | 0=>0
 | i+1=>xs.toList.getD i 0+1
theorem q6A{xs:Array Nat}(h:zA2 xs):∀i,i<=xs.size->SetTable.below xs (slotAt xs i)=i:=by
 intro i hi;obtain⟨h1,h2,h3⟩:=q94 h (slotAt xs i);have hz:xs.toList.length=xs.size:=zM;cases i with
 | zero=>
  rcases Nat.eq_zero_or_pos (SetTable.below xs (slotAt xs 0))with z|z
  ·exact z
  ·exact vP (h2 0 ∅ z) (wD _)
 | succ i=>
  have hlt:i<xs.toList.length:=∅
  have e:slotAt xs (i+1)=xs.toList[i]+1:=by
   show xs.toList.getD i 0+1=_;rw[zT,zD hlt];rfl
  rw[e]at h2 h3 h1 ⊢;generalize SetTable.below xs (xs.toList[i]+1)=b at h1 h2 h3 ⊢;have a1:i<b:=by
   rcases zw i b with z|z
   ·exact z
   ·have:=h3 i hlt z;omega
  have a2:b<=i+1:=by
   rcases zw (i+1) b with z|z
   ·have y:=h2 (i+1) ∅ z
    have y':=q55 h hlt (show i+1<xs.toList.length by omega) (ye i);omega
   ·exact z
  omega
theorem qcu{val:Nat->vB}{n:Nat}{acc:Array vB}(h:ItemsOf (λi v=>v=val i) acc n):acc.toList=(zb n).map val:=by
 apply yu;intro i;rw[zZ,zY];rcases zw i n with z|z
 ·rw[xI z]
  have hz:i<acc.size:=by rw[h.1];exact z
  have:acc[i]?=some acc[i]:=zz hz;rw[this,h.2 i _ this];rfl
 ·rw[zu (by rw[zo];exact z),ya (by rw[h.1];exact z)];rfl
theorem q7E:∀{l:List (Int×vB)},(∀e∈l,Wx e)->uC (l.map (·.2)) (l.map λe=>vI e.2)
 | [],_=>.nil
 | e::r,h=>by
  obtain⟨x,t,rfl⟩:=h e zG;exact .cons _ _ (q7E λe he=>h e (zH _ he))
section
variable{prog:vW}{w:vZ}{A:ve}{E:vB->vF->Prop}{s:vF}
theorem qdP{r:vJ}{Q:Bool->vF->Prop}(hT:s.TypeIs (.ref r) "set")(h:Q false s):vO (model prog w) A (Builtin.List.listLengthHint (.ref r)) Q E s:=by
 unfold Builtin.List.listLengthHint;refine vA (ub hT F.slotSetLen ?_);generalize hid:("set.__len__" : String)=id0
 wp_delta
 rw[show splitId id0=some ("set", "__len__")from by subst hid;decide +kernel];subst hid;refine vA (uW (T := "set") (b:=true) hT (by rw[ut];kernel_rfl) ?_);refine vf (λhab=>vP hab (by decide)) (λ_=>?_);refine vf (λ_=>?_) (λhab=>vP ⋯ hab);refine vA (ug hT ?_);exact vH h
theorem qdH{a:vJ}{xs:List Int}{Q:vB->vF->Prop}(S:zAR s.heap a (XX w) xs)(k:∀(h':vj)(d:sN)(I:vJ)(fp:List vJ)(P:Nat->vB->Prop)(St:Nat->vj->Prop),(∀b o,s.heap.get? b=some o->h'.get? b=some o)->s.heap.objs.size<=I->(∀b∈fp,b=a\/s.heap.objs.size<=b) ->
   (∀A:ve,A.handled=none->Walks prog w A I fp [I] xs.length P St)->St 0 h'->(∀acc:Array vB,ItemsOf P acc xs.length->∃ys,uC acc.toList ys/\ys.Perm xs)->(∀b∈fp,b<h'.objs.size)->Q (.ref I) { s with heap:=h',drawn:=d }) :
  vO (model prog w) A (sV (.ref a)) Q E s:=by
 obtain⟨o,es,ep,t,go,gx,gd,T,gl,gb,gg,gv,gn⟩:=id S;have hl:es.size=xs.length:=by rw[<- gv,zB,zM]
 have hlt:a<s.heap.objs.size:=zO go;have hps:t.place.size=es.size:=by
  have:=T.fits;unfold SetTable.fits at this;simp only[z9,beq_iff_eq]at this;exact this.1
 have hT:s.TypeIs (.ref a) "set" := ⟨o,go,gx.1⟩;refine wpAny_pyIter_slot hT F.slotSetIter (vp F.slotSetIter hT F.entSetIter ?_ (F.argsSetIter _));unfold Builtin.«frozenset.__iter__» Builtin.Frozenset.slot0 Builtin.Frozenset.sizeOf;refine vA ?_;refine vA (m:=sH "__iter__" 0 ⟨[.ref a],[]⟩) (vH ?_);show vO _ _ (pure a) _ _ s;refine vH ?_;refine vA (vA (q1c go gd T.fits (vH ?_)));refine vA ?_;unfold setDrawn;refine vA (v6 go gd T.fits ?_)
 dsimp only
 refine vA (q2v (vH ?_));have perm_ok:∀(l:List (Int×vB)),l.Perm es.toList->∃ys,uC (l.map (·.2)) ys/\ys.Perm xs:=λl p=>
  ⟨_,q7E λe he=>gg e (p.mem_iff.mp he),by rw[<- gv];exact p.map _⟩
 have slots:∀(slot:Nat->Nat)(l:List (Int×vB)),slot 0=0->l.Perm es.toList ->
   (∀(i:Nat)(s:vF),i<es.size->s.heap.get? a=some o->∀A' Q' E',Q' (some ((l.map (·.2)).getD i .none,slot (i+1))) s->vO (model prog w) A' (tD a (slot i) i ep) Q' E' s) ->
   (∀(s:vF),s.heap.get? a=some o->∀A' Q' E',Q' none s->vO (model prog w) A' (tD a (slot es.size) es.size ep) Q' E' s) ->
   Q (.ref s.heap.objs.size) { s with heap:=s.heap.push (WA (.int (slot 0:Nat) 0) 0 a es.size ep) }:=λslot l h0 p hn hz=>by
  have:=k (s.heap.push (WA (.int (slot 0:Nat) 0) 0 a es.size ep)) s.drawn s.heap.objs.size [s.heap.objs.size,a] (λi v=>v=(l.map (·.2)).getD i .none) (λi h=>h.get? s.heap.objs.size=some (WA (.int (slot i) 0) i a es.size ep)/\h.get? a=some o)
   (λb u e=>zE _ e) (zK _) (λb hb=>by
    simp only[zF,zi,or_false]at hb;rcases hb with rfl|rfl
    ·exact .inr (zK _)
    ·exact .inl rfl) (λA hh=>by rw[<- hl];exact qb3 hh (zr hlt) gd T.fits slot _ hn hz) ⟨zR _ rfl,zE _ go⟩ (λacc hacc=>by
    rw[qcu hacc];obtain⟨ys,y1,y2⟩:=perm_ok l p;have e:(zb xs.length).map (λi=>(l.map (·.2)).getD i .none)=l.map (·.2):=by
     apply yu;intro i;have hll:l.length=xs.length:=by rw[p.length_eq,zM,hl]
     rw[zY];rcases zw i xs.length with z|z
     ·rw[xI z]
      show some ((l.map (·.2)).getD i .none)=_;rw[zT,zD (by rw[zB,hll];exact z)];rfl
     ·rw[zu (by rw[zo];exact z),zu (by rw[zB,hll];exact z)];rfl
    rw[e];exact⟨ys,y1,y2⟩) (λb hb=>by
    rw[yc];simp only[zF,zi,or_false]at hb;rcases hb with rfl|rfl
    ·exact ye _
    ·exact yR hlt)
  exact this
 have getD_at:∀(l:List (Int×vB))(i:Nat)(e:Int×vB),l[i]?=some e->(l.map (·.2)).getD i .none=e.2:=λl i e h=>by
  rw[zT,zY,h];rfl
 cases hB:w.params.followText "set-order" with
 | true=>
  refine vA (vH ?_);refine vA ?_;unfold setEpoch;refine vA (v6 go gd T.fits (vH ?_));refine vA (vo (vH ⟨_,rfl, "set_iterator", _,⟨_,zR _ rfl,rfl⟩,F.slotSetNext.lookup,?_⟩));have pp:=qbV (w.params.setOrder a ep) es;have hpl:(uy (w.params.setOrder a ep) es).size=es.size:=by rw[<- zM,pp.length_eq,zM]
  refine slots (λ_=>0) _ rfl pp (λi s hi go' A' Q' E' q=>?_) λs go' A' Q' E' q=>?_
  ·refine q80 go' gd T.fits hB ?_
   have hz:i<(uy (w.params.setOrder a ep) es).size:=by rw[hpl];exact hi
   rw[zz hz];have:=getD_at (uy (w.params.setOrder a ep) es).toList i (uy (w.params.setOrder a ep) es)[i] (by rw[zZ,zz hz]);rw[this]at q;exact q
  ·refine q80 go' gd T.fits hB ?_
   rw[ya (by rw[hpl];exact zK _)];exact q
 | false=>
  have led:t.led=true:=by rw[gl];unfold XX;rw[hB];rfl
  cases hD:(!t.plain&&decide (es.size>1))with
  | false=>
   refine vf (λz=>vP ((show (!false&&(!t.plain&&decide (es.size>1)))=true from z)) (by rw[hD];decide)) (λ_=>?_);refine vA (vH ?_);refine vA ?_;unfold setEpoch;refine vA (v6 go gd T.fits (vH ?_));refine vA (vo (vH ⟨_,rfl, "set_iterator", _,⟨_,zR _ rfl,rfl⟩,F.slotSetNext.lookup,?_⟩));refine slots (slotAt t.place) es.toList rfl (xN _) (λi s hi go' A' Q' E' q=>?_) λs go' A' Q' E' q=>?_
   ·refine q6N go' gd T.fits hB led hD rfl ?_
    rw[q6A T.rise i ∅,zz hi,zz (show i<t.place.size by omega)];have:=getD_at es.toList i es[i] (by rw[zZ,zz hi]);rw[this]at q;have e2:slotAt t.place (i+1)=t.place[i]'∅+1:=by
     show t.place.toList.getD i 0+1=_;rw[zT,zZ,zz (show i<t.place.size by omega)];rfl
    rw[e2]at q;exact q
   ·refine q6N go' gd T.fits hB led hD rfl ?_
    rw[q6A T.rise es.size ∅,ya (zK _)];exact q
  | true=>
   refine vf (λ_=>?_) (λz=>vP (show (!false&&(!t.plain&&decide (es.size>1)))=true by rw[hD];rfl) z);refine vA (q46 es.size (zb es.size) _ _ zo λord d po=>?_);have hol:ord.length=es.size:=by rw[po.length_eq,zo]
   refine vA (tI ?_ (by rw[zB,hol];exact yJ (yU gb) (by decide)));refine vA ?_;unfold setEpoch;have go2:(s.heap.push { cls:=.type "tuple", data:=.seq (ord.map λ(i:Nat)=>uY i).toArray }).get? a=some o:=zE _ go;refine vA (v6 go2 gd T.fits (vH ?_));refine vA (vo (vH ⟨_,rfl, "set_iterator", _,⟨_,zR _ rfl,rfl⟩,F.slotSetNext.lookup,?_⟩));have hs1:(s.heap.push { cls:=.type "tuple", data:=.seq (ord.map λ(i:Nat)=>uY i).toArray }).objs.size=s.heap.objs.size+1:=yc _ _;have ht1:(s.heap.push { cls:=.type "tuple", data:=.seq (ord.map λ(i:Nat)=>uY i).toArray }).get? s.heap.objs.size=some { cls:=.type "tuple", data:=.seq (ord.map λ(i:Nat)=>uY i).toArray }:=zR _ rfl;refine k _ d _ [(s.heap.push { cls:=.type "tuple", data:=.seq (ord.map λ(i:Nat)=>uY i).toArray }).objs.size,a,s.heap.objs.size] (λi v=>∃p x,ord[i]?=some p/\es[p]?=some x/\v=x.2)
    (λi h=>h.get? (s.heap.push { cls:=.type "tuple", data:=.seq (ord.map λ(i:Nat)=>uY i).toArray }).objs.size=some (WA (.ref s.heap.objs.size) i a es.size ep)/\h.get? a=some o/\h.get? s.heap.objs.size=some { cls:=.type "tuple", data:=.seq (ord.map λ(i:Nat)=>uY i).toArray }) (λb u e=>zE _ (zE _ e)) (by rw[hs1];exact yx _) (λb hb=>?_) (λA hh=>by
    rw[<- hl];exact q9R (tp:=s.heap.objs.size) hh (by rw[hs1];exact zr (yR hlt)) (by rw[hs1];exact zr (ye _)) gd T.fits ord po rfl)
    ⟨zR _ rfl,zE _ go2,zE _ ht1⟩ (λacc hacc=>?_) (λb hb=>?_)
   ·simp only[zF,zi,or_false]at hb
    rcases hb with rfl|rfl|rfl
    ·exact .inr (by rw[hs1];exact yx _)
    ·exact .inl rfl
    ·exact .inr (zK _)
   ·have e:acc.toList=(ord.map λp=>es.toList.getD p (0,.none)).map (·.2):=by
     apply yu;intro i;rw[zZ,zY,zY];rcases zw i acc.size with z|z
     ·obtain⟨p,x,h1,h2,h3⟩:=hacc.2 i acc[i] (zz z)
      rw[zz z,h1,h3];show _=some (es.toList.getD p (0,.none)).2;rw[zT,zZ,h2];rfl
     ·rw[ya z,zu (by rw[hol,hl,<- hacc.1];exact z)];rfl
    have p2:(ord.map λp=>es.toList.getD p (0,.none)).Perm es.toList:=by
     refine(po.map _).trans ?_;have:(zb es.size).map (λp=>es.toList.getD p (0,Value.none))=es.toList:=by
      apply yu;intro i;rw[zY];rcases zw i es.size with z|z
      ·rw[xI z]
       show some (es.toList.getD i (0,Value.none))=_;rw[zT,zD (by rw[zM];exact z)];rfl
      ·rw[zu (by rw[zo];exact z),zu (by rw[zM];exact z)];rfl
     rw[this]
    rw[e];exact perm_ok _ p2
   ·rw[yc,hs1]
    simp only[zF,zi,or_false]at hb;rcases hb with rfl|rfl|rfl
    ·rw[hs1];exact ye _
    ·exact yR (yR hlt)
    ·exact yR (ye _)
end
section
variable{prog:vW}{w:vZ}{A:ve}{E:vB->vF->Prop}{s:vF}
theorem qbb{R:sC->vF->Prop}{a:vJ}{xs:List Int}(hh:A.handled=none)(SI:zAR s.heap a (XX w) xs)(S:vJ)(hSa:S≠a)(res:vB)(c₀:Nat)(hS:s.heap.get? S=some { cls:=.type "list", data:=.seq #[] c₀ })(hR:∀h' tk d acc' c',(∀b o,b≠S->s.heap.get? b=some o->h'.get? b=some o)->h'.get? S=some { cls:=.type "list", dict:=none,data:=.seq acc' c',slots:=#[] }->(∃ys,uC acc'.toList ys/\ys.Perm xs)->R (.ok (.ret res)) { s with heap:=h',toks:=tk,drawn:=d }):
  vO (model prog w) A.in1 (Builtin.List.listExtendWith (.ref S) (.ref a) res)
   (λfin s'=>match fin with|.done f=>R (.ok f) s'|.again c'=>c'.quiet=true/\uc (model prog w) A c' R s') (λe s'=>R (.error e) s') s:=by
 have hn:xs.length<=sizeLine:=yJ (yU SI.len) (by decide);obtain⟨o,es,ep,t,go,gx,gd,T,gl,gb,gg,gv,gn⟩:=id SI;have hTy:∀h:vj,h.get? a=some o->Shared.TypeIs { s with heap:=h } (.ref a) "set" := λh e=>⟨o,e,gx.1⟩;unfold Builtin.List.listExtendWith;refine vA (ug (T := "set") ⟨o,go,gx.1⟩ ?_);have h1:Builtin.List.listSameRef (.ref S) (.ref a)=false:=by simp[Builtin.List.listSameRef,hSa]
 have h2:(Value.type "set" == Value.type "list")=false:=by decide
 have h3:(Value.type "set" == Value.type "tuple")=false:=by decide
 simp only[h1,h2,h3,xb,zv,if_false];refine vA (qdH SI λh1 d I fp P St keep hI hfp W st items hlt=>?_);have hS1:h1.get? S=some { cls:=.type "list", data:=.seq #[] c₀ }:=keep _ _ hS;have hSlt:S<s.heap.objs.size:=zO hS;have hSf:S∉fp:=λhm=>by
  rcases hfp S hm with z|z
  ·exact hSa z
  ·exact vP hSlt (YT.mpr z)
 have key:∀(h:vj)(c₁ tk:Nat),St 0 h->(∀b o,b≠S->s.heap.get? b=some o->h.get? b=some o) ->
   h.get? S=some { cls:=.type "list", data:=.seq #[] c₁ }->uc (model prog w) A (.builtin "list.extend.loop" ⟨[.ref S,.ref I,res],[]⟩) R { s with heap:=h,toks:=tk,drawn:=d }:=by
  intro h c₁ tk hst hk hS₁;refine ti (W A.in1 hh).toS hn S hSf res xs.length 0 _ #[] c₁ rfl (zy _) hst hS₁ (ItemsOf.nil _) λs' acc' c' hm hS' hacc=>?_;rw[Moved.eq_with hm];refine hR s'.heap s'.toks d acc' c' (λb o hb e=>hm.heap b o (λhmem=>?_) (hk b o hb e)) hS' (items acc' hacc);rcases zF.mp hmem with e'|hmem
  ·exact hb e'
  ·exact vP (zO e) (by rw[zS.mp hmem];exact YT.mpr hI)
 refine vA (vn (qdP ⟨o,keep _ _ go,gx.1⟩ ?_));refine vf (λ_=>?_) (λ_=>vH ⟨uQ PySem.F.plain_extend_loop _,key _ c₀ _ st (λb o _ e=>keep b o e) hS1⟩);refine vA (uD ?_);refine vA ?_;show vO _ _ (tE S (·.push .none) >>= λ_=>tE S (·.pop)) _ _ _;refine vA (uM hS1 rfl ?_);have hS₂:=xT (Obj.mapSeq (·.push Value.none)) hS1 rfl;refine uM (hz:=by seq_fits) hS₂ rfl ?_;have hS₃:=xT (Obj.mapSeq (·.pop)) hS₂ rfl;refine vH ⟨uQ PySem.F.plain_extend_loop _,key _ _ _ ?_ (λb o hb e=>?_) hS₃⟩
 ·refine(W A.in1 hh).frame 0 _ _ st λb hb o e=>?_
  have hbS:b≠S:=λh=>hSf (h▸hb);exact(zk _ _ (Ne.symm hbS)).trans ((zk _ _ (Ne.symm hbS)).trans e)
 ·exact(zk _ _ (Ne.symm hb)).trans ((zk _ _ (Ne.symm hb)).trans (keep b o e))
theorem q9D{R:List vB->vF->Prop}{a:vJ}{xs:List Int}(hh:A.handled=none)(SI:zAR s.heap a (XX w) xs)(h:∀(h':vj)(tk:Nat)(d:sN)(vs:List vB)(ys:List Int),(∀b o,s.heap.get? b=some o->h'.get? b=some o)->s.heap.objs.size<h'.objs.size->uC vs ys->ys.Perm xs->R vs { s with heap:=h',toks:=tk,drawn:=d }):
  vO (model prog w) A (collect (.ref a)) R E s:=by
 obtain⟨o,es,ep,t,go,gx,gd,T,gl,gb,gg,gv,gn⟩:=id SI;have hlt:a<s.heap.objs.size:=zO go;unfold collect;refine vA (wpAny_runValue (uK entry_proto_collect' ?_));rw[Around.under_plainId PySem.F.plain_proto_collect _];show vO _ A.in1 (newList [] >>= λl=>again (.builtin "list.__iadd__" ⟨[l,.ref a],[]⟩)) _ _ s;refine vA (vo ?_);refine vH ⟨uQ PySem.F.plain_list_iadd _,uK entry_list_iadd' ?_⟩;rw[Around.under_plainId PySem.F.plain_list_iadd _];have hS₁:(s.heap.push { cls:=.type "list", data:=.seq ([]:List vB).toArray }).get? s.heap.objs.size=some { cls:=.type "list", data:=.seq #[] }:=zR _ rfl;show vO _ A.in1 (Builtin.List.listExtendWith (.ref s.heap.objs.size) (.ref a) (.ref s.heap.objs.size)) _ _ _;have key:=qbb (prog:=prog) (A:=A) (s:={ s with heap:=s.heap.push { cls:=.type "list", data:=.seq ([]:List vB).toArray } })
  (R:=λ(q:sC) (s':vF)=>∃(h':vj) (tk:Nat) (d:sN) (acc':Array vB) (c':Nat),q=.ok (.ret (.ref s.heap.objs.size))/\s'={ s with heap:=h',toks:=tk,drawn:=d } /\
   (∀b o,s.heap.get? b=some o->h'.get? b=some o)/\h'.get? s.heap.objs.size=some { cls:=.type "list", dict:=none,data:=.seq acc' c',slots:=#[] }/\∃ys,uC acc'.toList ys/\ys.Perm xs)
  hh (SI.at λo e=>zE _ e) s.heap.objs.size (xr hlt) (.ref s.heap.objs.size) 0 hS₁
  (λh' tk d acc' c' hk hS' hacc=>⟨h',tk,d,acc',c',rfl,rfl,λb o e=>hk b o (zr (zO e)) (zE _ e),hS',hacc⟩)
 refine vq key (λfin s' x=>?_) λe s' x=>?_
 ·cases fin with
  | done f=>
   obtain⟨h',tk,d,acc',c',e,rfl,hk,hS',ys,y1,y2⟩:=x;cases e;show vO _ A (load s.heap.objs.size >>= _) _ _ _;refine vA (wpAny_load hS' ?_);exact vH (h h' tk d _ ys hk (zO hS') y1 y2)
  | again c₁=>
   refine⟨x.1,uf x.2 λq s₂ y=>?_⟩;obtain⟨h',tk,d,acc',c',rfl,rfl,hk,hS',ys,y1,y2⟩:=y;show vO _ A (load s.heap.objs.size >>= _) _ _ _;refine vA (wpAny_load hS' ?_);exact vH (h h' tk d _ ys hk (zO hS') y1 y2)
 ·obtain⟨_,_,_,_,_,e',_⟩:=x
  cases e'
theorem qbp{a:vJ}{xs:List Int}{Q:vB->vF->Prop}(hh:A.handled=none)(SI:zAR s.heap a (XX w) xs)(h64:xs.length<64)(h:∀(D:vJ)(h':vj)(tk:Nat)(d:sN)(vs:List vB)(ys:List Int)(n:Nat),(∀b o,s.heap.get? b=some o->h'.get? b=some o)->s.heap.objs.size<=D->h'.get? D=some (vt "list" vs.toArray n)->uC vs ys->ys.Perm xs->ys.Pairwise (· <= ·)->Q (.ref D) { s with heap:=h',toks:=tk,drawn:=d }):
  vO (model prog w) A (call (.builtin "sorted") [.ref a]) Q E s:=by
 refine Calls.call_function_entry tj tU tV (sI _) ?_;unfold Builtin.«sorted»;refine vA (m:=sF "sorted" 1 1 _) (vH ?_);refine vA (q9D (A:=A.in1) hh SI λh1 tk d vs ys hk hz y1 y2=>?_);have hlen:vs.length=xs.length:=by rw[IntsAre.length y1,y2.length_eq]
 refine vA (uj ?_ (yJ (by rw[hlen];exact yU h64) (by decide)));have hoL:(h1.push (vt "list" vs.toArray 0)).get? h1.objs.size=some (vt "list" vs.toArray 0):=zR _ rfl;refine vA (vn (vp slot_list_sort ⟨_,hoL,rfl⟩ entry_list_sort (list_sort_tree hoL y1 (by rw[hlen];exact h64) λout ns' a1 a2 a3=>⟨_,rfl,?_⟩) (tm _)));obtain⟨n,hn⟩:=sortedHeap_at (vs:=vs) (out:=out) hoL;refine vH ⟨_,rfl,h h1.objs.size _ tk d out.toList ns' n (λb o e=>?_) ?_ ?_ a1 (a2.trans y2) a3⟩
 ·have e1:=hk b o e
  rw[sortedHeap_old (zr (zO e1)) (by rw[yc];exact yR (zO e1))];exact zE _ e1
 ·exact yU hz
 ·rw[xC];exact hn
end
end Hk
namespace L2
open PySem PySem.Spec PyProof.Rows
noncomputable def WL(names:List (Str×ua))(cells:List (Str×vJ))(cs:List (Str×vJ)):List (Str×vJ) :=
 match names with
 | []=>cs
 | p::r=>WL r cells (if p.2 == .free then (p.1,(cells.lookup p.1).getD 0)::cs else cs)
theorem q3V{scope:uw}{env:Env}(h:∀p∈scope.names,p.2=NameKind.free->(env.cells.lookup p.1).isSome=true):
  closureFor scope env=pure (WL scope.names env.cells []):=by
 simp only[closureFor];generalize scope.names=l at h ⊢;have key:∀(l:List (Str×ua))(cs:List (Str×vJ)),(∀p∈l,p.2=NameKind.free->(env.cells.lookup p.1).isSome=true) ->
   (forIn l cs (λ(p:Str×ua) (r:List (Str×vJ))=>if (p.2==NameKind.free)=true then (do let a <- cellOf env p.1;pure (ForInStep.yield ((p.1,a)::r)))else pure (ForInStep.yield r)):Sem _)=pure (WL l env.cells cs):=by
  intro l
  induction l with
  | nil=>intro cs _;rfl
  | cons p r ih=>
   intro cs hp;rw[Zi];have hr:=λq hq=>hp q (zH _ hq)
   by_cases hf:p.2=NameKind.free
   ·have hs:=hp p zG hf
    obtain⟨a,ha⟩:=yp.mp hs;have e:cellOf env p.1=pure a:=by unfold cellOf;rw[ha]
    have hb:(p.2==NameKind.free)=true:=by rw[hf];rfl
    rw[vC hb,e,pure_bind,pure_bind];show forIn r _ _=_;rw[ih _ hr];show _=pure (WL r env.cells (if p.2 == .free then _ else _));rw[vC hb,ha];rfl
   ·have hb:¬(p.2==NameKind.free)=true:=by intro z;exact hf (by cases hk:p.2 <;> simp_all)
    rw[vG hb,pure_bind];show forIn r _ _=_;rw[ih _ hr];show _=pure (WL r env.cells (if p.2 == .free then _ else _));rw[vG hb]
 rw[key l [] h];rfl
theorem qa4{k:ua}(h:(k==NameKind.free)=true):k=NameKind.free:=by cases k <;> first|rfl|cases h
theorem q4B{cells:List (Str×vJ)}:∀(l:List (Str×ua))(cs:List (Str×vJ)),(∀p∈l,p.2=NameKind.free->(cells.lookup p.1).isSome=true) ->
  (∀x c,cs.lookup x=some c->cells.lookup x=some c)->∀x c,(WL l cells cs).lookup x=some c->cells.lookup x=some c
 | [],cs,_,h,x,c,e=>h x c e
 | p::r,cs,hp,h,x,c,e=>by
  refine q4B r _ (λq hq=>hp q (zH _ hq)) (λy d hy=>?_) x c e
  by_cases hb:(p.2==NameKind.free)=true
  ·rw[vC hb,xB]at hy
   cases hyp:y==p.1 with
   | true=>
    rw[hyp]at hy;have hy':(cells.lookup p.1).getD 0=d:=zx hy;obtain⟨a,ha⟩:=yp.mp (hp p zG (qa4 hb));rw[ha]at hy';rw[eq_of_beq hyp,ha,<- hy'];rfl
   | false=>rw[hyp]at hy;exact h y d hy
  ·rw[vG hb]at hy;exact h y d hy
theorem q4q{cells:List (Str×vJ)}:∀(l:List (Str×ua))(cs:List (Str×vJ))(x:Str),((x,NameKind.free)∈l\/(cs.lookup x).isSome=true)->((WL l cells cs).lookup x).isSome=true
 | [],cs,x,h=>by
  rcases h with h|h
  ·cases h
  ·exact h
 | p::r,cs,x,h=>by
  refine q4q r _ x ?_;rcases h with h|h
  ·rcases zF.mp h with rfl|h
   ·right
    show (List.lookup x (if (NameKind.free==NameKind.free)=true then _ else _)).isSome=true;rw[vC (by rfl),xB,beq_self_eq_true];rfl
   ·exact .inl h
  ·right
   by_cases hb:(p.2==NameKind.free)=true
   ·rw[vC hb,xB]
    cases hx:x==p.1 with
    | true=>rfl
    | false=>exact h
   ·rw[vG hb];exact h
noncomputable def Xx(X:Cx)(N:List Str)(scope:uw)(C:vJ)(s:vF)(H:Hp)(fp:List vJ):Cx :=
 { X with N:=N,s₀:=s,H₀:=H,env:=compEnvC scope (WL scope.names X.env.cells []) C X.env,outer:=X.stack,stack:=X.stack,ex:=fp,fn:=λ_=>false,pn:=[],xe:=λ_ _=>False }
noncomputable def zBh(M:Nat)(frees:List Nat)(σ:St):St:=zj M none++frees.map λj=>(σ[j]?).getD none
structure BlkOk (X:Cx) (N:List Str) (M:Nat) (frees:List Nat) (scope:uw):Prop where
 kind:scope.kind=.function
 nocell:∀y∈scope.names,y.2≠.cell
 own:∀y∈scope.names,y.2=.local->scope.names.lookup y.1=some .local
 cells:∀p∈scope.names,p.2=NameKind.free->(X.env.cells.lookup p.1).isSome=true
 fr:∀(k:Nat)(x:Str),N[M+k]?=some x->∃j,frees[k]?=some j/\X.N[j]?=some x/\(X.env.kindOf x=some .cell\/X.env.kindOf x=some .free)/\scope.names.lookup x=some .free
 len:N.length=M+frees.length
theorem q2l{env:Env}{x:Str}:∀{names:List (Str×ua)}{k:ua},(∀y∈names,y.2≠.cell)->(k=.cell\/k=.free) ->
  (names.map λ(n,k)=>if (k==NameKind.free&&env.scope.kind == .function&&env.kindOf n==some .cell)then (n,NameKind.cell)else (n,k)).lookup x=some k->(x,NameKind.free)∈names
 | [],_,_,_,h=>by cases h
 | (n,k0)::r,k,hc,hk,h=>by
  have ih:=@q2l env x r k (λy hy=>hc y (zH _ hy)) hk;rw[zc]at h
  by_cases hb:(k0==NameKind.free&&env.scope.kind == .function&&env.kindOf n==some .cell)=true
  ·have hf:k0=NameKind.free:=qa4 (by rw[z9,z9]at hb;exact hb.1.1)
   dsimp only at h
   rw[vC hb,xB]at h;cases hx:x==n with
   | true=>rw[eq_of_beq hx,hf];exact zG
   | false=>rw[hx]at h;exact zH _ (ih h)
  ·dsimp only at h
   rw[vG hb,xB]at h;cases hx:x==n with
   | true=>
    rw[hx]at h;have e:k0=k:=zx h;have z:=hc (n,k0) zG;rw[eq_of_beq hx];rcases hk with rfl|rfl
    ·exact vP e z
    ·rw[e];exact zG
   | false=>rw[hx]at h;exact zH _ (ih h)
theorem q4X{env:Env}{x:Str}:∀{names:List (Str×ua)},names.lookup x=some .free ->
  (names.map λ(n,k)=>if (k==NameKind.free&&env.scope.kind == .function&&env.kindOf n==some .cell)then (n,NameKind.cell)else (n,k)).lookup x=some .cell \/
  (names.map λ(n,k)=>if (k==NameKind.free&&env.scope.kind == .function&&env.kindOf n==some .cell)then (n,NameKind.cell)else (n,k)).lookup x=some .free
 | [],h=>by cases h
 | (n,k0)::r,h=>by
  have ih:=@q4X env x r;rw[zc]
  dsimp only
  rw[xB]at h
  by_cases hb:(k0==NameKind.free&&env.scope.kind == .function&&env.kindOf n==some .cell)=true
  ·rw[vC hb,xB]
   cases hx:x==n with
   | true=>exact .inl rfl
   | false=>rw[hx]at h;exact ih h
  ·rw[vG hb,xB]
   cases hx:x==n with
   | true=>rw[hx]at h;exact .inr h
   | false=>rw[hx]at h;exact ih h
section
variable{X:Cx}{pins:List (vJ×Obj)}{σ:St}{H:Hp}{s:vF}{N:List Str}{M:Nat}{frees:List Nat}{scope:uw}{fp:List vJ}
theorem Inv.enter{h1:vj}{C D tk:Nat}{m1:Str->Option vB}(I:Inv X pins σ H s)(B:BlkOk X N M frees scope)(f:∀b∈fp,WH X pins H b)(lt:∀b∈fp,b<s.heap.objs.size)(hC:s.heap.objs.size<C)(hD:s.heap.objs.size<=D)(hDC:C≠D)(k:∀b u,s.heap.get? b=some u->h1.get? b=some u)(hns:h1.Ns C m1)(hl:h1.get? D=some { cls:=.type "list", data:=.seq ([]:List vB).toArray }):
  Inv (Xx X N scope C s H fp) [] (zBh M frees σ) (upd H D (.lst [])) { s with heap:=h1,toks:=tk }:=by
 have sub:=q4B (cells:=X.env.cells) scope.names [] B.cells (λx c e=>by cases e);have hfr:H D=none:=I.hok.fresh hD;have hfc:H C=none:=I.hok.fresh (yU hC);have clt:∀x c,(WL scope.names X.env.cells []).lookup x=some c->c<s.heap.objs.size:=λx c e=>by
  obtain⟨v,q⟩:=I.cell x c (sub x c e);exact q.lt
 refine⟨⟨I.ok.mod,B.kind,I.ok.glob,I.ok.blt,yU hC,λx y c e1 e2=>I.ok.inj x y c (sub x c e1) (sub y c e2),λx hx=>?_,λx c e=>vP e (by intro z;cases z),I.ok.hd,I.ok.frames,.inl rfl,λb hb=>?_,I.bs,yJ I.ok.bsz I.sz,λb o e hb=>?_,
  λb hb hf=>?_,I.stack,I.stkFree⟩,rfl,I.bare,Un.laid k hD hfr,⟨m1,hns,λi x v e1 e2 e3=>?_⟩,λx c e=>?_,?_,λx c e=>?_,λp hp=>vP (show p∈([]:List (vJ×Obj))from hp) (by simp),I.hok.laid k hD ⟨zy _,[],0,.nil,hl⟩,?_⟩
 ·have hm:(x,NameKind.free)∈scope.names:=by
   rcases hx with hx|hx
   ·exact q2l B.nocell (.inl rfl) hx
   ·exact q2l B.nocell (.inr rfl) hx
  exact yp.mp (q4q scope.names [] x (.inl hm))
 ·exact⟨zr (Z6 (lt b hb) hC),λx c e=>(f b hb).2.2.2.2.1 x c (sub x c e)⟩
 ·rcases (f b hb).2.2.2.1 with z|z
  ·exact I.ok.noex b o e z
  ·exact vP (zt (zO e) (yJ I.ok.bsz z)) (xa _)
 ·rcases zF.mp (I.stkSub b hf)with z|z
  ·exact(f b hb).2.1 z
  ·exact(f b hb).2.2.1 z
 ·have hi:M<=i:=by
   rcases zw i M with z|z
   ·unfold zBh at e2
    rw[ze ⇑z,yr,vC z]at e2;cases e2
   ·exact z
  obtain⟨q,rfl⟩:∃q,i=M+q:=⟨i-M,∅⟩;obtain⟨j,h1',h2',h3',h4'⟩:=B.fr q x e1;have ev:σ[j]?=some (some v):=by
   unfold zBh at e2;rw[zX (by simp),yO,ZQ,zY,h1']at e2;cases e:σ[j]? with
   | none=>rw[yd,e]at e2;cases e2
   | some o=>rw[yd,e]at e2;exact e2
  obtain⟨m,hn,hl'⟩:=I.loc;have vis:Vis X.env.scope x:=by
   rcases h3' with z|z
   ·exact .inr (.inl z)
   ·exact .inr (.inr z)
  obtain⟨u,ru,lk⟩:=hl' j x v h2' ev vis;refine⟨u,ru,.inr ?_⟩;rcases lk with⟨z,_⟩|⟨_,c,ec,ic⟩
  ·rcases h3' with y|y <;> (rw[z]at y;cases y)
  ·obtain⟨c',ec'⟩:=yp.mp (q4q (cells:=X.env.cells) scope.names [] x (.inl (PySem.mem_of_lookup h4')))
   have:c'=c:=zx ((sub x c' ec').symm.trans ec);subst this;exact⟨q4X h4',c',ec',ic.keeps k⟩
 ·obtain⟨v,q⟩:=I.cell x c (sub x c e)
  exact⟨v,q.keeps k⟩
 ·show upd H D (.lst []) C=none
  rw[qd hDC];exact hfc
 ·show upd H D (.lst []) c=none
  rw[qd (zr (zt (clt x c e) hD))];exact I.freeC x c (sub x c e)
 ·show (zBh M frees σ).length=N.length
  unfold zBh;rw[zC,yO,zB,B.len]
end
section
variable{prog:vW}{w:vZ}{A:ve}{R:sC->vF->Prop}{s:vF}
theorem q9K{elt target iter:vX}{ifs:List vX}{scope:uw}{pos:Pos}{it acc:vB}{env:Env}(J:Nat->vF->Prop)(turn:∀n s,J n s->vO (model prog w) A (uU it) (λr s1=>match r with
   | none=>R (.ok .next) s1
   | some v=>vO (model prog w) A (u6 target it v) (λ_ s2=>vO (model prog w) A (assign target env v) (λ_ s3=>
     vO (model prog w) A (forIn ifs true λc r=>if r=true then do let ok <- sU c env (eval c env);pure (ForInStep.yield ok)else pure (ForInStep.yield r)) (λok s4=>
      if ok=true then vO (model prog w) A (eval elt env) (λx s5=>vO (model prog w) A (call (.builtin "list.append") [acc,x]) (λ_ s6=>∃m,m<n/\J m s6) (λ_ _=>False) s5) (λ_ _=>False) s4
      else ∃m,m<n/\J m s4) (λ_ _=>False) s3) (λ_ _=>False) s2) (λ_ _=>False) s1) (λ_ _=>False) s)
  (n:Nat) (h:J n s):uc (model prog w) A (.compLoop (.ListComp elt [⟨target,iter,ifs,0⟩] scope pos) 0 it acc env) R s:=by
 refine codeAny_loop rfl J (λn s hJ=>?_) n h;show vO _ A ((compTurn (.ListComp elt [⟨target,iter,ifs,0⟩] scope pos) 0 it acc env).onRaise (λx=>do noteFrame x env;theTreesLotGoes x)) _ _ s;refine wpAny_noted (vq (Q:=λfin s'=>match fin with|.done f=>R (.ok f) s'|.again c'=>c'=.compLoop (.ListComp elt [⟨target,iter,ifs,0⟩] scope pos) 0 it acc env/\∃m,m<n/\J m s') ?_ (λ_ _ q=>q) λ_ _ (z:False)=>z.elim);rw[compTurn_list];refine vA (t8 (vA (vq (turn n s hJ) (λr s1 h1=>?_) λ_ _ q=>q)));cases r with
 | none=>exact vH h1
 | some v=>
  refine vA (vq h1 (λ_ s2 h2=>vA (vq h2 (λ_ s3 h3=>vA (vq h3 (λok s4 h4=>?_) λ_ _ q=>q)) λ_ _ q=>q)) λ_ _ q=>q);cases ok with
  | false=>exact vH ⟨rfl,h4⟩
  | true=>exact vA (vA (vq h4 (λx s5 h5=>vA (vq h5 (λ_ s6 h6=>vH (vH ⟨rfl,h6⟩)) λ_ _ q=>q)) λ_ _ q=>q))
end
def PTs(X:Cx)(ifs:List vX)(t:TT):Prop :=
 ∀(pins:List (vJ×Obj))(s:vF)(σ:St)(H:Hp)(Q:Bool->Hp->Prop),Inv X pins σ H s->t σ H Q ->
  vO (model X.prog X.w) X.A (forIn ifs true λc r=>if r=true then do let ok <- sU c X.env (eval c X.env);pure (ForInStep.yield ok)else pure (ForInStep.yield r)) (TP X pins σ Q) X.xe s
theorem qfw{X:Cx}:PTs X [] (λ_ H Q=>Q true H):=λ_ _ _ H _ I q=>wpAny_tests_nil ⟨H,I,q⟩
theorem qfN{X:Cx}{c:vX}{t:TT}(h:PT X c t):PTs X [c] t:=λpins s σ H Q I q=>wpAny_tests_one (h pins s σ H Q I q)
noncomputable def zCN(M:Nat)(frees:List Nat)(wi:TI)(g:TG)(tc:TT)(te:TE):TE:=λσ H Q=>wi σ H λJ H1=>∀D,H1 D=none ->
 ∃W:Nat->Nat->St->Hp->Prop,(∃m,W 0 m (zBh M frees σ) (upd H1 D (.lst [])))/\∀i m σ' H',W i m σ' H' ->
  (J.stop i H'/\Q (.ref D) H')\/(J.go i H'/\∀x H2,J.yld i H' x H2->g x σ' H2 λσ2 H3=>tc σ2 H3 λb H4=>
   if b=true then te σ2 H4 λv H5=>∃acc,H5 D=some (.lst acc)/\acc.length<sizeLine/\∃m',m'<m/\W (i+1) m' σ2 (upd H5 D (.lst (acc++[v])))
   else ∃m',m'<m/\W (i+1) m' σ2 H4)
section
variable{X:Cx}{N:List Str}{M:Nat}{frees:List Nat}{scope:uw}{tg iter elt:vX}{ifs:List vX}{pos:Pos}{wi:TI}{g:TG}{tc:TT}{te:TE}
theorem q8H(hc:X.calm=true)(B:BlkOk X N M frees scope)(hb:∀C s H fp,PG (Xx X N scope C s H fp) tg g/\PTs (Xx X N scope C s H fp) ifs tc/\PE (Xx X N scope C s H fp) elt te){pins:List (vJ×Obj)}{σ:St}{Q:VK}{s2:vF}{itv:vB}{E:vB->vF->Prop}{RR:vB->vJ->sC->vF->Prop}(h2:PIE X pins σ tg (λJ H1=>∀D,H1 D=none ->
   ∃W:Nat->Nat->St->Hp->Prop,(∃m,W 0 m (zBh M frees σ) (upd H1 D (.lst [])))/\∀i m σ' H',W i m σ' H' ->
    (J.stop i H'/\Q (.ref D) H')\/(J.go i H'/\∀x H2,J.yld i H' x H2->g x σ' H2 λσ2 H3=>tc σ2 H3 λb H4=>
     if b=true then te σ2 H4 λv H5=>∃acc,H5 D=some (.lst acc)/\acc.length<sizeLine/\∃m',m'<m/\W (i+1) m' σ2 (upd H5 D (.lst (acc++[v])))
     else ∃m',m'<m/\W (i+1) m' σ2 H4)) itv s2)
  (hR:∀D C s' H' m,Inv X pins σ H' s'->Q (.ref D) H'->s'.heap.Ns C m->H' C=none->C≠X.env.locals->X.s₀.heap.objs.size<=C->(∀x c,X.env.cells.lookup x=some c->c≠C)->(∀p∈X.pn++pins,p.1≠C)->RR (.ref D) C (.ok .next) s') :
  vO (model X.prog X.w) X.A (newList []) (λacc s3=>vO (model X.prog X.w) X.A (newFunctionEnv scope X.env.globals (WL scope.names X.env.cells []) [] X.env.qual none .none (some X.env)) (λcenv s4=>
   uc (model X.prog X.w) X.A (.compStart (.ListComp elt [⟨tg,iter,ifs,0⟩] scope pos) 0 itv acc { cenv with scope:=relabel scope X.env }) (RR acc cenv.locals) s4) E s3) E s2:=by
 obtain⟨it,fp,tn,J,H2,e,I2,T,st2,f2,q⟩:=h2;subst e;refine vo (wpAny_newFunctionEnv B.nocell (by intro y hy;simp at hy) (λh1 hns hsb=>?_) B.kind)
 dsimp only at hns hsb ⊢
 generalize hP:s2.heap.push { cls:=.type "list", dict:=none,data:=.seq ([]:List vB).toArray }=P1 at hns hsb ⊢;have hsz:P1.objs.size=s2.heap.objs.size+1:=by rw[<- hP,yc]
 have below:∀b,b<s2.heap.objs.size->b≠P1.objs.size:=λb z=>by rw[hsz];exact zr (yR z)
 have keep:∀b u,s2.heap.get? b=some u->h1.get? b=some u:=λb u z=>hsb.extBut b u (below b (zO z)) (zE _ (hP▸zE _ z));have hne:s2.heap.objs.size≠P1.objs.size:=by rw[hsz];exact zr (ye _)
 have hl:h1.get? s2.heap.objs.size=some { cls:=.type "list", data:=.seq ([]:List vB).toArray }:=hsb.extBut _ _ hne (zE _ (hP▸zR _ rfl));have lt2:∀b∈fp,b<s2.heap.objs.size:=λb z=>by
  obtain⟨o,eo,_⟩:=T.obj _ _ st2 b z;exact zO eo
 have hD0:H2 s2.heap.objs.size=none:=I2.hok.fresh (zK _);obtain⟨W,⟨m0,w0⟩,turn⟩:=q s2.heap.objs.size hD0;have I4:=I2.enter (N:=N) (M:=M) (frees:=frees) (scope:=scope) (fp:=fp) (h1:=h1) (C:=P1.objs.size) (D:=s2.heap.objs.size) (tk:=s2.toks+([]:List (Str×vB)).length) B f2 lt2 (by rw[hsz];exact ye _) (zK _) (Ne.symm hne) keep hns hl;have hcx:∀(C:vJ),(Xx X N scope C s2 H2 fp).calm=true:=λ_=>hc;have stat:∀{H':Hp},(∀b∈fp,H' b=none)->∀b∈fp,WH (Xx X N scope P1.objs.size s2 H2 fp) [] H' b:=λ{H'} hn b z=>by
  refine⟨hn b z,below b (lt2 b z),λy=>?_,.inl z,λx c y=>?_,λp y=>vP (show p∈([]:List (vJ×Obj))from y) (by simp)⟩
  ·rcases zF.mp (I2.stkSub b y)with u|u
   ·exact(f2 b z).2.1 u
   ·exact(f2 b z).2.2.1 u
  ·exact(f2 b z).2.2.2.2.1 x c (q4B (cells:=X.env.cells) scope.names [] B.cells (λx c e=>by cases e) x c y)
 have fr4:∀b∈fp,(upd H2 s2.heap.objs.size (HO.lst [])) b=none:=λb z=>by
  rw[qd (zr (lt2 b z))];exact(f2 b z).1
 have st4:tn 0 h1:=T.keep _ _ _ st2 λb _ o z=>keep b o z;have fin:∀(s':vF)(σ':St)(H':Hp),Inv (Xx X N scope P1.objs.size s2 H2 fp) [] σ' H' s'->Q (.ref s2.heap.objs.size) H'->RR (.ref s2.heap.objs.size) P1.objs.size (.ok .next) s':=λs' σ' H' I' q'=>by
  obtain⟨m,hm,_⟩:=I'.loc;have u':Un (frs X.stack) fp H2 H' s2.heap s'.heap:=I'.base;have I0:Inv X pins σ H' s':=I2.call' (ch:=fp) I'.os u' I'.hok I'.bare λb z=>⟨(f2 b z).2.2.2.1,(f2 b z).2.1,(f2 b z).2.2.2.2.1,(f2 b z).2.2.2.2.2⟩;refine hR _ _ s' H' m I0 q' hm I'.free (xr (zt I2.lt (by rw[hsz];exact yx _))) (yJ I2.sz (by rw[hsz];exact yx _)) (λx c z=>?_) λp z=>?_
  ·obtain⟨v,y⟩:=I2.cell x c z
   exact below c y.lt
  ·exact below p.1 (zO (I2.pin p z).1)
 have loop:∀s4:vF,s4={ s2 with heap:=h1,toks:=s2.toks+([]:List (Str×vB)).length } ->
   uc (model X.prog X.w) X.A (.compLoop (.ListComp elt [⟨tg,iter,ifs,0⟩] scope pos) 0 (.ref it) (.ref s2.heap.objs.size) (compEnvC scope (WL scope.names X.env.cells []) P1.objs.size X.env)) (RR (.ref s2.heap.objs.size) P1.objs.size) s4:=by
  rintro s4 rfl;refine q9K (λn s'=>∃i σ' H',Inv (Xx X N scope P1.objs.size s2 H2 fp) [] σ' H' s'/\tn i s'.heap/\(∀b∈fp,H' b=none)/\W i n σ' H') ?_ m0 ⟨0,_,_,I4,st4,fr4,w0⟩;rintro n s5 ⟨i,σ5,H5,I5,st5,fr5,w5⟩;rcases turn i n σ5 H5 w5 with⟨stop,qn⟩|⟨go,step⟩
  ·refine thn (T.done (Xx X N scope P1.objs.size s2 H2 fp) rfl rfl rfl hc i [] s5 σ5 H5 _ I5 (stat fr5) st5 stop) λr s6 ⟨hr,I6⟩=>?_
   subst hr;exact fin s6 σ5 H5 I6 qn
  ·refine thn (T.item (Xx X N scope P1.objs.size s2 H2 fp) rfl rfl rfl hc i [] s5 σ5 H5 _ I5 (stat fr5) st5 go) λr s6 ⟨u,hr,h6⟩=>?_
   subst hr;refine thn h6 λ_ s7 ⟨x,H7,I7,r7,y7,st7,fr7⟩=>?_;have I7':=I7.pinned (stat fr7) (T.obj _ _ st7);have B7:=hb P1.objs.size s2 H2 fp;refine thn (B7.1 _ s7 σ5 H7 x u _ I7' r7 (step x H7 y7)) λ_ s8 ⟨σ8,H8,I8,q8⟩=>?_;refine thn (B7.2.1 _ s8 σ8 H8 _ I8 q8) λok s9 ⟨H9,I9,q9⟩=>?_;have again:∀{σa:St}{Ha:Hp}{sa:vF},Inv (Xx X N scope P1.objs.size s2 H2 fp) ([]++zAI fp s7.heap) σa Ha sa->(∃m',m'<n/\W (i+1) m' σa Ha) ->
     ∃m,m<n/\∃i σ' H',Inv (Xx X N scope P1.objs.size s2 H2 fp) [] σ' H' sa/\tn i sa.heap/\(∀b∈fp,H' b=none)/\W i m σ' H':=λ{σa Ha sa} Ia ⟨m',hm,wa⟩=>by
    refine⟨m',hm,i+1,σa,Ha,Ia.unpinned,T.keep _ _ _ st7 λb z o eo=>(Ia.pin (b,o) (zQ _ (zQ _ (q20 z eo)))).1,λb z=>?_,wa⟩;obtain⟨o,eo,d⟩:=T.obj _ _ st7 b z;exact(Ia.pin (b,o) (zQ _ (zQ _ (q20 z eo)))).2.1
   cases ok with
   | false=>exact again I9 q9
   | true=>
    rw[vC rfl];refine thn (B7.2.2 _ s9 σ8 H9 _ I9 q9) λy s10 ⟨v,H10,I10,r10,acc,ha,hz,m',hm,wn⟩=>?_;refine thn (q0z (X:=Xx X N scope P1.objs.size s2 H2 fp) _ s10 σ8 H10 (.ref s2.heap.objs.size) [v] (.ref s2.heap.objs.size) [y] (λ_ Hn=>∃m',m'<n/\W (i+1) m' σ8 Hn) I10 rfl (.cons r10 .nil) ⟨_,acc,v,rfl,rfl,ha,hz,m',hm,wn⟩) λ_ s11 ⟨_,H11,I11,_,q11⟩=>?_;exact again I11 q11
 exact codeAny_compStart_list (loop _ rfl) (T.self _ 0 _ _ _ st4 (loop _ rfl))
theorem qfb(hc:X.calm=true)(B:BlkOk X N M frees scope)(hi:PI X tg iter wi)(hb:∀C s H fp,PG (Xx X N scope C s H fp) tg g/\PTs (Xx X N scope C s H fp) ifs tc/\PE (Xx X N scope C s H fp) elt te)(hs:∀x,v8 iter X.env x=pure x:=by intro _;rfl):PE X (.ListComp elt [⟨tg,iter,ifs,0⟩] scope pos) (zCN M frees wi g tc te):=by
 intro pins s σ H Q I h;rw[eval_ListComp];refine tM (use:=none) rfl hs (q3V B.cells) B.kind B.own (vq (hi pins s σ H _ I h) (λv s1 h1=>vq h1 (λitv s2 h2=>?_) λ_ _ q=>q) λ_ _ q=>q);refine q8H (RR:=λacc C=>compPost (model X.prog X.w) X.A X.xe none (EP X pins σ Q) acc C) hc B hb h2 λD C s' H' m I' q' hm hC h1 h3 h4 h5=>?_;exact⟨m,hm,λh' hs'=>⟨.ref D,H',I'.turned (t':=s'.toks) (λb o z y=>hs'.extBut b o z y) hC h1 (.inr h3) h4 h5,rfl,q'⟩⟩
theorem qfn{i:Nat}{x:Str}{pos' spos:Pos}(hc:X.calm=true)(hN:X.N.Nodup)(hi':X.N[i]?=some x)(hx:X.env.scope.names.lookup x=some .local)(B:BlkOk X N M frees scope)(hi:PI X tg iter wi)(hb:∀C s H fp,PG (Xx X N scope C s H fp) tg g/\PTs (Xx X N scope C s H fp) ifs tc/\PE (Xx X N scope C s H fp) elt te)(hsw:v7 (.ListComp elt [⟨tg,iter,ifs,0⟩] scope pos) (some (.Name x pos')) spos.line X.env=pure true:=by rfl)(hs:∀x,v8 iter X.env x=pure x:=by intro _;rfl):PS X (.Assign [.Name x pos'] (.ListComp elt [⟨tg,iter,ifs,0⟩] scope pos) spos) (zAe (zCN M frees wi g tc te) (Xt i)):=by
 intro pins s σ H D I h;rw[exec_Assign_Name_used _ _ _ _ hsw];refine vA (t8 (vA ?_));show vO _ X.A (do let _ <- comprehension (.ListComp elt [⟨tg,iter,ifs,0⟩] scope pos) scope X.env _ (newList []) false (eval iter X.env) (some (assign (.Name x pos') X.env))) _ _ s;refine vA (vq (tM (use:=some (assign (.Name x pos') X.env)) (Q:=λ_ s'=>SP X pins D .next s') rfl hs (q3V B.cells) B.kind B.own
  (vq (hi pins s σ H _ I h) (λv s1 h1=>vq h1 (λitv s2 h2=>?_) λ_ _ q=>q) λ_ _ q=>q)) (λ_ s' hq=>vH (vH hq)) λ_ _ q=>q)
 refine q8H (Q:=λy H1=>Xt i y σ H1 D.nx) (RR:=λacc C=>compPost (model X.prog X.w) X.A X.xe (some (assign (.Name x pos') X.env)) (λ_ s'=>SP X pins D .next s') acc C) hc B hb h2 λDd C s' H' m I' q' hm hC h1 h3 h4 h5=>?_;show vO _ X.A (assign (.Name x pos') X.env (.ref Dd)) _ _ _;refine wpAny_assign_Name (q7S I' hN hi' (.inl hx) (v:=.ref Dd) (u:=.ref Dd) rfl (λs'' I'' ⟨a,hsb,ha⟩=>?_) (.inr hx));have hCa:C≠a:=by
  rcases ha with rfl|ha
  ·exact h1
  ·exact Ne.symm (h4 x a ha)
 refine⟨m,hm.sameBut hsb hCa,λh' hs'=>⟨_,H',I''.turned (t':=s''.toks) (λb o z y=>hs'.extBut b o z y) hC h1 (.inr h3) h4 h5,q'⟩⟩
end
end L2
namespace Hk
open PySem L2
inductive D where
 | non|bl (b:Bool)|int (i:Int)|str (x:Str)|lst (xs:List D)|tup (xs:List D)|scr (ns:List Int)|exc (c:Str)|dic (ks:List Int) (xs:List D)
noncomputable def kvsOf:List Int->List V->List (Key×V)
 | k::ks,v::vs=>(.inl k,v)::kvsOf ks vs
 | _,_=>[]
def excP(a C:vJ)(h:vj):Prop:=∃o,h.get? a=some o/\o.cls=.ref C
mutual
def Rep(K:zA)(H:Hp):D->V->Prop
 | .non,v=>v=.non
 | .bl b,v=>v=.bl b
 | .int i,v=>v=.int i
 | .str x,v=>v=.str x
 | .lst ds,v=>∃a vs,v=.ref a/\H a=some (.lst vs)/\Yo K H ds vs
 | .tup ds,v=>∃a vs,v=.ref a/\H a=some (.tup vs)/\Yo K H ds vs
 | .scr ns,v=>∃a,v=.ref a/\SqL K H a (ns.map V.int)
 | .exc c,v=>∃a C,v=.ref a/\yS K vY c=some (some (.ref C))/\H a=some (.ext (excP a C))
 | .dic ks ds,v=>∃a vs,v=.ref a/\(∃o,H a=some (.frz o (.dK (kvsOf ks vs))))/\ks.length=ds.length/\Yo K H ds vs
def Yo(K:zA)(H:Hp):List D->List V->Prop
 | [],vs=>vs=[]
 | d::ds,vs=>∃v r,vs=v::r/\Rep K H d v/\Yo K H ds r
end
mutual
theorem Rep.mono{K:zA}{H H':Hp}(e:Y0 H H'):∀{d:D}{v:V},Rep K H d v->Rep K H' d v
 | .non,_,h=>h
 | .bl _,_,h=>h
 | .int _,_,h=>h
 | .str _,_,h=>h
 | .lst _,_,⟨a,vs,h1,h2,h3⟩=>⟨a,vs,h1,e _ _ h2,Yo.mono e h3⟩
 | .tup _,_,⟨a,vs,h1,h2,h3⟩=>⟨a,vs,h1,e _ _ h2,Yo.mono e h3⟩
 | .scr _,_,⟨a,h1,h2⟩=>⟨a,h1,e.seq h2⟩
 | .exc _,_,⟨a,C,h1,h2,h3⟩=>⟨a,C,h1,h2,e _ _ h3⟩
 | .dic _ _,_,⟨a,vs,h1,⟨o,h2⟩,h4,h3⟩=>⟨a,vs,h1,⟨o,e _ _ h2⟩,h4,Yo.mono e h3⟩
theorem Yo.mono{K:zA}{H H':Hp}(e:Y0 H H'):∀{ds:List D}{vs:List V},Yo K H ds vs->Yo K H' ds vs
 | [],_,h=>h
 | _::_,_,⟨v,r,h1,h2,h3⟩=>⟨v,r,h1,Rep.mono e h2,Yo.mono e h3⟩
end
section
variable{K:zA}{H:Hp}
theorem Yo.nil:Yo K H [] []:=rfl
theorem Yo.cons{d:D}{ds:List D}{v:V}{vs:List V}(h:Rep K H d v)(t:Yo K H ds vs):Yo K H (d::ds) (v::vs):=⟨v,vs,rfl,h,t⟩
theorem Yo.len:∀{ds:List D}{vs:List V},Yo K H ds vs->ds.length=vs.length
 | [],_,h=>by cases (show _=_ from h);rfl
 | _::_,_,⟨v,r,h1,_,h3⟩=>by rw[h1,zL,zL,Yo.len h3]
theorem Yo.app:∀{ds es:List D}{vs us:List V},Yo K H ds vs->Yo K H es us->Yo K H (ds++es) (vs++us)
 | [],_,_,_,h,t=>by cases (show _=_ from h);exact t
 | _::_,_,_,_,⟨v,r,h1,h2,h3⟩,t=>by rw[h1];exact⟨v,_,rfl,h2,Yo.app h3 t⟩
theorem Yo.get:∀{ds:List D}{vs:List V}{i:Nat}{d:D},Yo K H ds vs->ds[i]?=some d->∃v,vs[i]?=some v/\Rep K H d v
 | [],_,_,_,_,e=>by simp at e
 | _::_,_,0,_,⟨v,r,h1,h2,h3⟩,e=>by simp at e;subst e;rw[h1];exact⟨v,rfl,h2⟩
 | _::_,_,i+1,d,⟨v,r,h1,h2,h3⟩,e=>by
  obtain⟨u,e1,e2⟩:=Yo.get (i:=i) (d:=d) h3 ⇑e;exact⟨u,by rw[h1];simpa using e1,e2⟩
theorem Yo.take:∀{ds:List D}{vs:List V}(n:Nat),Yo K H ds vs->Yo K H (ds.take n) (vs.take n)
 | _,_,0,_=>rfl
 | [],_,_+1,h=>by cases (show _=_ from h);rfl
 | _::_,_,n+1,⟨v,r,h1,h2,h3⟩=>by rw[h1];exact⟨v,_,rfl,h2,Yo.take n h3⟩
theorem Yo.drop:∀{ds:List D}{vs:List V}(n:Nat),Yo K H ds vs->Yo K H (ds.drop n) (vs.drop n)
 | _,_,0,h=>h
 | [],_,_+1,h=>by cases (show _=_ from h);rfl
 | _::_,_,n+1,⟨v,r,h1,h2,h3⟩=>by rw[h1];exact Yo.drop n h3
theorem Yo.ints:∀(ns:List Int),Yo K H (ns.map D.int) (ns.map V.int)
 | []=>rfl
 | n::r=>⟨.int n,_,rfl,rfl,Yo.ints r⟩
theorem Yo.of_ints:∀{ns:List Int}{vs:List V},Yo K H (ns.map D.int) vs->vs=ns.map V.int
 | [],_,h=>h
 | n::r,_,⟨v,vs,h1,h2,h3⟩=>by
  have:=Yo.of_ints h3;have e:v=.int n:=h2;rw[h1,this,e];rfl
theorem Yo.one{d:D}{vs:List V}(h:Yo K H [d] vs):∃v,vs=[v]/\Rep K H d v:=by
 obtain⟨v,r,h1,h2,h3⟩:=h;cases (show r=[]from h3);exact⟨v,h1,h2⟩
theorem Yo.two{d e:D}{vs:List V}(h:Yo K H [d,e] vs):∃v u,vs=[v,u]/\Rep K H d v/\Rep K H e u:=by
 obtain⟨v,r,h1,h2,h3⟩:=h;obtain⟨u,rfl,h4⟩:=Yo.one h3;exact⟨v,u,h1,h2,h4⟩
end
structure Ext (G H G' H':Hp):Prop where
 gg:Y0 G G'
 gh:Y0 G' H'
 hh:Y0 H H'
 new:∀b,G b=none->H b≠none->G' b=none
theorem Ext.refl{G H:Hp}(h:Y0 G H):Ext G H G H:=⟨Y0.refl _,h,Y0.refl _,λ_ e _=>e⟩
theorem Ext.trans{G H G1 H1 G2 H2:Hp}(a:Ext G H G1 H1)(b:Ext G1 H1 G2 H2):Ext G H G2 H2:=by
 refine⟨a.gg.trans b.gg,b.gh,a.hh.trans b.hh,λc h1 h2=>?_⟩;have e1:=a.new c h1 h2;refine b.new c e1 λz=>h2 ?_;exact a.hh.free z
theorem XY{H:Hp}{p:vJ}(h:H p=none)(o:HO):Y0 H (upd H p o):=λb u q=>by rw[qd (q0e q h)];exact q
theorem W8{G H:Hp}{p:vJ}(e:Y0 G H)(o:HO):Y0 (upd G p o) (upd H p o):=λb u q=>by
 by_cases z:b=p
 ·subst z;rw[qe]at q ⊢;exact q
 ·rw[qd z]at q ⊢;exact e b u q
theorem Y1{G H:Hp}{p:vJ}(e:Y0 G H)(h:G p=none)(o:HO):Y0 G (upd H p o):=λb u q=>by rw[qd (q0e q h)];exact e b u q
theorem Ext.lay{G H:Hp}{p:vJ}(e:Y0 G H)(h:H p=none)(o:HO):Ext G H (upd G p o) (upd H p o):=by
 have g:G p=none:=e.free h;refine⟨XY g o,W8 e o,XY h o,λb h1 h2=>?_⟩
 by_cases z:b=p
 ·subst z;exact vP h h2
 ·rw[qd z];exact h1
theorem Ext.hide{G H:Hp}{p:vJ}(e:Y0 G H)(h:H p=none)(o:HO):Ext G H G (upd H p o) :=
 ⟨Y0.refl _,Y1 e (e.free h) o,XY h o,λ_ z _=>z⟩
inductive W where
 | sh (d:D)|ow (ds:List D)|od (ks:List Int) (ds:List D)|pw (ds:List D)
noncomputable abbrev WSt:=List (Option W)
structure Fr where
 hp:Hp
 pin:Nat->vJ
noncomputable instance:CoeFun Fr λ_=>Hp:=⟨Fr.hp⟩
noncomputable instance:Coe Fr Hp:=⟨Fr.hp⟩
noncomputable def fr(H:Hp):Fr:=⟨H,λ_=>0⟩
def Xi(K:zA)(F:Fr)(G:Hp)(ω:WSt)(σ:St)(H:Hp):Prop:=∀(i:Nat)ds,ω[i]?=some (some (.pw ds))->∃vs,σ[i]?=some (some (.ref (F.pin i)))/\H (F.pin i)=some (.lst vs)/\G (F.pin i)=none/\F.hp (F.pin i)=none/\Yo K G ds vs /\
 (∀(j:Nat)es,ω[j]?=some (some (.pw es))->F.pin j=F.pin i->j=i)/\∀(j:Nat)es,ω[j]?=some (some (.ow es))->σ[j]?≠some (some (.ref (F.pin i)))
theorem Xi.keep{K:zA}{F:Fr}{G G':Hp}{ω:WSt}{σ:St}{H H':Hp}(o:Xi K F G ω σ H)(e:Ext G H G' H'):Xi K F G' ω σ H':=λi ds h=>by
 obtain⟨vs,h1,h2,h3,h4,h5,h6⟩:=o i ds h;exact⟨vs,h1,e.hh _ _ h2,e.new _ h3 (by rw[h2];exact λz=>by cases z),h4,h5.mono e.gg,h6⟩
theorem Xi.no{K:zA}{F:Fr}{G:Hp}{ω:WSt}{σ:St}{H:Hp}(h:∀(i:Nat)ds,ω[i]?≠some (some (.pw ds))):Xi K F G ω σ H:=λi ds e=>vP e (h i ds)
structure Own (K:zA) (G0:Hp) (H0:Fr) (G:Hp) (ω:WSt) (σ:St) (H:Hp):Prop where
 ext:Ext G0 H0.hp G H
 len:ω.length=σ.length
 sh:∀(i:Nat)d,ω[i]?=some ↥d->∃v,σ[i]?=some (some v)/\Rep K G d v
 ow:∀(i:Nat)ds,ω[i]?=some (some (.ow ds))->∃l vs,σ[i]?=some (some (.ref l))/\H l=some (.lst vs)/\G l=none/\H0 l=none/\Yo K G ds vs
 nd:∀(i j:Nat)ds es l,ω[i]?=some (some (.ow ds))->ω[j]?=some (some (.ow es))->σ[i]?=some (some (.ref l))->σ[j]?=some (some (.ref l))->i=j
 od:∀(i:Nat)ks ds,ω[i]?=some (some (.od ks ds))->∃p vs,σ[i]?=some (some (.ref p))/\H p=some (.dK (kvsOf ks vs))/\G p=none/\H0 p=none/\ks.length=ds.length/\Yo K G ds vs /\
  ∀(j:Nat)ks' es,ω[j]?=some (some (.od ks' es))->σ[j]?=some (some (.ref p))->i=j
 pw:Xi K H0 G ω σ H
inductive R where
 | sh (d:D)|fr (ds:List D)|vw (ds:List D)
noncomputable def R.d:R->D
 | .sh d=>d
 | .fr ds=>.lst ds
 | .vw ds=>.lst ds
def zB1(K:zA)(H G' H':Hp):R->V->Prop
 | .sh d,v=>Rep K G' d v
 | .fr ds,v=>∃l vs,v=.ref l/\H l=none/\G' l=none/\H' l=some (.lst vs)/\Yo K G' ds vs
 | .vw ds,v=>∃l vs,v=.ref l/\H' l=some (.lst vs)/\Yo K G' ds vs
def Vw(K:zA)(G H:Hp)(d:D)(v:V):Prop:=Rep K G d v\/∃ds l vs,d=.lst ds/\v=.ref l/\H l=some (.lst vs)/\Yo K G ds vs
theorem Own.keep{K:zA}{G0:Hp}{H0:Fr}{G G':Hp}{ω:WSt}{σ:St}{H H':Hp}(o:Own K G0 H0 G ω σ H)(e:Ext G H G' H'):Own K G0 H0 G' ω σ H':=by
 refine⟨o.ext.trans e,o.len,λi d h=>?_,λi ds h=>?_,o.nd,λi ks ds h=>?_,o.pw.keep e⟩
 ·obtain⟨v,h1,h2⟩:=o.sh i d h
  exact⟨v,h1,h2.mono e.gg⟩
 ·obtain⟨l,vs,h1,h2,h3,h4,h5⟩:=o.ow i ds h
  exact⟨l,vs,h1,e.hh _ _ h2,e.new l h3 (by rw[h2];exact λz=>by cases z),h4,h5.mono e.gg⟩
 ·obtain⟨l,vs,h1,h2,h3,h4,h6,h5,h7⟩:=o.od i ks ds h
  exact⟨l,vs,h1,e.hh _ _ h2,e.new l h3 (by rw[h2];exact λz=>by cases z),h4,h6,h5.mono e.gg,h7⟩
theorem Own.gh{K:zA}{G0:Hp}{H0:Fr}{G:Hp}{ω:WSt}{σ:St}{H:Hp}(o:Own K G0 H0 G ω σ H):Y0 G H:=o.ext.gh
noncomputable abbrev FE:=WSt->Option R
noncomputable abbrev FD:=WSt->Option D
noncomputable abbrev FT:=WSt->Option Bool
noncomputable abbrev FA:=WSt->Option (List D)
def zCZ(K:zA)(t:TE)(f:FE):Prop:=∀G0 H0 G ω σ H r(Q:VK),Own K G0 H0 G ω σ H->f ω=some r ->
 (∀v G' H',Ext G H G' H'->zB1 K H G' H' r v->Q v H')->t σ H Q
def zBG(K:zA)(t:TE)(f:FD):Prop:=∀G0 H0 G ω σ H d(Q:VK),Own K G0 H0 G ω σ H->f ω=some d ->
 (∀v G' H',Ext G H G' H'->Rep K G' d v->Q v H')->t σ H Q
def SimV(K:zA)(t:TE)(f:FD):Prop:=∀G0 H0 G ω σ H d(Q:VK),Own K G0 H0 G ω σ H->f ω=some d ->
 (∀v G' H',Ext G H G' H'->Vw K G' H' d v->Q v H')->t σ H Q
def zAp(K:zA)(t:TT)(f:FT):Prop:=∀G0 H0 G ω σ H b(Q:Bool->Hp->Prop),Own K G0 H0 G ω σ H->f ω=some b ->
 (∀G' H',Ext G H G' H'->Q b H')->t σ H Q
def SimA(K:zA)(t:TA)(f:FA):Prop:=∀G0 H0 G ω σ H ds(Q:List V->Hp->Prop),Own K G0 H0 G ω σ H->f ω=some ds ->
 (∀vs G' H',Ext G H G' H'->Yo K G' ds vs->Q vs H')->t σ H Q
def XE(X:Cx)(e:vX)(f:FE):Prop:=∃t,PE X e t/\zCZ X.K t f
def XD(X:Cx)(e:vX)(f:FD):Prop:=∃t,PE X e t/\zBG X.K t f
def XV(X:Cx)(e:vX)(f:FD):Prop:=∃t,PE X e t/\SimV X.K t f
def XT(X:Cx)(e:vX)(f:FT):Prop:=∃t,PT X e t/\zAp X.K t f
def XW(X:Cx)(e:vX)(f:FT):Prop:=∃t,PW X e t/\zAp X.K t f
def XA(X:Cx)(es:List vX)(f:FA):Prop:=(∃t,PA X es t/\SimA X.K t f)/\∀ω ds,f ω=some ds->ds.length=es.length
noncomputable def eOf(f:FD):FE:=λω=>(f ω).map R.sh
noncomputable def dOf(f:FE):FD:=λω=>match f ω with
 | ↥d=>some d
 | some (.fr ds)=>some (.lst ds)
 | _=>none
noncomputable def vOf(f:FE):FD:=λω=>(f ω).map R.d
section
variable{X:Cx}{e:vX}
theorem XD.toE{f:FD}(h:XD X e f):XE X e (eOf f):=by
 obtain⟨t,h1,h2⟩:=h;refine⟨t,h1,λG0 H0 G ω σ H r Q o e k=>?_⟩;unfold eOf at e;cases q:f ω with
 | none=>rw[q]at e;cases e
 | some d=>rw[q]at e;cases e;exact h2 G0 H0 G ω σ H d Q o q k
theorem XE.toD{f:FE}(h:XE X e f):XD X e (dOf f):=by
 obtain⟨t,h1,h2⟩:=h;refine⟨t,h1,λG0 H0 G ω σ H d Q o e k=>?_⟩;unfold dOf at e;cases q:f ω with
 | none=>rw[q]at e;cases e
 | some r=>
  rw[q]at e;cases r with
  | sh d'=>cases e;exact h2 G0 H0 G ω σ H _ Q o q k
  | fr ds=>
   cases e;refine h2 G0 H0 G ω σ H _ Q o q λv G' H' x ⟨l,vs,e1,e2,e3,e4,e5⟩=>?_;have s1:Y0 G' (upd G' l (.lst vs)):=XY e3 _;refine k v (upd G' l (.lst vs)) H' ⟨x.gg.trans s1,λb u z=>?_,x.hh,λb z1 z2=>?_⟩ ⟨l,vs,e1,qe,e5.mono s1⟩
   ·by_cases hb:b=l
    ·subst hb;rw[qe]at z;rw[e4];exact z
    ·rw[qd hb]at z;exact x.gh b u z
   ·rw[qd (λhb=>z2 (by rw[hb];exact e2))];exact x.new b z1 z2
  | vw ds=>cases e
theorem XE.toV{f:FE}(h:XE X e f):XV X e (vOf f):=by
 obtain⟨t,h1,h2⟩:=h;refine⟨t,h1,λG0 H0 G ω σ H d Q o e k=>?_⟩;unfold vOf at e;cases q:f ω with
 | none=>rw[q]at e;cases e
 | some r=>
  rw[q]at e;have e':r.d=d:=zx e;subst e';refine h2 G0 H0 G ω σ H r Q o q λv G' H' x y=>k v G' H' x ?_;cases r with
  | sh d'=>exact .inl y
  | fr ds=>obtain⟨l,vs,e1,e2,e3,e4,e5⟩:=y;exact .inr ⟨ds,l,vs,rfl,e1,e4,e5⟩
  | vw ds=>obtain⟨l,vs,e1,e2,e3⟩:=y;exact .inr ⟨ds,l,vs,rfl,e1,e2,e3⟩
theorem XD.toV{f:FD}(h:XD X e f):XV X e f:=by
 obtain⟨t,h1,h2⟩:=h;exact⟨t,h1,λG0 H0 G ω σ H d Q o e k=>h2 G0 H0 G ω σ H d Q o e λv G' H' x y=>k v G' H' x (.inl y)⟩
end
noncomputable def Yi(i:Nat):FE:=λω=>match ω[i]? with
 | some ↥d=>↥d
 | some (some (.ow ds))=>some (.vw ds)
 | some (some (.pw ds))=>some (.vw ds)
 | _=>none
noncomputable def fC(d:D):FD:=λ_=>some d
section
variable{X:Cx}
theorem zBY{e:vX}(i:Nat)(h:PE X e (XJ i)):XE X e (Yi i):=by
 refine⟨_,h,λG0 H0 G ω σ H r Q o e k=>?_⟩;unfold Yi at e;cases q:ω[i]? with
 | none=>rw[q]at e;cases e
 | some w=>
  rw[q]at e;cases w with
  | none=>cases e
  | some w=>
   cases w with
   | sh d=>
    cases e;obtain⟨v,h1,h2⟩:=o.sh i d q;exact⟨v,h1,k v G H (Ext.refl o.gh) h2⟩
   | ow ds=>
    cases e;obtain⟨l,vs,h1,h2,h3,h4,h5⟩:=o.ow i ds q;exact⟨_,h1,k _ G H (Ext.refl o.gh) ⟨l,vs,rfl,h2,h5⟩⟩
   | od ks ds=>cases e
   | pw ds=>
    cases e;obtain⟨vs,h1,h2,h3,h4,h5,_⟩:=o.pw i ds q;exact⟨_,h1,k _ G H (Ext.refl o.gh) ⟨_,vs,rfl,h2,h5⟩⟩
theorem xd_c{e:vX}{v:V}{d:D}(h:PE X e (tC v))(hr:∀K H,Rep K H d v):XD X e (fC d):=by
 refine⟨_,h,λG0 H0 G ω σ H r Q o e k=>?_⟩;cases e;exact k v G H (Ext.refl o.gh) (hr _ _)
theorem Yh{i j pos}:XD X (.Constant (.int i) j pos) (fC (.int i)):=xd_c qgU λ_ _=>rfl
theorem Xn{b j pos}:XD X (.Constant (.bool b) j pos) (fC (.bl b)):=xd_c qht λ_ _=>rfl
theorem WD{x j pos}:XD X (.Constant (.str x) j pos) (fC (.str x)):=xd_c qgE λ_ _=>rfl
end
theorem bnd{α β:Type}{o:Option α}{f:α->Option β}{r:β}(h:o.bind f=some r):∃a,o=some a/\f a=some r:=Option.bind_eq_some_iff.mp h
theorem mpd{α β:Type}{o:Option α}{f:α->β}{r:β}(h:o.map f=some r):∃a,o=some a/\f a=r:=wJ.mp h
noncomputable def Yq:FA:=λ_=>some []
noncomputable def Yg(f:FD)(g:FA):FA:=λω=>(f ω).bind λd=>(g ω).map λds=>d::ds
section
variable{X:Cx}{e:vX}{es:List vX}
theorem Yl:XA X [] Yq:=⟨⟨_,qr,λG0 H0 G ω σ H ds Q o e k=>by cases e;exact k [] G H (Ext.refl o.gh) rfl⟩,λω ds e=>by cases e;rfl⟩
theorem Yf{f:FD}{g:FA}(h:XD X e f)(hr:XA X es g)(hs:vK (e::es) X.env=(false,eval e X.env)::vK es X.env:=by rfl):XA X (e::es) (Yg f g):=by
 obtain⟨t,h1,h2⟩:=h;obtain⟨⟨u,h3,h4⟩,h5⟩:=hr;refine⟨⟨_,qt h1 h3 hs,λG0 H0 G ω σ H ds Q o e k=>?_⟩,λω ds e=>?_⟩
 ·obtain⟨d,q,e⟩:=bnd e
  obtain⟨r,q2,e⟩:=mpd e;subst e;refine h2 G0 H0 G ω σ H d _ o q λv G1 H1 x1 y1=>?_;refine h4 G0 H0 G1 ω σ H1 r _ (o.keep x1) q2 λvs G2 H2 x2 y2=>?_;exact k _ G2 H2 (x1.trans x2) (Yo.cons (y1.mono x2.gg) y2)
 ·obtain⟨d,q,e⟩:=bnd e
  obtain⟨r,q2,e⟩:=mpd e;subst e;rw[zL,zL,h5 ω r q2]
noncomputable def W2(g:FA):FD:=λω=>(g ω).map D.tup
noncomputable def zAV(g:FA):FE:=λω=>(g ω).map R.fr
theorem zBH{n:Nat}(h:n<=1000):n<=sizeLine:=yU (zBa h)
theorem XB{x1 pos}{g:FA}(h:XA X es g)(hl:es.length<=1000:=by decide):XD X (.Tuple es x1 pos) (W2 g):=by
 obtain⟨⟨t,h1,h2⟩,h5⟩:=h;refine⟨_,qgw h1,λG0 H0 G ω σ H d Q o e k=>?_⟩;obtain⟨ds,q,e⟩:=mpd e;subst e;refine h2 G0 H0 G ω σ H ds _ o q λvs G1 H1 x1 y1=>⟨zBH (by rw[<- y1.len,h5 ω ds q];exact hl),λp hp=>?_⟩;have x2:=Ext.lay x1.gh hp (.tup vs);exact k _ _ _ (x1.trans x2) ⟨p,vs,rfl,qe,y1.mono x2.gg⟩
theorem XR{pos}{g:FA}(h:XA X es g)(hl:es.length<=1000:=by decide):XE X (.List es pos) (zAV g):=by
 obtain⟨⟨t,h1,h2⟩,h5⟩:=h;refine⟨_,q2b h1,λG0 H0 G ω σ H d Q o e k=>?_⟩;obtain⟨ds,q,e⟩:=mpd e;subst e;refine h2 G0 H0 G ω σ H ds _ o q λvs G1 H1 x1 y1=>⟨zBH (by rw[<- y1.len,h5 ω ds q];exact hl),λp hp=>?_⟩;have x2:=Ext.hide x1.gh hp (.lst vs);exact k _ _ _ (x1.trans x2) ⟨p,vs,rfl,x1.hh.free hp,x1.gh.free hp,qe,y1⟩
inductive O where
 | sh (d:D)|fr (ds:List D)
noncomputable def O.r:O->R
 | .sh d=>.sh d
 | .fr ds=>.fr ds
noncomputable def spD(K:zA)(n:Nat)(m:List D->Option O):Sp:=λvs H Q _=>∃G ds r,m ds=some r/\ds.length=n/\Y0 G H/\Yo K G ds vs/\∀v G' H',Ext G H G' H'->zB1 K H G' H' r.r v->Q v H'
noncomputable def Yr(m:List D->Option O)(g:FA):FE:=λω=>(g ω).bind λds=>(m ds).map O.r
theorem zCE{CX:CXT}{k:Nat}{f:vJ}{fd:vQ}{ps:List Str}{m:List D->Option O}{E:XK}{x:Str}{p pos:Pos}{g:FA}(F:FnOk X.prog X.w X.K X.mg X.base CX k f fd ps (spD X.K (e::es).length m))(hr:Room k X.A)(hg:Gl X x)(hm:X.mg x=some (.ref f))(hk:xh X.K (.ref f)=true)(hb:Binds X.K fd ps [])(hx:zAW CX X E)(ha:XA X (e::es) g)(hdb:(x==("__debug__" : Str))=false:=by decide)(he:vK (e::es) X.env=(false,eval e X.env)::vK es X.env:=by rfl)(hpl:(vk pos (vK es X.env)).any (·.1)=false:=by rfl):
  XE X (.Call (.Name x p) (e::es) [] pos) (Yr m g):=by
 obtain⟨⟨t,h1,h2⟩,h5⟩:=ha;refine⟨_,qaM F hr hg hm hk hb .nil hx h1 hdb he hpl,λG0 H0 G ω σ H r Q o e k=>?_⟩;obtain⟨ds,q,e⟩:=bnd e;obtain⟨r',q2,e⟩:=mpd e;subst e;refine h2 G0 H0 G ω σ H ds _ o q λvs G1 H1 x1 y1=>?_;refine⟨G1,ds,r',q2,h5 ω ds q,x1.gh,by rw[zn];exact y1,λv G2 H2 x2 y2=>k v G2 H2 (x1.trans x2) ?_⟩;cases r' with
 | sh d=>exact y2
 | fr ds=>obtain⟨l,vs,e1,e2,e3⟩:=y2;exact⟨l,vs,e1,x1.hh.free e2,e3⟩
end
open PySem.Spec PyProof.Rows PySem.SeqAt PySem.MeetsSeq PySem.MeetsSeq2 PySem.MeetsSeq3 in
theorem q8g{prog:vW}{w:vZ}{A:ve}{E:vB->vF->Prop}{s:vF}{t sl:vJ}{items:Array vB}{vl vu:vB}{lo hi:Option Int}{Q:vB->vF->Prop}(ht:IsTup s.heap t items)(hs:s.heap.IsSliceOf sl vl vu .none)(pl:tS vl lo)(pu:tS vu hi)(hw:HT.sIx items.size 0 lo=0/\HT.sIx items.size items.size hi=items.size)(h:Q (.ref t) s):vO (model prog w) A (u9 (.ref t) (.ref sl)) Q E s:=by
 obtain⟨os,hos,hcs,hds⟩:=id hs;have hTs:s.TypeIs (.ref sl) "slice" := ⟨os,hos,hcs⟩;unfold u9
 try with_reducible refine vn ?_
 first|refine vA (vH ?_)|skip
 refine vA (wpAny_sequenceKey ht.typeIs (by decide) ?_);refine vA (wpAny_callSpecial?_slot (name:=Str.ofString "__getitem__") ht.typeIs PyProof.Rows.slot_tuple_getitem
  (vp PyProof.Rows.slot_tuple_getitem ht.typeIs entry_tuple_getitem ?_ (sD _ _)))
 show vO _ _ (Builtin.Tuple.tupleItemsOf (.ref t) >>= _) _ _ s;refine vA (tupleItemsOf_ ht ?_);refine vA (ug hTs ?_);rw[vC (by decide)];refine vA (HT.q29 hs pl pu ?_);have hy:(((HT.sIx items.size 0 lo:Nat):Int)==0&&(1:Int)==1&&(HT.sIx items.size items.size hi-HT.sIx items.size 0 lo)==items.size)=true:=by
  rw[hw.1,hw.2];simp
 show vO _ _ (if (((HT.sIx items.size 0 lo:Nat):Int)==0&&(1:Int)==1&&(HT.sIx items.size items.size hi-HT.sIx items.size 0 lo)==items.size)=true then _ else _) _ _ s;rw[vC hy];have hb:∀{R:Bool->vF->Prop},R true s->vO (model prog w) A.in1 (Builtin.Tuple.tupleIsExact (.ref t)) R E s:=λr=>by
  unfold Builtin.Tuple.tupleIsExact;refine vA (ug ht.typeIs ?_);exact vH r
 refine vA (hb ?_);rw[vC rfl];refine vA (uD ?_);exact vH ⟨_,rfl,vH h⟩
section
variable{X:Cx}
def rSlW(K:zA):V->Option Int->Option Int->Hp->VK->Prop:=λx lo hi H Q=>∃a xs,x=.ref a/\SqT K H a xs /\
 (HT.sIx xs.length 0 lo=0/\HT.sIx xs.length xs.length hi=xs.length)/\Q (.ref a) H
theorem qdQ:SlR X (rSlW X.K):=by
 intro pins s σ H x v vl vu lo hi sl Q I rx hs pl pu h;obtain⟨a,xs,rfl,hx,hw,q⟩:=h;cases rx;obtain⟨its,r,ht,hz⟩:=I.tuple hx;have hlen:its.toArray.size=xs.length:=by rw[zP];exact r.length.symm
 refine⟨"tuple", _,PyProof.Rows.slot_tuple_getitem.lookup,ht.typeIs,?_⟩;exact q8g ht hs pl pu (by rw[hlen];exact hw) ⟨.ref a,H,I,rfl,q⟩
end
theorem Vw.rep{K:zA}{G H:Hp}{d:D}{v:V}(h:Vw K G H d v)(e:Y0 G H):Rep K H d v:=by
 rcases h with h|⟨ds,l,vs,rfl,rfl,h1,h2⟩
 ·exact h.mono e
 ·exact⟨l,vs,rfl,h1,h2.mono e⟩
theorem Vw.keep{K:zA}{G H G' H':Hp}{d:D}{v:V}(h:Vw K G H d v)(e:Ext G H G' H'):Vw K G' H' d v:=by
 rcases h with h|⟨ds,l,vs,h0,h1,h2,h3⟩
 ·exact .inl (h.mono e.gg)
 ·exact .inr ⟨ds,l,vs,h0,h1,e.hh _ _ h2,h3.mono e.gg⟩
theorem Vw.lst{K:zA}{G H:Hp}{ds:List D}{v:V}(h:Vw K G H (.lst ds) v)(e:Y0 G H):∃a vs,v=.ref a/\H a=some (.lst vs)/\Yo K G ds vs:=by
 rcases h with⟨a,vs,h1,h2,h3⟩|⟨ds',l,vs,h0,h1,h2,h3⟩
 ·exact⟨a,vs,h1,e _ _ h2,h3⟩
 ·cases h0;exact⟨l,vs,h1,h2,h3⟩
theorem Vw.of_ne{K:zA}{G H:Hp}{d:D}{v:V}(h:Vw K G H d v)(n:∀ds,d≠.lst ds):Rep K G d v:=by
 rcases h with h|⟨ds',l,vs,h0,h1,h2,h3⟩
 ·exact h
 ·exact vP h0 (n _)
def VwA(K:zA)(G H:Hp):List D->List V->Prop
 | [],vs=>vs=[]
 | d::ds,vs=>∃v r,vs=v::r/\Vw K G H d v/\VwA K G H ds r
def SimVA(K:zA)(t:TA)(f:FA):Prop:=∀G0 H0 G ω σ H ds(Q:List V->Hp->Prop),Own K G0 H0 G ω σ H->f ω=some ds ->
 (∀vs G' H',Ext G H G' H'->VwA K G' H' ds vs->Q vs H')->t σ H Q
def XVA(X:Cx)(es:List vX)(f:FA):Prop:=∃t,PA X es t/\SimVA X.K t f
section
variable{X:Cx}{e:vX}{es:List vX}
theorem qo:XVA X [] Yq:=⟨_,qr,λG0 H0 G ω σ H ds Q o e k=>by cases e;exact k [] G H (Ext.refl o.gh) rfl⟩
theorem qh{f:FD}{g:FA}(h:XV X e f)(hr:XVA X es g)(hs:vK (e::es) X.env=(false,eval e X.env)::vK es X.env:=by rfl):XVA X (e::es) (Yg f g):=by
 obtain⟨t,h1,h2⟩:=h;obtain⟨u,h3,h4⟩:=hr;refine⟨_,qt h1 h3 hs,λG0 H0 G ω σ H ds Q o e k=>?_⟩;obtain⟨d,q,e⟩:=bnd e;obtain⟨r,q2,e⟩:=mpd e;subst e;refine h2 G0 H0 G ω σ H d _ o q λv G1 H1 x1 y1=>?_;refine h4 G0 H0 G1 ω σ H1 r _ (o.keep x1) q2 λvs G2 H2 x2 y2=>?_;exact k _ G2 H2 (x1.trans x2) ⟨v,vs,rfl,y1.keep x2,y2⟩
noncomputable def Yn(op:D->D->Option R)(f g:FD):FE:=λω=>(f ω).bind λx=>(g ω).bind λy=>op x y
def OpV(K:zA)(r:R2)(op:D->D->Option R):Prop:=∀G H x y d v u(Q:VK),Y0 G H->op x y=some d->Vw K G H x v->Vw K G H y u ->
 (∀w G' H',Ext G H G' H'->zB1 K H G' H' d w->Q w H')->r v u H Q
theorem q5b{r:R2}{o:D->D->Option R}{f g:FD}{t u:TE}(hd:OpV X.K r o)(h2:SimV X.K t f)(h4:SimV X.K u g):zCZ X.K (tOp r t u) (Yn o f g):=by
 intro G0 H0 G ω σ H d Q ow e k;obtain⟨x,q,e⟩:=bnd e;obtain⟨y,q2,e⟩:=bnd e;refine h2 G0 H0 G ω σ H x _ ow q λv G1 H1 x1 y1=>?_;refine h4 G0 H0 G1 ω σ H1 y _ (ow.keep x1) q2 λv2 G2 H2 x2 y2=>?_;refine hd G2 H2 x y d v v2 Q x2.gh e (y1.keep x2) y2 λw G3 H3 x3 z=>k w G3 H3 ((x1.trans x2).trans x3) ?_;cases d with
 | sh d=>exact z
 | fr ds=>obtain⟨l,vs,e1,e2,e3⟩:=z;exact⟨l,vs,e1,(x1.trans x2).hh.free e2,e3⟩
 | vw ds=>exact z
variable{a b:vX}{pos:Pos}{f g:FD}
theorem q2p{op:Operator}{r:R2}{o:D->D->Option R}(ho:OpR X (uV op) r)(hd:OpV X.K r o)(ha:XV X a f)(hb:XV X b g):XE X (.BinOp a op b pos) (Yn o f g):=by
 obtain⟨t,h1,h2⟩:=ha;obtain⟨u,h3,h4⟩:=hb;exact⟨_,qhf ho h1 h3,q5b hd h2 h4⟩
theorem q3i{op:sO}{r:R2}{o:D->D->Option R}(ho:OpR X (uH op) r)(hd:OpV X.K r o)(ha:XV X a f)(hb:XV X b g)(hm:uE op b=false):XE X (.Compare a [op] [b] pos) (Yn o f g):=by
 obtain⟨t,h1,h2⟩:=ha;obtain⟨u,h3,h4⟩:=hb;exact⟨_,qeN ho h1 h3 hm,q5b hd h2 h4⟩
theorem qhe{r:R2}{o:D->D->Option R}(ho:IxR X r)(hd:OpV X.K r o)(ha:XV X a f)(hb:XV X b g)(hs:zAN b):XE X (.Subscript a b pos) (Yn o f g):=by
 obtain⟨t,h1,h2⟩:=ha;obtain⟨u,h3,h4⟩:=hb;exact⟨_,qh9 ho h1 h3 hs,q5b hd h2 h4⟩
noncomputable def tOf(f:FE):FT:=λω=>match f ω with
 | ↥(.bl k)=>some k
 | _=>none
theorem qcv{t:TE}{f:FE}(h:zCZ X.K t f):zAp X.K (tTest t) (tOf f):=by
 intro G0 H0 G ω σ H b Q o e k;unfold tOf at e;cases q:f ω with
 | none=>rw[q]at e;cases e
 | some r=>
  rw[q]at e;cases r with
  | sh d=>
   cases d with
   | bl c=>
    cases e;refine h G0 H0 G ω σ H _ _ o q λv G' H' x y=>?_;cases (show v=V.bl b from y);exact⟨b,rfl,k G' H' x⟩
   | _=>cases e
  | _=>cases e
theorem q2M{op:sO}{r:R2}{o:D->D->Option R}(ho:OpR X (uH op) r)(hd:OpV X.K r o)(ha:XV X a f)(hb:XV X b g)(hm:uE op b=false):XT X (.Compare a [op] [b] pos) (tOf (Yn o f g)):=by
 obtain⟨t,h1,h2⟩:=ha;obtain⟨u,h3,h4⟩:=hb;exact⟨_,qf4 ho h1 h3 hm,qcv (q5b hd h2 h4)⟩
noncomputable def zA1(c:Int->Int->Bool)(g:Int->Int->D):D->D->Option R
 | .int i,.int j=>if c i j=true then ↥(g i j)else none
 | _,_=>none
theorem Vw.int{K:zA}{G H:Hp}{i:Int}{v:V}(h:Vw K G H (.int i) v):v=.int i:=h.of_ne (λ_ z=>by cases z)
theorem Vw.bl{K:zA}{G H:Hp}{i:Bool}{v:V}(h:Vw K G H (.bl i) v):v=.bl i:=h.of_ne (λ_ z=>by cases z)
theorem Vw.str{K:zA}{G H:Hp}{i:Str}{v:V}(h:Vw K G H (.str i) v):v=.str i:=h.of_ne (λ_ z=>by cases z)
theorem Vw.non{K:zA}{G H:Hp}{v:V}(h:Vw K G H .non v):v=.non:=h.of_ne (λ_ z=>by cases z)
theorem Vw.tup{K:zA}{G H:Hp}{ds:List D}{v:V}(h:Vw K G H (.tup ds) v):∃a vs,v=.ref a/\G a=some (.tup vs)/\Yo K G ds vs:=h.of_ne (λ_ z=>by cases z)
theorem Vw.scr{K:zA}{G H:Hp}{ns:List Int}{v:V}(h:Vw K G H (.scr ns) v):∃a,v=.ref a/\SqL K G a (ns.map V.int):=h.of_ne (λ_ z=>by cases z)
theorem q5c{K:zA}{C:Int->Int->Prop}{c:Int->Int->Bool}{gV:Int->Int->V}{g:Int->Int->D}(hc:∀i j,c i j=true->C i j)(hg:∀H i j,Rep K H (g i j) (gV i j)):OpV K (rI C gV) (zA1 c g):=by
 intro G H x y d v u Q s e hx hy k;cases x with
 | int i=>
  cases y with
  | int j=>
   cases hx.int;cases hy.int;unfold zA1 at e
   dsimp only at e
   by_cases z:c i j=true
   ·rw[vC z]at e
    cases e;exact⟨i,j,rfl,rfl,hc i j z,k _ G H (Ext.refl s) (hg _ i j)⟩
   ·rw[vG z]at e;cases e
  | _=>cases e
 | _=>cases e
theorem q0K{K:zA}{gV:Int->Int->V}{g:Int->Int->D}(hg:∀H i j,Rep K H (g i j) (gV i j)):OpV K (rI0 gV) (zA1 (λ_ _=>true) g):=by
 intro G H x y d v u Q s e hx hy k;cases x with
 | int i=>
  cases y with
  | int j=>
   cases hx.int;cases hy.int;cases e;exact⟨i,j,rfl,rfl,k _ G H (Ext.refl s) (hg _ i j)⟩
  | _=>cases e
 | _=>cases e
noncomputable def zCM(i j:Int):Bool:=(decide (-(2^64)<i)&&decide (i<2^64)) || (decide (-(2^64)<j)&&decide (j<2^64))
noncomputable def cDiv(_ j:Int):Bool:=decide (0<j)&&decide (j<1073741824)
noncomputable def cMod(_ j:Int):Bool:=decide (0<j)
noncomputable def cPow(i j:Int):Bool:=decide (0<=j)&&decide (j<=1000000)&&decide (i.natAbs<2^64)
noncomputable abbrev zBt:D->D->Option R:=zA1 (λ_ _=>true) λi j=>.int (i-j)
noncomputable abbrev zA6:D->D->Option R:=zA1 zCM λi j=>.int (i*j)
noncomputable abbrev oDiv:D->D->Option R:=zA1 cDiv λi j=>.int (i/j)
noncomputable abbrev oMod:D->D->Option R:=zA1 cMod λi j=>.int (i%j)
noncomputable abbrev oPow:D->D->Option R:=zA1 cPow λi j=>.int (i^j.toNat)
noncomputable abbrev oLt:D->D->Option R:=zA1 (λ_ _=>true) λi j=>.bl (decide (i<j))
noncomputable abbrev oLe:D->D->Option R:=zA1 (λ_ _=>true) λi j=>.bl (decide (i<=j))
noncomputable abbrev oGt:D->D->Option R:=zA1 (λ_ _=>true) λi j=>.bl (decide (j<i))
noncomputable abbrev oGe:D->D->Option R:=zA1 (λ_ _=>true) λi j=>.bl (decide (j<=i))
noncomputable def WB:D->D->Option R
 | .int i,.int j=>↥(.int (i+j))
 | .lst xs,.lst ys=>if xs.length+ys.length<=1000000 then some (.fr (xs++ys))else none
 | .tup [],.tup ys=>↥(.tup ys)
 | .tup (x::xs),.tup ys=>if (x::xs).length+ys.length<=1000000 then ↥(.tup ((x::xs)++ys))else none
 | _,_=>none
theorem q5s{n:Nat}(h:n<=1000000):n<=sizeLine:=by rw[vh];omega
noncomputable def rCat0(K:zA):R2:=λx y H Q=>∃a b ys,x=.ref a/\y=.ref b/\SqT K H a []/\SqT K H b ys/\Q (.ref b) H
theorem qeE:OpR X (uV .Add) (rCat0 X.K):=by
 intro pins s σ H x y v u Q I rx ry h;obtain⟨a,b,ys,rfl,rfl,ha,hb,q⟩:=h;cases rx;cases ry;obtain⟨its,r1,p1,_⟩:=I.tuple ha;obtain⟨its2,r2,p2,_⟩:=I.tuple hb;have e0:its=[]:=r1.nil_iff.mpr rfl;subst e0;obtain⟨⟨cls,dd,data,sl⟩,ho,hc,n,hd⟩:=id p1;obtain⟨⟨cls2,dd2,data2,sl2⟩,ho2,hc2,n2,hd2⟩:=id p2;simp only at hc hd hc2 hd2;subst hc hd hc2 hd2;exact PySem.concat_meets ⟨_,ho,rfl⟩ ⟨_,ho2,rfl⟩ PySem.noFill_tuple_add PySem.seq_tuple_add PySem.F.slot_tuple_add PySem.F.entry_tuple_add (PySem.F.args_tuple_add_2 _ _)
  (PyProof.Rows.tuple_addW0 a b _ its2.toArray n n2 dd dd2 sl sl2 (by simp)) ⟨ho,ho2,⟨.ref b,H,I,rfl,q⟩⟩
noncomputable def zBE(K:zA):R2:=λx y H Q=>rI0 (λi j=>.int (i+j)) x y H Q\/rCat x y H Q\/rCatT K x y H Q\/rCat0 K x y H Q
theorem qcQ:OpR X (uV .Add) (zBE X.K):=qh8.or (qgn.or (qeR.or qeE))
theorem qeO{K:zA}:OpV K (zBE K) WB:=by
 intro G H x y d v u Q s e hx hy k;cases x with
 | int i=>
  cases y with
  | int j=>
   cases hx.int;cases hy.int;cases e;exact .inl ⟨i,j,rfl,rfl,k _ G H (Ext.refl s) rfl⟩
  | _=>cases e
 | lst xs=>
  cases y with
  | lst ys=>
   unfold WB at e
   dsimp only at e
   by_cases z:xs.length+ys.length<=1000000
   ·rw[vC z]at e
    cases e;obtain⟨a,vs,rfl,h1,h2⟩:=hx.lst s;obtain⟨b,us,rfl,h3,h4⟩:=hy.lst s;refine .inr (.inl ⟨a,b,vs,us,rfl,rfl,h1,h3,q5s (by rw[<- h2.len,<- h4.len];exact z),λp hp=>?_⟩);exact k _ G _ (Ext.hide s hp _) ⟨p,_,rfl,hp,s.free hp,qe,h2.app h4⟩
   ·rw[vG z]at e;cases e
  | _=>cases e
 | tup xs=>
  cases y with
  | tup ys=>
   obtain⟨a,vs,rfl,h1,h2⟩:=hx.tup;obtain⟨b,us,rfl,h3,h4⟩:=hy.tup;cases xs with
   | nil=>
    cases e;have ev:vs=[]:=yo h2.len.symm;subst ev;exact .inr (.inr (.inr ⟨a,b,us,rfl,rfl,SqT.of (s _ _ h1),SqT.of (s _ _ h3),k _ G H (Ext.refl s) ⟨b,us,rfl,h3,h4⟩⟩))
   | cons x0 xs=>
    unfold WB at e
    dsimp only at e
    by_cases z:(x0::xs).length+ys.length<=1000000
    ·rw[vC z]at e
     cases e;refine .inr (.inr (.inl ⟨a,b,vs,us,rfl,rfl,SqT.of (s _ _ h1),SqT.of (s _ _ h3),λw=>?_,q5s (by rw[<- h2.len,<- h4.len];exact z),λw=>?_,λ_ p hp=>?_⟩))
     ·have:=h2.len
      rw[w]at this;cases this
     ·have:=h4.len
      rw[w]at this;have ey:ys=[]:=yo this;subst ey;rw[zn]at k;exact k _ G H (Ext.refl s) ⟨a,vs,rfl,h1,h2⟩
     ·have x2:=Ext.lay s hp (.tup (vs++us))
      exact k _ _ _ x2 ⟨p,_,rfl,qe,(h2.app h4).mono x2.gg⟩
    ·rw[vG z]at e;cases e
  | _=>cases xs <;> cases e
 | _=>cases e
theorem qV(ha:XV X a f)(hb:XV X b g):XE X (.BinOp a .Add b pos) (Yn WB f g):=q2p qcQ qeO ha hb
theorem q2g(ha:XV X a f)(hb:XV X b g):XE X (.BinOp a .Sub b pos) (Yn zBt f g):=q2p qgy (q0K λ_ _ _=>rfl) ha hb
theorem mulOk{i j:Int}(h:zCM i j=true):CMul i j:=by
 unfold zCM at h;rw[Bool.or_eq_true,z9,z9,decide_eq_true_iff,decide_eq_true_iff,decide_eq_true_iff,decide_eq_true_iff]at h;exact h
theorem divOk{i j:Int}(h:cDiv i j=true):CDiv i j:=by
 unfold cDiv at h;rw[z9,decide_eq_true_iff,decide_eq_true_iff]at h;exact h
theorem powOk{i j:Int}(h:cPow i j=true):CPow i j:=by
 unfold cPow at h;rw[z9,z9,decide_eq_true_iff,decide_eq_true_iff,decide_eq_true_iff]at h;exact⟨h.1.1,h.1.2,h.2⟩
theorem q4C(ha:XV X a f)(hb:XV X b g):XE X (.BinOp a .Mult b pos) (Yn zA6 f g):=q2p qgz (q5c (λ_ _ h=>mulOk h) λ_ _ _=>rfl) ha hb
theorem qK(ha:XV X a f)(hb:XV X b g):XE X (.BinOp a .FloorDiv b pos) (Yn oDiv f g):=q2p qey (q5c (λ_ _ h=>divOk h) λ_ _ _=>rfl) ha hb
theorem qy(ha:XV X a f)(hb:XV X b g):XE X (.BinOp a .Mod b pos) (Yn oMod f g):=q2p qfT (q5c (λ_ _ h=>of_decide_eq_true h) λ_ _ _=>rfl) ha hb
theorem qch(ha:XV X a f)(hb:XV X b g):XE X (.BinOp a .Pow b pos) (Yn oPow f g):=q2p qga (q5c (λ_ _ h=>powOk h) λ_ _ _=>rfl) ha hb
noncomputable def oNeg:D->Option R
 | .int i=>↥(.int (-i))
 | _=>none
noncomputable def fNeg(f:FD):FE:=λω=>(f ω).bind oNeg
theorem q9g(ha:XV X a f):XE X (.UnaryOp .USub a pos) (fNeg f):=by
 obtain⟨t,h1,h2⟩:=ha;refine⟨_,qhh qh3 h1,λG0 H0 G ω σ H d Q ow e k=>?_⟩;obtain⟨x,q,e⟩:=bnd e;refine h2 G0 H0 G ω σ H x _ ow q λv G1 H1 x1 y1=>?_;cases x with
 | int i=>cases e;cases y1.int;exact⟨i,rfl,k _ G1 H1 x1 rfl⟩
 | _=>cases e
theorem qhn(ha:XV X a f)(hb:XV X b g):XE X (.Compare a [.Lt] [b] pos) (Yn oLt f g):=q3i qep (q0K λ_ _ _=>rfl) ha hb (Xl _)
theorem qet(ha:XV X a f)(hb:XV X b g):XE X (.Compare a [.LtE] [b] pos) (Yn oLe f g):=q3i qhk (q0K λ_ _ _=>rfl) ha hb (Xl _)
theorem qhd(ha:XV X a f)(hb:XV X b g):XE X (.Compare a [.GtE] [b] pos) (Yn oGe f g):=q3i qer (q0K λ_ _ _=>rfl) ha hb (Xl _)
theorem q58(ha:XV X a f)(hb:XV X b g):XT X (.Compare a [.Lt] [b] pos) (tOf (Yn oLt f g)):=q2M qep (q0K λ_ _ _=>rfl) ha hb (Xl _)
theorem qhi(ha:XV X a f)(hb:XV X b g):XT X (.Compare a [.Gt] [b] pos) (tOf (Yn oGt f g)):=q2M qhD (q0K λ_ _ _=>rfl) ha hb (Xl _)
theorem qhq(ha:XV X a f)(hb:XV X b g):XT X (.Compare a [.GtE] [b] pos) (tOf (Yn oGe f g)):=q2M qer (q0K λ_ _ _=>rfl) ha hb (Xl _)
end
mutual
noncomputable def D.py:D->PyData
 | .non=>.none
 | .bl b=>.bool b
 | .int i=>.int i
 | .str x=>.str x
 | .lst xs=>.list (D.pys xs)
 | .tup xs=>.tuple (D.pys xs)
 | .scr ns=>.list (ns.map PyData.int)
 | .exc _=>.dict []
 | .dic _ _=>.dict []
noncomputable def D.pys:List D->List PyData
 | []=>[]
 | d::ds=>d.py::D.pys ds
end
section
variable{X:Cx}{pins:List (vJ×Obj)}{σ:St}{H:Hp}{s:vF}
theorem Wg{h:vj}:∀{ns:List Int}{us:List vB},Yv (ns.map V.int) us->∃as,ReadsAll h us (ns.map PyData.int) as
 | [],_,r=>by cases r;exact⟨_,.nil⟩
 | n::ns,_,r=>by
  rw[zc]at r;cases r with
  | cons r1 r2=>
   obtain⟨t,rfl⟩:=r1;obtain⟨as,q⟩:=Wg (h:=h) r2;exact⟨_,.cons (.int n t) q⟩
mutual
theorem X6(I:Inv X pins σ H s):∀{d:D}{v:V}{u:vB},d.py.canLay0=true->Rep X.K H d v->RelV v u->∃as,Reads s.heap u d.py as
 | .non,_,_,_,h,r=>by cases (show _=V.non from h);cases r;exact⟨_,.none⟩
 | .bl b,_,_,_,h,r=>by cases (show _=V.bl b from h);cases r;exact⟨_,.bool b⟩
 | .int i,_,_,_,h,r=>by cases (show _=V.int i from h);obtain⟨t,rfl⟩:=r;exact⟨_,.int i t⟩
 | .str x,_,_,_,h,r=>by cases (show _=V.str x from h);obtain⟨t,rfl⟩:=r;exact⟨_,.str x t⟩
 | .lst ds,_,_,hc,⟨a,vs,rfl,h2,h3⟩,r=>by
  cases r;obtain⟨its,n,rv,e,_⟩:=I.lst h2;obtain⟨as,q⟩:=WK I (show PyData.canLayAll0 (D.pys ds)=true from hc) h3 rv;exact⟨_,.list e rfl rfl ⇑q⟩
 | .tup ds,_,_,hc,⟨a,vs,rfl,h2,h3⟩,r=>by
  cases r;obtain⟨its,rv,⟨o,e,c,n,dd⟩,_⟩:=I.tuple (SqT.of h2);obtain⟨as,q⟩:=WK I (show PyData.canLayAll0 (D.pys ds)=true from hc) h3 rv;exact⟨_,.tuple e c dd ⇑q⟩
 | .exc _,_,_,hc,_,_=>by cases hc
 | .dic _ _,_,_,hc,_,_=>by cases hc
 | .scr ns,_,_,_,⟨a,rfl,h2⟩,r=>by
  cases r;obtain⟨its,rv,pl,_⟩:=I.list h2;obtain⟨o,e,c,n,dd⟩:=pl.isList;obtain⟨as,q⟩:=Wg (h:=s.heap) rv;exact⟨_,.list e c dd ⇑q⟩
theorem WK(I:Inv X pins σ H s):∀{ds:List D}{vs:List V}{us:List vB},PyData.canLayAll0 (D.pys ds)=true->Yo X.K H ds vs->Yv vs us->∃as,ReadsAll s.heap us (D.pys ds) as
 | [],_,_,_,h,r=>by cases (show _=[]from h);cases r;exact⟨_,.nil⟩
 | d::ds,_,_,hc,⟨v,vr,h1,h2,h3⟩,r=>by
  have hc':=wm.mp (show (d.py.canLay0&&PyData.canLayAll0 (D.pys ds))=true from hc);subst h1;cases r with
  | cons r1 r2=>
   obtain⟨as,q1⟩:=X6 I hc'.1 h2 r1;obtain⟨bs,q2⟩:=WK I hc'.2 h3 r2;exact⟨_,.cons q1 q2⟩
end
end
noncomputable def shp(d:D):Bool:=SeqAt.shaped d.py
noncomputable def eqD(x y:D):Bool:=PyData.eqv x.py y.py
noncomputable def rEqD(K:zA)(neg:Bool):R2:=λx y H Q=>∃d e,Rep K H d x/\Rep K H e y/\shp d=true/\shp e=true/\Q (.bl (if neg then !eqD d e else eqD d e)) H
noncomputable def oEq(neg:Bool):D->D->Option R:=λx y=>if shp x&&shp y then ↥(.bl (if neg then !eqD x y else eqD x y))else none
section
variable{X:Cx}{a b:vX}{pos:Pos}{f g:FD}
theorem zB5(hu:X.A.units+64<ui):OpR X (uH .Eq) (rEqD X.K false):=by
 intro pins s σ H x y v u Q I rx ry h;obtain⟨d,e,h1,h2,h3,h4,q⟩:=h;obtain⟨as,ra⟩:=X6 I (SeqAt.canLay_of_shaped h3) h1 rx;obtain⟨bs,rb⟩:=X6 I (SeqAt.canLay_of_shaped h4) h2 ry;exact SeqAt.compareEq_shaped ra rb h3 h4 hu ⟨.bl _,H,I,rfl,q⟩
theorem zB3(hu:X.A.units+64<ui):OpR X (uH .NotEq) (rEqD X.K true):=by
 intro pins s σ H x y v u Q I rx ry h;obtain⟨d,e,h1,h2,h3,h4,q⟩:=h;obtain⟨as,ra⟩:=X6 I (SeqAt.canLay_of_shaped h3) h1 rx;obtain⟨bs,rb⟩:=X6 I (SeqAt.canLay_of_shaped h4) h2 ry;exact SeqAt.compareNe_shaped ra rb h3 h4 hu ⟨.bl _,H,I,rfl,q⟩
theorem zAj{K:zA}{neg:Bool}:OpV K (rEqD K neg) (oEq neg):=by
 intro G H x y d v u Q s e hx hy k;unfold oEq at e
 by_cases z:(shp x&&shp y)=true
 ·rw[vC z]at e
  cases e;rw[z9]at z;exact⟨x,y,hx.rep s,hy.rep s,z.1,z.2,k _ G H (Ext.refl s) rfl⟩
 ·rw[vG z]at e;cases e
theorem WO(hu:X.A.units+64<ui)(ha:XV X a f)(hb:XV X b g):XE X (.Compare a [.Eq] [b] pos) (Yn (oEq false) f g):=q3i (zB5 hu) zAj ha hb (Xl _)
theorem xe_ne(hu:X.A.units+64<ui)(ha:XV X a f)(hb:XV X b g):XE X (.Compare a [.NotEq] [b] pos) (Yn (oEq true) f g):=q3i (zB3 hu) zAj ha hb (Xl _)
theorem WQ(hu:X.A.units+64<ui)(ha:XV X a f)(hb:XV X b g):XT X (.Compare a [.Eq] [b] pos) (tOf (Yn (oEq false) f g)):=q2M (zB5 hu) zAj ha hb (Xl _)
theorem WW(hu:X.A.units+64<ui)(ha:XV X a f)(hb:XV X b g):XT X (.Compare a [.NotEq] [b] pos) (tOf (Yn (oEq true) f g)):=q2M (zB3 hu) zAj ha hb (Xl _)
noncomputable def rIs(neg:Bool):R2:=λx y H Q=>(y=.non/\Q (.bl (if neg then !decide (x=.non)else decide (x=.non))) H)\/∃a b,x=.bl a/\y=.bl b/\Q (.bl (if neg then !(a==b)else a==b)) H
theorem op_is:OpR X (uH .Is) (rIs false):=by
 intro pins s σ H x y v u Q I rx ry h;rcases h with⟨rfl,q⟩|⟨a,b,rfl,rfl,q⟩
 ·exact qgr pins s σ H x .non v u Q I rx ry ⟨rfl,q⟩
 ·cases rx
  cases ry;exact PyProof.Rows.is_bool ⟨.bl _,H,I,rfl,q⟩
noncomputable def isN:D->Bool
 | .non=>true
 | _=>false
noncomputable def oIs(neg:Bool):D->D->Option R
 | x,.non=>↥(.bl (if neg then !isN x else isN x))
 | .bl i,.bl j=>↥(.bl (if neg then !(i==j)else i==j))
 | _,_=>none
theorem isN_of{K:zA}{H:Hp}{d:D}{v:V}(h:Rep K H d v):decide (v=.non)=isN d:=by
 cases d with
 | non=>cases (show v=V.non from h);rfl
 | bl b=>cases (show v=V.bl b from h);rfl
 | int b=>cases (show v=V.int b from h);rfl
 | str b=>cases (show v=V.str b from h);rfl
 | lst _=>obtain⟨a,_,rfl,_⟩:=h;rfl
 | tup _=>obtain⟨a,_,rfl,_⟩:=h;rfl
 | scr _=>obtain⟨a,rfl,_⟩:=h;rfl
 | exc _=>obtain⟨a,_,rfl,_⟩:=h;rfl
 | dic _ _=>obtain⟨a,_,rfl,_⟩:=h;rfl
theorem opv_is{K:zA}{neg:Bool}:OpV K (rIs neg) (oIs neg):=by
 intro G H x y d v u Q s e hx hy k;cases y with
 | non=>
  cases hy.non;refine .inl ⟨rfl,?_⟩;rw[isN_of (hx.rep s)];cases x <;> (cases e;exact k _ G H (Ext.refl s) rfl)
 | bl j=>
  cases x with
  | bl i=>
   cases hx.bl;cases hy.bl;cases e;exact .inr ⟨i,j,rfl,rfl,k _ G H (Ext.refl s) rfl⟩
  | _=>cases e
 | _=>cases x <;> cases e
theorem xe_is(ha:XV X a f)(hb:XV X b g):XE X (.Compare a [.Is] [b] pos) (Yn (oIs false) f g):=q3i op_is opv_is ha hb (Xl _)
noncomputable def WC:D->Bool
 | .non=>true
 | .bl _=>true
 | .int _=>true
 | .str _=>true
 | _=>false
noncomputable def D.v:D->V
 | .bl b=>.bl b
 | .int i=>.int i
 | .str x=>.str x
 | _=>.non
theorem Wu{K:zA}{H:Hp}{d:D}{v:V}(h:Rep K H d v)(f:WC d=true):v=d.v/\Wc v=true:=by
 cases d with
 | non=>cases (show v=V.non from h);exact⟨rfl,rfl⟩
 | bl b=>cases (show v=V.bl b from h);exact⟨rfl,rfl⟩
 | int b=>cases (show v=V.int b from h);exact⟨rfl,rfl⟩
 | str b=>cases (show v=V.str b from h);exact⟨rfl,rfl⟩
 | _=>cases f
theorem WJ{K:zA}{H:Hp}:∀{ds:List D}{vs:List V},Yo K H ds vs->ds.all WC=true->vs=ds.map D.v/\vs.all Wc=true
 | [],_,h,_=>by cases (show _=[]from h);exact⟨rfl,rfl⟩
 | d::ds,_,⟨v,r,h1,h2,h3⟩,f=>by
  rw[xn,z9]at f;obtain⟨e1,e2⟩:=Wu h2 f.1;obtain⟨e3,e4⟩:=WJ h3 f.2;subst h1;refine⟨by rw[zc,<- e1,<- e3],by rw[xn,e2,e4];rfl⟩
noncomputable def inD(x:D)(ds:List D):Bool:=inV x.v (ds.map D.v)
noncomputable def oIn(neg:Bool):D->D->Option R
 | x,.lst ys=>if WC x&&ys.all WC then ↥(.bl (if neg then !inD x ys else inD x ys))else none
 | x,.tup ys=>if WC x&&ys.all WC then ↥(.bl (if neg then !inD x ys else inD x ys))else none
 | _,_=>none
theorem opv_in{K:zA}{neg:Bool}:OpV K (rIn K neg) (oIn neg):=by
 intro G H x y d v u Q s e hx hy k;cases y with
 | lst ys=>
  unfold oIn at e
  dsimp only at e
  by_cases z:(WC x&&ys.all WC)=true
  ·rw[vC z]at e
   cases e;rw[z9]at z;obtain⟨p,vs,rfl,h1,h2⟩:=hy.lst s;obtain⟨e1,e2⟩:=Wu (hx.rep s) z.1;obtain⟨e3,e4⟩:=WJ h2 z.2;refine⟨p,vs,rfl,.inl (SqL.of h1),e2,e4,?_⟩;rw[e1,e3];exact k _ G H (Ext.refl s) rfl
  ·rw[vG z]at e;cases e
 | tup ys=>
  unfold oIn at e
  dsimp only at e
  by_cases z:(WC x&&ys.all WC)=true
  ·rw[vC z]at e
   cases e;rw[z9]at z;obtain⟨p,vs,rfl,h1,h2⟩:=hy.tup;obtain⟨e1,e2⟩:=Wu (hx.rep s) z.1;obtain⟨e3,e4⟩:=WJ h2 z.2;refine⟨p,vs,rfl,.inr (SqT.of (s _ _ h1)),e2,e4,?_⟩;rw[e1,e3];exact k _ G H (Ext.refl s) rfl
  ·rw[vG z]at e;cases e
 | _=>cases x <;> cases e
theorem zBn(ha:XV X a f)(hb:XV X b g)(hm:uE .NotIn b=false:=by with_unfolding_all rfl):XT X (.Compare a [.NotIn] [b] pos) (tOf (Yn (oIn true) f g)):=q2M q9t opv_in ha hb hm
noncomputable def oIx:D->D->Option R
 | .lst ds,.int i=>(atI ds i).map R.sh
 | .tup ds,.int i=>(atI ds i).map R.sh
 | .scr ns,.int i=>(atI ns i).map λn=>.sh (.int n)
 | _,_=>none
theorem zAZ{K:zA}{H:Hp}{ds:List D}{vs:List V}{i:Int}{d:D}(h:Yo K H ds vs)(e:atI ds i=some d):∃v,atI vs i=some v/\Rep K H d v:=by
 unfold atI at e ⊢;rw[<- h.len];cases q:ixN ds.length i with
 | none=>rw[q]at e;cases e
 | some j=>
  rw[q]at e;obtain⟨v,e1,e2⟩:=h.get e;exact⟨v,e1,e2⟩
theorem zBr{ns:List Int}{i n:Int}(e:atI ns i=some n):atI (ns.map V.int) i=some (.int n):=by
 unfold atI at e ⊢;rw[zB];cases q:ixN ns.length i with
 | none=>rw[q]at e;cases e
 | some j=>
  rw[q]at e;have e':ns[j]?=some n:=e;show (ns.map V.int)[j]?=_;rw[zY,e'];rfl
theorem opv_ix{K:zA}:OpV K (rIx K) oIx:=by
 intro G H x y d v u Q s e hx hy k;cases y with
 | int i=>
  cases hy.int;cases x with
  | lst ds=>
   obtain⟨d',q,e'⟩:=mpd e;subst e';obtain⟨p,vs,rfl,h1,h2⟩:=hx.lst s;obtain⟨w,e1,e2⟩:=zAZ h2 q;exact .inl ⟨p,vs,i,w,rfl,rfl,SqL.of h1,e1,k _ G H (Ext.refl s) e2⟩
  | tup ds=>
   obtain⟨d',q,e'⟩:=mpd e;subst e';obtain⟨p,vs,rfl,h1,h2⟩:=hx.tup;obtain⟨w,e1,e2⟩:=zAZ h2 q;exact .inr (.inl ⟨p,vs,i,w,rfl,rfl,SqT.of (s _ _ h1),e1,k _ G H (Ext.refl s) e2⟩)
  | scr ns=>
   obtain⟨n,q,e'⟩:=mpd e;subst e';obtain⟨p,rfl,h1⟩:=hx.scr;exact .inl ⟨p,_,i,.int n,rfl,rfl,s.seq h1,zBr q,k _ G H (Ext.refl s) rfl⟩
  | _=>cases e
 | _=>cases x <;> cases e
theorem Yj(ha:XV X a f)(hb:XV X b g)(hs:zAN b:=by exact λ_ _=>rfl):XE X (.Subscript a b pos) (Yn oIx f g):=qhe qgf opv_ix ha hb hs
noncomputable abbrev FO:=WSt->Option (Option Int)
def SimO(K:zA)(t:TO)(f:FO):Prop:=∀G0 H0 G ω σ H o(Q:Option Int->Hp->Prop),Own K G0 H0 G ω σ H->f ω=some o->(∀G' H',Ext G H G' H'->Q o H')->t σ H Q
def XO(X:Cx)(e:Option vX)(f:FO):Prop:=∃t,PO X e t/\SimO X.K t f
noncomputable def pNo:FO:=λ_=>some none
noncomputable def pAt(f:FD):FO:=λω=>(f ω).bind λd=>match d with|.int i=>some (some i)|_=>none
theorem X9:XO X none pNo:=⟨_,qf8,λG0 H0 G ω σ H o Q ow e k=>by cases e;exact k G H (Ext.refl ow.gh)⟩
theorem Xm(h:XV X a f):XO X (some a) (pAt f):=by
 obtain⟨t,h1,h2⟩:=h;refine⟨_,qez h1,λG0 H0 G ω σ H o Q ow e k=>?_⟩;obtain⟨d,q,e⟩:=bnd e;refine h2 G0 H0 G ω σ H d _ ow q λv G1 H1 x1 y1=>?_;cases d with
 | int i=>cases e;cases y1.int;exact⟨i,rfl,k G1 H1 x1⟩
 | _=>cases e
noncomputable def cutD{α:Type}(xs:List α)(lo hi:Option Int):List α:=(xs.drop (HT.sIx xs.length 0 lo)).take (HT.sIx xs.length xs.length hi-HT.sIx xs.length 0 lo)
theorem zAg{K:zA}{H:Hp}{ds:List D}{vs:List V}(h:Yo K H ds vs)(lo hi:Option Int):Yo K H (cutD ds lo hi) (zBI vs lo hi):=by
 unfold cutD zBI;rw[h.len];exact(h.drop _).take _
theorem zBy(ns:List Int)(lo hi:Option Int):zBI (ns.map V.int) lo hi=(cutD ns lo hi).map V.int:=by
 unfold cutD zBI;rw[zB,Zw,ZM]
noncomputable def oSl:D->Option Int->Option Int->Option R
 | .lst ds,lo,hi=>some (.fr (cutD ds lo hi))
 | .scr ns,lo,hi=>some (.fr ((cutD ns lo hi).map D.int))
 | .tup ds,lo,hi=>if HT.sIx ds.length 0 lo=0/\HT.sIx ds.length ds.length hi=ds.length then ↥(.tup ds)else ↥(.tup (cutD ds lo hi))
 | _,_,_=>none
noncomputable def fSl(f:FD)(l h:FO):FE:=λω=>(f ω).bind λd=>(l ω).bind λlo=>(h ω).bind λhi=>oSl d lo hi
theorem Xa{lo hi:Option vX}{l h:FO}{p2:Pos}(ha:XV X a f)(hl:XO X lo l)(hh:XO X hi h):XE X (.Subscript a (.Slice lo hi none p2) pos) (fSl f l h):=by
 obtain⟨t,h1,h2⟩:=ha;obtain⟨tl,h3,h4⟩:=hl;obtain⟨th,h5,h6⟩:=hh;refine⟨_,qdD (qf2.or (qgR.or qdQ)) h1 h3 h5,λG0 H0 G ω σ H r Q ow e k=>?_⟩;obtain⟨d,q,e⟩:=bnd e;obtain⟨lo',q2,e⟩:=bnd e;obtain⟨hi',q3,e⟩:=bnd e;refine h2 G0 H0 G ω σ H d _ ow q λv G1 H1 x1 y1=>?_;refine h4 G0 H0 G1 ω σ H1 lo' _ (ow.keep x1) q2 λG2 H2 x2=>?_;refine h6 G0 H0 G2 ω σ H2 hi' _ ((ow.keep x1).keep x2) q3 λG3 H3 x3=>?_;have y3:=(y1.keep x2).keep x3;have x13:=(x1.trans x2).trans x3;cases d with
 | lst ds=>
  cases e;obtain⟨p,vs,rfl,h1,h2⟩:=y3.lst x3.gh;refine .inl ⟨p,vs,rfl,SqL.of h1,λn hn=>?_⟩;exact k _ G3 _ (x13.trans (Ext.hide x3.gh hn _)) ⟨n,_,rfl,x13.hh.free hn,x3.gh.free hn,qe,zAg h2 _ _⟩
 | scr ns=>
  cases e;obtain⟨p,rfl,h1⟩:=y3.scr;refine .inl ⟨p,_,rfl,x3.gh.seq h1,λn hn=>?_⟩;refine k _ G3 _ (x13.trans (Ext.hide x3.gh hn _)) ⟨n,_,rfl,x13.hh.free hn,x3.gh.free hn,qe,?_⟩;rw[zBy];exact Yo.ints _
 | tup ds=>
  unfold oSl at e
  dsimp only at e
  obtain⟨p,vs,rfl,h1,h2⟩:=y3.tup
  by_cases z:HT.sIx ds.length 0 lo'=0/\HT.sIx ds.length ds.length hi'=ds.length
  ·rw[vC z]at e
   cases e;exact .inr (.inr ⟨p,vs,rfl,SqT.of (x3.gh _ _ h1),by rw[<- h2.len];exact z,k _ G3 H3 x13 ⟨p,vs,rfl,h1,h2⟩⟩)
  ·rw[vG z]at e
   cases e;refine .inr (.inl ⟨p,vs,rfl,SqT.of (x3.gh _ _ h1),by rw[<- h2.len];exact z,λn hn=>?_⟩);have x4:=Ext.lay x3.gh hn (.tup (zBI vs lo' hi'));exact k _ _ _ (x13.trans x4) ⟨n,_,rfl,qe,(zAg h2 _ _).mono x4.gg⟩
 | _=>cases e
end
section
variable{X:Cx}{a b c:vX}{pos:Pos}{rest:List vX}{f g:FT}
noncomputable def zBR(f g:FT):FT:=λω=>(f ω).bind λc=>if c=true then g ω else some false
noncomputable def W7(f g:FT):FT:=λω=>(f ω).bind λc=>if c=true then some true else g ω
noncomputable def XZ(f:FT):FT:=λω=>(f ω).map (!·)
theorem qdb{t u:TT}(h:zAp X.K t f)(h':zAp X.K u g):zAp X.K (tAnd t u) (zBR f g):=by
 intro G0 H0 G ω σ H b Q o e k;obtain⟨c,q,e⟩:=bnd e;refine h G0 H0 G ω σ H c _ o q λG1 H1 x1=>?_;cases c with
 | true=>rw[vC rfl]at e ⊢;exact h' G0 H0 G1 ω σ H1 b Q (o.keep x1) e λG2 H2 x2=>k G2 H2 (x1.trans x2)
 | false=>cases e;exact k G1 H1 x1
theorem qfy{t u:TT}(h:zAp X.K t f)(h':zAp X.K u g):zAp X.K (tOr t u) (W7 f g):=by
 intro G0 H0 G ω σ H b Q o e k;obtain⟨c,q,e⟩:=bnd e;refine h G0 H0 G ω σ H c _ o q λG1 H1 x1=>?_;cases c with
 | true=>cases e;exact k G1 H1 x1
 | false=>exact h' G0 H0 G1 ω σ H1 b Q (o.keep x1) e λG2 H2 x2=>k G2 H2 (x1.trans x2)
theorem qas(h:XT X a f):XW X (.BoolOp .And [a] pos) f:=let ⟨t,h1,h2⟩:=h;⟨t,qeB h1,h2⟩
theorem q1D(h:XT X a f):XW X (.BoolOp .Or [a] pos) f:=let ⟨t,h1,h2⟩:=h;⟨t,qcS h1,h2⟩
theorem qcA(h:XT X a f)(h':XW X (.BoolOp .And (b::rest) pos) g):XW X (.BoolOp .And (a::b::rest) pos) (zBR f g):=let ⟨_,h1,h2⟩:=h;let ⟨_,h3,h4⟩:=h';⟨_,qfY h1 h3,qdb h2 h4⟩
theorem q0t(h:XT X a f)(h':XW X (.BoolOp .Or (b::rest) pos) g):XW X (.BoolOp .Or (a::b::rest) pos) (W7 f g):=let ⟨_,h1,h2⟩:=h;let ⟨_,h3,h4⟩:=h';⟨_,qem h1 h3,qfy h2 h4⟩
theorem XW.toT(h:XW X a f):XT X a f:=let ⟨t,h1,h2⟩:=h;⟨t,h1.pt,h2⟩
theorem qN(h:XT X a f):XT X (.UnaryOp .Not a pos) (XZ f):=by
 obtain⟨t,h1,h2⟩:=h;refine⟨_,qg1 h1,λG0 H0 G ω σ H b Q o e k=>?_⟩;obtain⟨c,q,e⟩:=mpd e;subst e;exact h2 G0 H0 G ω σ H c _ o q k
noncomputable def truD:D->Option Bool
 | .non=>some false
 | .bl b=>some b
 | .int i=>some (i != 0)
 | .lst xs=>some (!xs.isEmpty)
 | .tup xs=>some (!xs.isEmpty)
 | _=>none
noncomputable def WY(f:FD):FT:=λω=>(f ω).bind truD
theorem q5q{α β:Type}{xs:List α}{ys:List β}(h:xs.length=ys.length):xs.isEmpty=ys.isEmpty:=by
 cases xs <;> cases ys <;> first|rfl|cases h
theorem qF{f:FD}(h:XV X a f)(he:∀whole,sU a X.env whole=(do let v <- whole;standAt a.pos;holding [v] (truthy v)):=by intro _;rfl):XT X a (WY f):=by
 obtain⟨t,h1,h2⟩:=h;refine⟨_,q3u h1 he,λG0 H0 G ω σ H b Q o e k=>?_⟩;obtain⟨d,q,e⟩:=bnd e;refine h2 G0 H0 G ω σ H d _ o q λv G1 H1 x1 y1=>⟨b,?_,k G1 H1 x1⟩;cases d with
 | non=>cases e;cases y1.non;rfl
 | bl c=>cases e;cases y1.bl;rfl
 | int i=>cases e;cases y1.int;rfl
 | lst xs=>
  cases e;obtain⟨p,vs,rfl,h1,h2⟩:=y1.lst x1.gh;exact .inl ⟨vs,SqL.of h1,by rw[q5q h2.len]⟩
 | tup xs=>
  cases e;obtain⟨p,vs,rfl,h1,h2⟩:=y1.tup;exact .inr (.inl ⟨vs,SqT.of (x1.gh _ _ h1),by rw[q5q h2.len]⟩)
 | _=>cases e
noncomputable def blOf:D->Option Bool
 | .bl b=>some b
 | _=>none
noncomputable def zAB(f g:FD):FD:=λω=>(f ω).bind λd=>(blOf d).bind λc=>if c=true then g ω else some (.bl false)
noncomputable def vOr(f g:FD):FD:=λω=>(f ω).bind λd=>(blOf d).bind λc=>if c=true then some (.bl true)else g ω
noncomputable def vNot(f:FD):FD:=λω=>(f ω).bind λd=>(blOf d).map λc=>.bl (!c)
noncomputable def fIte(c:FT)(f g:FE):FE:=λω=>(c ω).bind λk=>if k=true then f ω else g ω
variable{fa fb:FD}
theorem q0k{op}(h:XD X a fa):XD X (.BoolOp op [a] pos) fa:=let ⟨t,h1,h2⟩:=h;⟨t,qfZ h1,h2⟩
theorem qR(h:XD X a fa)(h':XD X (.BoolOp .And (b::rest) pos) fb):XD X (.BoolOp .And (a::b::rest) pos) (zAB fa fb):=by
 obtain⟨t,h1,h2⟩:=h;obtain⟨u,h3,h4⟩:=h';refine⟨_,qh2 h1 h3,λG0 H0 G ω σ H d Q o e k=>?_⟩;obtain⟨x,q,e⟩:=bnd e;obtain⟨c,q2,e2⟩:=bnd e;clear e;refine h2 G0 H0 G ω σ H x _ o q λv G1 H1 x1 y1=>?_;cases x with
 | bl z=>
  cases q2;cases (show v=V.bl c from y1);refine⟨c,rfl,?_⟩;cases c with
  | true=>rw[vC rfl]at e2 ⊢;exact h4 G0 H0 G1 ω σ H1 d Q (o.keep x1) e2 λv G2 H2 x2 y2=>k v G2 H2 (x1.trans x2) y2
  | false=>cases e2;exact k _ G1 H1 x1 rfl
 | _=>cases q2
theorem qhj(h:XD X a fa)(h':XD X (.BoolOp .Or (b::rest) pos) fb):XD X (.BoolOp .Or (a::b::rest) pos) (vOr fa fb):=by
 obtain⟨t,h1,h2⟩:=h;obtain⟨u,h3,h4⟩:=h';refine⟨_,qhA h1 h3,λG0 H0 G ω σ H d Q o e k=>?_⟩;obtain⟨x,q,e⟩:=bnd e;obtain⟨c,q2,e2⟩:=bnd e;clear e;refine h2 G0 H0 G ω σ H x _ o q λv G1 H1 x1 y1=>?_;cases x with
 | bl z=>
  cases q2;cases (show v=V.bl c from y1);refine⟨c,rfl,?_⟩;cases c with
  | true=>cases e2;exact k _ G1 H1 x1 rfl
  | false=>exact h4 G0 H0 G1 ω σ H1 d Q (o.keep x1) e2 λv G2 H2 x2 y2=>k v G2 H2 (x1.trans x2) y2
 | _=>cases q2
theorem qcC(h:XD X a fa):XD X (.UnaryOp .Not a pos) (vNot fa):=by
 obtain⟨t,h1,h2⟩:=h;refine⟨_,qgh h1,λG0 H0 G ω σ H d Q o e k=>?_⟩;obtain⟨x,q,e⟩:=bnd e;obtain⟨c,q2,e⟩:=mpd e;subst e;refine h2 G0 H0 G ω σ H x _ o q λv G1 H1 x1 y1=>?_;cases x with
 | bl z=>cases q2;cases (show v=V.bl c from y1);exact⟨c,rfl,k _ G1 H1 x1 rfl⟩
 | _=>cases q2
theorem zB1.after{K:zA}{G H G1 H1 G2 H2:Hp}{r:R}{v:V}(x:Ext G H G1 H1)(y:zB1 K H1 G2 H2 r v):zB1 K H G2 H2 r v:=by
 cases r with
 | sh d=>exact y
 | fr ds=>obtain⟨l,vs,e1,e2,e3⟩:=y;exact⟨l,vs,e1,x.hh.free e2,e3⟩
 | vw ds=>exact y
theorem qck{fc:FT}{f g:FE}(hc:XT X c fc)(ha:XE X a f)(hb:XE X b g):XE X (.IfExp c a b pos) (fIte fc f g):=by
 obtain⟨t,h1,h2⟩:=hc;obtain⟨u,h3,h4⟩:=ha;obtain⟨w,h5,h6⟩:=hb;refine⟨_,qcW h1 h3 h5,λG0 H0 G ω σ H r Q o e k=>?_⟩;obtain⟨z,q,e⟩:=bnd e;refine h2 G0 H0 G ω σ H z _ o q λG1 H1 x1=>?_;cases z with
 | true=>rw[vC rfl]at e ⊢;exact h4 G0 H0 G1 ω σ H1 r Q (o.keep x1) e λv G2 H2 x2 y2=>k v G2 H2 (x1.trans x2) (y2.after x1)
 | false=>exact h6 G0 H0 G1 ω σ H1 r Q (o.keep x1) e λv G2 H2 x2 y2=>k v G2 H2 (x1.trans x2) (y2.after x1)
end
def Wn(K:zA)(r:List V->Hp->VK->Prop)(op:List D->Option R):Prop:=∀G H ds vs d(Q:VK),Y0 G H->op ds=some d->VwA K G H ds vs ->
 (∀w G' H',Ext G H G' H'->zB1 K H G' H' d w->Q w H')->r vs H Q
noncomputable def Xj(op:List D->Option R)(g:FA):FE:=λω=>(g ω).bind op
section
variable{X:Cx}{e:vX}{es:List vX}{x:Str}{p pos:Pos}{r:List V->Hp->VK->Prop}{op:List D->Option R}{g:FA}{id T:String}
theorem q5k{t:TA}(hd:Wn X.K r op)(h:SimVA X.K t g):zCZ X.K (tCB r t) (Xj op g):=by
 intro G0 H0 G ω σ H d Q o e k;obtain⟨ds,q,e⟩:=bnd e;refine h G0 H0 G ω σ H ds _ o q λvs G1 H1 x1 y1=>?_;exact hd G1 H1 ds vs d Q x1.gh e y1 λw G2 H2 x2 y2=>k w G2 H2 (x1.trans x2) (y2.after x1)
theorem qw(hc:X3 X (.builtin id) r)(hd:Wn X.K r op)(hg:Gl X x)(hm:X.mg x=none)(hv:vm x=some (.builtin id))(ha:XVA X (e::es) g)(hn:x ≠ "__name__" := by decide)(hdb:(x==("__debug__" : Str))=false:=by decide)(he:vK (e::es) X.env=(false,eval e X.env)::vK es X.env:=by rfl)(hpl:(vk pos (vK es X.env)).any (·.1)=false:=by rfl):XE X (.Call (.Name x p) (e::es) [] pos) (Xj op g):=by
 obtain⟨t,h1,h2⟩:=ha;exact⟨_,q1x hc hg hm hv h1 hn hdb he hpl,q5k hd h2⟩
theorem qeh(hc:X3 X (.type T) r)(hd:Wn X.K r op)(hg:Gl X x)(hm:X.mg x=none)(hv:vm x=some (.type T))(ha:XVA X (e::es) g)(hn:x ≠ "__name__" := by decide)(hdb:(x==("__debug__" : Str))=false:=by decide)(he:vK (e::es) X.env=(false,eval e X.env)::vK es X.env:=by rfl)(hpl:(vk pos (vK es X.env)).any (·.1)=false:=by rfl):XE X (.Call (.Name x p) (e::es) [] pos) (Xj op g):=by
 obtain⟨t,h1,h2⟩:=ha;exact⟨_,q7G hc hg hm hv h1 hn hdb he hpl,q5k hd h2⟩
theorem VwA.one{K:zA}{G H:Hp}{d:D}{vs:List V}(h:VwA K G H [d] vs):∃v,vs=[v]/\Vw K G H d v:=by
 obtain⟨v,r,h1,h2,h3⟩:=h;cases (show r=[]from h3);exact⟨v,h1,h2⟩
theorem VwA.two{K:zA}{G H:Hp}{d e:D}{vs:List V}(h:VwA K G H [d,e] vs):∃v u,vs=[v,u]/\Vw K G H d v/\Vw K G H e u:=by
 obtain⟨v,r,h1,h2,h3⟩:=h;obtain⟨u,rfl,h4⟩:=VwA.one h3;exact⟨v,u,h1,h2,h4⟩
noncomputable def WN:List D->Option R
 | [.lst ds]=>↥(.int ds.length)
 | [.tup ds]=>↥(.int ds.length)
 | [.scr ns]=>↥(.int ns.length)
 | _=>none
theorem qH{K:zA}:Wn K (λxs H Q=>∃p ys,xs=[.ref p]/\(SqL K H p ys\/SqT K H p ys)/\Q (.int ys.length) H) WN:=by
 intro G H ds vs d Q s e hv k
 match ds,e with
 | [.lst ds],e=>
  cases e;obtain⟨v,rfl,h⟩:=hv.one;obtain⟨p,us,rfl,h1,h2⟩:=h.lst s;exact⟨p,us,rfl,.inl (SqL.of h1),k _ G H (Ext.refl s) (by show V.int _=V.int _;rw[h2.len])⟩
 | [.tup ds],e=>
  cases e;obtain⟨v,rfl,h⟩:=hv.one;obtain⟨p,us,rfl,h1,h2⟩:=h.tup;exact⟨p,us,rfl,.inr (SqT.of (s _ _ h1)),k _ G H (Ext.refl s) (by show V.int _=V.int _;rw[h2.len])⟩
 | [.scr ns],e=>
  cases e;obtain⟨v,rfl,h⟩:=hv.one;obtain⟨p,rfl,h1⟩:=h.scr;exact⟨p,_,rfl,.inl (s.seq h1),k _ G H (Ext.refl s) (by show V.int _=V.int _;rw[zB])⟩
noncomputable def bAbs:List D->Option R
 | [.int i]=>↥(.int (if i<0 then -i else i))
 | _=>none
theorem qg5{K:zA}:Wn K (λxs H Q=>∃i,xs=[.int i]/\Q (.int (if i<0 then -i else i)) H) bAbs:=by
 intro G H ds vs d Q s e hv k
 match ds,e with
 | [.int i],e=>
  cases e;obtain⟨v,rfl,h⟩:=hv.one;cases h.int;exact⟨i,rfl,k _ G H (Ext.refl s) rfl⟩
noncomputable def zAu:List D->Option R
 | [.lst ds]=>some (.fr ds)
 | [.tup ds]=>some (.fr ds)
 | _=>none
theorem qa8{K:zA}:Wn K (λxs H Q=>∃p ys,xs=[.ref p]/\(SqL K H p ys\/SqT K H p ys)/\∀l,H l=none->Q (.ref l) (upd H l (.lst ys))) zAu:=by
 intro G H ds vs d Q s e hv k
 match ds,e with
 | [.lst ds],e=>
  cases e;obtain⟨v,rfl,h⟩:=hv.one;obtain⟨p,us,rfl,h1,h2⟩:=h.lst s;exact⟨p,us,rfl,.inl (SqL.of h1),λl hl=>k _ G _ (Ext.hide s hl _) ⟨l,us,rfl,hl,s.free hl,qe,h2⟩⟩
 | [.tup ds],e=>
  cases e;obtain⟨v,rfl,h⟩:=hv.one;obtain⟨p,us,rfl,h1,h2⟩:=h.tup;exact⟨p,us,rfl,.inr (SqT.of (s _ _ h1)),λl hl=>k _ G _ (Ext.hide s hl _) ⟨l,us,rfl,hl,s.free hl,qe,h2⟩⟩
noncomputable def allB:List D->Option Bool
 | []=>some true
 | .bl b::r=>(allB r).map λc=>b&&c
 | _=>none
noncomputable def zCW:List D->Option R
 | [.lst ds]=>(allB ds).map λb=>.sh (.bl b)
 | _=>none
end
def rAll:List V->Hp->VK->Prop:=λxs H Q=>∃(p:vJ) (bs:List Bool),xs=[.ref p]/\H p=some (.lst (bs.map V.bl))/\Q (.bl (bs.all id)) H
section
variable{X:Cx}
theorem qaF:∀{bs:List Bool}{us:List vB},Yv (bs.map V.bl) us->us=bs.map Value.bool
 | [],_,r=>by cases r;rfl
 | b::bs,_,r=>by
  rw[zc]at r;cases r with
  | cons r1 r2=>cases r1;rw[qaF r2];rfl
theorem qcK{bs:List Bool}:(zb bs.length).all (λi=>bs.getD i false)=bs.all id:=by
 induction bs with
 | nil=>rfl
 | cons b r ih=>
  rw[zL,ZZ,xn,Z8,xn];have e:((λi=>(b::r).getD i false) ∘ Nat.succ)=λi=>r.getD i false:=by funext i;rfl
  rw[e,ih];rfl
theorem q4L(hc:X.calm=true):X3 X (.builtin "all") rAll:=by
 intro pins s σ H xs us Q I r h;obtain⟨p,bs,rfl,hp,q⟩:=h;obtain⟨u,rfl,rx⟩:=vals1 r;cases rx;obtain⟨its,n,rv,e,hz⟩:=I.lst hp;have ei:=qaF rv;have hlt:p<s.heap.objs.size:=zO e;refine call_all_walk (tK (items:=its.toArray) ⟨_,e,rfl,n,rfl⟩ ?_);refine⟨s.heap.objs.size,_,_,its.toArray.size,_,_,λi=>bs.getD i false,rfl,Walks.list (by first|exact I.ok.hd hc|(show X.A.handled=none;exact I.ok.hd hc)) _ p (zr hlt) its.toArray,⟨⟨_,zR _ rfl,rfl,rfl⟩,⟨_,zE _ e,rfl,n,rfl⟩⟩,λi v s' Q' E' hv hq=>?_,λh' tk hk=>?_⟩
 ·have hv':its[i]?=some v:=by simpa using hv
  rw[ei,zY]at hv';cases eb:bs[i]? with
  | none=>rw[eb]at hv';cases hv'
  | some b=>
   rw[eb]at hv';cases hv';have:bs.getD i false=b:=by rw[zT,eb];rfl
   have hq':Q' b s':=by rw[<- this];exact hq
   exact uI hq'
 ·have hl:its.toArray.size=bs.length:=by rw[zP,ei,zB]
  rw[hl,qcK];exact⟨.bl _,H,I.kept (λb o z=>hk b o (λhm=>by
   have:b=s.heap.objs.size:=by simpa using hm
   subst this;exact vP (zO z) (xa _)) (zE _ z)),rfl,q⟩
theorem qap:∀{ds:List D}{b:Bool},allB ds=some b->∃bs:List Bool,ds=bs.map D.bl/\bs.all id=b
 | [],_,e=>by cases e;exact⟨[],rfl,rfl⟩
 | .bl c::r,b,e=>by
  obtain⟨k,q,e⟩:=mpd e;obtain⟨bs,h1,h2⟩:=qap q;exact⟨c::bs,by rw[h1];rfl,by rw[xn,h2];exact e⟩
 | .non::_,_,e=>by cases e
 | .int _::_,_,e=>by cases e
 | .str _::_,_,e=>by cases e
 | .lst _::_,_,e=>by cases e
 | .tup _::_,_,e=>by cases e
 | .scr _::_,_,e=>by cases e
 | .exc _::_,_,e=>by cases e
 | .dic _ _::_,_,e=>by cases e
theorem qae{K:zA}{H:Hp}:∀{bs:List Bool}{vs:List V},Yo K H (bs.map D.bl) vs->vs=bs.map V.bl
 | [],_,h=>h
 | n::r,_,⟨v,vs,h1,h2,h3⟩=>by
  have:=qae h3;have e:v=.bl n:=h2;rw[h1,this,e];rfl
theorem q8U{K:zA}:Wn K rAll zCW:=by
 intro G H ds vs d Q s e hv k
 match ds,e with
 | [.lst ds],e=>
  obtain⟨b,q,e⟩:=mpd e;subst e;obtain⟨bs,rfl,rfl⟩:=qap q;obtain⟨v,rfl,h⟩:=hv.one;obtain⟨p,us,rfl,h1,h2⟩:=h.lst s;exact⟨p,bs,rfl,by rw[h1,qae h2],k _ G H (Ext.refl s) rfl⟩
end
inductive Ty where
 | non|bl|int|str|lst|tup|dic
noncomputable def Ty.n:Ty->String
 | .non => "NoneType"
 | .bl => "bool"
 | .int => "int"
 | .str => "str"
 | .lst => "list"
 | .tup => "tuple"
 | .dic => "dict"
noncomputable def tyD:D->Ty
 | .non=>.non
 | .bl _=>.bl
 | .int _=>.int
 | .str _=>.str
 | .lst _=>.lst
 | .tup _=>.tup
 | .scr _=>.lst
 | .exc _=>.non
 | .dic _ _=>.non
noncomputable def zAr:Ty->Ty->Bool
 | .non,.non=>true
 | .bl,.bl=>true
 | .bl,.int=>true
 | .int,.int=>true
 | .str,.str=>true
 | .lst,.lst=>true
 | .tup,.tup=>true
 | _,_=>false
noncomputable def zAm(c:Ty)(f:FD):FE:=λω=>(f ω).bind λd=>match d with
 | .scr _=>none
 | .exc _=>none
 | .dic _ _=>none
 | d=>↥(.bl (zAr (tyD d) c))
def IsT(K:zA)(c:Ty):Prop:=∀t:Ty,t≠.dic->Zp K (.type t.n) (.type c.n)=some (zAr t c)
def rIsi(K:zA):List V->Hp->VK->Prop:=λxs H Q=>∃x c T b,xs=[x,.ty c]/\TyOf K H x (.type T)/\Zp K (.type T) (.type c)=some b/\Q (.bl b) H
section
variable{X:Cx}{a:vX}{f:FD}
theorem qcT:X3 X (.builtin "isinstance") (rIsi X.K):=by
 intro pins s σ H xs us Q I r h;obtain⟨x,c,T,b,rfl,ty,e,q⟩:=h;obtain⟨u1,u2,rfl,r2,r3⟩:=vals2 r;cases (show u2=Value.type c from r3);exact qcN I r2 ty e λtk=>⟨.bl b,H,I.tok tk,rfl,q⟩
theorem qeU{K:zA}{G H:Hp}{d:D}{v:V}(h:Vw K G H d v)(s:Y0 G H)(n:∀ns,d≠.scr ns)(n':∀c,d≠.exc c)(n'':∀ks ds,d≠.dic ks ds):TyOf K H v (.type (tyD d).n):=by
 cases d with
 | non=>cases h.non;exact .non
 | bl b=>cases h.bl;exact .bl b
 | int i=>cases h.int;exact .int i
 | str x=>cases h.str;exact .str x
 | lst ds=>obtain⟨p,us,rfl,h1,_⟩:=h.lst s;exact .lst h1
 | tup ds=>obtain⟨p,us,rfl,h1,_⟩:=h.tup;exact .tup (s _ _ h1)
 | scr ns=>exact vP rfl (n ns)
 | exc c=>exact vP rfl (n' c)
 | dic ks ds=>exact vP rfl (n'' ks ds)
theorem qgo(d:D):tyD d≠.dic:=by cases d <;> exact λz=>nomatch z
theorem q0j{c:Ty}{x:Str}{p q pos:Pos}(ha:XV X a f)(hk:IsT X.K c)(hg:Gl X "isinstance")(hm:X.mg "isinstance" = none)(hgc:Gl X x)(hmc:X.mg x=none)(hvc:vm x=some (.type c.n))(hnx:x ≠ "__name__" := by decide)(hdx:(x==("__debug__" : Str))=false:=by decide)(he:vK [a,.Name x q] X.env=(false,eval a X.env)::vK [.Name x q] X.env:=by rfl)(he2:vK [.Name x q] X.env=(false,eval (.Name x q) X.env)::vK [] X.env:=by rfl)(hpl:(vk pos (vK [.Name x q] X.env)).any (·.1)=false:=by rfl):
  XE X (.Call (.Name "isinstance" p) [a,.Name x q] [] pos) (zAm c f):=by
 obtain⟨t,h1,h2⟩:=ha;refine⟨_,q1x qcT hg hm PyProof.Rows.boot_isinstance (qt h1 (qt (qeK hgc hmc hvc (v:=.ty c.n) rfl hnx hdx) qr he2) he) (by decide) (by decide) he hpl,λG0 H0 G ω σ H r Q o e k=>?_⟩;obtain⟨d,q,e⟩:=bnd e;refine h2 G0 H0 G ω σ H d _ o q λv G1 H1 x1 y1=>?_;have n:∀ns,d≠.scr ns:=λns z=>by subst z;cases e
 have n':∀c,d≠.exc c:=λns z=>by subst z;cases e
 have n'':∀ks ds,d≠.dic ks ds:=λks ds z=>by subst z;cases e
 have e':r=.sh (.bl (zAr (tyD d) c)):=by
  cases d <;> first|(cases e;rfl)|cases e
 subst e';exact⟨v,c.n,(tyD d).n,zAr (tyD d) c,rfl,qeU y1 x1.gh n n' n'',hk _ (qgo d),k _ G1 H1 x1 rfl⟩
end
inductive Out where
 | nx|bk|ct|rt (r:O)
noncomputable abbrev FS:=WSt->Option (Out×WSt)
def zA5(K:zA)(H0 G':Hp)(E:Ends):Out->St->Hp->Prop
 | .nx,σ,H=>E.nx σ H
 | .bk,σ,H=>E.bk σ H
 | .ct,σ,H=>E.ct σ H
 | .rt r,_,H=>∀v,zB1 K H0 G' H r.r v->E.rt v H
def SimS(K:zA)(t:TS)(f:FS):Prop:=∀G0 H0 G ω σ H out ω'(E:Ends),Own K G0 H0 G ω σ H->f ω=some (out,ω') ->
 (∀G' σ' H',Own K G0 H0 G' ω' σ' H'->Y0 G G'->zA5 K H0.hp G' E out σ' H')->t E σ H
def XS(X:Cx)(st:vz)(f:FS):Prop:=∃t,PS X st t/\SimS X.K t f
def XSs(X:Cx)(st:List vz)(f:FS):Prop:=∃t,PSs X st t/\SimS X.K t f
noncomputable def Xq:FS:=λω=>some (.nx,ω)
noncomputable def Yx(f g:FS):FS:=λω=>(f ω).bind λp=>match p.1 with
 | .nx=>g p.2
 | o=>some (o,p.2)
section
variable{X:Cx}{st:vz}{rest:List vz}{f g:FS}
theorem qp:XSs X [] Xq:=⟨_,qf9,λG0 H0 G ω σ H out ω' E o e k=>by cases e;exact k G σ H o (Y0.refl _)⟩
theorem qc(h:XS X st f):XSs X [st] f:=let ⟨t,h1,h2⟩:=h;⟨t,q0o h1,h2⟩
theorem qb(h:XS X st f)(h':XSs X rest g):XSs X (st::rest) (Yx f g):=by
 obtain⟨t,h1,h2⟩:=h;obtain⟨u,h3,h4⟩:=h';refine⟨_,qz h1 h3,λG0 H0 G ω σ H out ω' E o e k=>?_⟩;obtain⟨⟨o1,ω1⟩,q,e⟩:=bnd e;refine h2 G0 H0 G ω σ H o1 ω1 _ o q λG1 σ1 H1 w1 g1=>?_;cases o1 with
 | nx=>exact h4 G0 H0 G1 ω1 σ1 H1 out ω' E w1 e λG2 σ2 H2 w2 g2=>k G2 σ2 H2 w2 (g1.trans g2)
 | bk=>cases e;exact k G1 σ1 H1 w1 g1
 | ct=>cases e;exact k G1 σ1 H1 w1 g1
 | rt r=>cases e;exact k G1 σ1 H1 w1 g1
end
section
variable{K:zA}{G0:Hp}{H0:Fr}{G:Hp}{ω:WSt}{σ:St}{H:Hp}
theorem qf{α:Type}{l:List α}{i j:Nat}{x y:α}(h:(l.set i x)[j]?=some y):(i=j/\i<l.length/\y=x)\/(i≠j/\l[j]?=some y):=by
 rw[List.getElem?_set]at h
 by_cases e:i=j
 ·rw[vC e]at h
  by_cases z:i<l.length
  ·rw[vC z]at h;exact .inl ⟨e,z,(zx h).symm⟩
  ·rw[vG z]at h;cases h
 ·rw[vG e]at h;exact .inr ⟨e,h⟩
theorem q1k{α:Type}{l:List α}{i:Nat}{x:α}(h:i<l.length):(l.set i x)[i]?=some x:=yZ h
theorem Xi.set{i:Nat}{w:Option W}{v:Option V}(o:Xi K H0 G ω σ H)(hw:∀ds,w≠some (.pw ds))(hv:∀ds,w=some (.ow ds)->∀(j:Nat)es,ω[j]?=some (some (.pw es))->v≠some (.ref (H0.pin j))):Xi K H0 G (ω.set i w) (σ.set i v) H:=by
 intro j ds hj;rcases qf hj with⟨rfl,hl,z⟩|⟨ne,z⟩
 ·exact vP z.symm (hw ds)
 ·obtain⟨vs,h1,h2,h3,h4,h5,h6,h7⟩:=o j ds z
  refine⟨vs,by rw[zI ne];exact h1,h2,h3,h4,h5,λk es hk=>?_,λk es hk sk=>?_⟩
  ·rcases qf hk with⟨rfl,hl',z'⟩|⟨ne',z'⟩
   ·exact vP z'.symm (hw es)
   ·exact h6 k es z'
  ·rcases qf hk with⟨rfl,hl',z'⟩|⟨ne',z'⟩
   ·rcases qf sk with⟨_,_,e⟩|⟨ne2,_⟩
    ·exact hv es z'.symm j ds z e.symm
    ·exact ne2 rfl
   ·rw[zI ne']at sk;exact h7 k es z' sk
theorem Xi.setW{i:Nat}{w:Option W}(o:Xi K H0 G ω σ H)(hw:∀ds,w≠some (.pw ds))(ho:∀ds,w≠some (.ow ds)):Xi K H0 G (ω.set i w) σ H:=by
 intro j ds hj;rcases qf hj with⟨rfl,hl,z⟩|⟨ne,z⟩
 ·exact vP z.symm (hw ds)
 ·obtain⟨vs,h1,h2,h3,h4,h5,h6,h7⟩:=o j ds z
  refine⟨vs,h1,h2,h3,h4,h5,λk es hk=>?_,λk es hk=>?_⟩
  ·rcases qf hk with⟨rfl,hl',z'⟩|⟨ne',z'⟩
   ·exact vP z'.symm (hw es)
   ·exact h6 k es z'
  ·rcases qf hk with⟨rfl,hl',z'⟩|⟨ne',z'⟩
   ·exact vP z'.symm (ho es)
   ·exact h7 k es z'
theorem Xi.upd{p:vJ}{ob:HO}(o:Xi K H0 G ω σ H)(hp:∀(j:Nat)es,ω[j]?=some (some (.pw es))->H0.pin j≠p):Xi K H0 G ω σ (upd H p ob):=by
 intro j ds hj;obtain⟨vs,h1,h2,h3⟩:=o j ds hj;exact⟨vs,h1,by rw[qd (hp j ds hj)];exact h2,h3⟩
theorem Xi.grow{p:vJ}{ob:HO}(o:Xi K H0 G ω σ H)(g:G p=none)(hp:∀(j:Nat)es,ω[j]?=some (some (.pw es))->H0.pin j≠p):Xi K H0 (L2.upd G p ob) ω σ H:=by
 intro j ds hj;obtain⟨vs,h1,h2,h3,h4,h5,h6⟩:=o j ds hj;exact⟨vs,h1,h2,by rw[qd (hp j ds hj)];exact h3,h4,h5.mono (XY g _),h6⟩
theorem Xi.ne_ow{i:Nat}{ds:List D}{l:vJ}(o:Xi K H0 G ω σ H)(hi:ω[i]?=some (some (.ow ds)))(hσ:σ[i]?=some (some (.ref l))):∀(j:Nat)es,ω[j]?=some (some (.pw es))->H0.pin j≠l:=λj es hj y=>by
 obtain⟨_,_,_,_,_,_,_,h7⟩:=o j es hj;exact h7 i ds hi (by rw[y];exact hσ)
theorem Xi.ne_ob{l:vJ}(o:Xi K H0 G ω σ H)(h:∀vs,H l≠some (.lst vs)):∀(j:Nat)es,ω[j]?=some (some (.pw es))->H0.pin j≠l:=λj es hj y=>by
 obtain⟨vs,_,h2,_⟩:=o j es hj;exact h vs (by rw[<- y];exact h2)
theorem Xi.setL{i:Nat}{ds es:List D}(o:Xi K H0 G ω σ H)(hi:ω[i]?=some (some (.ow ds))):Xi K H0 G (ω.set i (some (.ow es))) σ H:=by
 intro j ds' hj;rcases qf hj with⟨rfl,hl,z⟩|⟨ne,z⟩
 ·cases z
 ·obtain⟨vs,h1,h2,h3,h4,h5,h6,h7⟩:=o j ds' z
  refine⟨vs,h1,h2,h3,h4,h5,λk es hk=>?_,λk es hk=>?_⟩
  ·rcases qf hk with⟨rfl,hl',z'⟩|⟨ne',z'⟩
   ·cases z'
   ·exact h6 k es z'
  ·rcases qf hk with⟨rfl,hl',z'⟩|⟨ne',z'⟩
   ·exact h7 i ds hi
   ·exact h7 k es z'
theorem Own.od_set{i:Nat}{w:Option W}{v:Option V}(o:Own K G0 H0 G ω σ H)(h:∀ks ds,w≠some (.od ks ds)):∀(j:Nat)ks ds,(ω.set i w)[j]?=some (some (.od ks ds))->∃p vs,(σ.set i v)[j]?=some (some (.ref p))/\H p=some (.dK (kvsOf ks vs))/\G p=none/\H0 p=none/\ks.length=ds.length/\Yo K G ds vs /\
  ∀(k:Nat)ks' es,(ω.set i w)[k]?=some (some (.od ks' es))->(σ.set i v)[k]?=some (some (.ref p))->j=k:=by
 intro j ks ds hj;rcases qf hj with⟨rfl,hl,z⟩|⟨ne,z⟩
 ·exact vP z.symm (h ks ds)
 ·obtain⟨p,vs,h1,h2,h3,h4,h5,h6,h7⟩:=o.od j ks ds z
  refine⟨p,vs,by rw[zI ne];exact h1,h2,h3,h4,h5,h6,λk ks' es hk sk=>?_⟩;rcases qf hk with⟨rfl,hl',z'⟩|⟨ne',z'⟩
  ·exact vP z'.symm (h ks' es)
  ·rw[zI ne']at sk
   exact h7 k ks' es z' sk
theorem Own.setSh{i:Nat}{d:D}{v:V}(o:Own K G0 H0 G ω σ H)(h:Rep K G d v):Own K G0 H0 G (ω.set i ↥d) (σ.set i (some v)) H:=by
 refine⟨o.ext,by rw[yV,yV,o.len],λj e hj=>?_,λj ds hj=>?_,λj k ds es l hj hk sj sk=>?_,o.od_set (λ_ _ z=>by cases z),o.pw.set (λ_ z=>by cases z) (λ_ z=>by cases z)⟩
 ·rcases qf hj with⟨rfl,hl,z⟩|⟨ne,z⟩
  ·cases z;exact⟨v,q1k (by rw[<- o.len];exact hl),h⟩
  ·obtain⟨u,h1,h2⟩:=o.sh j e z
   exact⟨u,by rw[zI ne];exact h1,h2⟩
 ·rcases qf hj with⟨rfl,hl,z⟩|⟨ne,z⟩
  ·cases z
  ·obtain⟨l,vs,h1,h2⟩:=o.ow j ds z
   exact⟨l,vs,by rw[zI ne];exact h1,h2⟩
 ·rcases qf hj with⟨rfl,hl,z⟩|⟨ne,z⟩
  ·cases z
  ·rcases qf hk with⟨rfl,hl',z'⟩|⟨ne',z'⟩
   ·cases z'
   ·rw[zI ne]at sj
    rw[zI ne']at sk;exact o.nd j k ds es l z z' sj sk
theorem Own.setOw{i:Nat}{ds:List D}{l:vJ}{vs:List V}(o:Own K G0 H0 G ω σ H)(h1:H l=some (.lst vs))(h2:G l=none)(h3:H0 l=none)(h4:Yo K G ds vs)(h5:∀(j:Nat)es,ω[j]?=some (some (.ow es))->σ[j]?≠some (some (.ref l)))(h6:∀(j:Nat)es,ω[j]?=some (some (.pw es))->H0.pin j≠l):Own K G0 H0 G (ω.set i (some (.ow ds))) (σ.set i (some (.ref l))) H:=by
 refine⟨o.ext,by rw[yV,yV,o.len],λj e hj=>?_,λj es hj=>?_,λj k es fs m hj hk sj sk=>?_,o.od_set (λ_ _ z=>by cases z),o.pw.set (λ_ z=>by cases z) (λ_ _ j es hj y=>h6 j es hj (by cases y;rfl))⟩
 ·rcases qf hj with⟨rfl,hl,z⟩|⟨ne,z⟩
  ·cases z
  ·obtain⟨u,q1,q2⟩:=o.sh j e z
   exact⟨u,by rw[zI ne];exact q1,q2⟩
 ·rcases qf hj with⟨rfl,hl,z⟩|⟨ne,z⟩
  ·cases z;exact⟨l,vs,q1k (by rw[<- o.len];exact hl),h1,h2,h3,h4⟩
  ·obtain⟨m,us,q1,q2⟩:=o.ow j es z
   exact⟨m,us,by rw[zI ne];exact q1,q2⟩
 ·rcases qf hj with⟨e1,hl,z⟩|⟨ne,z⟩
  ·rcases qf hk with⟨e2,hl',z'⟩|⟨ne',z'⟩
   ·exact e1.symm.trans e2
   ·rw[zI ne']at sk
    subst e1;rw[q1k (by rw[<- o.len];exact hl)]at sj;cases sj;exact vP sk (h5 k fs z')
  ·rcases qf hk with⟨e2,hl',z'⟩|⟨ne',z'⟩
   ·rw[zI ne]at sj
    subst e2;rw[q1k (by rw[<- o.len];exact hl')]at sk;cases sk;exact vP sj (h5 j es z)
   ·rw[zI ne]at sj
    rw[zI ne']at sk;exact o.nd j k es fs m z z' sj sk
theorem Own.mut{i:Nat}{ds es:List D}{l:vJ}{vs us:List V}(o:Own K G0 H0 G ω σ H)(hi:ω[i]?=some (some (.ow ds)))(hσ:σ[i]?=some (some (.ref l)))(h1:H l=some (.lst vs))(h2:G l=none)(h3:H0 l=none)(h4:Yo K G es us):
  Own K G0 H0 G (ω.set i (some (.ow es))) σ (upd H l (.lst us)):=by
 have ho:i<ω.length:=(zh.mp hi).1;refine⟨⟨o.ext.gg,Y1 o.ext.gh h2 _,Y1 o.ext.hh h3 _,o.ext.new⟩,by rw[yV,o.len],λj e hj=>?_,λj fs hj=>?_,λj k fs gs m hj hk sj sk=>?_,λj ks fs hj=>?_,(o.pw.upd (o.pw.ne_ow hi hσ)).setL hi⟩
 ·rcases qf hj with⟨rfl,hl,z⟩|⟨ne,z⟩
  ·cases z
  ·exact o.sh j e z
 ·rcases qf hj with⟨rfl,hl,z⟩|⟨ne,z⟩
  ·cases z;exact⟨l,us,hσ,qe,h2,h3,h4⟩
  ·obtain⟨m,ws,q1,q2,q3,q4,q5⟩:=o.ow j fs z
   have hm:m≠l:=λy=>ne (o.nd i j ds fs l hi z hσ (by rw[<- y];exact q1));exact⟨m,ws,q1,by rw[qd hm];exact q2,q3,q4,q5⟩
 ·rcases qf hj with⟨e1,hl,z⟩|⟨ne,z⟩
  ·rcases qf hk with⟨e2,hl',z'⟩|⟨ne',z'⟩
   ·exact e1.symm.trans e2
   ·subst e1;exact o.nd i k ds gs m hi z' sj sk
  ·rcases qf hk with⟨e2,hl',z'⟩|⟨ne',z'⟩
   ·subst e2;exact o.nd j i fs ds m z hi sj sk
   ·exact o.nd j k fs gs m z z' sj sk
 ·rcases qf hj with⟨e1,hl,z⟩|⟨ne,z⟩
  ·cases z
  ·obtain⟨p,ws,q1,q2,q3,q4,q5,q6,q7⟩:=o.od j ks fs z
   have hp:p≠l:=λy=>by rw[y,h1]at q2;cases q2
   refine⟨p,ws,q1,by rw[qd hp];exact q2,q3,q4,q5,q6,λk ks' es hk sk=>?_⟩;rcases qf hk with⟨e2,hl',z'⟩|⟨ne',z'⟩
   ·cases z'
   ·exact q7 k ks' es z' sk
theorem Own.setOd{i:Nat}{ks:List Int}{ds:List D}{p:vJ}{vs:List V}(o:Own K G0 H0 G ω σ H)(h1:H p=some (.dK (kvsOf ks vs)))(h2:G p=none)(h3:H0 p=none)(h4:ks.length=ds.length)(h5:Yo K G ds vs)(h6:∀(j:Nat)ks' es,ω[j]?=some (some (.od ks' es))->σ[j]?≠some (some (.ref p))):Own K G0 H0 G (ω.set i (some (.od ks ds))) (σ.set i (some (.ref p))) H:=by
 refine⟨o.ext,by rw[yV,yV,o.len],λj e hj=>?_,λj es hj=>?_,λj k es fs m hj hk sj sk=>?_,λj ks' es hj=>?_,o.pw.set (λ_ z=>by cases z) (λ_ z=>by cases z)⟩
 ·rcases qf hj with⟨rfl,hl,z⟩|⟨ne,z⟩
  ·cases z
  ·obtain⟨u,q1,q2⟩:=o.sh j e z
   exact⟨u,by rw[zI ne];exact q1,q2⟩
 ·rcases qf hj with⟨rfl,hl,z⟩|⟨ne,z⟩
  ·cases z
  ·obtain⟨m,us,q1,q2⟩:=o.ow j es z
   exact⟨m,us,by rw[zI ne];exact q1,q2⟩
 ·rcases qf hj with⟨e1,hl,z⟩|⟨ne,z⟩
  ·cases z
  ·rcases qf hk with⟨e2,hl',z'⟩|⟨ne',z'⟩
   ·cases z'
   ·rw[zI ne]at sj
    rw[zI ne']at sk;exact o.nd j k es fs m z z' sj sk
 ·rcases qf hj with⟨rfl,hl,z⟩|⟨ne,z⟩
  ·cases z
   refine⟨p,vs,q1k (by rw[<- o.len];exact hl),h1,h2,h3,h4,h5,λk ks'' fs hk sk=>?_⟩;rcases qf hk with⟨e2,hl',z'⟩|⟨ne',z'⟩
   ·exact e2
   ·rw[zI ne']at sk
    exact vP sk (h6 k ks'' fs z')
  ·obtain⟨p',vs',q1,q2,q3,q4,q5,q6,q7⟩:=o.od j ks' es z
   refine⟨p',vs',by rw[zI ne];exact q1,q2,q3,q4,q5,q6,λk ks'' fs hk sk=>?_⟩;rcases qf hk with⟨e2,hl',z'⟩|⟨ne',z'⟩
   ·subst e2
    rw[q1k (by rw[<- o.len];exact hl')]at sk;cases sk;exact vP q1 (h6 j ks' es z)
   ·rw[zI ne']at sk
    exact q7 k ks'' fs z' sk
theorem Own.mutD{i:Nat}{ks ks2:List Int}{ds es:List D}{p:vJ}{vs us:List V}(o:Own K G0 H0 G ω σ H)(hi:ω[i]?=some (some (.od ks ds)))(hσ:σ[i]?=some (some (.ref p)))(h1:H p=some (.dK (kvsOf ks vs)))(h2:G p=none)(h3:H0 p=none)(h4:ks2.length=es.length)(h5:Yo K G es us):
  Own K G0 H0 G (ω.set i (some (.od ks2 es))) σ (upd H p (.dK (kvsOf ks2 us))):=by
 have ho:i<ω.length:=(zh.mp hi).1;refine⟨⟨o.ext.gg,Y1 o.ext.gh h2 _,Y1 o.ext.hh h3 _,o.ext.new⟩,by rw[yV,o.len],λj e hj=>?_,λj fs hj=>?_,λj k fs gs m hj hk sj sk=>?_,λj ks' fs hj=>?_,(o.pw.upd (o.pw.ne_ob λvs z=>by rw[h1]at z;cases z)).setW (λ_ z=>by cases z) (λ_ z=>by cases z)⟩
 ·rcases qf hj with⟨rfl,hl,z⟩|⟨ne,z⟩
  ·cases z
  ·exact o.sh j e z
 ·rcases qf hj with⟨rfl,hl,z⟩|⟨ne,z⟩
  ·cases z
  ·obtain⟨m,ws,q1,q2,q3,q4,q5⟩:=o.ow j fs z
   have hm:m≠p:=λy=>by rw[y,h1]at q2;cases q2
   exact⟨m,ws,q1,by rw[qd hm];exact q2,q3,q4,q5⟩
 ·rcases qf hj with⟨e1,hl,z⟩|⟨ne,z⟩
  ·cases z
  ·rcases qf hk with⟨e2,hl',z'⟩|⟨ne',z'⟩
   ·cases z'
   ·exact o.nd j k fs gs m z z' sj sk
 ·obtain⟨p0,vs0,r1,r2,r3,r4,r5,r6,r7⟩:=o.od i ks ds hi
  rw[hσ]at r1;cases r1;rcases qf hj with⟨rfl,hl,z⟩|⟨ne,z⟩
  ·cases z
   refine⟨p,us,hσ,qe,h2,h3,h4,h5,λk ks'' gs hk sk=>?_⟩;rcases qf hk with⟨e2,hl',z'⟩|⟨ne',z'⟩
   ·exact e2
   ·exact r7 k ks'' gs z' sk
  ·obtain⟨q,ws,q1,q2,q3,q4,q5,q6,q7⟩:=o.od j ks' fs z
   have hp:q≠p:=λy=>ne (r7 j ks' fs z (by rw[<- y];exact q1));refine⟨q,ws,q1,by rw[qd hp];exact q2,q3,q4,q5,q6,λk ks'' gs hk sk=>?_⟩;rcases qf hk with⟨e2,hl',z'⟩|⟨ne',z'⟩
   ·subst e2
    rw[hσ]at sk;cases sk;exact vP rfl hp
   ·exact q7 k ks'' gs z' sk
noncomputable def share(i:Nat)(ω:WSt):WSt:=match ω[i]? with
 | some (some (.ow ds))=>ω.set i ↥(.lst ds)
 | some (some (.od ks ds))=>ω.set i ↥(.dic ks ds)
 | _=>ω
theorem Own.share(i:Nat)(o:Own K G0 H0 G ω σ H):(∃G',Y0 G G'/\Own K G0 H0 G' (share i ω) σ H)\/∃p kvs,σ[i]?=some (some (.ref p))/\H p=some (.dK kvs)/\∀ob,∃G',Y0 G G'/\Own K G0 H0 G' (share i ω) σ (upd H p (.frz ob (.dK kvs))):=by
 unfold Hk.share;cases q:ω[i]? with
 | none=>exact .inl ⟨G,Y0.refl _,o⟩
 | some w=>
  cases w with
  | none=>exact .inl ⟨G,Y0.refl _,o⟩
  | some w=>
   cases w with
   | sh d=>exact .inl ⟨G,Y0.refl _,o⟩
   | pw ds=>exact .inl ⟨G,Y0.refl _,o⟩
   | ow ds=>
    obtain⟨l,vs,q1,q2,q3,q4,q5⟩:=o.ow i ds q;have s1:Y0 G (upd G l (.lst vs)):=XY q3 _;have ho:i<ω.length:=(zh.mp q).1;refine .inl ⟨upd G l (.lst vs),s1,⟨o.ext.gg.trans s1,λb u z=>?_,o.ext.hh,λb z1 z2=>?_⟩,by rw[yV,o.len],λj e hj=>?_,λj fs hj=>?_,λj k fs gs m hj hk sj sk=>?_,λj ks fs hj=>?_,(o.pw.grow q3 (o.pw.ne_ow q q1)).setW (λ_ z=>by cases z) (λ_ z=>by cases z)⟩
    ·by_cases hb:b=l
     ·subst hb;rw[qe]at z;rw[q2];exact z
     ·rw[qd hb]at z;exact o.ext.gh b u z
    ·rw[qd (λhb=>z2 (by rw[hb];exact q4))];exact o.ext.new b z1 z2
    ·rcases qf hj with⟨rfl,hl,z⟩|⟨ne,z⟩
     ·cases z;exact⟨_,q1,l,vs,rfl,qe,q5.mono s1⟩
     ·obtain⟨u,r1,r2⟩:=o.sh j e z
      exact⟨u,r1,r2.mono s1⟩
    ·rcases qf hj with⟨rfl,hl,z⟩|⟨ne,z⟩
     ·cases z
     ·obtain⟨m,ws,r1,r2,r3,r4,r5⟩:=o.ow j fs z
      have hm:m≠l:=λy=>ne (o.nd i j ds fs l q z q1 (by rw[<- y];exact r1));exact⟨m,ws,r1,r2,by rw[qd hm];exact r3,r4,r5.mono s1⟩
    ·rcases qf hj with⟨e1,hl,z⟩|⟨ne,z⟩
     ·cases z
     ·rcases qf hk with⟨e2,hl',z'⟩|⟨ne',z'⟩
      ·cases z'
      ·exact o.nd j k fs gs m z z' sj sk
    ·rcases qf hj with⟨e1,hl,z⟩|⟨ne,z⟩
     ·cases z
     ·obtain⟨m,ws,r1,r2,r3,r4,r5,r6,r7⟩:=o.od j ks fs z
      have hm:m≠l:=λy=>by rw[y,q2]at r2;cases r2
      refine⟨m,ws,r1,r2,by rw[qd hm];exact r3,r4,r5,r6.mono s1,λk ks' es hk sk=>?_⟩;rcases qf hk with⟨e2,hl',z'⟩|⟨ne',z'⟩
      ·cases z'
      ·exact r7 k ks' es z' sk
   | od ks0 ds=>
    obtain⟨l,vs,q1,q2,q3,q4,q6,q5,q7⟩:=o.od i ks0 ds q;refine .inr ⟨l,_,q1,q2,λob=>?_⟩;have s1:Y0 G (upd G l (.frz ob (.dK (kvsOf ks0 vs)))):=XY q3 _;have ho:i<ω.length:=(zh.mp q).1;refine⟨upd G l (.frz ob (.dK (kvsOf ks0 vs))),s1,⟨o.ext.gg.trans s1,W8 o.ext.gh _,Y1 o.ext.hh q4 _,λb z1 z2=>?_⟩,by rw[yV,o.len],λj e hj=>?_,λj fs hj=>?_,λj k fs gs m hj hk sj sk=>?_,λj ks fs hj=>?_,((o.pw.upd (o.pw.ne_ob λvs z=>by rw[q2]at z;cases z)).grow q3 (o.pw.ne_ob λvs z=>by rw[q2]at z;cases z)).setW (λ_ z=>by cases z) (λ_ z=>by cases z)⟩
    ·rw[qd (λhb=>z2 (by rw[hb];exact q4))];exact o.ext.new b z1 z2
    ·rcases qf hj with⟨rfl,hl,z⟩|⟨ne,z⟩
     ·cases z;exact⟨_,q1,l,vs,rfl,⟨ob,qe⟩,q6,q5.mono s1⟩
     ·obtain⟨u,r1,r2⟩:=o.sh j e z
      exact⟨u,r1,r2.mono s1⟩
    ·rcases qf hj with⟨rfl,hl,z⟩|⟨ne,z⟩
     ·cases z
     ·obtain⟨m,ws,r1,r2,r3,r4,r5⟩:=o.ow j fs z
      have hm:m≠l:=λy=>by rw[y,q2]at r2;cases r2
      exact⟨m,ws,r1,by rw[qd hm];exact r2,by rw[qd hm];exact r3,r4,r5.mono s1⟩
    ·rcases qf hj with⟨e1,hl,z⟩|⟨ne,z⟩
     ·cases z
     ·rcases qf hk with⟨e2,hl',z'⟩|⟨ne',z'⟩
      ·cases z'
      ·exact o.nd j k fs gs m z z' sj sk
    ·rcases qf hj with⟨e1,hl,z⟩|⟨ne,z⟩
     ·cases z
     ·obtain⟨m,ws,r1,r2,r3,r4,r5,r6,r7⟩:=o.od j ks fs z
      have hm:m≠l:=λy=>ne (q7 j ks fs z (by rw[<- y];exact r1));refine⟨m,ws,r1,by rw[qd hm];exact r2,by rw[qd hm];exact r3,r4,r5,r6.mono s1,λk ks' es hk sk=>?_⟩;rcases qf hk with⟨e2,hl',z'⟩|⟨ne',z'⟩
      ·cases z'
      ·exact r7 k ks' es z' sk
end
theorem Inv.freeze{X:Cx}{pins:List (vJ×Obj)}{σ:St}{H:Hp}{s:vF}{p:vJ}{kvs:List (Key×V)}(I:Inv X pins σ H s)(hp:H p=some (.dK kvs)):∃ob,Inv X pins σ (upd H p (.frz ob (.dK kvs))) s:=by
 have ok:=I.hok p _ hp;obtain⟨_,_,_,_,ob,_,_,e,_⟩:=id ok;have stay:∀b u,Y2 X.prog X.w H s.heap b u->Y2 X.prog X.w (upd H p (.frz ob (.dK kvs))) s.heap b u:=λb u x=>
  x.stay (λ_ _ _ q=>q) (λc q=>by rw[qd (λz=>by rw[z,hp]at q;cases q)];exact q) λc xs q=>by rw[qd (λz=>by rw[z,hp]at q;cases q)];exact q
 refine⟨ob,I.step (H':=upd H p (.frz ob (.dK kvs))) (h':=s.heap) (g':=s.gens) (d':=s.drawn) (t':=s.toks) (ch:=[]) (λ_ z=>nomatch z) (λ_ _ _ _ _ e _=>e) (λ_ o _ _ _ e _=>⟨o.slots,e⟩) (λb o _ _ n=>by rw[qd (λz=>by rw[z,hp]at n;cases n)];exact n) (λ_ o _ e=>⟨o,e⟩)
  (λb xs q=>by rw[qd (λz=>by rw[z,hp]at q;cases q)];exact q) (λb o u q=>by rw[qd (λz=>by rw[z,hp]at q;cases q)];exact q) (λb ps q=>⟨#[],by rw[qd (λz=>by rw[z,hp]at q;cases q),q];simp⟩) (λ_ hm=>hm) (λb u q=>?_) I.bare⟩
 by_cases z:b=p
 ·subst z
  rw[qe]at q;cases q;exact⟨e,stay _ _ ok⟩
 ·rw[qd z]at q
  exact stay b u (I.hok b u q)
theorem q6j{X:Cx}{sts:List vz}{t:TS}(i:Nat)(h:PSs X sts t):PSs X sts (λD σ H=>∃p kvs,σ[i]?=some (some (.ref p))/\H p=some (.dK kvs)/\∀ob,t D σ (upd H p (.frz ob (.dK kvs)))):=by
 intro pins s σ H D I q;obtain⟨p,kvs,_,hp,q⟩:=q;obtain⟨ob,I'⟩:=Inv.freeze I hp;exact h pins s σ _ D I' (q ob)
noncomputable def Xe(i:Nat)(f:FS):FS:=λω=>f (share i ω)
theorem qO{X:Cx}{sts:List vz}{f:FS}(i:Nat)(h:XSs X sts f):XSs X sts (Xe i f):=by
 obtain⟨t,h1,h2⟩:=h;refine⟨λD σ H=>t D σ H\/∃p kvs,σ[i]?=some (some (.ref p))/\H p=some (.dK kvs)/\∀ob,t D σ (upd H p (.frz ob (.dK kvs))),λpins s σ H D I q=>?_,λG0 H0 G ω σ H out ω' E o e k=>?_⟩
 ·rcases q with q|q
  ·exact h1 pins s σ H D I q
  ·exact q6j i h1 pins s σ H D I q
 ·rcases o.share i with⟨G1,g1,o1⟩|⟨p,kvs,z1,z2,z3⟩
  ·exact .inl (h2 G0 H0 G1 _ σ H out ω' E o1 e λG2 σ2 H2 w2 g2=>k G2 σ2 H2 w2 (g1.trans g2))
  ·refine .inr ⟨p,kvs,z1,z2,λob=>?_⟩
   obtain⟨G1,g1,o1⟩:=z3 ob;exact h2 G0 H0 G1 _ σ _ out ω' E o1 e λG2 σ2 H2 w2 g2=>k G2 σ2 H2 w2 (g1.trans g2)
noncomputable def setR(i:Nat)(r:R)(ω:WSt):Option WSt:=match r with
 | .sh d=>some (ω.set i ↥d)
 | .fr ds=>some (ω.set i (some (.ow ds)))
 | .vw _=>none
noncomputable def XF(i:Nat)(f:FE):FS:=λω=>(f ω).bind λr=>(setR i r ω).map λw=>(.nx,w)
section
variable{X:Cx}{e:vX}{f:FE}{pos pos':Pos}
theorem qam{i:Nat}{t:TE}(h:zCZ X.K t f):SimS X.K (zAe t (Xt i)) (XF i f):=by
 intro G0 H0 G ω σ H out ω' E o e k;obtain⟨r,q,e⟩:=bnd e;obtain⟨w,q2,e⟩:=mpd e;cases e;refine h G0 H0 G ω σ H r _ o q λv G1 H1 x1 y1=>?_;have o1:=o.keep x1;show E.nx (σ.set i (some v)) H1;cases r with
 | sh d=>cases q2;exact k G1 _ H1 (o1.setSh y1) x1.gg
 | fr ds=>
  cases q2;obtain⟨l,vs,rfl,e2,e3,e4,e5⟩:=y1;refine k G1 _ H1 (o1.setOw e4 e3 (o.ext.hh.free e2) e5 (λj es hj z=>?_) λj es hj y=>?_) x1.gg
  ·obtain⟨m,us,q1,q2,_⟩:=o.ow j es hj
   rw[q1]at z;cases z;rw[e2]at q2;cases q2
  ·obtain⟨us,_,q2,_⟩:=o.pw j es hj
   rw[y,e2]at q2;cases q2
 | vw ds=>cases q2
theorem qm{i:Nat}{x:Str}(hN:X.N.Nodup)(hi:X.N[i]?=some x)(hx:Loc X.env.scope x)(he:XE X e f)(hs:v7 e (some (.Name x pos')) pos.line X.env=pure false:=by rfl)(hf:X.fn x=true\/X.env.scope.names.lookup x=some .local:=by first|exact .inl rfl|exact .inr rfl|assumption):
  XS X (.Assign [.Name x pos'] e pos) (XF i f):=let ⟨_,h1,h2⟩:=he;⟨_,q04 hN hi hx h1 hs hf,qam h2⟩
noncomputable abbrev FG:=D->WSt->Option WSt
def SimG(K:zA)(g:TG)(fg:FG):Prop:=∀G0 H0 G ω σ H d v ω'(Q:St->Hp->Prop),Own K G0 H0 G ω σ H->fg d ω=some ω'->Rep K G d v->(∀σ',Own K G0 H0 G ω' σ' H->Q σ' H)->g v σ H Q
def XG(X:Cx)(tg:vX)(fg:FG):Prop:=∃g,PG X tg g/\SimG X.K g fg
noncomputable def gN(i:Nat):FG:=λd ω=>some (ω.set i ↥d)
theorem qi{i:Nat}{x:Str}(hN:X.N.Nodup)(hi:X.N[i]?=some x)(hx:Loc X.env.scope x)(hf:X.fn x=true\/X.env.scope.names.lookup x=some .local:=by first|exact .inl rfl|exact .inr rfl|assumption):XG X (.Name x pos) (gN i) :=
 ⟨_,q3d hN hi hx hf,λG0 H0 G ω σ H d v ω' Q o e h k=>by cases e;exact k _ (o.setSh h)⟩
def SimGs(K:zA)(g:TGs)(fg:List D->WSt->Option WSt):Prop:=∀G0 H0 G ω σ H ds vs ω'(Q:St->Hp->Prop),Own K G0 H0 G ω σ H->fg ds ω=some ω'->Yo K G ds vs->(∀σ',Own K G0 H0 G ω' σ' H->Q σ' H)->g vs σ H Q
def XGs(X:Cx)(tg:List vX)(fg:List D->WSt->Option WSt):Prop:=∃g,PGs X tg g/\SimGs X.K g fg
noncomputable def WM:List D->WSt->Option WSt
 | [],ω=>some ω
 | _,_=>none
noncomputable def Y7(f:FG)(g:List D->WSt->Option WSt):List D->WSt->Option WSt
 | d::ds,ω=>(f d ω).bind λw=>g ds w
 | [],_=>none
theorem q5i:XGs X [] WM:=⟨_,qaI,λG0 H0 G ω σ H ds vs ω' Q o e h k=>by
 cases ds with
 | nil=>cases e;cases (show vs=[]from h);exact⟨rfl,k σ o⟩
 | cons d r=>cases e⟩
theorem q0f{es:List vX}{fg:FG}{gs:List D->WSt->Option WSt}(h:XG X e fg)(h':XGs X es gs)(hs:(uS (e::es) X.env).map (·.2)=assign e X.env::(uS es X.env).map (·.2):=by rfl):XGs X (e::es) (Y7 fg gs):=by
 obtain⟨g,h1,h2⟩:=h;obtain⟨u,h3,h4⟩:=h';refine⟨_,q5O h1 h3 hs,λG0 H0 G ω σ H ds vs ω' Q o e h k=>?_⟩;cases ds with
 | nil=>cases e
 | cons d r=>
  obtain⟨w1,q,e1⟩:=bnd e;obtain⟨v,vr,rfl,r1,r2⟩:=h;exact⟨v,vr,rfl,h2 G0 H0 G ω σ H d v w1 _ o q r1 λσ1 o1=>h4 G0 H0 G w1 σ1 H r vr ω' Q o1 e1 r2 k⟩
noncomputable def gT(n:Nat)(g:List D->WSt->Option WSt):FG:=λd ω=>match d with
 | .tup ds=>if ds.length=n then g ds ω else none
 | _=>none
theorem q66{es:List vX}{k n:Nat}{gs:List D->WSt->Option WSt}(hc:X.calm=true)(h:XGs X es gs)(hn:(uS es X.env).length=n:=by rfl)(hst:(uS es X.env).findIdx? (·.1)=none:=by rfl):XG X (.Tuple es k pos) (gT n gs):=by
 obtain⟨g,h1,h2⟩:=h;refine⟨_,qcg hc h1 hn hst,λG0 H0 G ω σ H d v ω' Q o e h k=>?_⟩;unfold gT at e;cases d with
 | tup ds=>
  dsimp only at e
  obtain⟨a,vs,rfl,r1,r2⟩:=h
  by_cases z:ds.length=n
  ·rw[vC z]at e
   exact⟨a,vs,rfl,SqT.of (o.gh _ _ r1),by rw[<- r2.len];exact z,h2 G0 H0 G ω σ H ds vs ω' Q o e r2 k⟩
  ·rw[vG z]at e;cases e
 | _=>cases e
noncomputable def sAsg(f:FD)(g:FG):FS:=λω=>(f ω).bind λd=>(g d ω).map λw=>(.nx,w)
theorem qg7{tg:vX}{fd:FD}{fg:FG}(he:XD X e fd)(hg:XG X tg fg)(hs:swapsWithSole [tg] e pos.line X.env=pure false:=by rfl)(hw:swappedStores [tg] e X.env=pure none:=by rfl)(h1:(uS [tg] X.env).map (·.2)=[assign tg X.env]:=by rfl):XS X (.Assign [tg] e pos) (sAsg fd fg):=by
 obtain⟨t,p1,p2⟩:=he;obtain⟨g,p3,p4⟩:=hg;refine⟨_,qh0 p1 p3 hs hw h1,λG0 H0 G ω σ H out ω' E o e k=>?_⟩;obtain⟨d,q,e⟩:=bnd e;obtain⟨w,q2,e⟩:=mpd e;cases e;refine p2 G0 H0 G ω σ H d _ o q λv G1 H1 x1 y1=>?_;exact p4 G0 H0 G1 ω σ H1 d v _ _ (o.keep x1) q2 y1 λσ1 o1=>k G1 σ1 H1 o1 x1.gg
end
noncomputable def sIf(c:FT)(f g:FS):FS:=λω=>(c ω).bind λb=>if b=true then f ω else g ω
noncomputable def Y8(f:FE):FS:=λω=>(f ω).bind λr=>match r with
 | .sh d=>some (.rt (.sh d),ω)
 | .fr ds=>some (.rt (.fr ds),ω)
 | .vw _=>none
noncomputable def zAT(i:Nat):FS:=λω=>match ω[i]? with
 | some ↥d=>some (.rt (.sh d),ω)
 | some (some (.ow ds))=>some (.rt (.fr ds),ω)
 | _=>none
noncomputable def sNo:FS:=λ_=>none
noncomputable def zBZ(f:FE):FS:=λω=>(f ω).map λ_=>(.nx,ω)
section
variable{X:Cx}{c e:vX}{a b:List vz}{st:vz}{pos:Pos}{fc:FT}{f g:FS}{fe:FE}
theorem qv(hc:XT X c fc)(ha:XSs X a f)(hb:XSs X b g):XS X (.If c a b pos) (sIf fc f g):=by
 obtain⟨t,h1,h2⟩:=hc;obtain⟨u,h3,h4⟩:=ha;obtain⟨w,h5,h6⟩:=hb;refine⟨_,qej h1 h3 h5,λG0 H0 G ω σ H out ω' E o e k=>?_⟩;obtain⟨z,q,e⟩:=bnd e;refine h2 G0 H0 G ω σ H z _ o q λG1 H1 x1=>?_;cases z with
 | true=>rw[vC rfl]at e ⊢;exact h4 G0 H0 G1 ω σ H1 out ω' E (o.keep x1) e λG2 σ2 H2 o2 g2=>k G2 σ2 H2 o2 (x1.gg.trans g2)
 | false=>exact h6 G0 H0 G1 ω σ H1 out ω' E (o.keep x1) e λG2 σ2 H2 o2 g2=>k G2 σ2 H2 o2 (x1.gg.trans g2)
theorem qg(he:XE X e fe):XS X (.Return (some e) pos) (Y8 fe):=by
 obtain⟨t,h1,h2⟩:=he;refine⟨_,q4o h1,λG0 H0 G ω σ H out ω' E o e k=>?_⟩;obtain⟨r,q,e⟩:=bnd e;refine h2 G0 H0 G ω σ H r _ o q λv G1 H1 x1 y1=>?_;cases r with
 | sh d=>cases e;exact k G1 σ H1 (o.keep x1) x1.gg v y1
 | fr ds=>
  cases e;obtain⟨l,vs,e1,e2,e3⟩:=y1;exact k G1 σ H1 (o.keep x1) x1.gg v ⟨l,vs,e1,o.ext.hh.free e2,e3⟩
 | vw ds=>cases e
theorem q52{i:Nat}(he:PE X e (XJ i)):XS X (.Return (some e) pos) (zAT i):=by
 refine⟨_,q4o he,λG0 H0 G ω σ H out ω' E o e k=>?_⟩;unfold zAT at e;cases q:ω[i]? with
 | none=>rw[q]at e;cases e
 | some w=>
  rw[q]at e;cases w with
  | none=>cases e
  | some w=>
   cases w with
   | sh d=>
    cases e;obtain⟨v,q1,q2⟩:=o.sh i d q;exact⟨v,q1,k G σ H o (Y0.refl _) v q2⟩
   | ow ds=>
    cases e;obtain⟨l,vs,q1,q2,q3,q4,q5⟩:=o.ow i ds q;exact⟨_,q1,k G σ H o (Y0.refl _) _ ⟨l,vs,rfl,q4,q3,q2,q5⟩⟩
   | od ks ds=>cases e
   | pw ds=>cases e
theorem qb1:XS X st sNo:=⟨_,qdj,λG0 H0 G ω σ H out ω' E o e k=>by cases e⟩
theorem qaq(he:XE X e fe)(hs:v7 e none pos.line X.env=pure false:=by rfl):XS X (.Expr e pos) (zBZ fe):=by
 obtain⟨t,h1,h2⟩:=he;refine⟨_,q0B h1 hs,λG0 H0 G ω σ H out ω' E o e k=>?_⟩;obtain⟨r,q,e⟩:=mpd e;cases e;exact h2 G0 H0 G ω σ H r _ o q λv G1 H1 x1 y1=>k G1 σ H1 (o.keep x1) x1.gg
noncomputable def zBq(i:Nat)(f:FD):FS:=λω=>(f ω).bind λd=>match ω[i]? with
 | some (some (.ow ds))=>if ds.length<1000000 then some (.nx,ω.set i (some (.ow (ds++[d]))))else none
 | _=>none
theorem q25{i:Nat}{o e:vX}{fd:FD}{apos cpos:Pos}(ho:PE X o (XJ i))(he:XD X e fd)(hbase:uG o "append" X.env (eval o X.env)=eval o X.env:=by rfl)(hfew:((vk cpos (vK [e] X.env)).all (λx=>!x.1)&&(uN cpos (v4 [] X.env)).all (λx=>x.1.isSome)
   && decide (([e]:List vX).length+([]:List uP).length+(if ([]:List uP).isEmpty then 0 else 1)<30))=true:=by rfl)
  (hline:(apos.endLine==cpos.line)=true:=by rfl) (hs:vK [e] X.env=(false,eval e X.env)::vK [] X.env:=by rfl) (hplain:(vk cpos (vK [] X.env)).any (·.1)=false:=by rfl)
  (hsw:v7 (.Call (.Attribute o "append" apos) [e] [] cpos) none pos.line X.env=pure false:=by rfl) :
  XS X (.Expr (.Call (.Attribute o "append" apos) [e] [] cpos) pos) (zBq i fd):=by
 obtain⟨t,h1,h2⟩:=he;refine⟨_,q0B (q1X PySem.F.plainAttrs_list PySem.F.slot_list_append PySem.F.type_list_append q0z ho (qt h1 qr hs) hbase hfew hline hs hplain) hsw,λG0 H0 G ω σ H out ω' E ow e k=>?_⟩;obtain⟨d,q,e⟩:=bnd e;cases q2:ω[i]? with
 | none=>rw[q2]at e;cases e
 | some w=>
  rw[q2]at e;cases w with
  | none=>cases e
  | some w=>
   cases w with
   | sh d=>cases e
   | od ks ds=>cases e
   | pw ds=>cases e
   | ow ds=>
    dsimp only at e
    by_cases z:ds.length<1000000
    ·rw[vC z]at e
     cases e;obtain⟨l,vs,r1,r2,r3,r4,r5⟩:=ow.ow i ds q2;refine⟨.ref l,r1,.inl ⟨rfl,vs,SqL.of r2⟩,h2 G0 H0 G ω σ H d _ ow q λv G1 H1 x1 y1=>?_⟩;have o1:=ow.keep x1;have hz:vs.length<sizeLine:=by rw[<- r5.len,vh];omega
     refine⟨l,vs,v,rfl,rfl,x1.hh _ _ r2,hz,?_⟩;exact k G1 σ _ (o1.mut q2 r1 (x1.hh _ _ r2) (x1.new l r3 (by rw[r2];exact λz=>by cases z)) r4 ((r5.mono x1.gg).app (Yo.cons y1 Yo.nil))) x1.gg
    ·rw[vG z]at e;cases e
end
end Hk
namespace PySem
open AutoSeq1 MeetsSeq MeetsSeq2 MeetsSeq3
theorem extTup(l b:vJ)(xs ys:Array vB)(n m:Nat)(dd:Option vJ)(sl:Array (Option vB))(h1:¬(!xs.isEmpty&&Builtin.List.listTooLong (xs.size+ys.size))=true)(h2:xs.size<=sizeLine)(h3:xs.size+ys.size<=sizeLine+1):
  Meets (Builtin.«list.extend» ⟨[.ref l,.ref b],[]⟩) (λ_ R s=>s.heap.get? l=some { cls:=.type "list", data:=.seq xs n }/\s.heap.get? b=some { cls:=.type "tuple", dict:=dd,data:=.seq ys m,slots:=sl } /\
   R (.ok (.ret Value.none)) { s with heap:=s.heap.update l (Obj.mapSeq λz=>z++ys),toks:=s.toks }) :=
 .of_wp λprog w A R s h=>by
  obtain⟨hp,g,d,tk,os⟩:=s;obtain⟨e1,e2,q⟩:=h;have p1:=idx_int;have p2:=sub_tuple_tuple;have p3:=sub_list_list;have p4:=sub_tuple_list;have p5:=sub_list_tuple;have fit:(xs++ys).size<=sizeLine+1:=by rw[Array.size_append];exact h3
  wp_walk using (uM e1 rfl (hz:=h2) (_hz':=fit)),wpAny_loadPart' e1,wpAny_loadPart' e2
  exact⟨_,rfl,q⟩
end PySem
namespace Hk
open PySem L2
section
variable{X:Cx}{pos:Pos}
def rExtA:V->List V->Hp->VK->Prop:=λx vs H Q=>zBJ x vs H Q\/∃l b xs zs,x=.ref l/\vs=[.ref b]/\H l=some (.lst xs)/\H b=some (.tup zs)/\xs.length+zs.length<=sizeLine/\Q .non (upd H l (.lst (xs++zs)))
theorem qfo:MtR X "list.extend" rExtA:=by
 intro pins s σ H x vs v us Q I rx rv h;rcases h with h|h
 ·exact qbU pins s σ H x vs v us Q I rx rv h
 obtain⟨l,b,xs,zs,rfl,rfl,hH,hB,hz,q⟩:=h;cases rx;obtain⟨u,rfl,ru⟩:=rv.one;cases ru;obtain⟨z,its,n,r,hl,e⟩:=I.lstM hH;obtain⟨its2,r2,⟨o2,e2,c2,n2,d2⟩,z2⟩:=I.tuple (SqT.of hB);have hl2:=r2.length;obtain⟨cls,dd,dt,sl⟩:=o2;cases c2;cases d2;have hsz:its.toArray.size+its2.toArray.size<=sizeLine:=by rw[zP,zP];omega
 have hlong:¬(!its.toArray.isEmpty&&Builtin.List.listTooLong (its.toArray.size+its2.toArray.size))=true:=by
  rw[Wz hsz,xi];exact yH
 refine uo F.slot_list_extend ⟨_,e,rfl⟩ F.entry_list_extend (F.args_list_extend_2 _ _)
  (extTup l b its.toArray its2.toArray n n2 dd sl hlong (by rw[zP];omega) ∅) ⟨e,e2,?_⟩
 refine⟨.non,_,I.lset (its':=its++its2) hH e (by simp) (r.append r2) ?_,rfl,q⟩;rw[zC];omega
noncomputable def itemsOf:D->Option (List D)
 | .lst ds=>some ds
 | .tup ds=>some ds
 | _=>none
noncomputable def sExt(i:Nat)(f:FD):FS:=λω=>(f ω).bind λd=>(itemsOf d).bind λes=>match ω[i]? with
 | some (some (.ow ds))=>if ds.length+es.length<=1000000 then some (.nx,ω.set i (some (.ow (ds++es))))else none
 | _=>none
theorem qcd{i:Nat}{o e:vX}{fd:FD}{apos cpos:Pos}(ho:PE X o (XJ i))(he:XD X e fd)(hbase:uG o "extend" X.env (eval o X.env)=eval o X.env:=by rfl)(hfew:((vk cpos (vK [e] X.env)).all (λx=>!x.1)&&(uN cpos (v4 [] X.env)).all (λx=>x.1.isSome)
   && decide (([e]:List vX).length+([]:List uP).length+(if ([]:List uP).isEmpty then 0 else 1)<30))=true:=by rfl)
  (hline:(apos.endLine==cpos.line)=true:=by rfl) (hs:vK [e] X.env=(false,eval e X.env)::vK [] X.env:=by rfl) (hplain:(vk cpos (vK [] X.env)).any (·.1)=false:=by rfl)
  (hsw:v7 (.Call (.Attribute o "extend" apos) [e] [] cpos) none pos.line X.env=pure false:=by rfl) :
  XS X (.Expr (.Call (.Attribute o "extend" apos) [e] [] cpos) pos) (sExt i fd):=by
 obtain⟨t,h1,h2⟩:=he;refine⟨_,q0B (q1X PySem.F.plainAttrs_list PySem.F.slot_list_extend PySem.F.type_list_extend qfo ho (qt h1 qr hs) hbase hfew hline hs hplain) hsw,λG0 H0 G ω σ H out ω' E ow e k=>?_⟩;obtain⟨d,q,e⟩:=bnd e;obtain⟨es,q3,e⟩:=bnd e;cases q2:ω[i]? with
 | none=>rw[q2]at e;cases e
 | some w=>
  rw[q2]at e;cases w with
  | none=>cases e
  | some w=>
   cases w with
   | sh d=>cases e
   | od ks ds=>cases e
   | pw ds=>cases e
   | ow ds=>
    dsimp only at e
    by_cases z:ds.length+es.length<=1000000
    ·rw[vC z]at e
     cases e;obtain⟨l,vs,r1,r2,r3,r4,r5⟩:=ow.ow i ds q2;refine⟨.ref l,r1,.inl ⟨rfl,vs,SqL.of r2⟩,h2 G0 H0 G ω σ H d _ ow q λv G1 H1 x1 y1=>?_⟩;have o1:=ow.keep x1;have fin:∀us:List V,Yo X.K G1 es us->vs.length+us.length<=sizeLine/\zA5 X.K H0 G1 E .nx σ (upd H1 l (.lst (vs++us))):=λus hu=>
      ⟨by rw[<- r5.len,<- hu.len];exact q5s z,k G1 σ _ (o1.mut q2 r1 (x1.hh _ _ r2) (x1.new l r3 (by rw[r2];exact λz=>by cases z)) r4 ((r5.mono x1.gg).app hu)) x1.gg⟩
     cases d with
     | lst ds'=>
      cases q3;obtain⟨b,us,rfl,r6,r7⟩:=y1;obtain⟨f1,f2⟩:=fin us r7;exact .inl ⟨l,b,vs,us,rfl,rfl,x1.hh _ _ r2,x1.gh _ _ r6,f1,f2⟩
     | tup ds'=>
      cases q3;obtain⟨b,us,rfl,r6,r7⟩:=y1;obtain⟨f1,f2⟩:=fin us r7;exact .inr ⟨l,b,vs,us,rfl,rfl,x1.hh _ _ r2,x1.gh _ _ r6,f1,f2⟩
     | _=>cases q3
    ·rw[vG z]at e;cases e
end
structure IterOf (K:zA) (J:It) (G:Hp) (ds:List D):Prop where
 go:∀H i,Y0 G H->i<ds.length->J.go i H
 yld:∀G2 H i x H' d,Y0 G G2->Y0 G2 H->ds[i]?=some d->J.yld i H x H'->∃G3,Ext G2 H G3 H'/\Rep K G3 d x
 stop:∀H,Y0 G H->J.stop ds.length H
noncomputable abbrev FI:=WSt->Option (List D)
def SimI(K:zA)(wi:TI)(f:FI):Prop:=∀G0 H0 G ω σ H ds(R:It->Hp->Prop),Own K G0 H0 G ω σ H->f ω=some ds->(∀J G' H',Ext G H G' H'->IterOf K J G' ds->R J H')->wi σ H R
def XI(X:Cx)(tg iter:vX)(f:FI):Prop:=∃wi,PI X tg iter wi/\SimI X.K wi f
section
variable{X:Cx}{tg e:vX}
theorem qe7{K:zA}{G:Hp}{a:vJ}{ds:List D}{vs:List V}(h1:G a=some (.lst vs))(h2:Yo K G ds vs):IterOf K (Itl K a) G ds:=by
 refine⟨λH i s hi=>?_,λG2 H i x H' d s0 s1 hd hy=>?_,λH s=>⟨vs,SqL.of (s _ _ h1),by rw[h2.len];exact zK _⟩⟩
 ·have:i<vs.length:=by rw[<- h2.len];exact hi
  exact⟨vs,vs[i],SqL.of (s _ _ h1),zD this⟩
 ·obtain⟨e,y⟩:=hy
  obtain⟨v,q1,q2⟩:=h2.get hd;have:=y vs (SqL.of (s1 _ _ (s0 _ _ h1)));rw[q1]at this;cases this;subst e;exact⟨G2,Ext.refl s1,q2.mono s0⟩
theorem qd6{K:zA}{G:Hp}{a:vJ}{ds:List D}{vs:List V}(h1:G a=some (.tup vs))(h2:Yo K G ds vs):IterOf K (Itt K a) G ds:=by
 refine⟨λH i s hi=>?_,λG2 H i x H' d s0 s1 hd hy=>?_,λH s=>⟨vs,SqT.of (s _ _ h1),by rw[h2.len];exact zK _⟩⟩
 ·have:i<vs.length:=by rw[<- h2.len];exact hi
  exact⟨vs,vs[i],SqT.of (s _ _ h1),zD this⟩
 ·obtain⟨e,y⟩:=hy
  obtain⟨v,q1,q2⟩:=h2.get hd;have:=y vs (SqT.of (s1 _ _ (s0 _ _ h1)));rw[q1]at this;cases this;subst e;exact⟨G2,Ext.refl s1,q2.mono s0⟩
noncomputable def WI(f:FD):FI:=λω=>(f ω).bind itemsOf
theorem qx{f:FD}(h:XD X e f):XI X tg e (WI f):=by
 obtain⟨t,h1,h2⟩:=h;refine⟨λσ H R=>iList X.K t σ H R\/iTup X.K t σ H R,λpins s σ H R I q=>?_,λG0 H0 G ω σ H ds R o e k=>?_⟩
 ·rcases q with q|q
  ·exact q7w h1 pins s σ H R I q
  ·exact qfV h1 pins s σ H R I q
 ·obtain⟨d,q,e⟩:=bnd e
  cases d with
  | lst es=>
   cases e;refine .inl (h2 G0 H0 G ω σ H _ _ o q λv G1 H1 x1 ⟨a,vs,e1,e2,e3⟩=>⟨a,e1,⟨vs,SqL.of (x1.gh _ _ e2)⟩,k _ G1 H1 x1 (qe7 e2 e3)⟩)
  | tup es=>
   cases e;refine .inr (h2 G0 H0 G ω σ H _ _ o q λv G1 H1 x1 ⟨a,vs,e1,e2,e3⟩=>⟨a,e1,⟨vs,SqT.of (x1.gh _ _ e2)⟩,k _ G1 H1 x1 (qd6 e2 e3)⟩)
  | _=>cases e
noncomputable def upTo(lo:Int)(n:Nat):List D:=(zb n).map λ(i:Nat)=>D.int (lo+(i:Int))
theorem qdO{K:zA}{G:Hp}(lo:Int)(n:Nat):IterOf K (Itr lo n) G (upTo lo n):=by
 have hl:(upTo lo n).length=n:=by unfold upTo;rw[zB,zo]
 refine⟨λH i s hi=>by rw[hl]at hi;exact hi,λG2 H i x H' d s0 s1 hd hy=>?_,λH s=>by rw[hl];exact zK _⟩;obtain⟨e,y⟩:=hy;subst e;refine⟨G2,Ext.refl s1,?_⟩;unfold upTo at hd;rw[zY]at hd;have hi:i<n:=by
  rcases zw i n with z|z
  ·exact z
  ·rw[zu (by rw[zo];exact z)]at hd;cases hd
 rw[xI hi]at hd;cases hd;exact y
noncomputable def iRg1(g:FA):FI:=λω=>(g ω).bind λds=>match ds with
 | [.int j]=>if -(2^62)<=j/\j<2^62 then some (upTo 0 j.toNat)else none
 | _=>none
theorem q7U{a:vX}{g:FA}{p pos:Pos}(hg:Gl X "range")(hm:X.mg "range" = none)(ha:XVA X [a] g)(hs:vK [a] X.env=[(false,eval a X.env)]:=by rfl):XI X tg (.Call (.Name "range" p) [a] [] pos) (iRg1 g):=by
 obtain⟨t,h1,h2⟩:=ha;refine⟨_,qc0 hg hm h1 hs,λG0 H0 G ω σ H ds R o e k=>?_⟩;obtain⟨vs,q,e⟩:=bnd e;refine h2 G0 H0 G ω σ H vs _ o q λus G1 H1 x1 y1=>?_
 match vs,e with
 | [.int j],e=>
  dsimp only at e
  by_cases z:-(2^62)<=j/\j<2^62
  ·rw[vC z]at e
   cases e;obtain⟨v,rfl,y2⟩:=y1.one;cases y2.int;exact⟨j,rfl,z.1,z.2,k _ G1 H1 x1 (qdO _ _)⟩
  ·rw[vG z]at e;cases e
end
noncomputable def zAJ(g:FG)(b:FS):List D->FS
 | [],ω=>some (.nx,ω)
 | d::ds,ω=>(g d ω).bind λw=>(b w).bind λp=>match p.1 with
  | .nx=>zAJ g b ds p.2
  | .ct=>zAJ g b ds p.2
  | .bk=>some (.nx,p.2)
  | .rt r=>some (.rt r,p.2)
noncomputable def W9(fi:FI)(g:FG)(b:FS):FS:=λω=>(fi ω).bind λds=>zAJ g b ds ω
section
variable{X:Cx}{tg iter:vX}{body:List vz}{pos:Pos}{fi:FI}{fg:FG}{fb:FS}
theorem q00(hp:tO (model X.prog X.w) X.A X.env X.xe)(hc:X.calm=true)(hi:XI X tg iter fi)(hg:XG X tg fg)(hb:XSs X body fb)(hs:∀x,v8 iter X.env x=pure x:=by intro _;rfl):XS X (.For tg iter body [] pos) (W9 fi fg fb):=by
 obtain⟨wi,h1,h2⟩:=hi;obtain⟨g,h3,h4⟩:=hg;obtain⟨tb,h5,h6⟩:=hb;refine⟨_,q6x hp hc h1 h3 h5 hs,λG0 H0 G ω σ H out ω' E o e k=>?_⟩;obtain⟨ds,q,e⟩:=bnd e;refine h2 G0 H0 G ω σ H ds _ o q λJ G1 H1 x1 it=>?_;refine⟨λi m σ2 H2=>∃G2 ω2,Own X.K G0 H0 G2 ω2 σ2 H2/\Y0 G1 G2/\zAJ fg fb (ds.drop i) ω2=some (out,ω')/\i<=ds.length/\m=ds.length-i,⟨_,G1,ω,o.keep x1,Y0.refl _,e,zy _,rfl⟩,?_⟩;rintro i m σ2 H2 ⟨G2,ω2,o2,s2,f2,hi2,rfl⟩
 by_cases hlt:i<ds.length
 ·refine .inr ⟨it.go H2 i (s2.trans o2.gh) hlt,λσ3 H3=>∃G3 ω3,Own X.K G0 H0 G3 ω3 σ3 H3/\Y0 G1 G3/\zAJ fg fb (ds.drop (i+1)) ω3=some (out,ω'),λσ3 H3 ⟨G3,ω3,a1,a2,a3⟩=>⟨ds.length-(i+1),∅,G3,ω3,a1,a2,a3,hlt,rfl⟩,λx H3 hy=>?_⟩
  have hd:ds[i]?=some ds[i]:=zD hlt;obtain⟨G4,x4,rx⟩:=it.yld G2 H2 i x H3 ds[i] s2 o2.gh hd hy;have o2:=o2.keep x4;have s2:=s2.trans x4.gg;rw[y0 hlt]at f2;obtain⟨w,q1,f2⟩:=bnd f2;obtain⟨⟨o3,ω3⟩,q2,f2⟩:=bnd f2;refine h4 G0 H0 G4 ω2 σ2 H3 ds[i] x w _ o2 q1 rx λσ4 o4=>?_;refine h6 G0 H0 G4 w σ4 H3 o3 ω3 _ o4 q2 λG5 σ5 H5 o5 s5=>?_;cases o3 with
  | nx=>exact⟨G5,ω3,o5,s2.trans s5,f2⟩
  | ct=>exact⟨G5,ω3,o5,s2.trans s5,f2⟩
  | bk=>cases f2;exact k G5 σ5 H5 o5 (x1.gg.trans (s2.trans s5))
  | rt r=>cases f2;exact k G5 σ5 H5 o5 (x1.gg.trans (s2.trans s5))
 ·have ei:i=ds.length:=∅
  subst ei;rw[ZR]at f2;cases f2;exact .inl ⟨it.stop H2 (s2.trans o2.gh),k G2 σ2 H2 o2 (x1.gg.trans s2)⟩
end
noncomputable def Xc(g:FG)(c:FT)(f:FD):List D->WSt->Option (List D)
 | [],_=>some []
 | d::ds,ω=>(g d ω).bind λw=>(c w).bind λb=>if b=true then (f w).bind λx=>(Xc g c f ds w).map λr=>x::r else Xc g c f ds w
noncomputable def zAv:Option (Option W)->Option W
 | some ↥d=>↥d
 | _=>none
noncomputable def inW(M:Nat)(frees:List Nat)(ω:WSt):WSt:=zj M none++frees.map λj=>zAv ω[j]?
noncomputable def Xh(M:Nat)(frees:List Nat)(fi:FI)(g:FG)(c:FT)(f:FD):FE:=λω=>(fi ω).bind λds=>if ds.length<=1000000 then (Xc g c f ds (inW M frees ω)).map R.fr else none
def XTs(X:Cx)(ifs:List vX)(f:FT):Prop:=∃t,PTs X ifs t/\zAp X.K t f
noncomputable def Xk:FT:=λ_=>some true
theorem q0q{X:Cx}:XTs X [] Xk:=⟨_,qfw,λG0 H0 G ω σ H b Q o e k=>by cases e;exact k G H (Ext.refl o.gh)⟩
theorem q54{X:Cx}{c:vX}{f:FT}(h:XT X c f):XTs X [c] f:=let ⟨t,h1,h2⟩:=h;⟨t,qfN h1,h2⟩
section
variable{X:Cx}{N:List Str}{M:Nat}{frees:List Nat}{scope:uw}{tg iter elt:vX}{ifs:List vX}{pos:Pos}{fi:FI}{fg:FG}{fc:FT}{fe:FD}
def Xw(ω:WSt):Prop:=∀(i:Nat)w,ω[i]?=some (some w)->∃d,w=.sh d
theorem Xw.ow{ω:WSt}(h:Xw ω)(i:Nat)(ds:List D):ω[i]?≠some (some (.ow ds)):=λz=>by obtain⟨d,e⟩:=h i _ z;cases e
theorem Xw.od{ω:WSt}(h:Xw ω)(i:Nat)(ks:List Int)(ds:List D):ω[i]?≠some (some (.od ks ds)):=λz=>by obtain⟨d,e⟩:=h i _ z;cases e
theorem Xw.pw{ω:WSt}(h:Xw ω)(i:Nat)(ds:List D):ω[i]?≠some (some (.pw ds)):=λz=>by obtain⟨d,e⟩:=h i _ z;cases e
theorem q8x{wi:TI}{g:TG}{tc:TT}{te:TE}(h2:SimI X.K wi fi)(h4:SimG X.K g fg)(h6:zAp X.K tc fc)(h8:zBG X.K te fe)(hg:∀d ω ω',Xw ω->fg d ω=some ω'->Xw ω'):zCZ X.K (zCN M frees wi g tc te) (Xh M frees fi fg fc fe):=by
 intro G0 H0 G ω σ H r Q o e k;obtain⟨ds,q,e⟩:=bnd e
 by_cases hz:ds.length<=1000000
 ·rw[vC hz]at e
  obtain⟨rs,q2,e⟩:=mpd e;subst e;refine h2 G0 H0 G ω σ H ds _ o q λJ G1 H1 x1 it=>?_;intro A hA;have ow0:Xw (inW M frees ω):=by
   intro i es z;unfold inW at z;rcases zw i M with y|y
   ·rw[ze ⇑y,yr,vC y]at z;cases z
   ·rw[zX ⇑y,yO,zY]at z
    cases e1:frees[i-M]? with
    | none=>rw[e1]at z;cases z
    | some j=>
     rw[e1]at z;have z':zAv ω[j]?=some es:=zx z;generalize ω[j]?=u at z';unfold zAv at z'
     split at z'
     ·cases z';exact⟨_,rfl⟩
     ·cases z'
  have own0:∀G2 H2,Y0 G1 G2->Y0 G2 H2->Own X.K G2 (fr H2) G2 (inW M frees ω) (zBh M frees σ) H2:=λG2 H2 s1 s2=>by
   have o1:=o.keep x1;refine⟨Ext.refl s2,by unfold inW zBh;simp,λi d hi=>?_,λi ds' hi=>vP hi (ow0.ow i ds'),λi j ds' es l hi=>vP hi (ow0.ow i ds'),λi ks ds' hi=>vP hi (ow0.od i ks ds'),Xi.no ow0.pw⟩;unfold inW at hi;unfold zBh;rcases zw i M with y|y
   ·rw[ze ⇑y,yr,vC y]at hi;cases hi
   ·rw[zX ⇑y,yO,zY]at hi ⊢
    cases e1:frees[i-M]? with
    | none=>rw[e1]at hi;cases hi
    | some j=>
     rw[e1]at hi;have hi':zAv ω[j]?=↥d:=zx hi;cases e2:ω[j]? with
     | none=>rw[e2]at hi';cases hi'
     | some w=>
      rw[e2]at hi';cases w with
      | none=>cases hi'
      | some w=>
       cases w with
       | ow _=>cases hi'
       | od _ _=>cases hi'
       | pw _=>cases hi'
       | sh d'=>
        cases hi';obtain⟨v,q3,q4⟩:=o1.sh j _ e2;exact⟨v,by rw[yd,q3];rfl,q4.mono s1⟩
  refine⟨λi m σ2 H2=>∃G2 ω2 accd accv,Own X.K G2 (fr H2) G2 ω2 σ2 H2/\Xw ω2/\Ext G1 H1 G2 H2/\G2 A=none/\H2 A=some (.lst accv)/\Yo X.K G2 accd accv/\accd.length<=i/\i<=ds.length/\m=ds.length-i /\
   ∃rest,Xc fg fc fe (ds.drop i) ω2=some rest/\accd++rest=rs,⟨_,G1,inW M frees ω,[],[],own0 _ _ (Y0.refl _) (Y1 x1.gh (x1.gh.free hA) _),ow0,Ext.hide x1.gh hA _,x1.gh.free hA,qe,Yo.nil,zK _,zy _,rfl,rs,q2,rfl⟩,?_⟩
  rintro i m σ2 H2 ⟨G2,ω2,accd,accv,o2,no2,x2,gA,hA2,ra,la,li,rfl,rest,cd,er⟩
  by_cases hlt:i<ds.length
  ·refine .inr ⟨it.go H2 i (x2.gg.trans x2.gh) hlt,λx H3 hy=>?_⟩
   have hd:ds[i]?=some ds[i]:=zD hlt;obtain⟨G4,x4,rx⟩:=it.yld G2 H2 i x H3 ds[i] x2.gg x2.gh hd hy;have o2':=o2.keep x4;have o2:Own X.K G4 (fr H3) G4 ω2 σ2 H3:=⟨Ext.refl x4.gh,o2'.len,o2'.sh,λi ds' hi=>vP hi (no2.ow i ds'),λi j ds' es l hi=>vP hi (no2.ow i ds'),λi ks ds' hi=>vP hi (no2.od i ks ds'),Xi.no no2.pw⟩;have gA:G4 A=none:=x4.new A gA (by rw[hA2];exact λz=>by cases z);have hA2:H3 A=some (.lst accv):=x4.hh _ _ hA2;have x2:=x2.trans x4;have ra:=ra.mono x4.gg;rw[y0 hlt]at cd;obtain⟨w,q1,cd⟩:=bnd cd;obtain⟨b,q3,cd⟩:=bnd cd;have now:=hg _ _ _ no2 q1;refine h4 G4 (fr H3) G4 ω2 σ2 H3 ds[i] x w _ o2 q1 rx λσ4 o4=>?_;refine h6 G4 (fr H3) G4 w σ4 H3 b _ o4 q3 λG5 H5 x5=>?_;have o5:=o4.keep x5;have gA5:G5 A=none:=x5.new A gA (by rw[hA2];exact λz=>by cases z);have hA5:H5 A=some (.lst accv):=x5.hh _ _ hA2;cases b with
   | false=>
    rw[vG yH];rw[vG yH]at cd;have o6:Own X.K G5 (fr H5) G5 w σ4 H5:=⟨Ext.refl x5.gh,o5.len,o5.sh,λi ds' hi=>vP hi (now.ow i ds'),λi j ds' es l hi=>vP hi (now.ow i ds'),λi ks ds' hi=>vP hi (now.od i ks ds'),Xi.no now.pw⟩;exact⟨ds.length-(i+1),∅,G5,w,accd,accv,o6,now,x2.trans x5,gA5,hA5,ra.mono x5.gg,∅,hlt,rfl,rest,cd,er⟩
   | true=>
    rw[vC rfl]at cd ⊢;obtain⟨d,q4,cd⟩:=bnd cd;obtain⟨rest',q5,cd⟩:=mpd cd;subst cd;refine h8 G4 (fr H3) G5 w σ4 H5 d _ o5 q4 λv G6 H6 x6 y6=>?_;have gA6:G6 A=none:=x6.new A gA5 (by rw[hA5];exact λz=>by cases z);have hA6:H6 A=some (.lst accv):=x6.hh _ _ hA5;have x26:=(x2.trans x5).trans x6;have raa:=ra.mono (x5.gg.trans x6.gg);have hl:accv.length<sizeLine:=by rw[<- raa.len,vh];omega
    refine⟨accv,hA6,hl,ds.length-(i+1),∅,G6,w,accd++[d],accv++[v],?_,now,⟨x26.gg,Y1 x26.gh gA6 _,Y1 x26.hh hA _,x26.new⟩,gA6,qe,raa.app (Yo.cons y6 Yo.nil),by rw[zC,zU];omega,hlt,rfl,rest',q5,by rw[zJ];exact er⟩;have o6:=o5.keep x6;exact⟨Ext.refl (Y1 x6.gh gA6 _),o6.len,o6.sh,λi ds' hi=>vP hi (now.ow i ds'),λi j ds' es l hi=>vP hi (now.ow i ds'),λi ks ds' hi=>vP hi (now.od i ks ds'),Xi.no now.pw⟩
  ·have ei:i=ds.length:=∅
   subst ei;rw[ZR]at cd;cases cd;rw[zn]at er;subst er;refine .inl ⟨it.stop H2 (x2.gg.trans x2.gh),k _ G2 H2 (x1.trans x2) ⟨A,accv,rfl,x1.hh.free hA,gA,hA2,ra⟩⟩
 ·rw[vG hz]at e;cases e
theorem qdr{ω:WSt}{i:Nat}{d:D}(h:Xw ω):Xw (ω.set i ↥d):=by
 intro j ds z;rcases qf z with⟨_,_,y⟩|⟨_,y⟩
 ·cases y;exact⟨d,rfl⟩
 ·exact h j ds y
def Tame(fg:FG):Prop:=∀d ω ω',Xw ω->fg d ω=some ω'->Xw ω'
def zBv(gs:List D->WSt->Option WSt):Prop:=∀ds ω ω',Xw ω->gs ds ω=some ω'->Xw ω'
theorem qU(i:Nat):Tame (gN i):=λd ω ω' h e=>by cases e;exact qdr h
theorem qca:zBv WM:=λds ω ω' h e=>by
 cases ds with
 | nil=>cases e;exact h
 | cons _ _=>cases e
theorem q67{fg:FG}{gs:List D->WSt->Option WSt}(h:Tame fg)(h':zBv gs):zBv (Y7 fg gs):=λds ω ω' n e=>by
 cases ds with
 | nil=>cases e
 | cons d r=>obtain⟨w,q,e⟩:=bnd e;exact h' _ _ _ (h _ _ _ n q) e
theorem qgl{n:Nat}{gs:List D->WSt->Option WSt}(h:zBv gs):Tame (gT n gs):=λd ω ω' no e=>by
 unfold gT at e;cases d with
 | tup ds=>
  dsimp only at e
  by_cases z:ds.length=n
  ·rw[vC z]at e;exact h _ _ _ no e
  ·rw[vG z]at e;cases e
 | _=>cases e
noncomputable def canD(K:zA)(f:FD):TE:=λσ H Q=>∃G0 H0 G ω d,Own K G0 H0 G ω σ H/\f ω=some d/\∀v G' H',Ext G H G' H'->Rep K G' d v->Q v H'
noncomputable def canT(K:zA)(f:FT):TT:=λσ H Q=>∃G0 H0 G ω b,Own K G0 H0 G ω σ H/\f ω=some b/\∀G' H',Ext G H G' H'->Q b H'
noncomputable def canG(K:zA)(f:FG):TG:=λv σ H Q=>∃G0 H0 G ω d ω',Own K G0 H0 G ω σ H/\f d ω=some ω'/\Rep K G d v/\∀σ',Own K G0 H0 G ω' σ' H->Q σ' H
theorem XD.can{X:Cx}{e:vX}{f:FD}(h:XD X e f):PE X e (canD X.K f):=λpins s σ H Q I ⟨G0,H0,G,ω,d,o,e,k⟩=>let ⟨_,h1,h2⟩:=h;h1 pins s σ H Q I (h2 G0 H0 G ω σ H d Q o e k)
theorem XTs.can{X:Cx}{e:List vX}{f:FT}(h:XTs X e f):PTs X e (canT X.K f):=λpins s σ H Q I ⟨G0,H0,G,ω,d,o,e,k⟩=>let ⟨_,h1,h2⟩:=h;h1 pins s σ H Q I (h2 G0 H0 G ω σ H d Q o e k)
theorem XG.can{X:Cx}{e:vX}{f:FG}(h:XG X e f):PG X e (canG X.K f):=λpins s σ H v u Q I r ⟨G0,H0,G,ω,d,ω',o,e,y,k⟩=>let ⟨_,h1,h2⟩:=h;h1 pins s σ H v u Q I r (h2 G0 H0 G ω σ H d v ω' Q o e y k)
theorem q8E{K:zA}{f:FD}:zBG K (canD K f) f:=λG0 H0 G ω σ H d Q o e k=>⟨G0,H0,G,ω,d,o,e,k⟩
theorem q9c{K:zA}{f:FT}:zAp K (canT K f) f:=λG0 H0 G ω σ H d Q o e k=>⟨G0,H0,G,ω,d,o,e,k⟩
theorem q8o{K:zA}{f:FG}:SimG K (canG K f) f:=λG0 H0 G ω σ H d v ω' Q o e y k=>⟨G0,H0,G,ω,d,ω',o,e,y,k⟩
theorem q0U(hc:X.calm=true)(B:BlkOk X N M frees scope)(hi:XI X tg iter fi)(ht:Tame fg)(hb:∀C s H fp,XG (Xx X N scope C s H fp) tg fg/\XTs (Xx X N scope C s H fp) ifs fc/\XD (Xx X N scope C s H fp) elt fe)(hs:∀x,v8 iter X.env x=pure x:=by intro _;rfl):XE X (.ListComp elt [⟨tg,iter,ifs,0⟩] scope pos) (Xh M frees fi fg fc fe):=by
 obtain⟨wi,h1,h2⟩:=hi;have b4:∀C s H fp,PG (Xx X N scope C s H fp) tg (canG X.K fg)/\PTs (Xx X N scope C s H fp) ifs (canT X.K fc)/\PE (Xx X N scope C s H fp) elt (canD X.K fe):=λC s H fp=>⟨(hb C s H fp).1.can,(hb C s H fp).2.1.can,(hb C s H fp).2.2.can⟩;exact⟨_,qfb hc B h1 b4 hs,q8x h2 q8o q9c q8E ht⟩
theorem q24{i:Nat}{x:Str}{pos' spos:Pos}(hc:X.calm=true)(hN:X.N.Nodup)(hi':X.N[i]?=some x)(hx:X.env.scope.names.lookup x=some .local)(B:BlkOk X N M frees scope)(hi:XI X tg iter fi)(ht:Tame fg)(hb:∀C s H fp,XG (Xx X N scope C s H fp) tg fg/\XTs (Xx X N scope C s H fp) ifs fc/\XD (Xx X N scope C s H fp) elt fe)(hsw:v7 (.ListComp elt [⟨tg,iter,ifs,0⟩] scope pos) (some (.Name x pos')) spos.line X.env=pure true:=by rfl)(hs:∀x,v8 iter X.env x=pure x:=by intro _;rfl):XS X (.Assign [.Name x pos'] (.ListComp elt [⟨tg,iter,ifs,0⟩] scope pos) spos) (XF i (Xh M frees fi fg fc fe)):=by
 obtain⟨wi,h1,h2⟩:=hi;have b4:∀C s H fp,PG (Xx X N scope C s H fp) tg (canG X.K fg)/\PTs (Xx X N scope C s H fp) ifs (canT X.K fc)/\PE (Xx X N scope C s H fp) elt (canD X.K fe):=λC s H fp=>⟨(hb C s H fp).1.can,(hb C s H fp).2.1.can,(hb C s H fp).2.2.can⟩;exact⟨_,qfn hc hN hi' hx B h1 b4 hsw hs,qam (q8x h2 q8o q9c q8E ht)⟩
def Wy(X:Cx)(scope:uw):List Str->List Nat->Prop
 | [],[]=>True
 | x::xs,j::js=>(X.N[j]?=some x/\(X.env.kindOf x=some .cell\/X.env.kindOf x=some .free)/\scope.names.lookup x=some .free)/\Wy X scope xs js
 | _,_=>False
theorem q6J{X:Cx}{scope:uw}:∀{xs:List Str}{js:List Nat},Wy X scope xs js->∀(k:Nat)(x:Str),xs[k]?=some x->∃j,js[k]?=some j/\X.N[j]?=some x/\(X.env.kindOf x=some .cell\/X.env.kindOf x=some .free)/\scope.names.lookup x=some .free
 | [],_,_,_,_,e=>by simp at e
 | _::_,[],h,_,_,_=>h.elim
 | y::ys,i::is,⟨h1,h2⟩,0,x,e=>by
  have:y=x:=by simpa using e
  subst this;exact⟨i,rfl,h1⟩
 | y::ys,i::is,⟨h1,h2⟩,k+1,x,e=>by
  obtain⟨j,q⟩:=q6J h2 k x ⇑e;exact⟨j,by simpa using q.1,q.2⟩
theorem q5r{X:Cx}{scope:uw}:∀{xs:List Str}{js:List Nat},Wy X scope xs js->xs.length=js.length
 | [],[],_=>rfl
 | [],_::_,h=>h.elim
 | _::_,[],h=>h.elim
 | _::ys,_::is,⟨_,h2⟩=>by rw[zL,zL,q5r h2]
theorem blk{X:Cx}{scope:uw}(own free:List Str)(frees:List Nat)(h1:scope.kind=.function)(h2:∀y∈scope.names,y.2≠.cell)(h3:∀y∈scope.names,y.2=.local->scope.names.lookup y.1=some .local)(h4:(scope.names.all λp=>p.2 != .free || (X.env.cells.lookup p.1).isSome)=true)(h5:Wy X scope free frees):BlkOk X (own++free) own.length frees scope:=by
 refine⟨h1,h2,h3,λp hp hf=>?_,λk x e=>?_,by rw[zC,q5r h5]⟩
 ·have:=xL.mp h4 p hp
  rw[hf]at this;simpa using this
 ·rw[zX (Nat.le_add_right _ _),ZQ]at e
  exact q6J h5 k x e
end
noncomputable def entry(n:Nat)(ds:List D):WSt:=ds.map (λd=>↥d)++zj (n-ds.length) none
noncomputable def mir(n:Nat)(body:FS)(ds:List D):Option O:=match body (entry n ds)with
 | some (.rt r,_)=>some r
 | some (.nx,_)=>some (.sh .non)
 | _=>none
theorem qaN{K:zA}{H:Hp}{N:List Str}{ds:List D}{vs:List V}(h:Yo K H ds vs)(i:Nat)(d:D)(e:(entry N.length ds)[i]?=some ↥d):∃v,(L2.start N vs)[i]?=some (some v)/\Rep K H d v:=by
 unfold entry at e;unfold L2.start;have hl:=h.len;rcases zw i ds.length with y|y
 ·rw[ze ⇑y,zY]at e
  have e1:ds[i]?=some d:=by
   cases q:ds[i]? with
   | none=>rw[q]at e;cases e
   | some d'=>rw[q]at e;cases e;rfl
  obtain⟨v,q1,q2⟩:=h.get e1;refine⟨v,?_,q2⟩;rw[ze ⇑((∅:i<vs.length)),zY,q1];rfl
 ·rw[zX ⇑y,yr]at e
  split at e <;> cases e
theorem q1W{n:Nat}{ds:List D}:Xw (entry n ds):=by
 intro i es z;unfold entry at z;rcases zw i ds.length with y|y
 ·rw[ze ⇑y,zY]at z
  cases q:ds[i]? with
  | none=>rw[q]at z;cases z
  | some d=>rw[q]at z;cases z;exact⟨d,rfl⟩
 ·rw[zX ⇑y,yr]at z
  split at z <;> cases z
theorem fnD{P:vW}{w:vZ}{K:zA}{mg:Str->Option vB}{base:vj}{x qual:Str}{st:vz}{f:vJ}{fd:vQ}{N ps:List Str}{k:Nat}{body:FS}(F:Fun K x qual st f fd)(S:FnScope N ps (Yk st))(hb:∀(cdv:vB)(A:ve)(outer:List Env)(s:vF)(H:Hp)(E:XK),Room k (A.deeper (PyProof.Rows.envOfC qual (Yk st) s.heap.objs.size f cdv))->XSs (zBg CX0 P w K mg base N qual (Yk st) f cdv A outer s H E).nox (Xd st) body):
  FnOk P w K mg base CX0 (k+1) f fd ps (spD K ps.length (mir N.length body)):=by
 refine F.ok S (λvs H Q E h=>?_) (λcdv A outer s H vs Q E hr h=>?_)
 ·obtain⟨G,ds,r,_,h2,_,h4,_⟩:=h
  rw[<- h4.len];exact h2
 ·obtain⟨G,ds,r,h1,h2,h3,h4,h5⟩:=h
  obtain⟨t,p1,p2⟩:=hb cdv A outer s H E hr;refine⟨t,p1,?_⟩;unfold mir at h1;have hl:=h4.len;have hpl:ps.length<=N.length:=by have:=v9 xj S.pre;rw[zf]at this;omega
  have o0:Own K G (fr H) G (entry N.length ds) (L2.start N vs) H:=by
   refine⟨Ext.refl h3,?_,λi d e=>qaN h4 i d e,λi es e=>vP e (q1W.ow i es),λi j es fs l e=>vP e (q1W.ow i es),λi ks es e=>vP e (q1W.od i ks es),Xi.no q1W.pw⟩;unfold entry L2.start;simp only[zC,zB,yO];omega
  cases q:body (entry N.length ds)with
  | none=>rw[q]at h1;cases h1
  | some p=>
   obtain⟨out,ω'⟩:=p;rw[q]at h1;refine p2 G (fr H) G _ _ H out ω' _ o0 q λG' σ' H' o' s'=>?_;cases out with
   | nx=>cases h1;exact h5 _ G' H' o'.ext rfl
   | bk=>cases h1
   | ct=>cases h1
   | rt r'=>cases h1;exact λv y=>h5 v G' H' o'.ext y
theorem qG:vm "len" = some (.builtin "len"):=⋯
theorem q8D:vm "all" = some (.builtin "all"):=⋯
theorem qgi:vm "abs" = some (.builtin "abs"):=⋯
theorem q1L:vm "sorted" = some (.builtin "sorted"):=⋯
theorem qcl:vm "int" = some (.type "int"):=⋯
theorem qaD:vm "bool" = some (.type "bool"):=⋯
theorem qfX:vm "str" = some (.type "str"):=⋯
theorem q0X:vm "list" = some (.type "list"):=⋯
theorem q3C:vm "tuple" = some (.type "tuple"):=⋯
theorem qg8:vm "set" = some (.type "set"):=⋯
theorem qgS:vm "zip" = some (.type "zip"):=⋯
noncomputable def zBz(o:Option (Out×WSt))(g:FS):Option (Out×WSt):=o.bind λp=>match p.1 with
 | .nx=>g p.2
 | o=>some (o,p.2)
noncomputable def setS(i:Nat)(ω:WSt)(o:Option R):Option (Out×WSt):=o.bind λr=>(setR i r ω).map λw=>(.nx,w)
noncomputable def ifS(c:Option Bool)(f g:FS)(ω:WSt):Option (Out×WSt):=c.bind λb=>if b=true then f ω else g ω
noncomputable def retS(ω:WSt)(o:Option R):Option (Out×WSt):=o.bind λr=>match r with
 | .sh d=>some (.rt (.sh d),ω)
 | .fr ds=>some (.rt (.fr ds),ω)
 | .vw _=>none
noncomputable def retV(ω:WSt)(o:Option (Option W)):Option (Out×WSt):=match o with
 | some ↥d=>some (.rt (.sh d),ω)
 | some (some (.ow ds))=>some (.rt (.fr ds),ω)
 | _=>none
noncomputable def appS(i:Nat)(ω:WSt)(o:Option D)(l:Option (Option W)):Option (Out×WSt):=o.bind λd=>match l with
 | some (some (.ow ds))=>if ds.length<1000000 then some (.nx,ω.set i (some (.ow (ds++[d]))))else none
 | _=>none
noncomputable def extS(i:Nat)(ω:WSt)(o:Option D)(l:Option (Option W)):Option (Out×WSt):=o.bind λd=>(itemsOf d).bind λes=>match l with
 | some (some (.ow ds))=>if ds.length+es.length<=1000000 then some (.nx,ω.set i (some (.ow (ds++es))))else none
 | _=>none
noncomputable def shrS(i:Nat)(ω:WSt)(o:Option (Option W)):WSt:=match o with
 | some (some (.ow ds))=>ω.set i ↥(.lst ds)
 | some (some (.od ks ds))=>ω.set i ↥(.dic ks ds)
 | _=>ω
noncomputable def forS(o:Option (List D))(g:FG)(b:FS)(ω:WSt):Option (Out×WSt):=o.bind λds=>zAJ g b ds ω
noncomputable def asgS(o:Option D)(g:FG)(ω:WSt):Option (Out×WSt):=o.bind λd=>(g d ω).map λw=>(.nx,w)
noncomputable def zCJ(o:Option (Option W)):Option R:=match o with
 | some ↥d=>↥d
 | some (some (.ow ds))=>some (.vw ds)
 | some (some (.pw ds))=>some (.vw ds)
 | _=>none
noncomputable def eD(o:Option D):Option R:=o.map R.sh
noncomputable def dR(o:Option R):Option D:=match o with
 | ↥d=>some d
 | some (.fr ds)=>some (.lst ds)
 | _=>none
noncomputable def vR(o:Option R):Option D:=o.map R.d
noncomputable def op2(op:D->D->Option R)(x y:Option D):Option R:=x.bind λx=>y.bind λy=>op x y
noncomputable def callR(m:List D->Option O)(o:Option (List D)):Option R:=o.bind λds=>(m ds).map O.r
noncomputable def consA(o:Option D)(r:Option (List D)):Option (List D):=o.bind λd=>r.map λds=>d::ds
noncomputable def bltR(op:List D->Option R)(o:Option (List D)):Option R:=o.bind op
noncomputable def slR(o:Option D)(l h:Option (Option Int)):Option R:=o.bind λd=>l.bind λlo=>h.bind λhi=>oSl d lo hi
noncomputable def atP(o:Option D):Option (Option Int):=o.bind λd=>match d with|.int i=>some (some i)|_=>none
noncomputable def iteR(c:Option Bool)(f g:FE)(ω:WSt):Option R:=c.bind λk=>if k=true then f ω else g ω
noncomputable def isiR(c:Ty)(o:Option D):Option R:=o.bind λd=>match d with
 | .scr _=>none
 | .exc _=>none
 | .dic _ _=>none
 | d=>↥(.bl (zAr (tyD d) c))
noncomputable def tR(o:Option R):Option Bool:=match o with
 | ↥(.bl k)=>some k
 | _=>none
noncomputable def andT(o:Option Bool)(g:FT)(ω:WSt):Option Bool:=o.bind λc=>if c=true then g ω else some false
noncomputable def orT(o:Option Bool)(g:FT)(ω:WSt):Option Bool:=o.bind λc=>if c=true then some true else g ω
noncomputable def notT(o:Option Bool):Option Bool:=o.map (!·)
noncomputable def truT(o:Option D):Option Bool:=o.bind truD
noncomputable def andV(o:Option D)(g:FD)(ω:WSt):Option D:=o.bind λd=>(blOf d).bind λc=>if c=true then g ω else some (.bl false)
noncomputable def orV(o:Option D)(g:FD)(ω:WSt):Option D:=o.bind λd=>(blOf d).bind λc=>if c=true then some (.bl true)else g ω
noncomputable def seqI(o:Option D):Option (List D):=o.bind itemsOf
noncomputable def rg1I(o:Option (List D)):Option (List D):=o.bind λds=>match ds with
 | [.int j]=>if -(2^62)<=j/\j<2^62 then some (upTo 0 j.toNat)else none
 | _=>none
noncomputable def compR(M:Nat)(fr:List Nat)(o:Option (List D))(g:FG)(c:FT)(f:FD)(ω:WSt):Option R:=o.bind λds=>if ds.length<=1000000 then (Xc g c f ds (inW M fr ω)).map R.fr else none
noncomputable def outM(o:Option (Out×WSt)):Option O:=match o with
 | some (.rt r,_)=>some r
 | some (.nx,_)=>some (.sh .non)
 | _=>none
section
variable{f g:FS}{ω w:WSt}{i:Nat}{fe fe':FE}{fd fd':FD}{ft ft':FT}{r:O}{d d':D}{ds ds':List D}{a b:Int}{p q:Bool}{fa:FA}{fg:FG}{fi:FI}{n:Nat}
theorem q6s:mir n f ds=outM (f (entry n ds)):=rfl
theorem q3e:outM (some (.rt r,w))=some r:=rfl
theorem q2L:outM (some (.nx,w))=some (.sh .non):=rfl
theorem q03:Yx f g ω=zBz (f ω) g:=rfl
theorem q33:zBz (some (.nx,w)) g=g w:=rfl
theorem q2V:zBz (some (.rt r,w)) g=some (.rt r,w):=rfl
theorem q6f:Xq ω=some (.nx,ω):=rfl
theorem q6c:XF i fe ω=setS i ω (fe ω):=rfl
theorem q34:setS i ω ↥d=some (.nx,ω.set i ↥d):=rfl
theorem q2Q:setS i ω (some (.fr ds))=some (.nx,ω.set i (some (.ow ds))):=rfl
theorem e_if:sIf ft f g ω=ifS (ft ω) f g ω:=rfl
theorem q4z:ifS (some true) f g ω=f ω:=rfl
theorem q42:ifS (some false) f g ω=g ω:=rfl
theorem q6r:Y8 fe ω=retS ω (fe ω):=rfl
theorem q3a:retS ω ↥d=some (.rt (.sh d),ω):=rfl
theorem q3q:retS ω (some (.fr ds))=some (.rt (.fr ds),ω):=rfl
theorem q4K:zAT i ω=retV ω ω[i]?:=rfl
theorem q2J:retV ω (some (some (.ow ds)))=some (.rt (.fr ds),ω):=rfl
theorem q6h:zBq i fd ω=appS i ω (fd ω) ω[i]?:=rfl
theorem zAz(h:ds.length<1000000):appS i ω (some d) (some (some (.ow ds)))=some (.nx,ω.set i (some (.ow (ds++[d])))):=vC h
theorem q6U:sExt i fd ω=extS i ω (fd ω) ω[i]?:=rfl
theorem q2W(h:ds.length+ds'.length<=1000000):extS i ω (some (.tup ds')) (some (some (.ow ds)))=some (.nx,ω.set i (some (.ow (ds++ds')))):=vC h
theorem q2e(h:ds.length+ds'.length<=1000000):extS i ω (some (.lst ds')) (some (some (.ow ds)))=some (.nx,ω.set i (some (.ow (ds++ds')))):=vC h
theorem q38:Xe i f ω=f (shrS i ω ω[i]?):=rfl
theorem q2R:shrS i ω (some (some (.ow ds)))=ω.set i ↥(.lst ds):=rfl
theorem q6K:W9 fi fg f ω=forS (fi ω) fg f ω:=rfl
theorem e_fs:forS (some ds) fg f ω=zAJ fg f ds ω:=rfl
theorem q68:sAsg fd fg ω=asgS (fd ω) fg ω:=rfl
theorem e_ag:asgS (some d) fg ω=(fg d ω).map λw=>(.nx,w):=rfl
theorem e_gn:gN i d ω=some (ω.set i ↥d):=rfl
theorem e_gt{gs}:gT n gs (.tup ds) ω=if ds.length=n then gs ds ω else none:=rfl
theorem e_gc{gs}:Y7 fg gs (d::ds) ω=(fg d ω).bind λw=>gs ds w:=rfl
theorem e_g0:WM [] ω=some ω:=rfl
theorem q6a:Yi i ω=zCJ ω[i]?:=rfl
theorem q3r:zCJ (some ↥d)=↥d:=rfl
theorem q3g:zCJ (some (some (.ow ds)))=some (.vw ds):=rfl
theorem e_c:fC d ω=some d:=rfl
theorem e_e:eOf fd ω=eD (fd ω):=rfl
theorem e_ed:eD (some d)=↥d:=rfl
theorem e_d:dOf fe ω=dR (fe ω):=rfl
theorem q36:dR ↥d=some d:=rfl
theorem q39:dR (some (.fr ds))=some (.lst ds):=rfl
theorem e_v:vOf fe ω=vR (fe ω):=rfl
theorem q3t:vR ↥d=some d:=rfl
theorem q3l:vR (some (.fr ds))=some (.lst ds):=rfl
theorem q37:vR (some (.vw ds))=some (.lst ds):=rfl
theorem e_op{op}:Yn op fd fd' ω=op2 op (fd ω) (fd' ω):=rfl
theorem e_o2{op}:op2 op (some d) (some d')=op d d':=rfl
theorem q4S{m}:Yr m fa ω=callR m (fa ω):=rfl
theorem e_cl{m}:callR m (some ds)=(m ds).map O.r:=rfl
theorem q3b:(O.sh d).r=.sh d:=rfl
theorem q2Y:(O.fr ds).r=.fr ds:=rfl
theorem e_ac:Yg fd fa ω=consA (fd ω) (fa ω):=rfl
theorem e_ca:consA (some d) (some ds)=some (d::ds):=rfl
theorem e_an:Yq ω=some []:=rfl
theorem q6n:zAV fa ω=(fa ω).map R.fr:=rfl
theorem q6H:W2 fa ω=(fa ω).map D.tup:=rfl
theorem q6M{op}:Xj op fa ω=bltR op (fa ω):=rfl
theorem e_bl{op}:bltR op (some ds)=op ds:=rfl
theorem q6b{l h:FO}:fSl fd l h ω=slR (fd ω) (l ω) (h ω):=rfl
theorem e_sl{lo hi:Option Int}:slR (some d) (some lo) (some hi)=oSl d lo hi:=rfl
theorem e_po:pNo ω=some none:=rfl
theorem e_pa:pAt fd ω=atP (fd ω):=rfl
theorem e_ap:atP (some (.int a))=some (some a):=rfl
theorem q6I:fIte ft fe fe' ω=iteR (ft ω) fe fe' ω:=rfl
theorem q4f:iteR (some true) fe fe' ω=fe ω:=rfl
theorem q4g:iteR (some false) fe fe' ω=fe' ω:=rfl
theorem q6Q{c}:zAm c fd ω=isiR c (fd ω):=rfl
theorem q1F{c x}:isiR c (some (.str x))=↥(.bl (zAr .str c)):=rfl
theorem q1E{c}:isiR c (some (.lst ds))=↥(.bl (zAr .lst c)):=rfl
theorem q1H{c}:isiR c (some (.tup ds))=↥(.bl (zAr .tup c)):=rfl
theorem e_t:tOf fe ω=tR (fe ω):=rfl
theorem e_tr:tR ↥(.bl p)=some p:=rfl
theorem q4J:zBR ft ft' ω=andT (ft ω) ft' ω:=rfl
theorem e_ta:andT (some p) ft ω=if p=true then ft ω else some false:=rfl
theorem q6P:(if p=true then some q else some false)=some (p&&q):=by cases p <;> rfl
theorem q6p:W7 ft ft' ω=orT (ft ω) ft' ω:=rfl
theorem e_to:orT (some p) ft ω=if p=true then some true else ft ω:=rfl
theorem q6V:(if p=true then some true else some q)=some (p || q):=by cases p <;> rfl
theorem q4G:XZ ft ω=notT (ft ω):=rfl
theorem e_tn:notT (some p)=some (!p):=rfl
theorem q4d:WY fd ω=truT (fd ω):=rfl
theorem q3h:truT (some (.bl p))=some p:=rfl
theorem q2c:truT (some (.lst ds))=some (!ds.isEmpty):=rfl
theorem q4y:zAB fd fd' ω=andV (fd ω) fd' ω:=rfl
theorem e_va:andV (some (.bl p)) fd ω=if p=true then fd ω else some (.bl false):=rfl
theorem q6o:(if p=true then some (D.bl q)else some (D.bl false))=some (.bl (p&&q)):=by cases p <;> rfl
theorem q6E:vOr fd fd' ω=orV (fd ω) fd' ω:=rfl
theorem e_vo:orV (some (.bl p)) fd ω=if p=true then some (.bl true)else fd ω:=rfl
theorem q4U:WI fd ω=seqI (fd ω):=rfl
theorem q4T:seqI (some (.lst ds))=some ds:=rfl
theorem q4m:seqI (some (.tup ds))=some ds:=rfl
theorem q64:iRg1 fa ω=rg1I (fa ω):=rfl
theorem qef(h:-(2^62)<=a/\a<2^62):rg1I (some [.int a])=some (upTo 0 a.toNat):=vC h
theorem q4A{M fr}:Xh M fr fi fg ft fd ω=compR M fr (fi ω) fg ft fd ω:=rfl
theorem zAF{M fr}(h:ds.length<=1000000):compR M fr (some ds) fg ft fd ω=(Xc fg ft fd ds (inW M fr ω)).map R.fr:=vC h
theorem q6w:fNeg fd ω=(fd ω).bind oNeg:=rfl
theorem e_ng:oNeg (.int a)=↥(.int (-a)):=rfl
theorem q2K:WN [.lst ds]=↥(.int ds.length):=rfl
theorem q2T:WN [.tup ds]=↥(.int ds.length):=rfl
theorem q3c{ns}:WN [.scr ns]=↥(.int ns.length):=rfl
theorem q2i:zAu [.lst ds]=some (.fr ds):=rfl
theorem q4Y:oEq false (.int a) (.int b)=↥(.bl (a==b)):=rfl
theorem q4u:oEq true (.int a) (.int b)=↥(.bl (!(a==b))):=rfl
theorem q2Z:zBt (.int a) (.int b)=↥(.int (a-b)):=rfl
theorem q45:oLt (.int a) (.int b)=↥(.bl (decide (a<b))):=rfl
theorem q4I:oLe (.int a) (.int b)=↥(.bl (decide (a<=b))):=rfl
theorem q4Z:oGt (.int a) (.int b)=↥(.bl (decide (b<a))):=rfl
theorem q49:oGe (.int a) (.int b)=↥(.bl (decide (b<=a))):=rfl
theorem q2P:WB (.int a) (.int b)=↥(.int (a+b)):=rfl
theorem q47:oIs false (.bl p) (.bl q)=↥(.bl (p==q)):=rfl
theorem q6B:oIx (.lst ds) (.int a)=(atI ds a).map R.sh:=rfl
theorem q72:oIx (.tup ds) (.int a)=(atI ds a).map R.sh:=rfl
theorem q6O{ns:List Int}:oIx (.scr ns) (.int a)=(atI ns a).map λn=>.sh (.int n):=rfl
theorem q0I{α:Type}{xs:List α}{i:Int}(h0:0<=i)(h1:i<xs.length):atI xs i=some (xs[i.toNat]'∅):=by
 unfold atI ixN;rw[vC h0,vC h1];show xs[i.toNat]?=_;rw[zD ∅]
theorem at0{α:Type}{x:α}{xs:List α}:atI (x::xs) 0=some x:=by
 rw[q0I (by decide) (by rw[zL];omega)];rfl
theorem at1{α:Type}{x y:α}{xs:List α}:atI (x::y::xs) 1=some y:=by
 rw[q0I (by decide) (by rw[zL,zL];omega)];rfl
theorem at2{α:Type}{x y z:α}{xs:List α}:atI (x::y::z::xs) 2=some z:=by
 rw[q0I (by decide) (by rw[zL,zL,zL];omega)];rfl
theorem qeX{i j:Int}(h0:0<j)(h1:j<1073741824):cDiv i j=true:=by unfold cDiv;rw[vU h0,vU h1];rfl
theorem qfx{i j:Int}(h0:0<j):cMod i j=true:=by unfold cMod;rw[vU h0]
theorem qdp{i j:Int}(h0:-(2^64)<j)(h1:j<2^64):zCM i j=true:=by unfold zCM;rw[vU h0,vU h1];simp
theorem qe6{i j:Int}(h0:-(2^64)<i)(h1:i<2^64):zCM i j=true:=by unfold zCM;rw[vU h0,vU h1];simp
theorem q0d(h:0<b):oMod (.int a) (.int b)=↥(.int (a%b)):=vC (qfx h)
theorem q0Y(h:0<b)(h':b<1073741824):oDiv (.int a) (.int b)=↥(.int (a/b)):=vC (qeX h h')
theorem q9p(h:-(2^64)<b)(h':b<2^64):zA6 (.int a) (.int b)=↥(.int (a*b)):=vC (qdp h h')
theorem q95(h:-(2^64)<a)(h':a<2^64):zA6 (.int a) (.int b)=↥(.int (a*b)):=vC (qe6 h h')
end
def zA8(o:Option (Out×WSt))(P:WSt->Prop):Prop:=match o with
 | some (.nx,ω)=>P ω
 | some (.ct,ω)=>P ω
 | _=>False
theorem q32{ω:WSt}{P:WSt->Prop}:zA8 (some (.nx,ω)) P=P ω:=rfl
theorem qdi{g:FG}{b:FS}(ds:List D)(I:List D->WSt->Prop)(turn:∀pre d post ω,ds=pre++d::post->I pre ω->∃w,g d ω=some w/\zA8 (b w) (I (pre++[d]))){ω:WSt}(h0:I [] ω):∃ω',zAJ g b ds ω=some (.nx,ω')/\I ds ω':=by
 have key:∀(post pre:List D)(ω:WSt),ds=pre++post->I pre ω->∃ω',zAJ g b post ω=some (.nx,ω')/\I ds ω':=by
  intro post
  induction post with
  | nil=>intro pre ω e h;exact⟨ω,rfl,by rw[e,zn];exact h⟩
  | cons d post ih=>
   intro pre ω e h;obtain⟨w,h1,h2⟩:=turn pre d post ω e h;rw[zAJ,h1,yA]
   match hb:b w,h2 with
   | some (.nx,ω2),h2=>exact ih (pre++[d]) ω2 (by rw[e,zJ];rfl) h2
   | some (.ct,ω2),h2=>exact ih (pre++[d]) ω2 (by rw[e,zJ];rfl) h2
 exact key ds [] ω rfl h0
theorem qS{α:Type}{g:FG}{b:FS}(F:α->D)(xs:List α)(I:List α->WSt->Prop)(turn:∀pre x post ω,xs=pre++x::post->I pre ω->∃w,g (F x) ω=some w/\zA8 (b w) (I (pre++[x]))){ω:WSt}(h0:I [] ω):∃ω',zAJ g b (xs.map F) ω=some (.nx,ω')/\I xs ω':=by
 have key:∀(post pre:List α)(ω:WSt),xs=pre++post->I pre ω->∃ω',zAJ g b (post.map F) ω=some (.nx,ω')/\I xs ω':=by
  intro post
  induction post with
  | nil=>intro pre ω e h;exact⟨ω,rfl,by rw[e,zn];exact h⟩
  | cons d post ih=>
   intro pre ω e h;obtain⟨w,h1,h2⟩:=turn pre d post ω e h;rw[zc,zAJ,h1,yA]
   match hb:b w,h2 with
   | some (.nx,ω2),h2=>exact ih (pre++[d]) ω2 (by rw[e,zJ];rfl) h2
   | some (.ct,ω2),h2=>exact ih (pre++[d]) ω2 (by rw[e,zJ];rfl) h2
 exact key xs [] ω rfl h0
theorem q2t{g:FG}{c:FT}{f:FD}(P:WSt->Prop)(q:D->Bool)(F:D->D):∀(ds:List D){ω:WSt},P ω ->
  (∀d∈ds,∀ω,P ω->∃w,g d ω=some w/\P w/\c w=some (q d)/\(q d=true->f w=some (F d)))->Xc g c f ds ω=some ((ds.filter q).map F)
 | [],_,_,_=>rfl
 | d::ds,ω,h,t=>by
  obtain⟨w,h1,h2,h3,h4⟩:=t d zG ω h;have ih:=q2t P q F ds h2 (λe he=>t e (zH _ he));rw[Xc,h1,yA,h3,yA];cases hq:q d with
  | true=>rw[vC rfl,h4 hq,yA,ih,ZS hq];rfl
  | false=>rw[vG (by decide),ih,ZT (by rw[hq];decide)]
theorem q4c{i:Nat}{f:FD}(F:D->D)(ds:List D){ω:WSt}(h:∀d∈ds,f (ω.set i ↥d)=some (F d)):Xc (gN i) Xk f ds ω=some (ds.map F):=by
 have:=q2t (g:=gN i) (c:=Xk) (f:=f) (λw=>∀x,w.set i x=ω.set i x) (λ_=>true) F ds (ω:=ω) (λx=>rfl) λd hd w hw=>
  ⟨w.set i ↥d,rfl,λx=>by rw[Z9,hw],rfl,λ_=>by rw[hw];exact h d hd⟩
 rw[this,wq.mpr (λ_ _=>rfl)]
theorem q7N{i:Nat}{c:FT}{f:FD}(q:D->Bool)(F:D->D)(ds:List D){ω:WSt}(h:∀d∈ds,c (ω.set i ↥d)=some (q d)/\(q d=true->f (ω.set i ↥d)=some (F d))):Xc (gN i) c f ds ω=some ((ds.filter q).map F) :=
 q2t (g:=gN i) (c:=c) (f:=f) (λw=>∀x,w.set i x=ω.set i x) q F ds (ω:=ω) (λx=>rfl) λd hd w hw=>
  ⟨w.set i ↥d,rfl,λx=>by rw[Z9,hw],by rw[hw];exact(h d hd).1,λz=>by rw[hw];exact(h d hd).2 z⟩
theorem qd4{lo:Int}{n:Nat}{d:D}(h:d∈upTo lo n):∃i:Nat,i<n/\d=.int (lo+i):=by
 unfold upTo at h;obtain⟨i,h1,h2⟩:=yB.mp h;exact⟨i,yK.mp h1,h2.symm⟩
theorem q8q{lo:Int}{n:Nat}:(upTo lo n).length=n:=by unfold upTo;rw[zB,zo]
noncomputable def onI(F:Int->Int):D->D
 | .int k=>.int (F k)
 | d=>d
theorem qdf{lo:Int}{n:Nat}(F:Int->Int):(Hk.upTo lo n).map (onI F)=((zb n).map λ(i:Nat)=>F (lo+(i:Int))).map D.int:=by
 unfold upTo;rw[yb,yb];rfl
theorem qeo{ds:List D}{lo hi:Option Int}:oSl (.lst ds) lo hi=some (.fr (cutD ds lo hi)):=rfl
theorem q23{xs ys:List D}(h:xs.length+ys.length<=1000000):WB (.lst xs) (.lst ys)=some (.fr (xs++ys)):=vC h
theorem q8L(a:Int):∀(ns:List Int),inD (.int a) (ns.map D.int)=decide (a∈ns)
 | []=>rfl
 | n::r=>by
  have ih:=q8L a r;unfold inD inV at ih ⊢;rw[zc,zc,wA,ih];have e:eqV (D.int n).v (D.int a).v=decide (a=n):=by
   show (n==a)=_
   by_cases h:a=n
   ·subst h;simp
   ·rw[vS h];simpa using λz=>h z.symm
  rw[e]
  by_cases h:a=n
  ·simp[h]
  ·by_cases h':a∈r <;> simp[h,h']
theorem qdd(ns:List Int):(ns.map D.int).all WC=true:=by
 rw[Z8];exact xL.mpr λ_ _=>rfl
theorem qeP{a:Int}{ns:List Int}:oIn true (.int a) (.lst (ns.map D.int))=↥(.bl (!decide (a∈ns))):=by
 show (if (WC (.int a)&&(ns.map D.int).all WC)=true then _ else _)=_;rw[qdd];show some (R.sh (D.bl (!inD _ _)))=_;rw[q8L]
theorem q9h{ns:List Int}{i:Nat}(h:i<ns.length):atI (ns.map D.int) (i:Int)=some (.int ns[i]):=by
 rw[q0I ∅ (by rw[zB];omega)];simp
theorem q8C{d:D}(h:shp d=true):eqD d d=true:=SeqAt.eqv_refl d.py (SeqAt.canLay_of_shaped h)
theorem q3v{d:D}(h:shp d=true):oEq false d d=↥(.bl true):=by
 unfold oEq;rw[h];show some (R.sh (D.bl (eqD d d)))=_;rw[q8C h]
theorem q5Q{d:D}(h:shp d=true):oEq true d d=↥(.bl false):=by
 unfold oEq;rw[h];show some (R.sh (D.bl (!eqD d d)))=_;rw[q8C h];rfl
theorem qay{ds:List D}(n:Nat)(hn:n<64)(h:∀d∈ds,d.py.canLay0=true/\d.py.depth<=n):shp (.lst ds)=true:=by
 unfold shp SeqAt.shaped;have:∀ds:List D,(∀d∈ds,d.py.canLay0=true/\d.py.depth<=n)->PyData.canLayAll0 (D.pys ds)=true/\PyData.depthAll (D.pys ds)<=n:=by
  intro ds
  induction ds with
  | nil=>intro _;exact⟨rfl,zy _⟩
  | cons d ds ih=>
   intro h;obtain⟨a,b⟩:=ih λe he=>h e (zH _ he);obtain⟨a',b'⟩:=h d zG;refine⟨?_,?_⟩
   ·rw[D.pys,PyData.canLayAll0,a,a'];rfl
   ·rw[D.pys,PyData.depthAll];exact Nat.max_le.mpr ⟨b',b⟩
 obtain⟨a,b⟩:=this ds h;show (PyData.canLayAll0 (D.pys ds)&&decide (PyData.depthAll (D.pys ds)+1<=64))=true;rw[a,vU ∅];rfl
noncomputable def zBi(x:Int):List Int->List Int
 | []=>[x]
 | y::r=>if x<y then x::y::r else if x=y then y::r else y::zBi x r
noncomputable def Y5(ns:List Int):List Int:=ns.foldr zBi []
theorem q5W{x y:Int}:∀{l:List Int},y∈zBi x l↔y=x\/y∈l
 | []=>by simp[zBi]
 | z::r=>by
  unfold zBi
  split
  ·simp
  ·split
   ·rename_i h;subst h;simp
   ·simp only[zF,q5W (l:=r)]
    constructor
    ·rintro(h|h|h) <;> simp[h]
    ·rintro(h|h|h) <;> simp[h]
theorem q85{x:Int}:∀{l:List Int},l.Pairwise (· < ·)->(zBi x l).Pairwise (· < ·)
 | [],_=>by simp[zBi]
 | z::r,h=>by
  obtain⟨h1,h2⟩:=zd.mp h;unfold zBi
  split
  ·rename_i hx
   refine zd.mpr ⟨λy hy=>?_,h⟩;rcases zF.mp hy with rfl|hy
   ·exact hx
   ·exact Int.lt_trans hx (h1 y hy)
  ·split
   ·exact h
   ·refine zd.mpr ⟨λy hy=>?_,q85 h2⟩
    rcases q5W.mp hy with rfl|hy
    ·omega
    ·exact h1 y hy
theorem q1J{y:Int}:∀{ns:List Int},y∈Y5 ns↔y∈ns
 | []=>by simp[Y5]
 | x::r=>by
  show y∈zBi x (Y5 r)↔_;rw[q5W,q1J (ns:=r),zF]
theorem q0A:∀{ns:List Int},(Y5 ns).Pairwise (· < ·)
 | []=>xF
 | x::r=>q85 (q0A (ns:=r))
theorem qax:∀{l m:List Int},l.Pairwise (· < ·)->m.Pairwise (· < ·)->(∀x,x∈l↔x∈m)->l=m
 | [],[],_,_,_=>rfl
 | [],y::r,_,_,h=>vP ((h y).mpr zG) (by simp)
 | x::r,[],_,_,h=>vP ((h x).mp zG) (by simp)
 | x::r,y::q,hl,hm,h=>by
  obtain⟨a1,a2⟩:=zd.mp hl;obtain⟨b1,b2⟩:=zd.mp hm;have e:x=y:=by
   rcases zF.mp ((h x).mp zG)with e|e
   ·exact e
   ·rcases zF.mp ((h y).mpr zG)with f|f
    ·exact f.symm
    ·have:=b1 x e;have:=a1 y f;omega
  subst e;rw[qax a2 b2 λz=>?_]
  constructor
  ·intro hz
   rcases zF.mp ((h z).mp (zH _ hz))with f|f
   ·have:=a1 z hz;omega
   ·exact f
  ·intro hz
   rcases zF.mp ((h z).mpr (zH _ hz))with f|f
   ·have:=b1 z hz;omega
   ·exact f
theorem q9P{l:List Int}(h:l.Pairwise (· <= ·))(n:l.Nodup):l.Pairwise (· < ·):=by
 induction l with
 | nil=>exact xF
 | cons x r ih=>
  obtain⟨h1,h2⟩:=zd.mp h;obtain⟨n1,n2⟩:=yN.mp n;refine zd.mpr ⟨λy hy=>?_,ih h2 n2⟩;have:=h1 y hy;have:x≠y:=λe=>n1 (e▸hy);omega
def setP(w:vZ)(S:vJ)(ns:List Int):vj->Prop:=λh=>zBm h S (XX w) (λi=>ns.getD i 0) ns.length
def rSet(w:vZ):List V->Hp->VK->Prop:=λxs H Q=>∃p ns,xs=[.ref p]/\H p=some (.lst (ns.map V.int))/\ns.length+1<4096/\∀S,H S=none->Q (.ref S) (upd H S (.ext (setP w S ns)))
def fewS(ns:List Int):Prop:=(Y5 ns).length<64/\ns.length<4000
noncomputable instance (ns:List Int):Decidable (fewS ns):=inferInstanceAs (Decidable (_/\_))
def rSortS(w:vZ):List V->Hp->VK->Prop:=λxs H Q=>∃S ns,xs=[.ref S]/\H S=some (.ext (setP w S ns))/\fewS ns/\∀l,H l=none->Q (.ref l) (upd H l (.lst ((Y5 ns).map V.int)))
section
variable{X:Cx}
theorem qbN{pins:List (vJ×Obj)}{σ:St}{H:Hp}{s:vF}(I:L2.Inv X pins σ H s)(d:sN):L2.Inv X pins σ H { s with drawn:=d } :=
 ⟨I.ok,I.os,I.bare,I.base,I.loc,I.cell,I.free,I.freeC,I.pin,I.hok,I.len⟩
theorem qdw(hc:X.calm=true):X3 X (.type "set") (rSet X.w):=by
 intro pins s σ H xs us Q I r h;obtain⟨p,ns,rfl,hp,hz,q⟩:=h;obtain⟨u,rfl,rx⟩:=vals1 r;cases rx;obtain⟨its,n,rv,e,_⟩:=I.lst hp;have ia:=q3U rv;have hlen:its.length=ns.length:=by rw[<- rv.length,zB]
 refine q9C (items:=its.toArray) (ns:=ns) (I.ok.hd hc) ⟨_,e,rfl,n,rfl⟩ ⇑ia (by rw[zP,hlen];exact hz) λh' tk sv kp=>?_;have hsz:its.toArray.size=ns.length:=by rw[zP,hlen]
 rw[hsz]at sv;refine⟨.ref s.heap.objs.size,_,I.laid (t':=tk) (λb o e=>kp b o (zO e) e) (zK _) (show Y2 X.prog X.w _ h' _ (.ext (setP X.w s.heap.objs.size ns))from ⟨sv,?_,λh1 h2 a1 a2=>a1.at a2⟩),rfl,q _ (I.hok.fresh (zK _))⟩;obtain⟨_,⟨o,_,_,_,e,_⟩,_⟩:=sv;exact⟨o,e⟩
theorem qbo(hc:X.calm=true):X3 X (.builtin "sorted") (rSortS X.w):=by
 intro pins s σ H xs us Q I r h;obtain⟨S,ns,rfl,hp,hz,q⟩:=h;obtain⟨u,rfl,rx⟩:=vals1 r;cases rx;obtain⟨⟨zs,SI,hl,hm⟩,_⟩:=I.hok S _ hp;obtain⟨o,es,ep,t,go,gx,gd,T,gl,gb,gg,gv,gn⟩:=id SI;have mz:∀x,x∈zs↔x∈Y5 ns:=λx=>by
  rw[hm,q1J]
  constructor
  ·rintro⟨i,hi,rfl⟩
   dsimp only
   rw[zT,zD hi];exact yW hi
  ·intro hx
   obtain⟨i,hi,e⟩:=zg.mp hx;exact⟨i,hi,by dsimp only;rw[zT,zD hi];exact e⟩
 have zl:=((w8 gn ((q0A (ns:=ns)).imp λh=>∅)).mpr mz).length_eq;refine qbp (I.ok.hd hc) SI (by rw[zl];exact hz.1) λD h' tk d vs ys n kp hD hg ia pm pw=>?_;have ey:ys=Y5 ns:=qax (q9P pw (pm.nodup_iff.mpr gn)) q0A λx=>by rw[pm.mem_iff,mz]
 subst ey;have hvl:vs.length=(Y5 ns).length:=PyProof.Rows.IntsAre.length ia;have hsl:(Y5 ns).length<=sizeLine:=by
  have:=pm.length_eq;exact yJ (show (Y5 ns).length<=64 from yU hz.1) (by decide)
 have I2:=qbN (I.laid (a:=D) (o:=.lst ((Y5 ns).map V.int)) (t':=tk) kp hD (show Y2 X.prog X.w _ h' _ (.lst _)from ⟨by rw[zB];exact hsl,vs,n,q0W ia,hg⟩)) d;exact⟨.ref D,_,I2,rfl,q _ (I.hok.fresh hD)⟩
noncomputable def intsOf:List D->Option (List Int)
 | []=>some []
 | .int i::r=>(intsOf r).map λl=>i::l
 | _=>none
theorem q0y:∀{ds:List D}{ns:List Int},intsOf ds=some ns->ds=ns.map D.int
 | [],_,e=>by cases e;rfl
 | .int c::r,b,e=>by
  obtain⟨k,q,e⟩:=mpd e;subst e;rw[q0y q];rfl
 | .non::_,_,e=>by cases e
 | .bl _::_,_,e=>by cases e
 | .str _::_,_,e=>by cases e
 | .lst _::_,_,e=>by cases e
 | .tup _::_,_,e=>by cases e
 | .scr _::_,_,e=>by cases e
 | .exc _::_,_,e=>by cases e
 | .dic _ _::_,_,e=>by cases e
theorem q0h:∀(ns:List Int),intsOf (ns.map D.int)=some ns
 | []=>rfl
 | n::r=>by show (intsOf (r.map D.int)).map _=_;rw[q0h r];rfl
noncomputable def zAf:D->Option R
 | .lst ds=>(intsOf ds).bind λns=>if fewS ns then some (.fr ((Y5 ns).map D.int))else none
 | _=>none
noncomputable def Wo(f:FD):FE:=λω=>(f ω).bind zAf
theorem qbc{a:vX}{f:FD}{p1 p2 q1 q2:Pos}(hg1:Gl X "sorted")(hm1:X.mg "sorted" = none)(hg2:Gl X "set")(hm2:X.mg "set" = none)(ha:XV X a f)(hc:X.calm=true:=by rfl)(he1:vK [a] X.env=(false,eval a X.env)::vK [] X.env:=by rfl)(hpl1:(vk q2 (vK [] X.env)).any (·.1)=false:=by rfl)(he2:vK [.Call (.Name "set" p2) [a] [] q2] X.env=(false,eval (.Call (.Name "set" p2) [a] [] q2) X.env)::vK [] X.env:=by rfl)(hpl2:(vk q1 (vK [] X.env)).any (·.1)=false:=by rfl):
  XE X (.Call (.Name "sorted" p1) [.Call (.Name "set" p2) [a] [] q2] [] q1) (Wo f):=by
 obtain⟨t,h1,h2⟩:=ha;refine⟨_,q1x (qbo hc) hg1 hm1 q1L (qt (q7G (qdw hc) hg2 hm2 qg8 (qt h1 qr he1) (by decide) (by decide) he1 hpl1) qr he2) (by decide) (by decide) he2 hpl2,λG0 H0 G ω σ H r Q o e k=>?_⟩;obtain⟨d,q,e⟩:=bnd e;refine h2 G0 H0 G ω σ H d _ o q λv G1 H1 x1 y1=>?_;cases d with
 | lst ds=>
  obtain⟨ns,e1,e2⟩:=bnd (show (intsOf ds).bind _=some r from e);have hds:=q0y e1;subst hds
  by_cases hz:fewS ns
  ·rw[vC hz]at e2
   cases e2;obtain⟨p,vs,rfl,g1,g2⟩:=y1.lst x1.gh;have hv:=g2.of_ints;subst hv;refine⟨p,ns,rfl,g1,by have:=hz.2;omega,λS hS=>?_⟩;refine⟨S,ns,rfl,qe,hz,λl hl=>?_⟩;have x2:=Ext.hide x1.gh hS (.ext (setP X.w S ns));have x3:=Ext.hide x2.gh hl (.lst ((Y5 ns).map V.int));exact k _ G1 _ ((x1.trans x2).trans x3) ⟨l,_,rfl,(x1.trans x2).hh.free hl,x2.gh.free hl,qe,Yo.ints _⟩
  ·rw[vG hz]at e2;cases e2
 | _=>cases e
end
end Hk
namespace PySem.F
theorem noLenZip:ux (.type "zip") "__len__" = pure none:=by rw[uL,v5];kernel_rfl
theorem noHintZip:ux (.type "zip") "__length_hint__" = pure none:=by rw[uL,v5];kernel_rfl
end PySem.F
namespace Hk
open PySem PySem.Spec PyProof.Rows
section
variable{prog:vW}{w:vZ}{A:ve}{E:vB->vF->Prop}{s:vF}
abbrev zAC(h:vj)(z TI TO:vJ)(f0 f1:vB):Prop:=h.get? z=some { cls:=.type "zip", dict:=none,data:=.fields #[f0,f1,.bool false,.ref TI,.ref TO],slots:=#[] }
theorem qcZ{a:vJ}{Q:Option Obj->vF->Prop}(h:Q (s.heap.get? a) s):vO (model prog w) A (loadIfAlive a) Q E s:=λ_ _ _=>h
theorem qag{z TI TO t:vJ}{ot:Obj}{f1:vB}{Q:Bool->vF->Prop}(hz:zAC s.heap z TI TO (uY t) f1)(ht:s.heap.get? t=some ot)(k:∀h' f1',zAC h' z TI TO (uY t) f1'->xV z s.heap h'->Q false { s with heap:=h' }):vO (model prog w) A (Builtin.SmallTypes.ownedTupleIsFree (.ref z)) Q E s:=by
 unfold Builtin.SmallTypes.ownedTupleIsFree;refine vA (uX hz rfl (x:=uY t) rfl ?_);show vO _ _ (loadIfAlive ((t:Int)).toNat >>= _) _ _ _;rw[yi];refine vA (qcZ ?_);rw[ht];show vO _ _ (field (.ref z) 1 >>= _) _ _ _;refine vA (uX hz rfl (x:=f1) rfl ?_);refine vf (λ_=>?_) (λ_=>?_)
 ·refine vA (uF hz (by simp) λh1 e1 sb=>vH (k h1 (.bool true) e1 sb))
 ·exact vH (k s.heap f1 hz (Z7 z s.heap))
theorem qcE{z TI TO i1 i2 l1 l2 t:vJ}{ot:Obj}{f1:vB}{k1 k2:Nat}{xs ys:Array vB}{x y:vB}{Q:Option vB->vF->Prop}(D:uz z TI TO i1 i2 l1 l2)(hz:zAC s.heap z TI TO (uY t) f1)(ht:s.heap.get? t=some ot)(hTI:uu s.heap TI (.ref i1) (.ref i2))(h1:s.heap.IsListIter i1 l1 k1)(h2:s.heap.IsListIter i2 l2 k2)(hl1:s.heap.IsList l1 xs)(hl2:s.heap.IsList l2 ys)(hx:xs[k1]?=some x)(hy:ys[k2]?=some y)(hQ:∀h' f1',zAC h' z TI TO (uY t) f1'->h'.IsListIter i1 l1 (k1+1)->h'.IsListIter i2 l2 (k2+1)->uu h' s.heap.objs.size x y ->
   (∀c o,c≠z->c≠i1->c≠i2->s.heap.get? c=some o->h'.get? c=some o)->Q (some (.ref s.heap.objs.size)) { s with heap:=h' }) :
  vO (model prog w) A (uU (.ref z)) Q E s:=by
 have hT:s.TypeIs (.ref z) "zip" := ⟨_,hz,rfl⟩;unfold uU;refine vA (uT (wpAny_callSpecial?_slot (name:=Str.ofString "__next__") hT PySem.F.slot_zip_next (vp PySem.F.slot_zip_next hT PySem.F.entry_zip_next ?_ (PySem.F.args_zip_next_1 _))));show vO _ _ (field (.ref z) 2 >>= _) _ _ _;refine vA (uX hz rfl (x:=.bool false) rfl ?_);show vO _ _ (field (.ref z) 3 >>= _) _ _ _;refine vA (uX hz rfl (x:=.ref TI) rfl ?_);refine vA (ud hTI rfl ?_);show vO _ _ (Builtin.SmallTypes.ownedTupleIsFree (.ref z) >>= _) _ _ _;refine vA (qag hz ht λh' f1' hz1 sb1=>?_);simp only[zv,if_false];have a1:=h1.extBut sb1.extBut D.i1z;have a2:=h2.extBut sb1.extBut D.i2z;have b1:=hl1.extBut sb1.extBut D.l1z;have b2:=hl2.extBut sb1.extBut D.l2z;rw[<- Z0];simp only[Zi,YU];refine vA (vA (vA (vn ?_)));show vO _ _ (Builtin.SmallTypes.nextOf (.ref i1) >>= _) _ _ _;refine vA (uv a1 b1 hx λh₂ c1 sb2=>vH ?_);refine vH ?_;refine vA (vA (vn ?_));show vO _ _ (Builtin.SmallTypes.nextOf (.ref i2) >>= _) _ _ _;refine vA (uv (a2.extBut sb2.extBut D.i12.symm) (b2.extBut sb2.extBut D.l2i1) hy λh₃ c2 sb3=>vH ?_);refine vH (vH ?_);show vO _ _ (newTuple [x,y] >>= _) _ _ _;refine vA (tI ?_);have hsz:h₃.objs.size=s.heap.objs.size:=by rw[sb3.1,sb2.1,sb1.1]
 refine vH ⟨_,rfl,vH ?_⟩
 dsimp only
 rw[hsz];refine hQ _ f1' ?_ ?_ ?_ ?_ ?_
 ·exact zE _ (sb3.extBut _ _ D.i2z.symm (sb2.extBut _ _ D.i1z.symm hz1))
 ·exact(c1.extBut sb3.extBut D.i12).at λo e=>zE _ e
 ·exact c2.at λo e=>zE _ e
 ·have:=zR h₃ (o:={ cls:=.type "tuple", data:=.seq [x,y].toArray }) rfl
  rw[hsz]at this;exact this
 ·exact λc o n1 n2 n3 e=>zE _ (sb3.extBut _ _ n3 (sb2.extBut _ _ n2 (sb1.extBut _ _ n1 e)))
theorem qd9{z TI TO i1 i2 l1 l2 t:vJ}{ot:Obj}{f1:vB}{k1 k2:Nat}{xs ys:Array vB}{Q:Option vB->vF->Prop}(hh:A.handled=none)(D:uz z TI TO i1 i2 l1 l2)(hz:zAC s.heap z TI TO (uY t) f1)(ht:s.heap.get? t=some ot)(hTI:uu s.heap TI (.ref i1) (.ref i2))(h1:s.heap.IsListIter i1 l1 k1)(h2:s.heap.IsListIter i2 l2 k2)(hl1:s.heap.IsList l1 xs)(hl2:s.heap.IsList l2 ys)(hend:xs[k1]?=none\/ys[k2]?=none)(hQ:∀h',(∀c o,c≠z->c≠i1->c≠i2->s.heap.get? c=some o->h'.get? c=some o)->Q none { s with heap:=h' }):
  vO (model prog w) A (uU (.ref z)) Q E s:=by
 have hT:s.TypeIs (.ref z) "zip" := ⟨_,hz,rfl⟩;unfold uU;refine vA (uT (wpAny_callSpecial?_slot (name:=Str.ofString "__next__") hT PySem.F.slot_zip_next (vp PySem.F.slot_zip_next hT PySem.F.entry_zip_next ?_ (PySem.F.args_zip_next_1 _))));show vO _ _ (field (.ref z) 2 >>= _) _ _ _;refine vA (uX hz rfl (x:=.bool false) rfl ?_);show vO _ _ (field (.ref z) 3 >>= _) _ _ _;refine vA (uX hz rfl (x:=.ref TI) rfl ?_);refine vA (ud hTI rfl ?_);show vO _ _ (Builtin.SmallTypes.ownedTupleIsFree (.ref z) >>= _) _ _ _;refine vA (qag hz ht λh' f1' hz1 sb1=>?_);simp only[zv,if_false];have a1:=h1.extBut sb1.extBut D.i1z;have a2:=h2.extBut sb1.extBut D.i2z;have b1:=hl1.extBut sb1.extBut D.l1z;have b2:=hl2.extBut sb1.extBut D.l2z;rw[<- Z0];simp only[Zi,YU];refine vA (vA (vA (vn ?_)));show vO _ _ (Builtin.SmallTypes.nextOf (.ref i1) >>= _) _ _ _;cases hx:xs[k1]? with
 | none=>
  refine vA (tX hh a1 b1 hx λh₂ e sb2 he=>?_);obtain⟨o,ho,hc⟩:=he;refine vA (uW (T := "StopIteration") (b:=true) ⟨o,ho,hc⟩ tH ?_);exact vH (hQ _ λc o n1 n2 n3 e=>sb2 _ _ n2 (sb1.extBut _ _ n1 e))
 | some x=>
  have hy:ys[k2]?=none:=by rcases hend with h|h;rw[hx]at h;cases h;exact h
  refine vA (uv a1 b1 hx λh₂ c1 sb2=>vH ?_);refine vH ?_;refine vA (vA (vn ?_));show vO _ _ (Builtin.SmallTypes.nextOf (.ref i2) >>= _) _ _ _;refine vA (tX hh (a2.extBut sb2.extBut D.i12.symm) (b2.extBut sb2.extBut D.l2i1) hy λh₃ e sb3 he=>?_);obtain⟨o,ho,hc⟩:=he;refine vA (uW (T := "StopIteration") (b:=true) ⟨o,ho,hc⟩ tH ?_);exact vH (hQ _ λc o n1 n2 n3 e=>sb3 _ _ n3 (sb2.extBut _ _ n2 (sb1.extBut _ _ n1 e)))
structure ZSt (h0:vj) (S z TI TO i1 i2 l1 l2:vJ) (xs ys:Array vB) (ts:List vJ) (h:vj):Prop where
 zip:(ts=[]/\zAC h z TI TO .none (.bool false))\/∃t f1,t∈ts/\zAC h z TI TO (uY t) f1
 pTI:uu h TI (.ref i1) (.ref i2)
 pTO:∃a b,uu h TO a b
 it1:h.IsListIter i1 l1 ts.length
 it2:h.IsListIter i2 l2 ts.length
 hl1:h.IsList l1 xs
 hl2:h.IsList l2 ys
 tups:∀(j:Nat)t,ts[j]?=some t->∃x y,xs[j]?=some x/\ys[j]?=some y/\uu h t x y
 old:∀t∈ts,t≠S/\t≠z/\t≠TO/\t≠i1/\t≠i2
 nd:ts.Nodup
 new:∀t∈ts,h0.objs.size<=t
 keep:∀b o,b≠S->h0.get? b=some o->h.get? b=some o
theorem qe3{h0:vj}{S z TI TO i1 i2 l1 l2:vJ}{xs ys:Array vB}{ts:List vJ}{Q:Option vB->vF->Prop}(D:uz z TI TO i1 i2 l1 l2)(hf:∀b∈[z,TO,i1,i2],h0.get? b=none)(hS:S∉[z,TI,TO,i1,i2,l1,l2])(Z:ZSt h0 S z TI TO i1 i2 l1 l2 xs ys ts s.heap)(hSo:∃o,s.heap.get? S=some o)(hsz:h0.objs.size<=s.heap.objs.size)(hlt:ts.length<min xs.size ys.size)(k:∀h' t,ZSt h0 S z TI TO i1 i2 l1 l2 xs ys (ts++[t]) h'->(∀o,s.heap.get? S=some o->h'.get? S=some o)->s.heap.objs.size<=h'.objs.size->Q (some (.ref t)) { s with heap:=h' }):
  vO (model prog w) A (uU (.ref z)) Q E s:=by
 have hix:ts.length<xs.size:=zt hlt (Zj ..);have hiy:ts.length<ys.size:=zt hlt (YG ..);obtain⟨a,b,hTO⟩:=Z.pTO;obtain⟨oS,hoS⟩:=hSo;have gx:=zz hix;have gy:=zz hiy;simp only[zF,zi,or_false,not_or]at hS;have nz:∀b o,h0.get? b=some o->b≠z/\b≠TO/\b≠i1/\b≠i2:=λb o e=>
  ⟨λq=>(by have:=hf z (by simp);rw[q,this]at e;cases e),λq=>(by have:=hf TO (by simp);rw[q,this]at e;cases e),λq=>(by have:=hf i1 (by simp);rw[q,this]at e;cases e),λq=>(by have:=hf i2 (by simp);rw[q,this]at e;cases e)⟩
 have fin:∀(h':vj)(f1:vB)(u:vJ),u∈ts++[s.heap.objs.size]->zAC h' z TI TO (uY u) f1->(∃a b,uu h' TO a b)->h'.IsListIter i1 l1 (ts.length+1)->h'.IsListIter i2 l2 (ts.length+1)->uu h' s.heap.objs.size xs[ts.length] ys[ts.length] ->
   (∀c o,c≠z->c≠TO->c≠i1->c≠i2->s.heap.get? c=some o->h'.get? c=some o)->Q (some (.ref s.heap.objs.size)) { s with heap:=h' }:=λh' f1 u hu g1 g2 g3 g4 g5 g6=>by
  refine k h' _ ⟨.inr ⟨u,f1,hu,g1⟩,g6 _ _ D.TIz D.TITO D.TIi1 D.TIi2 Z.pTI,g2,by rw[zC];exact g3,by rw[zC];exact g4,Z.hl1.at λo e=>g6 _ o D.l1z D.l1TO D.l1i1 D.l1i2 e,Z.hl2.at λo e=>g6 _ o D.l2z D.l2TO D.l2i1 D.l2i2 e,λj t ht=>?_,λt ht=>?_,?_,λt ht=>?_,λb o hb e=>?_⟩ (λo e=>?_) (yU (zO g5))
  ·rcases zw j ts.length with y|y
   ·rw[ze y]at ht
    obtain⟨p,q,r1,r2,r3⟩:=Z.tups j t ht;have ho:=Z.old t (z0 ht);exact⟨p,q,r1,r2,g6 _ _ ho.2.1 ho.2.2.1 ho.2.2.2.1 ho.2.2.2.2 r3⟩
   ·rw[zX y]at ht
    have hj:j=ts.length:=by
     rcases zw (j-ts.length) 1 with c|c
     ·omega
     ·rw[zu ⇑c]at ht;cases ht
    subst hj;rw[wt]at ht;cases ht;exact⟨_,_,gx,gy,g5⟩
  ·rcases zN.mp ht with ht|ht
   ·exact Z.old t ht
   ·rw[zS.mp ht]
    have lt:∀{c o},s.heap.get? c=some o->s.heap.objs.size≠c:=λe=>xr (zO e);refine⟨lt hoS,?_,lt hTO,?_,?_⟩
    ·rcases Z.zip with⟨_,e⟩|⟨_,_,_,e⟩ <;> exact lt e
    ·obtain⟨_,e,_⟩:=Z.it1;exact lt e
    ·obtain⟨_,e,_⟩:=Z.it2;exact lt e
  ·refine yY.mpr ⟨Z.nd,by simp,λa ha b hb=>?_⟩
   rw[zS.mp hb];intro e;obtain⟨j,hj,ej⟩:=zg.mp ha;obtain⟨_,_,_,_,et⟩:=Z.tups j a (by rw[zD hj,ej]);exact vP (zO et) (by rw[e];exact xa _)
  ·rcases zN.mp ht with ht|ht
   ·exact Z.new t ht
   ·rw[zS.mp ht];exact hsz
  ·obtain⟨n1,n2,n3,n4⟩:=nz b o e
   exact g6 b o n1 n2 n3 n4 (Z.keep b o hb e)
  ·exact g6 S o hS.1 hS.2.2.1 hS.2.2.2.1 hS.2.2.2.2.1 e
 rcases Z.zip with⟨_,hz⟩|⟨t,f1,ht,hz⟩
 ·exact tY D hz Z.pTI hTO Z.it1 Z.it2 Z.hl1 Z.hl2 gx gy λh' a1 a2 a3 a4 a5 a6 a7=>fin h' _ _ (by simp) a1 ⟨_,_,a2⟩ a3 a4 a5 a7
 ·obtain⟨j,hj,ej⟩:=zg.mp ht
  obtain⟨_,_,_,_,et⟩:=Z.tups j t (by rw[zD hj,ej]);refine qcE D hz et Z.pTI Z.it1 Z.it2 Z.hl1 Z.hl2 gx gy λh' f1' a1 a3 a4 a5 a7=>fin h' f1' t (zV _ ht) a1 ⟨a,b,?_⟩ a3 a4 a5 λc o n1 _ n3 n4 e=>a7 c o n1 n3 n4 e;exact a7 _ _ D.TOz D.TOi1 D.TOi2 hTO
theorem qeY{h0:vj}{S z TI TO i1 i2 l1 l2:vJ}{xs ys:Array vB}{ts:List vJ}{Q:Option vB->vF->Prop}(hh:A.handled=none)(D:uz z TI TO i1 i2 l1 l2)(Z:ZSt h0 S z TI TO i1 i2 l1 l2 xs ys ts s.heap)(hlt:ts.length=min xs.size ys.size)(k:∀h',(∀c o,c≠z->c≠TO->c≠i1->c≠i2->s.heap.get? c=some o->h'.get? c=some o)->Q none { s with heap:=h' }):
  vO (model prog w) A (uU (.ref z)) Q E s:=by
 obtain⟨a,b,hTO⟩:=Z.pTO;have hend:xs[ts.length]?=none\/ys[ts.length]?=none:=by
  rcases YA xs.size ys.size with h|h
  ·left;exact ya ∅
  ·right;exact ya ∅
 rcases Z.zip with⟨_,hz⟩|⟨t,f1,ht,hz⟩
 ·exact tq hh D hz Z.pTI hTO Z.it1 Z.it2 Z.hl1 Z.hl2 hend λh' g=>k h' g
 ·obtain⟨j,hj,ej⟩:=zg.mp ht
  obtain⟨_,_,_,_,et⟩:=Z.tups j t (by rw[zD hj,ej]);exact qd9 hh D hz et Z.pTI Z.it1 Z.it2 Z.hl1 Z.hl2 hend λh' g=>k h' λc o n1 _ n3 n4 e=>g c o n1 n3 n4 e
end
end Hk
namespace Hk
open PySem PySem.Spec PySem.W PyProof.Rows
section
variable{prog:vW}{w:vZ}{A:ve}{E:vB->vF->Prop}{R:sC->vF->Prop}{s:vF}
abbrev Wp(h:vj)(S:vJ)(acc:Array vB)(c:Nat):Prop:=h.get? S=some { cls:=.type "list", dict:=none,data:=.seq acc c,slots:=#[] }
theorem q7Z{h0 h h':vj}{S z TI TO i1 i2 l1 l2:vJ}{xs ys:Array vB}{ts:List vJ}(hS:S∉[z,TI,TO,i1,i2,l1,l2])(Z:ZSt h0 S z TI TO i1 i2 l1 l2 xs ys ts h)(k:∀b o,b≠S->h.get? b=some o->h'.get? b=some o):
  ZSt h0 S z TI TO i1 i2 l1 l2 xs ys ts h':=by
 simp only[zF,zi,or_false,not_or]at hS;obtain⟨s1,s2,s3,s4,s5,s6,s7⟩:=hS;refine⟨?_,k _ _ (Ne.symm s2) Z.pTI,?_,Z.it1.at λo e=>k _ o (Ne.symm s4) e,Z.it2.at λo e=>k _ o (Ne.symm s5) e,Z.hl1.at λo e=>k _ o (Ne.symm s6) e,Z.hl2.at λo e=>k _ o (Ne.symm s7) e,λj t ht=>?_,Z.old,Z.nd,Z.new,λb o hb e=>k b o hb (Z.keep b o hb e)⟩
 ·rcases Z.zip with⟨e1,e2⟩|⟨t,f1,e1,e2⟩
  ·exact .inl ⟨e1,k _ _ (Ne.symm s1) e2⟩
  ·exact .inr ⟨t,f1,e1,k _ _ (Ne.symm s1) e2⟩
 ·obtain⟨a,b,e⟩:=Z.pTO
  exact⟨a,b,k _ _ (Ne.symm s3) e⟩
 ·obtain⟨x,y,a1,a2,a3⟩:=Z.tups j t ht
  exact⟨x,y,a1,a2,k _ _ (Z.old t (z0 ht)).1 a3⟩
theorem qdN{h0:vj}{S z TI TO i1 i2 l1 l2:vJ}{xs ys:Array vB}{res:vB}(hh:A.handled=none)(D:uz z TI TO i1 i2 l1 l2)(hf:∀b∈[z,TO,i1,i2],h0.get? b=none)(hS:S∉[z,TI,TO,i1,i2,l1,l2])(hn:min xs.size ys.size<=sizeLine)(g0:Array tZ)(d0:sN)(o0)(hR:∀(h':vj)(tk:Nat)(ts:List vJ)(c:Nat),ts.length=min xs.size ys.size->ts.Nodup->(∀t∈ts,t≠S/\h0.objs.size<=t)->Wp h' S (ts.map Value.ref).toArray c->(∀b o,b≠S->h0.get? b=some o->h'.get? b=some o)->(∀(j:Nat)t,ts[j]?=some t->∃x y,xs[j]?=some x/\ys[j]?=some y/\uu h' t x y)->R (.ok (.ret res)) ⟨h',g0,d0,tk,o0⟩):
  ∀(k:Nat)(h:vj)(tk:Nat)(ts:List vJ)(c:Nat),min xs.size ys.size-ts.length=k->ts.length<=min xs.size ys.size->ZSt h0 S z TI TO i1 i2 l1 l2 xs ys ts h->Wp h S (ts.map Value.ref).toArray c->h0.objs.size<=h.objs.size ->
   uc (model prog w) A (.builtin "list.extend.loop" ⟨[.ref S,.ref z,res],[]⟩) R ⟨h,g0,d0,tk,o0⟩:=by
 have hS':=hS;simp only[zF,zi,or_false,not_or]at hS';have nz:∀b o,h0.get? b=some o->b≠z/\b≠TO/\b≠i1/\b≠i2:=λb o e=>
  ⟨λq=>(by have:=hf z (by simp);rw[q,this]at e;cases e),λq=>(by have:=hf TO (by simp);rw[q,this]at e;cases e),λq=>(by have:=hf i1 (by simp);rw[q,this]at e;cases e),λq=>(by have:=hf i2 (by simp);rw[q,this]at e;cases e)⟩
 intro k
 induction k with
 | zero=>
  intro h tk ts c hk hi Z hl hsz;have hin:ts.length=min xs.size ys.size:=∅
  refine uK PySem.F.entry_extend_loop ?_;rw[Around.under_plainId PySem.F.plain_extend_loop _];show vO _ A.in1 (uU (.ref z) >>= _) _ _ _;refine vA (qeY (A:=A.in1) hh D Z hin λh' g=>?_);refine vH (hR h' tk ts c hin Z.nd (λt ht=>⟨(Z.old t ht).1,Z.new t ht⟩) (g _ _ hS'.1 hS'.2.2.1 hS'.2.2.2.1 hS'.2.2.2.2.1 hl) (λb o hb e=>?_) λj t ht=>?_)
  ·obtain⟨n1,n2,n3,n4⟩:=nz b o e
   exact g b o n1 n2 n3 n4 (Z.keep b o hb e)
  ·obtain⟨x,y,a1,a2,a3⟩:=Z.tups j t ht
   have ho:=Z.old t (z0 ht);exact⟨x,y,a1,a2,g _ _ ho.2.1 ho.2.2.1 ho.2.2.2.1 ho.2.2.2.2 a3⟩
 | succ k ih=>
  intro h tk ts c hk hi Z hl hsz;have hlt:ts.length<min xs.size ys.size:=∅
  refine uK PySem.F.entry_extend_loop ?_;rw[Around.under_plainId PySem.F.plain_extend_loop _];show vO _ A.in1 (uU (.ref z) >>= _) _ _ _;refine vA (qe3 (A:=A.in1) D hf hS Z ⟨_,hl⟩ hsz hlt λh' t Z' hk' hsz'=>?_);have hl':=hk' _ hl;show vO _ A.in1 (tE S (·.push (.ref t)) >>= _) _ _ _;refine vA ?_;have sz:(ts.map Value.ref).toArray.size=ts.length:=by simp
  have e:=get?_update_seq hl' (·.push (Value.ref t));have e2:(ts.map Value.ref).toArray.push (.ref t)=((ts++[t]).map Value.ref).toArray:=by simp
  rw[e2]at e;refine uM hl' rfl (vH ⟨uQ PySem.F.plain_extend_loop _,ih _ _ (ts++[t]) _ (by rw[zC,zU];omega) (by rw[zC,zU];omega) (q7Z hS Z' λb o hb e=>?_) e (by rw[xM];exact yJ hsz hsz')⟩)
   (by rw[sz];omega) (by show ((ts.map Value.ref).toArray.push (.ref t)).size<=sizeLine+1;rw[Zh,sz];omega)
  exact(zk _ _ (Ne.symm hb)).trans e
theorem qaS{h0:vj}{S z TI TO i1 i2 l1 l2:vJ}{xs ys:Array vB}{res:vB}{c₀:Nat}(hh:A.handled=none)(D:uz z TI TO i1 i2 l1 l2)(hf:∀b∈[z,TO,i1,i2],h0.get? b=none)(hS:S∉[z,TI,TO,i1,i2,l1,l2])(hn:min xs.size ys.size<=sizeLine)(Z:ZSt h0 S z TI TO i1 i2 l1 l2 xs ys [] s.heap)(hl:Wp s.heap S #[] c₀)(hsz:h0.objs.size<=s.heap.objs.size)(hR:∀(h':vj)(tk:Nat)(ts:List vJ)(c:Nat),ts.length=min xs.size ys.size->ts.Nodup->(∀t∈ts,t≠S/\h0.objs.size<=t)->Wp h' S (ts.map Value.ref).toArray c->(∀b o,b≠S->h0.get? b=some o->h'.get? b=some o)->(∀(j:Nat)t,ts[j]?=some t->∃x y,xs[j]?=some x/\ys[j]?=some y/\uu h' t x y)->R (.ok (.ret res)) { s with heap:=h',toks:=tk }):
  vO (model prog w) A.in1 (Builtin.List.listExtendWith (.ref S) (.ref z) res)
   (λfin s'=>match fin with|.done f=>R (.ok f) s'|.again c'=>c'.quiet=true/\uc (model prog w) A c' R s') (λe s'=>R (.error e) s') s:=by
 obtain⟨hp,g,d,tk,os⟩:=s;have hS':=hS;simp only[zF,zi,or_false,not_or]at hS';obtain⟨_,hz⟩|⟨t,_,ht,_⟩:=Z.zip
 rotate_left
 ·cases ht
 have hT:Shared.TypeIs ⟨hp,g,d,tk,os⟩ (.ref z) "zip" := ⟨_,hz,rfl⟩;unfold Builtin.List.listExtendWith;refine vA (ug (T := "zip") hT ?_);have h1:Builtin.List.listSameRef (.ref S) (.ref z)=false:=by simp[Builtin.List.listSameRef,hS'.1]
 have h2:(Value.type "zip" == Value.type "list")=false:=by decide
 have h3:(Value.type "zip" == Value.type "tuple")=false:=by decide
 simp only[h1,h2,h3,xb,zv,if_false];refine vA (tQ hz ?_);refine vA (vn ?_);unfold Builtin.List.listLengthHint;refine vA (ub hT PySem.F.noLenZip ?_);show vO _ A.in1 (specialOf (Value.ref z) (Str.ofString "__length_hint__") >>= _) _ _ _;refine vA (ub hT PySem.F.noHintZip ?_);refine vH ?_;have key:∀(h:vj)(c₁:Nat),ZSt h0 S z TI TO i1 i2 l1 l2 xs ys [] h->Wp h S #[] c₁->h0.objs.size<=h.objs.size->uc (model prog w) A (.builtin "list.extend.loop" ⟨[.ref S,.ref z,res],[]⟩) R ⟨h,g,d,tk,os⟩ :=
  λh c₁ Z' hl' z'=>qdN hh D hf hS hn g d os (λh' tk' ts c a1 a2 a3 a4 a5 a6=>hR h' tk' ts c a1 a2 a3 a4 a5 a6) _ h tk [] c₁ rfl (zy _) Z' hl' z'
 refine vf (λ_=>?_) (λ_=>vH ⟨uQ PySem.F.plain_extend_loop _,key _ c₀ Z hl hsz⟩);refine vA (uD ?_);refine vA ?_;show vO _ _ (tE S (·.push .none) >>= λ_=>tE S (·.pop)) _ _ _;refine vA (uM hl rfl ?_);have hS₂:=xT (Obj.mapSeq (·.push Value.none)) hl rfl;refine uM (hz:=by seq_fits) hS₂ rfl ?_;have hS₃:=xT (Obj.mapSeq (·.pop)) hS₂ rfl;refine vH ⟨uQ PySem.F.plain_extend_loop _,key _ _ (q7Z hS Z λb o hb e=>?_) hS₃ (by rw[xM,xM];exact hsz)⟩;exact(zk _ _ (Ne.symm hb)).trans ((zk _ _ (Ne.symm hb)).trans e)
theorem qdz{l1 l2:vJ}{xs ys:Array vB}{Q:vB->vF->Prop}{s0:vF}(hh:A.handled=none)(hl1:s0.heap.IsList l1 xs)(hl2:s0.heap.IsList l2 ys)(hn:min xs.size ys.size<=sizeLine)(hz:IsZip s.heap (s0.heap.objs.size+4) (s0.heap.objs.size+2) (s0.heap.objs.size+3) .none)(hp1:uu s.heap (s0.heap.objs.size+2) (.ref s0.heap.objs.size) (.ref (s0.heap.objs.size+1)))(hp2:uu s.heap (s0.heap.objs.size+3) .none .none)(hi1:s.heap.IsListIter s0.heap.objs.size l1 0)(hi2:s.heap.IsListIter (s0.heap.objs.size+1) l2 0)(hs:s.heap.objs.size=s0.heap.objs.size+5)(hk:∀c o,s0.heap.get? c=some o->s.heap.get? c=some o)(hQ:∀(h':vj)(tk:Nat)(S:vJ)(ts:List vJ)(c:Nat),s0.heap.objs.size<=S->ts.length=min xs.size ys.size->ts.Nodup->(∀t∈ts,t≠S/\s0.heap.objs.size<=t)->Wp h' S (ts.map Value.ref).toArray c->(∀b o,s0.heap.get? b=some o->h'.get? b=some o) ->
   (∀(j:Nat)t,ts[j]?=some t->∃x y,xs[j]?=some x/\ys[j]?=some y/\uu h' t x y)->Q (.ref S) { s with heap:=h',toks:=tk }) :
  vO (model prog w) A (call (.type "list") [.ref (s0.heap.objs.size+4)]) Q E s:=by
 refine callType_codes (Q₁:=λobj s₁=>obj=.ref s.heap.objs.size/\s₁={ s with heap:=s.heap.push { cls:=.type "list", data:=.seq #[] } }) PySem.F.called_list (PySem.F.typeCall_list_1 _) PySem.F.entry_list_init
  (code_list_new _ ⟨rfl,rfl⟩) λobj s₁ h₁=>?_
 obtain⟨rfl,rfl⟩:=h₁;have hS:(s.heap.push { cls:=.type "list", data:=.seq #[] }).get? s.heap.objs.size=some { cls:=.type "list", data:=.seq #[] }:=zR _ rfl;refine⟨⟨_,hS,rfl⟩,PySem.F.args_list_init_2 _ _,?_⟩;generalize hn0:s0.heap.objs.size=n at *;have e1:l1<n:=by obtain⟨_,e,_⟩:=hl1;rw[<- hn0];exact zO e
 have e2:l2<n:=by obtain⟨_,e,_⟩:=hl2;rw[<- hn0];exact zO e
 generalize hS0:s.heap.objs.size=S at *;have D:uz (n+4) (n+2) (n+3) n (n+1) l1 l2:=by
  constructor <;> (intro q;simp only[vJ]at *;omega)
 have hSn:S∉[n+4,n+2,n+3,n,n+1,l1,l2]:=by
  simp only[zF,zi,or_false,not_or];refine⟨?_,?_,?_,?_,?_,?_,?_⟩ <;> (intro q;simp only[vJ]at *;omega)
 have hf:∀b∈[n+4,n+3,n,n+1],s0.heap.get? b=none:=λb hb=>by
  cases q:s0.heap.get? b with
  | none=>rfl
  | some o=>
   have:=zO q;rw[hn0]at this;simp only[zF,zi,or_false]at hb;simp only[vJ]at *;omega
 show vO _ _ (do let old <- Builtin.List.listItems (.ref S);Builtin.List.listUpdate (.ref S) (λ_=>#[]);letGo old.toList.reverse;Builtin.List.listExtendWith (.ref S) (.ref (n+4)) .none) _ _ _;refine vA ?_;unfold Builtin.List.listItems;refine vA (ud hS rfl (vH ?_));show vO _ _ (tE S (λ_=>#[]) >>= λ_=>letGo (#[]:Array vB).toList.reverse >>= λ_=>Builtin.List.listExtendWith (.ref S) (.ref (n+4)) .none) _ _ _;refine vA (uM hS rfl ?_);have hS₂:=get?_update_seq hS (λ_=>(#[]:Array vB));have oth:∀b o,b≠S->s.heap.get? b=some o->((s.heap.push { cls:=.type "list", data:=.seq #[] }).update S (Obj.mapSeq (λ_=>(#[]:Array vB)))).get? b=some o :=
  λb o hb e=>(zk _ _ (Ne.symm hb)).trans (zE _ e)
 refine vA (sQ ?_);have hSn':=hSn;simp only[zF,zi,or_false,not_or]at hSn';refine qaS (A:=A.in1) (h0:=s0.heap) hh D hf hSn hn ⟨.inl ⟨rfl,oth _ _ (Ne.symm hSn'.1) hz⟩,oth _ _ (Ne.symm hSn'.2.1) hp1,⟨_,_,oth _ _ (Ne.symm hSn'.2.2.1) hp2⟩,hi1.at λo e=>oth _ o (Ne.symm hSn'.2.2.2.1) e,hi2.at λo e=>oth _ o (Ne.symm hSn'.2.2.2.2.1) e,
  hl1.at λo e=>oth _ o (Ne.symm hSn'.2.2.2.2.2.1) (hk _ o e),hl2.at λo e=>oth _ o (Ne.symm hSn'.2.2.2.2.2.2) (hk _ o e),λj t ht=>(by simp at ht),λt ht=>(by simp at ht),xO,λt ht=>(by simp at ht),λb o hb e=>oth b o hb (hk b o e)⟩ hS₂ (by rw[xM,yc,hn0,hS0];simp only[vJ]at *;omega) λh' tk ts c a1 a2 a3 a4 a5 a6=>?_
 rw[hn0]at a3;exact⟨rfl,hQ h' tk S ts c (by simp only[vJ]at *;omega) a1 a2 a3 a4 (λb o e=>a5 b o (λq=>by
  have:=zO e;rw[hn0,q]at this;simp only[vJ]at *;omega) e) a6⟩
end
end Hk
namespace Hk
open PySem L2
section
variable{X:Cx}{pins:List (vJ×Obj)}{σ:St}{H H':Hp}{s:vF}
theorem qdt{h':vj}{t':Nat}(I:L2.Inv X pins σ H s)(k:∀b u,s.heap.get? b=some u->h'.get? b=some u)(hs:Y0 H H')(hn:∀b,H b=none->H' b≠none->s.heap.objs.size<=b)(new:∀b u,H b=none->H' b=some u->Y2 X.prog X.w H' h' b u):L2.Inv X pins σ H' { s with heap:=h',toks:=t' }:=by
 refine I.un ⟨λb o q _ _ _=>k b o q,λb o q _ _ _=>⟨o.slots,k b o q⟩,λb o q n _=>?_,λb o q _=>⟨o,k b o q⟩,λb xs q=>hs _ _ q,λb o u q=>hs _ _ q,λb ps q=>⟨#[],by rw[hs _ _ q];simp⟩⟩ λb u e=>?_
 ·cases e:H' b with
  | none=>rfl
  | some u=>exact vP (zO q) (YT.mpr (hn b n (by rw[e];exact λz=>by cases z)))
 ·cases q:H b with
  | none=>exact new b u q e
  | some u'=>
   have:=hs _ _ q;rw[e]at this;cases this;exact(I.hok b u q).stay (λc v _ z=>k c v z) (λc z=>hs _ _ z) λc xs z=>hs _ _ z
noncomputable def zA4(H:Hp):List vJ->List V->List V->Hp
 | t::ts,x::xs,y::ys=>upd (zA4 H ts xs ys) t (.tup [x,y])
 | _,_,_=>H
theorem q2j{b:vJ}:∀{ts:List vJ}{xs ys:List V},b∉ts->zA4 H ts xs ys b=H b
 | [],_,_,_=>rfl
 | _::_,[],_,_=>rfl
 | _::_,_::_,[],_=>rfl
 | t::ts,x::xs,y::ys,h=>by
  rw[zF,not_or]at h;show upd _ t _ b=_;rw[qd h.1];exact q2j h.2
theorem q73:∀{ts:List vJ}{xs ys:List V}{j:Nat}{t:vJ}{x y:V},ts.Nodup->ts[j]?=some t->xs[j]?=some x->ys[j]?=some y->zA4 H ts xs ys t=some (.tup [x,y])
 | [],_,_,_,_,_,_,_,h,_,_=>by simp at h
 | _::_,[],_,_,_,_,_,_,_,h,_=>by simp at h
 | _::_,_::_,[],_,_,_,_,_,_,_,h=>by simp at h
 | u::ts,a::xs,b::ys,0,t,x,y,n,h1,h2,h3=>by
  simp at h1 h2 h3;subst h1;subst h2;subst h3;exact qe
 | u::ts,a::xs,b::ys,j+1,t,x,y,n,h1,h2,h3=>by
  simp only[yX]at h1 h2 h3;obtain⟨n1,n2⟩:=yN.mp n;show upd _ u _ t=_;rw[qd (λe=>n1 (by rw[<- e];exact z0 h1))];exact q73 n2 h1 h2 h3
def rLZ:List V->Hp->VK->Prop:=λvs H2 Q=>∃p q xs ys,vs=[.ref p,.ref q]/\H2 p=some (.lst xs)/\H2 q=some (.lst ys) /\
 ∀(S:vJ)(ts:List vJ),H2 S=none->(∀t∈ts,H2 t=none/\t≠S)->ts.Nodup->ts.length=min xs.length ys.length->Q (.ref S) (upd (zA4 H2 ts xs ys) S (.lst (ts.map V.ref)))
theorem q5Z:∀{xs:List V}{us:List vB},Yv xs us->∀{j:Nat}{u:vB},us[j]?=some u->∃x,xs[j]?=some x/\RelV x u
 | _,_,.nil,j,u,h=>by simp at h
 | _,_,.cons r1 r2,0,u,h=>by simp at h;subst h;exact⟨_,rfl,r1⟩
 | _,_,.cons r1 r2,j+1,u,h=>by
  simp only[yX]at h ⊢;exact q5Z r2 h
theorem q7L:∀(ts:List vJ),Yv (ts.map V.ref) (ts.map Value.ref)
 | []=>.nil
 | t::r=>.cons rfl (q7L r)
theorem qbn{a b:vX}{t:TA}{p1 p2 q1 q2:Pos}(hg1:Gl X "list")(hm1:X.mg "list" = none)(hg2:Gl X "zip")(hm2:X.mg "zip" = none)(ha:PA X [a,b] t)(hc:X.calm=true)(he1:vK [a,b] X.env=(false,eval a X.env)::vK [b] X.env)(hpl1:(vk q2 (vK [b] X.env)).any (·.1)=false)(he2:vK [.Call (.Name "zip" p2) [a,b] [] q2] X.env=(false,eval (.Call (.Name "zip" p2) [a,b] [] q2) X.env)::vK [] X.env)(hpl2:(vk q1 (vK [] X.env)).any (·.1)=false):
  PE X (.Call (.Name "list" p1) [.Call (.Name "zip" p2) [a,b] [] q2] [] q1) (tCB rLZ t):=by
 intro pins s σ H Q I h;refine v3 (q0b I hg1 hm1 q0X ?_ (by decide) (by decide));refine PyProof.Rows.callWith_type1 ?_ he2 hpl2;rw[he2];show vO _ _ (spliced ((false,eval _ X.env)::vk q1 (vK [] X.env))) _ _ s;refine Calls.spliced_cons ?_;refine v3 (q0b I hg2 hm2 qgS ?_ (by decide) (by decide));refine PyProof.Rows.callWith_type1 (thn (ha q2 pins s σ H _ I h) λus s1 ⟨vs,H1,I1,r1,q1⟩=>?_) he1 hpl1
 ·obtain⟨p,q,xs,ys,rfl,hp,hq,k⟩:=q1
  obtain⟨u1,u2,rfl,e1,e2⟩:=vals2 r1;cases e1;cases e2;obtain⟨its1,n1,rv1,g1,z1⟩:=I1.lst hp;obtain⟨its2,n2,rv2,g2,z2⟩:=I1.lst hq;have il1:s1.heap.IsList p its1.toArray:=⟨_,g1,rfl,n1,rfl⟩;have il2:s1.heap.IsList q its2.toArray:=⟨_,g2,rfl,n2,rfl⟩;refine call_zip_2 il1 il2 λh' a1 a2 a3 a4 a5 a6 a7=>?_;refine Calls.spliced_nil ?_;have len1:its1.toArray.size=xs.length:=by rw[zP,rv1.length]
  have len2:its2.toArray.size=ys.length:=by rw[zP,rv2.length]
  refine qdz (s0:=s1) (I1.ok.hd hc) il1 il2 (by rw[len1];exact yJ (Zj _ _) z1) a1 a2 a3 a4 a5 a6 a7 λh2 tk S ts c b1 b2 b3 b4 b5 b6 b7=>?_;rw[len1,len2]at b2;have fS:H1 S=none:=I1.hok.fresh b1;have ft:∀t∈ts,H1 t=none:=λt ht=>I1.hok.fresh (b4 t ht).2;have hsame:Y0 H1 (upd (zA4 H1 ts xs ys) S (.lst (ts.map V.ref))):=λb u e=>by
   have nS:b≠S:=λz=>by rw[z,fS]at e;cases e
   have nt:b∉ts:=λz=>by rw[ft b z]at e;cases e
   rw[qd nS,q2j nt];exact e
  have tup:∀(j:Nat)t,ts[j]?=some t->∃x y,xs[j]?=some x/\ys[j]?=some y/\zA4 H1 ts xs ys t=some (.tup [x,y])/\Y2 X.prog X.w (upd (zA4 H1 ts xs ys) S (.lst (ts.map V.ref))) h2 t (.tup [x,y]):=λj t ht=>by
   obtain⟨x',y',c1,c2,c3⟩:=b7 j t ht;obtain⟨x,d1,d2⟩:=q5Z rv1 (j:=j) (u:=x') ⇑c1;obtain⟨y,d3,d4⟩:=q5Z rv2 (j:=j) (u:=y') ⇑c2;exact⟨x,y,d1,d3,q73 b3 ht d1 d3,⟨by show 2<=sizeLine;decide,[x',y'],.cons d2 (.cons d4 .nil),⟨_,c3,rfl,_,rfl⟩⟩⟩
  refine⟨.ref S,_,qdt (s:=s1) (t':=tk) I1 b6 hsame (λb n1 n2=>?_) (λb u n1 n2=>?_),rfl,k S ts fS (λt ht=>⟨ft t ht,(b4 t ht).1⟩) b3 b2⟩
  ·by_cases e:b=S
   ·rw[e];exact b1
   ·by_cases e':b∈ts
    ·exact(b4 b e').2
    ·rw[qd e,q2j e']at n2;exact vP n1 n2
  ·by_cases e:b=S
   ·subst e
    rw[qe]at n2;cases n2;refine⟨?_,ts.map Value.ref,c,q7L ts,b5⟩;rw[zB,b2];exact yJ (Zj _ _) z1
   ·by_cases e':b∈ts
    ·obtain⟨j,hj,ej⟩:=zg.mp e'
     obtain⟨x,y,_,_,m1,m2⟩:=tup j b (by rw[zD hj,ej]);rw[qd e,m1]at n2;cases n2;exact m2
    ·rw[qd e,q2j e',n1]at n2;cases n2
noncomputable def pairD(x y:D):D:=.tup [x,y]
noncomputable def WE:List D->Option R
 | [.lst xs,.lst ys]=>some (.fr (Za pairD xs ys))
 | _=>none
theorem q41{K:zA}{G:Hp}:∀{ds:List D}{ts:List vJ},ds.length=ts.length->(∀(j:Nat)d t,ds[j]?=some d->ts[j]?=some t->Rep K G d (.ref t))->Yo K G ds (ts.map V.ref)
 | [],[],_,_=>rfl
 | [],_::_,h,_=>by simp at h
 | _::_,[],h,_=>by simp at h
 | d::ds,t::ts,h,f=>⟨.ref t,_,rfl,f 0 d t rfl rfl,q41 ⇑h λj e u h1 h2=>f (j+1) e u ⇑h1 ⇑h2⟩
theorem qbi{K:zA}:Wn K rLZ WE:=by
 intro G H ds vs d Q s e hv k
 match ds,e with
 | [.lst xs,.lst ys],e=>
  cases e;obtain⟨v,u,rfl,h,h'⟩:=hv.two;obtain⟨p,us,rfl,h1,h2⟩:=h.lst s;obtain⟨q,ws,rfl,h3,h4⟩:=h'.lst s;refine⟨p,q,us,ws,rfl,h1,h3,λS ts hS ht nd hl=>?_⟩
  let G':Hp:=λb=>if b∈ts then zA4 H ts us ws b else G b
  have hout:∀b,b∉ts->G' b=G b:=λb z=>vG z;have hin:∀b,b∈ts->G' b=zA4 H ts us ws b:=λb z=>vC z;have gg:Y0 G G':=λb o z=>by
   have n:b∉ts:=λy=>by rw[s.free (ht b y).1]at z;cases z
   rw[hout b n];exact z
  have hh:Y0 H (upd (zA4 H ts us ws) S (.lst (ts.map V.ref))):=λb o z=>by
   have nS:b≠S:=λy=>by rw[y,hS]at z;cases z
   have n:b∉ts:=λy=>by rw[(ht b y).1]at z;cases z
   rw[qd nS,q2j n];exact z
  have gh:Y0 G' (upd (zA4 H ts us ws) S (.lst (ts.map V.ref))):=λb o z=>by
   by_cases y:b∈ts
   ·rw[hin b y]at z
    rw[qd (ht b y).2];exact z
   ·rw[hout b y]at z
    exact hh b o (s _ _ z)
  have x:Ext G H G' (upd (zA4 H ts us ws) S (.lst (ts.map V.ref))):=⟨gg,gh,hh,λb z1 z2=>by
   have n:b∉ts:=λy=>z2 (ht b y).1;rw[hout b n];exact z1⟩
  have nS:S∉ts:=λy=>(ht S y).2 rfl;refine k _ G' _ x ⟨S,_,rfl,hS,by rw[hout S nS];exact s.free hS,qe,q41 ?_ λj d t e1 e2=>?_⟩
  ·rw[List.length_zipWith,hl,h2.len,h4.len]
  ·rw[List.getElem?_zipWith]at e1
   cases q1:xs[j]? with
   | none=>rw[q1]at e1;cases e1
   | some a=>
    cases q2:ys[j]? with
    | none=>rw[q1,q2]at e1;cases e1
    | some b=>
     rw[q1,q2]at e1;cases e1;obtain⟨va,y1,y2⟩:=h2.get q1;obtain⟨vb,y3,y4⟩:=h4.get q2;refine⟨t,[va,vb],rfl,?_,Yo.cons (y2.mono gg) (Yo.cons (y4.mono gg) Yo.nil)⟩;rw[hin t (z0 e2)];exact q73 nd e2 y1 y3
theorem qaT{a b:vX}{g:FA}{p1 p2 q1 q2:Pos}(hg1:Gl X "list")(hm1:X.mg "list" = none)(hg2:Gl X "zip")(hm2:X.mg "zip" = none)(ha:XVA X [a,b] g)(hc:X.calm=true:=by rfl)(he1:vK [a,b] X.env=(false,eval a X.env)::vK [b] X.env:=by rfl)(hpl1:(vk q2 (vK [b] X.env)).any (·.1)=false:=by rfl)(he2:vK [.Call (.Name "zip" p2) [a,b] [] q2] X.env=(false,eval (.Call (.Name "zip" p2) [a,b] [] q2) X.env)::vK [] X.env:=by rfl)(hpl2:(vk q1 (vK [] X.env)).any (·.1)=false:=by rfl):
  XE X (.Call (.Name "list" p1) [.Call (.Name "zip" p2) [a,b] [] q2] [] q1) (Xj WE g):=by
 obtain⟨t,h1,h2⟩:=ha;exact⟨_,qbn hg1 hm1 hg2 hm2 h1 hc he1 hpl1 he2 hpl2,q5k qbi h2⟩
end
section
variable{X:Cx}
end
noncomputable def whD(c:FT)(b:FS):Nat->FS
 | 0=>λ_=>none
 | n+1=>λω=>(c ω).bind λk=>if k=true then (b ω).bind (λp=>match p.1 with
   | .nx=>whD c b n p.2
   | .ct=>whD c b n p.2
   | .bk=>some (.nx,p.2)
   | .rt r=>some (.rt r,p.2))else some (.nx,ω)
noncomputable def sWh(n:Nat)(c:FT)(b:FS):FS:=whD c b n
section
variable{X:Cx}{c:vX}{body:List vz}{fc:FT}{fb:FS}{pos:Pos}{n:Nat}
theorem qc1{K:zA}{t:TT}{u:TS}(h2:zAp K t fc)(h4:SimS K u fb):SimS K (zBV t u) (sWh n fc fb):=by
 intro G0 H0 G ω σ H out ω' E o e k;refine⟨λm σ1 H1=>∃G1 ω1,Own K G0 H0 G1 ω1 σ1 H1/\Y0 G G1/\whD fc fb m ω1=some (out,ω'),⟨n,G,ω,o,Y0.refl _,e⟩,λm σ1 H1 ⟨G1,ω1,o1,g1,e1⟩=>?_⟩;cases m with
 | zero=>cases e1
 | succ m=>
  obtain⟨b,q,e1⟩:=bnd e1;refine h2 G0 H0 G1 ω1 σ1 H1 b _ o1 q λG2 H2 x2=>?_;cases b with
  | false=>cases e1;exact k G2 σ1 H2 (o1.keep x2) (g1.trans x2.gg)
  | true=>
   rw[vC rfl];rw[vC rfl]at e1;obtain⟨⟨o3,ω3⟩,q3,e1⟩:=bnd e1;refine⟨λσ' H'=>∃G1 ω1,Own K G0 H0 G1 ω1 σ' H'/\Y0 G G1/\whD fc fb m ω1=some (out,ω'),λσ' H' z=>⟨m,ye m,z⟩,?_⟩;refine h4 G0 H0 G2 ω1 σ1 H2 o3 ω3 _ (o1.keep x2) q3 λG4 σ4 H4 o4 g4=>?_;have gg:=(g1.trans x2.gg).trans g4;cases o3 with
   | nx=>exact⟨G4,ω3,o4,gg,e1⟩
   | ct=>exact⟨G4,ω3,o4,gg,e1⟩
   | bk=>cases e1;exact k G4 σ4 H4 o4 gg
   | rt r=>cases e1;exact k G4 σ4 H4 o4 gg
theorem qde(hp:tO (model X.prog X.w) X.A X.env X.xe)(hc:XT X c fc)(hb:XSs X body fb):XS X (.While c body [] pos) (sWh n fc fb):=by
 obtain⟨t,h1,h2⟩:=hc;obtain⟨u,h3,h4⟩:=hb;exact⟨_,q92 hp h1 h3,qc1 h2 h4⟩
end
section
variable{fc:FT}{fb:FS}
def stepW(I:WSt->Prop)(μ:WSt->Nat)(m:Nat)(J:WSt->Prop)(o:Option (Out×WSt)):Prop:=match o with
 | some (.nx,w)=>I w/\μ w<m
 | some (.ct,w)=>I w/\μ w<m
 | some (.bk,w)=>J w
 | _=>False
theorem q8z(I:WSt->Prop)(μ:WSt->Nat)(J:WSt->Prop)(stop:∀ω,I ω->fc ω=some false->J ω)(turn:∀ω,I ω->∃k,fc ω=some k/\(k=true->stepW I μ (μ ω) J (fb ω))):
  ∀(n:Nat)(ω:WSt),I ω->μ ω<n->∃ω',whD fc fb n ω=some (.nx,ω')/\J ω'
 | 0,_,_,z=>vP z (wD _)
 | n+1,ω,h,z=>by
  obtain⟨k,e,t⟩:=turn ω h;show ∃ω',((fc ω).bind _)=_/\_;rw[e];cases k with
  | false=>exact⟨ω,rfl,stop ω h e⟩
  | true=>
   have t:=t rfl;rw[show ∀(f:Bool->Option (Out×WSt)),(some true).bind f=f true from λ_=>rfl,vC rfl];cases q:fb ω with
   | none=>rw[q]at t;exact t.elim
   | some p=>
    rw[q]at t;obtain⟨o,w⟩:=p;cases o with
    | nx=>exact q8z I μ J stop turn n w t.1 (by have:=t.2;omega)
    | ct=>exact q8z I μ J stop turn n w t.1 (by have:=t.2;omega)
    | bk=>exact⟨w,rfl,t⟩
    | rt r=>exact t.elim
theorem qgm{n:Nat}(I:WSt->Prop)(μ:WSt->Nat)(J:WSt->Prop)(stop:∀ω,I ω->fc ω=some false->J ω)(turn:∀ω,I ω->∃k,fc ω=some k/\(k=true->stepW I μ (μ ω) J (fb ω))){ω:WSt}(h:I ω)(z:μ ω<n):∃ω',sWh n fc fb ω=some (.nx,ω')/\J ω':=q8z I μ J stop turn n ω h z
end
section
variable{X:Cx}{pos:Pos}{o:vX}{apos cpos:Pos}{i:Nat}
end
noncomputable abbrev FM:=WSt->Option (D×WSt)
def SimM(K:zA)(t:TE)(f:FM):Prop:=∀G0 H0 G ω σ H d ω'(Q:VK),Own K G0 H0 G ω σ H->f ω=some (d,ω') ->
 (∀v G' H',Own K G0 H0 G' ω' σ H'->Y0 G G'->Rep K G' d v->Q v H')->t σ H Q
def XM(X:Cx)(e:vX)(f:FM):Prop:=∃t,PE X e t/\SimM X.K t f
section
variable{X:Cx}{pos:Pos}{o e:vX}{apos cpos pos':Pos}{i:Nat}{fd:FD}{f:FM}
noncomputable def zBx(i:Nat)(f:FM):FS:=λω=>(f ω).map λp=>(.nx,p.2.set i (some (.sh p.1)))
theorem qeC{x:Str}(hN:X.N.Nodup)(hi:X.N[i]?=some x)(hx:Loc X.env.scope x)(he:XM X e f)(hs:v7 e (some (.Name x pos')) pos.line X.env=pure false:=by rfl)(hf:X.fn x=true\/X.env.scope.names.lookup x=some .local:=by first|exact .inl rfl|exact .inr rfl|assumption):
  XS X (.Assign [.Name x pos'] e pos) (zBx i f):=by
 obtain⟨t,h1,h2⟩:=he;refine⟨_,q04 hN hi hx h1 hs hf,λG0 H0 G ω σ H out ω' E o e k=>?_⟩;unfold zBx at e;cases q:f ω with
 | none=>rw[q]at e;cases e
 | some p=>
  obtain⟨d,ω1⟩:=p;rw[q]at e;cases e;exact h2 G0 H0 G ω σ H d ω1 _ o q λv G1 H1 o1 g1 r1=>k G1 _ H1 (o1.setSh r1) g1
end
section
variable{X:Cx}{a b c:vX}{pos:Pos}{fa fb fc:FD}{op op':sO}{p p':Int->Int->Bool}
end
noncomputable def zCX(x:Int):List Int->List Int
 | []=>[x]
 | y::r=>if x<=y then x::y::r else y::zCX x r
noncomputable def Yu(ns:List Int):List Int:=ns.foldr zCX []
theorem q4D{x:Int}:∀{l:List Int},(zCX x l).Perm (x::l)
 | []=>.refl _
 | y::r=>by
  unfold zCX
  by_cases h:x<=y
  ·rw[vC h]
  ·rw[vG h];exact(q4D.cons y).trans (.swap x y r)
theorem qq:∀{l:List Int},(Yu l).Perm l
 | []=>.refl _
 | y::r=>q4D.trans ((qq (l:=r)).cons y)
theorem qaz{x:Int}:∀{l:List Int},l.Pairwise (· <= ·)->(zCX x l).Pairwise (· <= ·)
 | [],_=>ZU _ _
 | y::r,h=>by
  obtain⟨h1,h2⟩:=zd.mp h;unfold zCX
  by_cases z:x<=y
  ·rw[vC z]
   refine zd.mpr ⟨λa ha=>?_,h⟩;cases ha with
   | head=>exact z
   | tail _ ha=>exact yT z (h1 a ha)
  ·rw[vG z]
   refine zd.mpr ⟨λa ha=>?_,qaz h2⟩;cases (q4D.mem_iff.mp ha:a∈x::r)with
   | head=>omega
   | tail _ ha=>exact h1 a ha
theorem q0i:∀{l:List Int},(Yu l).Pairwise (· <= ·)
 | []=>.nil
 | y::r=>qaz (q0i (l:=r))
theorem q0C:∀{l m:List Int},l.Pairwise (· <= ·)->m.Pairwise (· <= ·)->l.Perm m->l=m
 | [],m,_,_,p=>(List.Perm.nil_eq p)
 | a::l,m,h,h',p=>by
  cases m with
  | nil=>exact vP p.length_eq (by simp)
  | cons b m=>
   obtain⟨h1,h2⟩:=zd.mp h;obtain⟨h3,h4⟩:=zd.mp h';have hab:a=b:=by
    have x1:a∈b::m:=p.mem_iff.mp (.head _);have x2:b∈a::l:=p.mem_iff.mpr (.head _);cases x1 with
    | head=>rfl
    | tail _ x1=>
     cases x2 with
     | head=>rfl
     | tail _ x2=>have:=h3 a x1;have:=h1 b x2;omega
   subst hab;rw[q0C h2 h4 p.cons_inv]
theorem q48(l:List Int):(Yu l).length=l.length:=qq.length_eq
theorem qed{l m:List Int}:Yu l=Yu m↔l.Perm m :=
 ⟨λh=>qq.symm.trans (h▸qq),λh=>q0C q0i q0i ((qq.trans h).trans qq.symm)⟩
def rSortL:List V->Hp->VK->Prop:=λxs H Q=>∃p ns,xs=[.ref p]/\H p=some (.lst (ns.map V.int))/\ns.length<64/\∀l,H l=none->Q (.ref l) (upd H l (.lst ((Yu ns).map V.int)))
noncomputable def zCA:D->Option R
 | .lst ds=>(intsOf ds).bind λns=>if ns.length<64 then some (.fr ((Yu ns).map D.int))else none
 | _=>none
noncomputable def zBF(f:FD):FE:=λω=>(f ω).bind zCA
section
variable{X:Cx}
theorem qb4:X3 X (.builtin "sorted") rSortL:=by
 intro pins s σ H xs us Q I r h;obtain⟨p,ns,rfl,hp,hz,q⟩:=h;obtain⟨u,rfl,rx⟩:=vals1 r;cases rx;obtain⟨its,n,rv,e,_⟩:=I.lst hp;have hlen:its.length=ns.length:=by rw[<- rv.length,zB]
 refine PyProof.Rows.sorted_ints ⟨_,e,rfl,n,rfl⟩ (q3U rv) ∅ λout ns' a1 a2 a3=>?_;obtain⟨m,hm⟩:=PyProof.Rows.sortedAll_at s.heap its out;have en:ns'=Yu ns:=q0C a3 q0i (a2.trans qq.symm);subst en;have hsl:(Yu ns).length<=sizeLine:=by rw[q48];exact yJ (yU hz) (by decide)
 have I2:=I.laid (a:=s.heap.objs.size+1) (o:=.lst ((Yu ns).map V.int)) (t':=s.toks) (λb o e=>PyProof.Rows.sortedAll_old e) (yx _)
  (show Y2 X.prog X.w _ (PyProof.Rows.sortedAll s.heap its out) _ (.lst _)from ⟨by rw[zB];exact hsl,out.toList,m,q0W a1,by rw[xC];exact hm⟩)
 exact⟨.ref _,_,I2,rfl,q _ (I.hok.fresh (yx _))⟩
theorem qfu{a:vX}{f:FD}{p q:Pos}(hg:Gl X "sorted")(hm:X.mg "sorted" = none)(ha:XV X a f)(he:vK [a] X.env=(false,eval a X.env)::vK [] X.env:=by rfl)(hpl:(vk q (vK [] X.env)).any (·.1)=false:=by rfl):XE X (.Call (.Name "sorted" p) [a] [] q) (zBF f):=by
 obtain⟨t,h1,h2⟩:=ha;refine⟨_,q1x qb4 hg hm q1L (qt h1 qr he) (by decide) (by decide) he hpl,λG0 H0 G ω σ H r Q o e k=>?_⟩;obtain⟨d,z,e⟩:=bnd e;refine h2 G0 H0 G ω σ H d _ o z λv G1 H1 x1 y1=>?_;cases d with
 | lst ds=>
  obtain⟨ns,e1,e2⟩:=bnd (show (intsOf ds).bind _=some r from e);have hds:=q0y e1;subst hds
  by_cases hz:ns.length<64
  ·rw[vC hz]at e2
   cases e2;obtain⟨p,vs,rfl,g1,g2⟩:=y1.lst x1.gh;have hv:=g2.of_ints;subst hv;refine⟨p,ns,rfl,g1,hz,λl hl=>?_⟩;have x2:=Ext.hide x1.gh hl (.lst ((Yu ns).map V.int));exact k _ G1 _ (x1.trans x2) ⟨l,_,rfl,x1.hh.free hl,x1.gh.free hl,qe,Yo.ints _⟩
  ·rw[vG hz]at e2;cases e2
 | _=>cases e
end
end Hk
namespace Hk
open PySem PySem.Spec PyProof.Rows
theorem zBj:ux (.type "list_reverseiterator") "__len__" = pure none:=by rw[uL,v5];kernel_rfl
theorem zCK:ux (.type "list_reverseiterator") "__length_hint__" = pure (some (.builtin "list_reverseiterator.__length_hint__")):=by rw[uL,v5];kernel_rfl
section
variable{prog:vW}{w:vZ}{A:ve}{E:vB->vF->Prop}{s:vF}
theorem qe9{r:vJ}{Q:Bool->vF->Prop}(hT:s.TypeIs (.ref r) "list_reverseiterator")(h:Q false s):vO (model prog w) A (Builtin.List.listLengthHint (.ref r)) Q E s:=by
 unfold Builtin.List.listLengthHint;refine vA (ub hT zBj ?_);show vO _ A (specialOf (Value.ref r) (Str.ofString "__length_hint__") >>= _) _ _ _;refine vA (ub hT zCK ?_);generalize hid:("list_reverseiterator.__length_hint__" : String)=id0
 wp_delta
 rw[show splitId id0=some ("list_reverseiterator", "__length_hint__")from by subst hid;decide +kernel];subst hid;refine vA (uW (T := "list_reverseiterator") (b:=true) hT (by rw[ut];kernel_rfl) ?_);refine vf (λhab=>vP hab (by decide)) (λ_=>?_);refine vf (λ_=>?_) (λhab=>vP ⋯ hab);refine vf (λhab=>vP hab ⋯) (λ_=>?_);exact vH h
theorem qb2{R:sC->vF->Prop}{S I l:vJ}{items:Array vB}{res:vB}{c₀:Nat}(hh:A.handled=none)(hn:items.size<=sizeLine)(hSI:S≠I)(hSl:S≠l)(hne:l≠I)(hit:s.heap.IsRevIter I l ((items.size:Int)-1))(hl:s.heap.IsList l items)(hS:Wp s.heap S #[] c₀)(hR:∀(h':vj)(tk:Nat)(c:Nat),(∀b o,b≠S->b≠I->s.heap.get? b=some o->h'.get? b=some o)->Wp h' S items.reverse c->R (.ok (.ret res)) { s with heap:=h',toks:=tk }):
  vO (model prog w) A.in1 (Builtin.List.listExtendWith (.ref S) (.ref I) res)
   (λfin s'=>match fin with|.done f=>R (.ok f) s'|.again c'=>c'.quiet=true/\uc (model prog w) A c' R s') (λe s'=>R (.error e) s') s:=by
 have W:=Walks.listRev (prog:=prog) (w:=w) (A:=A.in1) hh I l hne items;have hT:=hit.typeIs;have hSf:S∉[I,l]:=by simp[hSI,hSl]
 unfold Builtin.List.listExtendWith;refine vA (ug (T := "list_reverseiterator") hT ?_);rw[show Builtin.List.listSameRef (.ref S) (.ref I)=false by simp[Builtin.List.listSameRef,hSI],show (Value.type "list_reverseiterator" == Value.type "list")=false by decide,show (Value.type "list_reverseiterator" == Value.type "tuple")=false by decide];refine vf (λhab=>vP hab (by decide)) (λ_=>?_);refine vA (wpAny_pyIter_revIter hit ?_);refine vA (vn (qe9 hT ?_));refine vf (λhab=>vP hab (by decide)) (λ_=>?_);have st:0<=items.size/\s.heap.IsRevIter I l ((items.size:Int)-1-((0:Nat):Int))/\s.heap.IsList l items:=⟨zy _,by simpa using hit,hl⟩;refine vH ⟨uQ PySem.F.plain_extend_loop _,ti W.toS hn S hSf res items.size 0 _ #[] c₀ rfl (zy _) st hS (ItemsOf.nil _) λs' acc' c' hm hS' hacc=>?_⟩;rw[Moved.eq_with hm];have e:acc'=items.reverse:=by
  apply Array.ext_getElem?;intro j;rcases zw j items.size with z|z
  ·have hz:j<acc'.size:=by rw[hacc.1];exact z
   have q:acc'[j]?=some acc'[j]:=zz hz;rw[q,Array.getElem?_reverse z];exact(hacc.2 j _ q).symm
  ·rw[ya (by rw[hacc.1];exact z),ya (by rw[Array.size_reverse];exact z)]
 subst e;exact hR s'.heap s'.toks c' (λb o b1 b2 e=>hm.heap b o (by simp[b1,b2]) e) hS'
theorem qdI{l:vJ}{items:Array vB}{Q:vB->vF->Prop}(hh:A.handled=none)(hn:items.size<=sizeLine)(hl:s.heap.IsList l items)(hQ:∀(h':vj)(tk:Nat)(S:vJ)(c:Nat),s.heap.objs.size<=S->(∀b o,s.heap.get? b=some o->h'.get? b=some o)->Wp h' S items.reverse c->Q (.ref S) { s with heap:=h',toks:=tk }):
  vO (model prog w) A (call (.type "list") [.ref s.heap.objs.size]) Q E { s with heap:=s.heap.push (revObj l ((items.size:Int)-1)) }:=by
 have hll:l<s.heap.objs.size:=by obtain⟨_,e,_⟩:=hl;exact zO e
 have gI:(s.heap.push (revObj l ((items.size:Int)-1))).get? s.heap.objs.size=some (revObj l ((items.size:Int)-1)):=zR _ rfl;have k1:∀b o,s.heap.get? b=some o->(s.heap.push (revObj l ((items.size:Int)-1))).get? b=some o:=λb o e=>zE _ e;generalize hI:s.heap.objs.size=I at *;generalize hp:s.heap.push (revObj l ((items.size:Int)-1))=h1 at *;have hI1:I<h1.objs.size:=zO gI;have hS:(h1.push { cls:=.type "list", data:=.seq #[] }).get? h1.objs.size=some { cls:=.type "list", data:=.seq #[] }:=zR _ rfl;refine callType_codes (s:={ s with heap:=h1 }) (Q₁:=λobj s₁=>obj=.ref h1.objs.size/\s₁={ s with heap:=h1.push { cls:=.type "list", data:=.seq #[] } }) PySem.F.called_list (PySem.F.typeCall_list_1 _) PySem.F.entry_list_init
  (code_list_new _ ⟨rfl,rfl⟩) λobj s₁ z=>?_
 obtain⟨rfl,rfl⟩:=z;refine⟨⟨_,hS,rfl⟩,PySem.F.args_list_init_2 _ _,?_⟩;generalize hS0:h1.objs.size=S at *;show vO _ _ (do let old <- Builtin.List.listItems (.ref S);Builtin.List.listUpdate (.ref S) (λ_=>#[]);letGo old.toList.reverse;Builtin.List.listExtendWith (.ref S) (.ref I) .none) _ _ _;apply vA;unfold Builtin.List.listItems;refine vA (ud hS rfl (vH ?_));show vO _ _ (tE S (λ_=>#[]) >>= λ_=>letGo (#[]:Array vB).toList.reverse >>= λ_=>Builtin.List.listExtendWith (.ref S) (.ref I) .none) _ _ _;refine vA (uM hS rfl ?_);have hS2:=get?_update_seq hS (λ_=>(#[]:Array vB));have oth:∀b o,b≠S->h1.get? b=some o->((h1.push { cls:=.type "list", data:=.seq #[] }).update S (Obj.mapSeq (λ_=>(#[]:Array vB)))).get? b=some o :=
  λb o hb e=>(zk _ _ (Ne.symm hb)).trans (zE _ e)
 refine vA (sQ ?_);have n1:S≠I:=by simp only[vJ]at *;omega
 have n2:S≠l:=by simp only[vJ]at *;omega
 have n3:l≠I:=by simp only[vJ]at *;omega
 refine qb2 (A:=A.in1) (items:=items) (I:=I) (l:=l) hh hn n1 n2 n3 ⟨_,oth _ _ (Ne.symm n1) gI,rfl,rfl⟩ (hl.at λo e=>oth l o (Ne.symm n2) (k1 l o e)) hS2 λh' tk c kp e=>?_;refine⟨rfl,hQ h' tk S c (by simp only[vJ]at *;omega) (λb o z=>?_) e⟩;have hb:b<I:=hI▸zO z;exact kp b o (by simp only[vJ]at *;omega) (by simp only[vJ]at *;omega) (oth b o (by simp only[vJ]at *;omega) (k1 b o z))
end
open L2
def rLR:List V->Hp->VK->Prop:=λvs H Q=>∃p xs,vs=[.ref p]/\H p=some (.lst xs)/\∀S,H S=none->Q (.ref S) (upd H S (.lst xs.reverse))
section
variable{X:Cx}
theorem qbq{a:vX}{t:TA}{p1 p2 q1 q2:Pos}(hg1:Gl X "list")(hm1:X.mg "list" = none)(hg2:Gl X "reversed")(hm2:X.mg "reversed" = none)(ha:PA X [a] t)(hc:X.calm=true)(he1:vK [a] X.env=(false,eval a X.env)::vK [] X.env)(hpl1:(vk q2 (vK [] X.env)).any (·.1)=false)(he2:vK [.Call (.Name "reversed" p2) [a] [] q2] X.env=(false,eval (.Call (.Name "reversed" p2) [a] [] q2) X.env)::vK [] X.env)(hpl2:(vk q1 (vK [] X.env)).any (·.1)=false):
  PE X (.Call (.Name "list" p1) [.Call (.Name "reversed" p2) [a] [] q2] [] q1) (tCB rLR t):=by
 intro pins s σ H Q I h;refine v3 (q0b I hg1 hm1 q0X ?_ (by decide) (by decide));refine PyProof.Rows.callWith_type1 ?_ he2 hpl2;rw[he2];show vO _ _ (spliced ((false,eval _ X.env)::vk q1 (vK [] X.env))) _ _ s;refine Calls.spliced_cons ?_;refine v3 (q0b I hg2 hm2 PyProof.Rows.boot_reversed ?_ (by decide) (by decide));refine PyProof.Rows.callWith_type1 (thn (ha q2 pins s σ H _ I h) λus s1 ⟨vs,H1,I1,r1,z1⟩=>?_) he1 hpl1;obtain⟨p,xs,rfl,hp,k⟩:=z1;obtain⟨u,rfl,e1⟩:=vals1 r1;cases e1;obtain⟨its,n,rv,g1,sz⟩:=I1.lst hp;have il:s1.heap.IsList p its.toArray:=⟨_,g1,rfl,n,rfl⟩;refine call_reversed_list il (Calls.spliced_nil ?_);refine qdI (I1.ok.hd hc) (by rw[zP,<- rv.length];exact sz) il λh2 tk S c b1 b2 b3=>?_;refine⟨.ref S,_,I1.laid (t':=tk) b2 b1 (show Y2 X.prog X.w _ h2 S (.lst xs.reverse)from ⟨by rw[xJ];exact sz,its.reverse,c,rv.reverse,by rw[b3];simp⟩),rfl,k S (I1.hok.fresh b1)⟩
end
end Hk
namespace L2
open PySem PySem.Spec PyProof.Rows
theorem Inv.turnedL{X:Cx}{pins:List (vJ×Obj)}{σ:List (Option V)}{H:Hp}{s:vF}{h':vj}{t':Nat}{fp:List vJ}(I:Inv X pins σ H s)(k:∀b o,b∉fp->s.heap.get? b=some o->h'.get? b=some o)(hf:∀b∈fp,WH X pins H b):
  Inv X pins σ H { s with heap:=h',toks:=t' }:=by
 have nit:∀b u,H b=some u->b∉fp:=λb u e z=>by have:=(hf b z).1;rw[e]at this;cases this
 refine I.step (g':=s.gens) (d':=s.drawn) (ch:=fp) (λb hb=>?_) (λb o _ _ hc e _=>k b o hc e) (λb o _ _ hc e _=>⟨o.slots,k b o hc e⟩) (λ_ _ _ _ n=>n)
  (λb o hc e=>⟨o,k b o hc e⟩) (λ_ _ e=>e) (λ_ _ _ e=>e) (λb ps e=>⟨#[],by rw[e];simp⟩) (λm hm=>?_) (λb u e=>?_) I.bare
 ·obtain⟨f0,f1,f2,f3,f4,f5⟩:=hf b hb
  exact⟨f3,f1,f4,f5⟩
 ·obtain⟨o,es,ep,ho,r⟩:=hm
  exact⟨o,es,ep,k _ o (λz=>(hf _ z).2.1 rfl) ho,r⟩
 ·refine(I.hok b u e).stay (λc v hc q=>k c v ?_ q) (λ_ q=>q) λ_ _ q=>q
  rcases hc with z|z
  ·rw[z];exact nit b u e
  ·exact nit c _ z
noncomputable def Itz(K:zA)(a b:vJ):It :=
 ⟨λi H=>∃xs ys x y,SqL K H a xs/\SqL K H b ys/\xs[i]?=some x/\ys[i]?=some y,
  λi H x H'=>∃t x1 y1,H t=none/\x=.ref t/\H'=upd H t (.tup [x1,y1])/\∀xs ys,SqL K H a xs->SqL K H b ys->xs[i]?=some x1/\ys[i]?=some y1,
  λi H=>∃xs ys,SqL K H a xs/\SqL K H b ys/\(xs[i]?=none\/ys[i]?=none)⟩
theorem qdB{P:vW}{w:vZ}{K:zA}{elts:List vX}{kx}{tpos:Pos}(a b z TI TO i1 i2:vJ)(D:uz z TI TO i1 i2 a b):
  Turn P w K (.Tuple elts kx tpos) (Itz K a b) [z,TI,TO,i1,i2] z (λi h=>IsZip h z TI TO .none/\uu h TI (.ref i1) (.ref i2)/\(∃x y,uu h TO x y)/\h.IsListIter i1 a i/\h.IsListIter i2 b i) where
 mem:=by simp
 obj:=λi h st c hc=>by
  obtain⟨s1,s2,⟨_,_,s3⟩,⟨o4,e4,c4,d4⟩,⟨o5,e5,c5,d5⟩⟩:=st;simp only[zF,zi,or_false]at hc;rcases hc with rfl|rfl|rfl|rfl|rfl
  ·exact⟨_,s1,λv y=>by cases (show Data.fields _=Data.cell v from y)⟩
  ·exact⟨_,s2,λv y=>by cases (show Data.seq _ _=Data.cell v from y)⟩
  ·exact⟨_,s3,λv y=>by cases (show Data.seq _ _=Data.cell v from y)⟩
  ·exact⟨_,e4,λv y=>by rw[d4]at y;cases y⟩
  ·exact⟨_,e5,λv y=>by rw[d5]at y;cases y⟩
 keep:=λi h h' st k=>by
  obtain⟨s1,s2,⟨x,y,s3⟩,s4,s5⟩:=st;exact⟨k _ (by simp) _ s1,k _ (by simp) _ s2,⟨x,y,k _ (by simp) _ s3⟩,s4.at λo e=>k _ (by simp) o e,s5.at λo e=>k _ (by simp) o e⟩
 item:=by
  intro X hP hw hK hc i pins s σ H E I hf st hg;subst hP hw hK;obtain⟨xs,ys,x,y,hq1,hq2,hx,hy⟩:=hg;obtain⟨its1,rv1,p1,hz1⟩:=I.list hq1;obtain⟨its2,rv2,p2,hz2⟩:=I.list hq2;obtain⟨u1,hu1,ru1⟩:=rv1.get hx;obtain⟨u2,hu2,ru2⟩:=rv2.get hy;obtain⟨s1,s2,⟨_,_,s3⟩,s4,s5⟩:=st;have ex:∀c∈[z,TI,TO,i1,i2],∃o,s.heap.get? c=some o:=λc hc=>by
   simp only[zF,zi,or_false]at hc;rcases hc with rfl|rfl|rfl|rfl|rfl
   ·exact⟨_,s1⟩
   ·exact⟨_,s2⟩
   ·exact⟨_,s3⟩
   ·obtain⟨o,e,_⟩:=s4;exact⟨o,e⟩
   ·obtain⟨o,e,_⟩:=s5;exact⟨o,e⟩
  have nt:∀c∈[z,TI,TO,i1,i2],c≠s.heap.objs.size:=λc hc=>by
   obtain⟨o,e⟩:=ex c hc;exact zr (zO e)
  refine tY D s1 s2 s3 s4 s5 p1.isList p2.isList (x:=u1) (y:=u2) (by simpa using hu1) (by simpa using hu2) λh' a1 a2 a3 a4 a5 a6 hk=>?_;have hn:H s.heap.objs.size=none:=I.hok.fresh (zK _);have I1:Inv X pins σ (upd H s.heap.objs.size (.tup [x,y])) { s with heap:=s.heap.push { cls:=.type "tuple", data:=.seq #[u1,u2] },toks:=s.toks } :=
   I.laid (λb o e=>zE _ e) (zK _) (show Y2 X.prog X.w _ _ _ (.tup [x,y])from ⟨by show 2<=sizeLine;decide,[u1,u2],.cons ru1 (.cons ru2 .nil),⟨_,zR _ rfl,rfl,_,rfl⟩⟩)
  have hf':∀c∈[z,TI,TO,i1,i2],WH X pins (upd H s.heap.objs.size (.tup [x,y])) c:=λc hc=>by
   obtain⟨f0,f⟩:=hf c hc;exact⟨by rw[qd (nt c hc)];exact f0,f⟩
  have I2:Inv X pins σ (upd H s.heap.objs.size (.tup [x,y])) { s with heap:=h',toks:=s.toks }:=I1.turnedL (λb o hb e=>by
   simp only[zF,zi,or_false,not_or]at hb
   by_cases q:b=s.heap.objs.size
   ·subst q
    rw[zR _ rfl]at e;cases e;exact a5
   ·have e':s.heap.get? b=some o:=by
     rcases zw b s.heap.objs.size with l|l
     ·obtain⟨z1,z2⟩:=wF.mp e
      refine wF.mpr ⟨?_,z2⟩;rw[<- z1];show s.heap.objs[b]?=(s.heap.objs.push _)[b]?;rw[Zt,vG q]
     ·have:=zO e
      rw[yc]at this;exact vP (by simp only[vJ]at *;omega) q
    exact hk b o hb.1 hb.2.2.1 hb.2.2.2.1 hb.2.2.2.2 e') hf'
  refine⟨_,rfl,wpAny_letOwnedTupleGo_zip a1 λh2 b1 sb=>?_⟩;have I3:Inv X pins σ (upd H s.heap.objs.size (.tup [x,y])) { s with heap:=h2,toks:=s.toks }:=I2.turnedL (λb o hb e=>(sb.2 b (λq=>hb (by simp[q]))).trans e) hf';refine⟨.ref s.heap.objs.size,_,I3,rfl,⟨_,x,y,hn,rfl,rfl,λxs' ys' q1 q2=>⟨by rw[I.list_inj q1 hq1];exact hx,by rw[I.list_inj q2 hq2];exact hy⟩⟩,⟨b1,?_,⟨u1,u2,sb.extBut _ _ D.TOz a2⟩,a3.extBut sb.extBut D.i1z,a4.extBut sb.extBut D.i2z⟩,λc hc=>(hf' c hc).1⟩;exact sb.extBut _ _ D.TIz (hk _ _ D.TIz D.TITO D.TIi1 D.TIi2 s2)
 done:=by
  intro X hP hw hK hc i pins s σ H E I hf st hg;subst hP hw hK;obtain⟨xs,ys,hq1,hq2,hx⟩:=hg;obtain⟨its1,rv1,p1,hz1⟩:=I.list hq1;obtain⟨its2,rv2,p2,hz2⟩:=I.list hq2;obtain⟨s1,s2,⟨_,_,s3⟩,s4,s5⟩:=st;have l1:=rv1.length;have l2:=rv2.length;refine tq (I.ok.hd hc) D s1 s2 s3 s4 s5 p1.isList p2.isList ?_ λh' hk=>⟨rfl,I.turnedL (t':=s.toks) (λb o hb e=>?_) hf⟩
  ·rcases hx with hx|hx
   ·exact .inl (by rw[xv]at hx;simp;omega)
   ·exact .inr (by rw[xv]at hx;simp;omega)
  ·simp only[zF,zi,or_false,not_or]at hb
   exact hk b o hb.1 hb.2.2.1 hb.2.2.2.1 hb.2.2.2.2 e
 self:=λ_ _ _ _ _ st h=>tQ st.1 h
noncomputable def iZip(K:zA)(ta:TA):TI:=λσ H R=>ta σ H λvs H1=>∃a b xs ys,vs=[.ref a,.ref b]/\SqL K H1 a xs/\SqL K H1 b ys/\R (Itz K a b) H1
theorem qgI{X:Cx}{a b:vX}{ta:TA}{p pos tpos:Pos}{elts:List vX}{kx}(hg:Gl X "zip")(hm:X.mg "zip" = none)(ha:PA X [a,b] ta)(hs:vK [a,b] X.env=[(false,eval a X.env),(false,eval b X.env)]:=by rfl)(hs2:vK [b] X.env=[(false,eval b X.env)]:=by rfl):
  PI X (.Tuple elts kx tpos) (.Call (.Name "zip" p) [a,b] [] pos) (iZip X.K ta):=by
 intro pins s σ H R I h;refine Call_ (q0b I hg hm PyProof.Rows.boot_zip (PyProof.Rows.callWith_type1 (thn (ha pos pins s σ H _ I h) λus s1 ⟨vs,H1,I1,r1,q1⟩=>?_) (by rw[hs,hs2]) (by rw[hs2];rfl)));obtain⟨l1,l2,xs,ys,e,hq1,hq2,q⟩:=q1;subst e;cases r1 with
 | cons r rr=>
  cases rr with
  | cons r' rr=>
   cases rr;cases r;cases r';obtain⟨its1,rv1,p1,hz1⟩:=I1.list hq1;obtain⟨its2,rv2,p2,hz2⟩:=I1.list hq2;have e1:l1<s1.heap.objs.size:=by obtain⟨_,_,e,_⟩:=p1;exact zO e
   have e2:l2<s1.heap.objs.size:=by obtain⟨_,_,e,_⟩:=p2;exact zO e
   refine call_zip_2 p1.isList p2.isList λh' a1 a2 a3 a4 a5 a6 hk=>?_;refine tQ a1 ?_;have D:uz (s1.heap.objs.size+4) (s1.heap.objs.size+2) (s1.heap.objs.size+3) s1.heap.objs.size (s1.heap.objs.size+1) l1 l2:=by
    generalize s1.heap.objs.size=n at *
    constructor <;> (intro q;simp only[vJ]at *;omega)
   refine⟨s1.heap.objs.size+4,[s1.heap.objs.size+4,s1.heap.objs.size+2,s1.heap.objs.size+3,s1.heap.objs.size,s1.heap.objs.size+1],_,_,H1,rfl,I1.kept (t':=s1.toks) hk,qdB l1 l2 _ _ _ _ _ D,⟨a1,a2,⟨_,_,a3⟩,a4,a5⟩,λc hc=>?_,q⟩;have hle:s1.heap.objs.size<=c:=by
    simp only[zF,zi,or_false]at hc;simp only[vJ]at *;omega
   have I2:=I1.kept (t':=s1.toks) hk;exact I1.fpOk hle (I1.hok.fresh hle)
end L2
namespace Hk
open PySem L2
noncomputable def zA0:List D->List D->List D
 | a::as,b::bs=>.tup [a,b]::zA0 as bs
 | _,_=>[]
theorem q5G:∀(as bs:List D),(zA0 as bs).length=min as.length bs.length
 | a::as,b::bs=>by show (zA0 as bs).length+1=_;rw[q5G as bs,zL,zL];omega
 | [],bs=>by cases bs <;> simp[zA0]
 | a::as,[]=>by simp[zA0]
theorem q96:∀(as bs:List D)(i:Nat)(d:D),(zA0 as bs)[i]?=some d->∃a b,as[i]?=some a/\bs[i]?=some b/\d=.tup [a,b]
 | a::as,b::bs,0,d,h=>by cases h;exact⟨a,b,rfl,rfl,rfl⟩
 | a::as,b::bs,i+1,d,h=>q96 as bs i d h
 | [],bs,i,d,h=>by cases bs <;> cases h
 | a::as,[],i,d,h=>by cases h
theorem qdW{K:zA}{G:Hp}{a b:vJ}{ds es:List D}{vs us:List V}(h1:G a=some (.lst vs))(h2:Yo K G ds vs)(h3:G b=some (.lst us))(h4:Yo K G es us):IterOf K (Itz K a b) G (zA0 ds es):=by
 have l1:=h2.len;have l2:=h4.len;refine⟨λH i s hi=>?_,λG2 H i x H' d s0 s1 hd hy=>?_,λH s=>⟨vs,us,SqL.of (s _ _ h1),SqL.of (s _ _ h3),?_⟩⟩
 ·rw[q5G]at hi
  exact⟨vs,us,vs[i]'∅,us[i]'∅,SqL.of (s _ _ h1),SqL.of (s _ _ h3),zD _,zD _⟩
 ·obtain⟨t,x1,y1,ht,rfl,rfl,y⟩:=hy
  obtain⟨e1,e2⟩:=y vs us (SqL.of (s1 _ _ (s0 _ _ h1))) (SqL.of (s1 _ _ (s0 _ _ h3)));obtain⟨p,q,f1,f2,rfl⟩:=q96 ds es i d hd;obtain⟨v,q1,q2⟩:=h2.get f1;obtain⟨u,q3,q4⟩:=h4.get f2;rw[e1]at q1;cases q1;rw[e2]at q3;cases q3;have x2:=Ext.lay s1 ht (.tup [x1,y1]);exact⟨_,x2,⟨t,_,rfl,qe,Yo.cons (q2.mono (s0.trans x2.gg)) (Yo.cons (q4.mono (s0.trans x2.gg)) Yo.nil)⟩⟩
 ·rw[q5G]
  rcases YA ds.length es.length with h|h
  ·exact .inl (zu ∅)
  ·exact .inr (zu ∅)
noncomputable def iZp(g:FA):FI:=λω=>(g ω).bind λds=>match ds with
 | [.lst a,.lst b]=>some (zA0 a b)
 | _=>none
theorem qci{X:Cx}{a b:vX}{g:FA}{p pos tpos:Pos}{elts:List vX}{kx}(hg:Gl X "zip")(hm:X.mg "zip" = none)(ha:XA X [a,b] g)(hs:vK [a,b] X.env=[(false,eval a X.env),(false,eval b X.env)]:=by rfl)(hs2:vK [b] X.env=[(false,eval b X.env)]:=by rfl):
  XI X (.Tuple elts kx tpos) (.Call (.Name "zip" p) [a,b] [] pos) (iZp g):=by
 obtain⟨⟨t,h1,h2⟩,_⟩:=ha;refine⟨_,qgI hg hm h1 hs hs2,λG0 H0 G ω σ H ds R o e k=>?_⟩;obtain⟨vs,q,e⟩:=bnd e;refine h2 G0 H0 G ω σ H vs _ o q λus G1 H1 x1 y1=>?_
 match vs,e with
 | [.lst as,.lst bs],e=>
  cases e;obtain⟨v1,r1,rfl,z1,z2⟩:=y1;obtain⟨v2,r2,rfl,z3,z4⟩:=z2;cases (show r2=[]from z4);obtain⟨a1,ws1,rfl,f1,f2⟩:=z1;obtain⟨a2,ws2,rfl,f3,f4⟩:=z3;exact⟨a1,a2,ws1,ws2,rfl,SqL.of (x1.gh _ _ f1),SqL.of (x1.gh _ _ f3),k _ G1 H1 x1 (qdW f1 f2 f3 f4)⟩
noncomputable def WU(lo:Int)(n:Nat):List Int:=(zb n).map λ(i:Nat)=>lo+(i:Int)
theorem q62(lo:Int)(n:Nat):(WU lo n).length=n:=by unfold WU;rw[zB,zo]
theorem qah:∀(vs:List V)(us:List vB),vs.length=us.length->(∀(j:Nat)v u,vs[j]?=some v->us[j]?=some u->RelV v u)->Yv vs us
 | [],[],_,_=>.nil
 | [],_::_,h,_=>by simp at h
 | _::_,[],h,_=>by simp at h
 | v::vs,u::us,h,f=>.cons (f 0 v u rfl rfl) (qah vs us ⇑h λj a b e1 e2=>f (j+1) a b ⇑e1 ⇑e2)
def rLG(lo:List V->Option (Int×Int)):List V->Hp->VK->Prop:=λvs H Q=>∃i j:Int,lo vs=some (i,j)/\(-(2^62)<=i/\i<2^62)/\(-(2^62)<=j/\j<2^62)/\(j-i).toNat<=1000000/\∀S,H S=none->Q (.ref S) (upd H S (.lst ((WU i (j-i).toNat).map V.int)))
noncomputable def lo1:List V->Option (Int×Int)
 | [.int j]=>some (0,j)
 | _=>none
section
open PySem.Spec PyProof.Rows
variable{X:Cx}
theorem qdF{pins:List (vJ×Obj)}{σ:L2.St}{H:Hp}{s:vF}{Q:VK}{E:vB->vF->Prop}{lo hi:Int}{t u v:Tok}{tk:Nat}(I:Inv X pins σ H s)(hc:X.calm=true)(h1:-(2^62)<=lo/\lo<2^62)(h2:-(2^62)<=hi/\hi<2^62)(h3:(hi-lo).toNat<=1000000)(q:∀S,H S=none->Q (.ref S) (upd H S (.lst ((WU lo (hi-lo).toNat).map V.int)))):
  vO (model X.prog X.w) X.A (call (.type "list") [.ref s.heap.objs.size]) (EP X pins σ Q) E { s with heap:=s.heap.push { cls:=.type "range", data:=.fields #[.int lo t,.int hi u,.int 1 v] },toks:=tk }:=by
 refine call_list_range (I.ok.hd hc) (IsRange.new ..) (small_one h1.1 h1.2 h2.1 h2.2) (n:=(hi-lo).toNat) (by rw[rangeSize_one];split <;> omega) ∅ λh' tk' acc c b1 b2 b3=>?_;have b1':∀b o,s.heap.get? b=some o->h'.get? b=some o:=λb o e=>b1 b o (zE _ e);have hle:s.heap.objs.size<=(s.heap.push { cls:=.type "range", data:=.fields #[.int lo t,.int hi u,.int 1 v] }).objs.size:=by rw[yc];omega
 have hv:Yv ((WU lo (hi-lo).toNat).map V.int) acc.toList:=by
  refine qah _ _ (by rw[zB,q62,zM,b3.1]) λj x y e1 e2=>?_;obtain⟨t',rfl⟩:=b3.2 j y ⇑e2;have hj:j<(hi-lo).toNat:=by
   have:=(zh.mp e1).1;rw[zB,q62]at this;exact this
  unfold WU at e1;rw[yb,zY,xI hj]at e1;cases e1;exact⟨t',by simp⟩
 refine⟨.ref _,_,I.laid (t':=tk') b1' hle (show Y2 X.prog X.w _ h' _ (.lst ((WU lo (hi-lo).toNat).map V.int))from ⟨by rw[zB,q62,vh];omega,acc.toList,c,hv,by rw[xC];exact b2⟩),rfl,q _ (I.hok.fresh hle)⟩
theorem q9M{a:vX}{t:TA}{p1 p2 q1 q2:Pos}(hg1:Gl X "list")(hm1:X.mg "list" = none)(hg2:Gl X "range")(hm2:X.mg "range" = none)(ha:PA X [a] t)(hc:X.calm=true)(he1:vK [a] X.env=(false,eval a X.env)::vK [] X.env)(hpl1:(vk q2 (vK [] X.env)).any (·.1)=false)(he2:vK [.Call (.Name "range" p2) [a] [] q2] X.env=(false,eval (.Call (.Name "range" p2) [a] [] q2) X.env)::vK [] X.env)(hpl2:(vk q1 (vK [] X.env)).any (·.1)=false):
  PE X (.Call (.Name "list" p1) [.Call (.Name "range" p2) [a] [] q2] [] q1) (tCB (rLG lo1) t):=by
 intro pins s σ H Q I h;refine v3 (q0b I hg1 hm1 q0X ?_ (by decide) (by decide));refine PyProof.Rows.callWith_type1 ?_ he2 hpl2;rw[he2];show vO _ _ (spliced ((false,eval _ X.env)::vk q1 (vK [] X.env))) _ _ s;refine Calls.spliced_cons ?_;refine v3 (q0b I hg2 hm2 boot_range ?_ (by decide) (by decide));refine PyProof.Rows.callWith_type1 (thn (ha q2 pins s σ H _ I h) λus s1 ⟨vs,H1,I1,r1,z1⟩=>?_) he1 hpl1;obtain⟨i,j,e,b1,b2,b3,k⟩:=z1
 match vs,e,r1 with
 | [.int j'],e,r1=>
  cases e;obtain⟨u,rfl,e1⟩:=vals1 r1;obtain⟨t',rfl⟩:=e1;exact call_range_1 (Calls.spliced_nil (qdF I1 hc b1 b2 b3 k))
end
noncomputable def zBX(i j:Int):Option R:=if ((-(2^62)<=i/\i<2^62)/\-(2^62)<=j/\j<2^62)/\(j-i).toNat<=1000000 then some (.fr ((WU i (j-i).toNat).map D.int))else none
noncomputable def zAS:List D->Option R
 | [.int j]=>zBX 0 j
 | _=>none
theorem qf7{K:zA}{G H:Hp}{i j:Int}{r:R}{Q:VK}(s:Y0 G H)(e:zBX i j=some r)(k:∀v G' H',Ext G H G' H'->zB1 K H G' H' r v->Q v H'):
  (-(2^62)<=i/\i<2^62)/\(-(2^62)<=j/\j<2^62)/\(j-i).toNat<=1000000/\∀S,H S=none->Q (.ref S) (upd H S (.lst ((WU i (j-i).toNat).map V.int))):=by
 unfold zBX at e
 by_cases z:((-(2^62)<=i/\i<2^62)/\-(2^62)<=j/\j<2^62)/\(j-i).toNat<=1000000
 ·rw[vC z]at e
  cases e;refine⟨z.1.1,z.1.2,z.2,λS hS=>?_⟩;have x2:=Ext.hide s hS (.lst ((WU i (j-i).toNat).map V.int));exact k _ G _ x2 ⟨S,_,rfl,hS,s.free hS,qe,Yo.ints _⟩
 ·rw[vG z]at e;cases e
theorem qfQ{K:zA}:Wn K (rLG lo1) zAS:=by
 intro G H ds vs d Q s e hv k
 match ds,e with
 | [.int j],e=>
  obtain⟨v,rfl,h⟩:=hv.one;cases h.int;obtain⟨a1,a2,a3,a4⟩:=qf7 s e k;exact⟨0,j,rfl,a1,a2,a3,a4⟩
theorem q5p{X:Cx}{a:vX}{g:FA}{p1 p2 q1 q2:Pos}(hg1:Gl X "list")(hm1:X.mg "list" = none)(hg2:Gl X "range")(hm2:X.mg "range" = none)(ha:XVA X [a] g)(hc:X.calm=true:=by rfl)(he1:vK [a] X.env=(false,eval a X.env)::vK [] X.env:=by rfl)(hpl1:(vk q2 (vK [] X.env)).any (·.1)=false:=by rfl)(he2:vK [.Call (.Name "range" p2) [a] [] q2] X.env=(false,eval (.Call (.Name "range" p2) [a] [] q2) X.env)::vK [] X.env:=by rfl)(hpl2:(vk q1 (vK [] X.env)).any (·.1)=false:=by rfl):
  XE X (.Call (.Name "list" p1) [.Call (.Name "range" p2) [a] [] q2] [] q1) (Xj zAS g):=by
 obtain⟨t,h1,h2⟩:=ha;exact⟨_,q9M hg1 hm1 hg2 hm2 h1 hc he1 hpl1 he2 hpl2,q5k qfQ h2⟩
end Hk
namespace Hk
open PySem L2 PyProof.Rows
noncomputable def zAi(k:Int):List Int->Option Nat
 | []=>none
 | a::r=>if a=k then some 0 else (zAi k r).map (·+1)
theorem q7b{k:Int}:∀{ns:List Int}{its:List vB},Yv (ns.map V.int) its->PySem.W.kf_ints its=true/\Ya k its=zAi k ns
 | [],its,h=>by cases h;exact⟨rfl,rfl⟩
 | a::r,its,h=>by
  cases h with
  | cons h1 h2=>
   obtain⟨t,rfl⟩:=h1;obtain⟨e1,e2⟩:=q7b (k:=k) h2;refine⟨e1,?_⟩;unfold Ya zAi;rw[e2]
   by_cases z:a=k
   ·have:isInt k (Value.int a t)=true:=by simp[isInt,z]
    rw[this,vC z];rfl
   ·have:isInt k (Value.int a t)=false:=by simp[isInt,z]
    rw[this,vG z];cases zAi k r <;> rfl
def rRem:V->List V->Hp->VK->Prop:=λx vs H Q=>∃l ns k j,x=.ref l/\vs=[.int k]/\H l=some (.lst (ns.map V.int))/\zAi k ns=some j/\Q .non (upd H l (.lst ((ns.map V.int).eraseIdx j)))
theorem qgT{X:Cx}:MtM X "list.remove" rRem:=by
 intro pins s σ H x vs v us Q I rx rv h;obtain⟨l,ns,k,j,rfl,rfl,hH,hj,q⟩:=h;cases rx;obtain⟨u,rfl,ru⟩:=rv.one;obtain⟨t,rfl⟩:=ru;obtain⟨z,its,n,r,hl,e⟩:=I.lstM hH;obtain⟨e1,e2⟩:=q7b (k:=k) r;rw[hj]at e2;obtain⟨a,b,c⟩:=Z1 e2;refine uo F.slot_list_remove ⟨_,e,rfl⟩ F.entry_list_remove (F.args_list_remove_2 _ _)
  (MeetsSeq.list_remove l its.toArray n (.int k t) (isInt k) (λy hy=>Yb e1 y ⇑hy) j ⇑a ⇑b (λi hi hlt=>(by simpa using c i ⇑hi hlt)) (by rw[zP];omega)) ⟨e,?_⟩
 refine⟨.non,_,I.lset (its':=its.eraseIdx j) hH e ?_ (r.eraseIdx j) ?_,rfl,q⟩
 ·show its.toArray.eraseIdxIfInBounds j=(its.eraseIdx j).toArray
  rw[wP]
 ·have:=q7W (ns.map V.int) j
  omega
noncomputable def sRem(i:Nat)(fd:FD):FS:=λω=>(fd ω).bind λd=>match d with
 | .int k=>match ω[i]? with
  | some (some (.ow ds))=>(intsOf ds).bind λns=>(zAi k ns).map λj=>(.nx,ω.set i (some (.ow ((ns.eraseIdx j).map D.int))))
  | _=>none
 | _=>none
section
variable{X:Cx}{pos:Pos}{o e:vX}{apos cpos:Pos}{i:Nat}{fd:FD}
theorem q81{α β:Type}(f:α->β):∀(l:List α)(j:Nat),(l.map f).eraseIdx j=(l.eraseIdx j).map f
 | [],_=>rfl
 | _::_,0=>rfl
 | a::l,j+1=>by simp[q81 f l j]
theorem qfU(ho:PE X o (XJ i))(he:XD X e fd)(hbase:uG o "remove" X.env (eval o X.env)=eval o X.env:=by rfl)(hfew:((vk cpos (vK [e] X.env)).all (λx=>!x.1)&&(uN cpos (v4 [] X.env)).all (λx=>x.1.isSome)
   && decide (([e]:List vX).length+([]:List uP).length+(if ([]:List uP).isEmpty then 0 else 1)<30))=true:=by rfl)
  (hline:(apos.endLine==cpos.line)=true:=by rfl) (hs:vK [e] X.env=(false,eval e X.env)::vK [] X.env:=by rfl) (hplain:(vk cpos (vK [] X.env)).any (·.1)=false:=by rfl)
  (hsw:v7 (.Call (.Attribute o "remove" apos) [e] [] cpos) none pos.line X.env=pure false:=by rfl) :
  XS X (.Expr (.Call (.Attribute o "remove" apos) [e] [] cpos) pos) (sRem i fd):=by
 obtain⟨t,h1,h2⟩:=he;refine⟨_,q0B (q1X PySem.F.plainAttrs_list PySem.F.slot_list_remove PySem.F.type_list_remove qgT ho (qt h1 qr hs) hbase hfew hline hs hplain) hsw,λG0 H0 G ω σ H out ω' E ow e k=>?_⟩;obtain⟨d,q,e⟩:=bnd e;cases d with
 | int m=>
  dsimp only at e
  split at e
  ·rename_i ds q2
   obtain⟨ns,e1,e2⟩:=bnd e;clear e;have hds:=q0y e1;subst hds;obtain⟨j,hj,e3⟩:=mpd e2;cases e3;obtain⟨l,vs,r1,r2,r3,r4,r5⟩:=ow.ow i _ q2;have hv:=r5.of_ints;subst hv;refine⟨.ref l,r1,.inl ⟨rfl,_,SqL.of r2⟩,h2 G0 H0 G ω σ H _ _ ow q λv G1 H1 x1 y1=>?_⟩;cases (show v=.int m from y1);have o1:=ow.keep x1;refine⟨l,ns,m,j,rfl,rfl,x1.hh _ _ r2,hj,k G1 σ _ ?_ x1.gg⟩;rw[q81];exact o1.mut q2 r1 (x1.hh _ _ r2) (x1.new l r3 (by rw[r2];exact λz=>by cases z)) r4 (Yo.ints _)
  ·cases e
 | _=>cases e
end
end Hk
namespace Hk
open PySem L2
section
variable{X:Cx}{o c:vX}{body:List vz}{pos ipos npos:Pos}{i j:Nat}{fc:FT}{fb:FS}
end
noncomputable def dropW(o:Option R)(ω:WSt):Option (Out×WSt):=o.map λ_=>(.nx,ω)
noncomputable def zipI(o:Option (List D)):Option (List D):=o.bind λds=>match ds with
 | [.lst a,.lst b]=>some (zA0 a b)
 | _=>none
noncomputable def remS(i:Nat)(ω:WSt)(o:Option D)(l:Option (Option W)):Option (Out×WSt):=o.bind λd=>match d with
 | .int k=>match l with
  | some (some (.ow ds))=>(intsOf ds).bind λns=>(zAi k ns).map λj=>(.nx,ω.set i (some (.ow ((ns.eraseIdx j).map D.int))))
  | _=>none
 | _=>none
noncomputable def sortR(o:Option D):Option R:=o.bind zCA
section
variable{ω:WSt}{fe:FE}{fd:FD}{fa:FA}{r:R}{ds as bs:List D}{i j:Nat}{f:FS}{ft:FT}{m:List D->List D}
theorem q2X:zBZ fe ω=dropW (fe ω) ω:=rfl
theorem e_wd:dropW (some r) ω=some (.nx,ω):=rfl
theorem q4a:iZp fa ω=zipI (fa ω):=rfl
theorem e_wz:zipI (some [.lst as,.lst bs])=some (zA0 as bs):=rfl
theorem q4e:sRem i fd ω=remS i ω (fd ω) ω[i]?:=rfl
theorem q3p:zBF fd ω=sortR (fd ω):=rfl
end
theorem qg0{i:Nat}{ω:WSt}{k:Int}{ns:List Int}{p:Nat}(h:zAi k ns=some p):remS i ω (some (.int k)) (some (some (.ow (ns.map D.int))))=some (.nx,ω.set i (some (.ow ((ns.eraseIdx p).map D.int)))):=by
 show (intsOf (ns.map D.int)).bind _=_;rw[q0h];show (zAi k ns).map _=_;rw[h];rfl
theorem qfk{ns:List Int}(h:ns.length<64):sortR (some (.lst (ns.map D.int)))=some (.fr ((Yu ns).map D.int)):=by
 show (intsOf (ns.map D.int)).bind _=_;rw[q0h];exact vC h
theorem qa7{n:Int}(h:-(2^62)<=n/\n<=1000000):zAS [.int n]=some (.fr ((WU 0 n.toNat).map D.int)):=by
 show zBX 0 n=_;unfold zBX;rw[vC ⟨⟨⟨by decide,by decide⟩,h.1,∅⟩,∅⟩,Int.sub_zero]
end Hk
namespace L2
open PySem PySem.Spec PyProof.Rows
section
variable{κ:Type}[DecidableEq κ]
noncomputable def WZ(kvs:List (κ×V))(k:κ):Option V:=(kvs.find? λkv=>decide (kv.1=k)).map (·.2)
noncomputable def putK(kvs:List (κ×V))(k:κ)(v:V):List (κ×V) :=
 if (kvs.any λkv=>decide (kv.1=k))=true then kvs.map (λkv=>if kv.1=k then (kv.1,v)else kv)else kvs++[(k,v)]
theorem q3z{p:κ×V}{r:List (κ×V)}{k:κ}(e:p.1=k):WZ (p::r) k=some p.2:=by simp[WZ,xm,e]
theorem q3E{p:κ×V}{r:List (κ×V)}{k:κ}(e:¬p.1=k):WZ (p::r) k=WZ r k:=by simp[WZ,xm,e]
theorem q5U(k:κ):∀kvs:List (κ×V),(kvs.any λkv=>decide (kv.1=k))=(WZ kvs k).isSome
 | []=>rfl
 | p::r=>by
  rw[wA]
  by_cases e:p.1=k
  ·simp only[q3z e,vU e,wK,Option.isSome_some]
  ·rw[q3E e,vS e,wB];exact q5U k r
theorem q2B(kvs:List (κ×V))(k:κ)(v:V):(putK kvs k v).length<=kvs.length+1:=by
 unfold putK
 split
 ·rw[zB];omega
 ·rw[zC,zL,yz];omega
theorem qdc{kvs:List (κ×V)}{k:κ}(v:V)(h:WZ kvs k=none):putK kvs k v=kvs++[(k,v)]:=by
 unfold putK;rw[q5U,h];exact vG (by decide)
theorem zAw.isSome_eq{o:Option V}{u:Option vB}(r:zAw o u):o.isSome=u.isSome:=by
 cases o with
 | none=>cases u with
  | none=>rfl
  | some _=>exact(show False from r).elim
 | some _=>cases u with
  | none=>exact(show False from r).elim
  | some _=>rfl
theorem zAw.getD{o:Option V}{u:Option vB}{d:V}{d':vB}(r:zAw o u)(rd:RelV d d'):RelV (o.getD d) (u.getD d'):=by
 cases o with
 | none=>cases u with
  | none=>exact rd
  | some _=>exact(show False from r).elim
 | some _=>cases u with
  | none=>exact(show False from r).elim
  | some _=>exact r
theorem KV.val{kvs:List (κ×V)}{vs:List (κ×vB)}(r:KV kvs vs)(k:κ):zAw (WZ kvs k) (t7 vs k):=by
 unfold KV at r
 induction r with
 | nil=>exact True.intro
 | @cons p q ps qs h t ih=>
  obtain⟨h1,h2⟩:=h
  by_cases e:p.1=k
  ·have e':q.1=k:=h1.symm.trans e
   have b:t7 (q::qs) k=some q.2:=by simp[t7,xm,e']
   rw[q3z e,b];exact h2
  ·have e':¬q.1=k:=λz=>e (h1.trans z)
   have b:t7 (q::qs) k=t7 qs k:=by simp[t7,xm,e']
   rw[q3E e,b];exact ih
theorem KV.any{kvs:List (κ×V)}{vs:List (κ×vB)}(r:KV kvs vs)(k:κ):(kvs.any λkv=>decide (kv.1=k))=vs.any λkv=>decide (kv.1=k):=by
 unfold KV at r
 induction r with
 | nil=>rfl
 | cons h t ih=>rw[wA,wA,ih,h.1]
theorem KV.repl{kvs:List (κ×V)}{vs:List (κ×vB)}(r:KV kvs vs)(k:κ){y:V}{u:vB}(ry:RelV y u):
  KV (kvs.map λkv=>if kv.1=k then (kv.1,y)else kv) (vs.map λkv=>if kv.1=k then (kv.1,u)else kv):=by
 unfold KV at r ⊢
 induction r with
 | nil=>exact .nil
 | @cons p q ps qs h t ih=>
  rw[zc,zc];refine .cons ?_ ih;obtain⟨h1,h2⟩:=h
  by_cases e:p.1=k
  ·rw[vC e,vC (h1.symm.trans e)];exact⟨h1,ry⟩
  ·rw[vG e,vG (λz=>e (h1.trans z))];exact⟨h1,h2⟩
theorem KV.put{kvs:List (κ×V)}{vs:List (κ×vB)}(r:KV kvs vs)(k:κ){y:V}{u:vB}(ry:RelV y u):KV (putK kvs k y) (stored vs k u):=by
 unfold putK stored;rw[r.any k]
 by_cases e:(vs.any λkv=>decide (kv.1=k))=true
 ·rw[vC e,vC e];exact r.repl k ry
 ·rw[vG e,vG e];exact Paired.snoc r ⟨rfl,ry⟩
theorem KV.keys{kvs:List (κ×V)}{vs:List (κ×vB)}(r:KV kvs vs):kvs.map (·.1)=vs.map (·.1):=by
 unfold KV at r
 induction r with
 | nil=>rfl
 | cons h t ih=>rw[zc,zc,ih,h.1]
theorem KV.length{kvs:List (κ×V)}{vs:List (κ×vB)}(r:KV kvs vs):kvs.length=vs.length:=Paired.length r
end
theorem q3Q{P:vW}{w:vZ}{k:Key}{u:vB}(r:RelV (kV k) u):(Yw P w).is k u=true:=by
 cases k with
 | inl i=>obtain⟨t,e⟩:=(show ∃t,u=Value.int i t from r);subst e;exact q9L P w i t
 | inr x=>obtain⟨t,e⟩:=(show ∃t,u=Value.str x t from r);subst e;exact q9O P w x t
theorem q7D{P:vW}{w:vZ}:∀{ks:List Key}{us:List vB},Yv (ks.map kV) us->ItemsAre (Yw P w) ks us
 | [],_,r=>by rw[yP]at r;cases r;exact .nil
 | k::ks,_,r=>by
  rw[zc]at r;cases r with
  | cons h t=>exact .cons (q3Q h) (q7D t)
abbrev KT(H:Hp):List (List Key×V)->List (List Key×vJ×vB)->Prop:=sM λp q=>p.1=q.1/\H q.2.1=some (.tup (p.1.map kV))/\RelV p.2 q.2.2
theorem KT.val{H:Hp}{kvs:List (List Key×V)}{xs:List (List Key×vJ×vB)}(r:KT H kvs xs)(k:List Key):zAw (WZ kvs k) ((sS xs k).map (·.2)):=by
 induction r with
 | nil=>exact True.intro
 | @cons p q ps qs h t ih=>
  obtain⟨h1,_,h2⟩:=h
  by_cases e:p.1=k
  ·have e':q.1=k:=h1.symm.trans e
   have b:sS (q::qs) k=some q.2:=by simp[sS,xm,e']
   rw[q3z e,b];exact h2
  ·have e':¬q.1=k:=λz=>e (h1.trans z)
   have b:sS (q::qs) k=sS qs k:=by simp[sS,xm,e']
   rw[q3E e,b];exact ih
theorem KT.repl{H:Hp}{kvs:List (List Key×V)}{xs:List (List Key×vJ×vB)}(r:KT H kvs xs)(k:List Key){y:V}{u:vB}(ry:RelV y u):
  KT H (kvs.map λkv=>if kv.1=k then (kv.1,y)else kv) (xs.map (putAt k u)):=by
 induction r with
 | nil=>exact .nil
 | @cons p q ps qs h t ih=>
  rw[zc,zc];refine .cons ?_ ih;obtain⟨h1,h2,h3⟩:=h;unfold putAt
  by_cases e:p.1=k
  ·rw[vC e,vC (h1.symm.trans e)];exact⟨h1,h2,ry⟩
  ·rw[vG e,vG (λz=>e (h1.trans z))];exact⟨h1,h2,h3⟩
theorem KT.put{H:Hp}{kvs:List (List Key×V)}{xs:List (List Key×vJ×vB)}(r:KT H kvs xs)(k:List Key){b:vJ}{y:V}{u:vB}(hb:H b=some (.tup (k.map kV)))(ry:RelV y u):
  KT H (putK kvs k y) (storedH xs k b u):=by
 have e:(kvs.any λkv=>decide (kv.1=k))=(sS xs k).isSome:=by
  rw[q5U,(r.val k).isSome_eq,YB]
 unfold putK storedH;rw[e]
 by_cases q:(sS xs k).isSome=true
 ·rw[vC q,vC q];exact r.repl k ry
 ·rw[vG q,vG q];exact Paired.snoc r ⟨rfl,hb,ry⟩
theorem KT.keeps{H H':Hp}{kvs:List (List Key×V)}{xs:List (List Key×vJ×vB)}(r:KT H kvs xs)(ht:∀b ys,H b=some (.tup ys)->H' b=some (.tup ys)):KT H' kvs xs :=
 Paired.mapP r λ_ _ z=>⟨z.1,ht _ _ z.2.1,z.2.2⟩
section
variable{P:vW}{w:vZ}{H:Hp}{h:vj}{a:vJ}
theorem qeg{u:HO}(ok:HOk P w H h)(e:Rd H a u):Y2 P w H h a u:=e.ok ok
theorem q3A{kvs:List (Key×V)}(ok:HOk P w H h)(e:Rd H a (.dK kvs)):kvs.length<=sizeLine/\(a==uJ)=false/\∃vs,KV kvs vs/\h.DictOf (Yw P w) a vs :=
 show Y2 P w H h a (.dK kvs)from qeg ok e
theorem qb8{kvs:List (Key×V)}(ok:HOk P w H h)(e:H a=some (.dK kvs)):kvs.length<=sizeLine/\(a==uJ)=false/\∃vs,KV kvs vs/\h.DictOf (Yw P w) a vs:=q3A ok (.inl e)
theorem q4R{ks:List Key}(ok:HOk P w H h)(e:H a=some (.tup (ks.map kV))):(tN (Yw P w)).is h ks a:=by
 obtain⟨_,its,r,o,h1,h2,n,h3⟩:=(show Y2 P w H h a (.tup (ks.map kV))from ok a _ e);exact⟨o,its.toArray,n,h1,h2,h3,by simpa using q7D r⟩
theorem q5j{kvs:List (List Key×V)}(ok:HOk P w H h)(e:Rd H a (.dT kvs)):kvs.length<=sizeLine/\(a==uJ)=false /\
  ∃xs,KT H kvs xs/\h.DictOfH (tN (Yw P w)) a xs:=by
 obtain⟨z,y,xs,r,o,es,ep,h1,h2,h3,h4,h5⟩:=(show Y2 P w H h a (.dT kvs)from qeg ok e);refine⟨z,y,xs,r,o,es,ep,h1,h2,h3,h4,λx hx=>?_,h5⟩;have all:∀{l:List (List Key×V)}{m:List (List Key×vJ×vB)},KT H l m->∀x∈m,(tN (Yw P w)).is h x.1 x.2.1:=by
  intro l m q
  induction q with
  | nil=>intro x hx;exact nomatch hx
  | @cons p q ps qs hq t ih=>
   intro x hx;rcases zF.mp hx with e|hx
   ·subst e
    exact q4R ok (by rw[<- hq.1];exact hq.2.1)
   ·exact ih x hx
 exact all r x hx
theorem qhE{kvs:List (List Key×V)}(ok:HOk P w H h)(e:H a=some (.dT kvs)):kvs.length<=sizeLine/\(a==uJ)=false /\
  ∃xs,KT H kvs xs/\h.DictOfH (tN (Yw P w)) a xs:=q5j ok (.inl e)
end
def W0(H:Hp)(a:vJ)(y:V)(r:Option V):Prop :=
 (∃kvs k,Rd H a (.dK kvs)/\y=kV k/\r=WZ kvs k)\/∃kvs k b,Rd H a (.dT kvs)/\y=.ref b/\H b=some (.tup (k.map kV))/\r=WZ kvs k
def zCS(H:Hp)(a:vJ)(y v:V)(H':Hp):Prop :=
 (∃kvs k,H a=some (.dK kvs)/\y=kV k/\kvs.length<sizeLine/\H'=upd H a (.dK (putK kvs k v))) \/
 ∃kvs k b,H a=some (.dT kvs)/\y=.ref b/\H b=some (.tup (k.map kV))/\kvs.length<sizeLine/\H'=upd H a (.dT (putK kvs k v))
theorem W0.k{H:Hp}{a:vJ}{kvs:List (Key×V)}{k:Key}(e:H a=some (.dK kvs)):W0 H a (kV k) (WZ kvs k):=.inl ⟨kvs,k,.inl e,rfl,rfl⟩
theorem zCS.k{H:Hp}{a:vJ}{kvs:List (Key×V)}{k:Key}{v:V}(e:H a=some (.dK kvs))(hl:kvs.length<sizeLine):zCS H a (kV k) v (upd H a (.dK (putK kvs k v))):=.inl ⟨kvs,k,e,rfl,hl,rfl⟩
section
variable{X:Cx}{pins:List (vJ×Obj)}{σ:St}{H:Hp}{s:vF}{a:vJ}{y v:V}{u r:vB}{o:Option V}{A:ve}{E:vB->vF->Prop}
theorem Inv.big(I:Inv X pins σ H s):uJ<s.heap.objs.size:=by
 have h:vY<s.heap.objs.size:=(I.mod.glob.keeps I.bk).lt;exact Z6 (by decide) h
theorem qbO{Q:vB->vF->Prop}(hu:A.units+1<ui)(I:Inv X pins σ H s)(g:W0 H a y (some v))(ry:RelV y u)(h:∀w' s',Inv X pins σ H s'->RelV v w'->Q w' s'):
  vO (model X.prog X.w) A (u9 (.ref a) u) Q E s:=by
 rcases g with⟨kvs,k,e,ey,l⟩|⟨kvs,k,b,e,ey,eb,l⟩
 ·subst ey
  obtain⟨z,hd,vs,rel,dd⟩:=q3A I.hok e;obtain⟨w',hw,rw'⟩:=zAw.some_of (v:=v) (o:=t7 vs k) (by rw[l];exact rel.val k);exact wpAny_getItem_of (q3Q ry) dd.mapOf hw (h w' _ (I.tok _) rw')
 ·subst ey
  cases (show u=Value.ref b from ry);obtain⟨z,hd,xs,rel,dd⟩:=q5j I.hok e;obtain⟨w',hw,rw'⟩:=zAw.some_of (v:=v) (o:=(sS xs k).map (·.2)) (by rw[l];exact rel.val k);obtain⟨p,hp,hp2⟩:=wJ.mp hw;refine wpAny_getItem_heap (uq hu) (q4R I.hok eb) dd hp ?_;rw[hp2];exact h w' _ (I.tok _) rw'
theorem qeS{Q:vB->vF->Prop}(hu:A.units+1<ui)(I:Inv X pins σ H s)(g:W0 H a y o)(ry:RelV y u)(h:∀s',Inv X pins σ H s'->Q (.bool (!o.isSome)) s'):
  vO (model X.prog X.w) A (uH .NotIn u (.ref a)) Q E s:=by
 rcases g with⟨kvs,k,e,ey,l⟩|⟨kvs,k,b,e,ey,eb,l⟩
 ·subst ey
  obtain⟨z,hd,vs,rel,dd⟩:=q3A I.hok e;refine wpAny_notIn_of (q3Q ry) hd dd.mapOf ?_;rw[<- (rel.val k).isSome_eq,<- l];exact h _ (I.tok _)
 ·subst ey
  cases (show u=Value.ref b from ry);obtain⟨z,hd,xs,rel,dd⟩:=q5j I.hok e;refine wpAny_notIn_heap (uq hu) (q4R I.hok eb) hd dd ?_;have q:=(rel.val k).isSome_eq;rw[YB]at q;rw[<- q,<- l];exact h _ (I.tok _)
theorem q5e{h':vj}{t':Nat}{ob:HO}(I:Inv X pins σ H s)(mu:Mut (H a))(hs:xV a s.heap h')(he:∃q,h'.get? a=some q)(new:Y2 X.prog X.w (upd H a ob) h' a ob):
  Inv X pins σ (upd H a ob) { s with heap:=h',toks:=t' } :=
 I.write (x:=a) (e:=a) mu (.inl rfl) (λb q hb z=>(hs.2 b hb).trans z) he new
theorem q9n{P:vW}{w:vZ}{H':Hp}{h':vj}{kvs:List (Key×V)}{vs:List (Key×vB)}(z:kvs.length<=sizeLine)(hd:(a==uJ)=false)(rel:KV kvs vs)(dd:h'.DictOf (Yw P w) a vs):
  Y2 P w H' h' a (.dK kvs):=⟨z,hd,vs,rel,dd⟩
theorem qbT{H':Hp}{Q:Unit->vF->Prop}(hu:A.units+1<ui)(I:Inv X pins σ H s)(g:zCS H a y v H')(ry:RelV y u)(rv:RelV v r)(h:∀s',Inv X pins σ H' s'->Q () s'):
  vO (model X.prog X.w) A (setItem (.ref a) u r) Q E s:=by
 rcases g with⟨kvs,k,e,ey,l,eH⟩|⟨kvs,k,b,e,ey,eb,l,eH⟩
 ·subst ey eH
  obtain⟨z,hd,vs,rel,dd⟩:=qb8 I.hok e;have hz:vs.length<=sizeLine:=by rw[<- rel.length];exact z
  have hl:(putK kvs k v).length<=sizeLine:=by have:=q2B kvs k v;omega
  refine wpAny_setItem_pairs (hsz:=hz) (q3Q ry) dd λh' dd' hs=>h _ ?_;have he:∃q,h'.get? a=some q:=let ⟨q,_,_,hq,_⟩:=dd';⟨q,hq⟩
  exact q5e I (by rw[e];exact True.intro) hs he (q9n hl hd (rel.put k rv) dd')
 ·subst ey eH
  cases (show u=Value.ref b from ry);obtain⟨z,hd,xs,rel,dd⟩:=qhE I.hok e;have hz:xs.length<=sizeLine:=by rw[<- Paired.length rel];exact z
  have hl:(putK kvs k v).length<=sizeLine:=by have:=q2B kvs k v;omega
  refine wpAny_setItem_heap (hsz:=hz) (uq hu) (q4R I.hok eb) dd λh' dd' hs=>h _ ?_;obtain⟨q,es,ep,hq,h2,h3,h4,_,h5⟩:=dd';refine q5e I (by rw[e];exact True.intro) hs ⟨q,hq⟩ ⟨hl,hd,_,(rel.put k eb rv).keeps λc ys ec=>?_,q,es,ep,hq,h2,h3,h4,h5⟩;rw[qd (qhx ec e (λz=>nomatch z))];exact ec
end
section
variable{X:Cx}{pins:List (vJ×Obj)}{σ:St}{H:Hp}{s:vF}{a:vJ}{kvs:List (Key×V)}{k:Key}{u:vB}{A:ve}{E:vB->vF->Prop}
end
def NoSl(i:vX):Prop:=∀ov iv,subscripted i false ov iv=operate [ov,iv] (u9 ov iv)
theorem qeQ{prog:vW}{w:vZ}{A:ve}{E:vB->vF->Prop}{s:vF}{env:Env}{value slice:vX}{pos:Pos}{T id:String}{Q:vB->vF->Prop}(hl:ux (.type T) "__getitem__" = pure (some (.builtin id)))(hs:NoSl slice)(h:vO (model prog w) A (eval value env) (λo s₁=>vO (model prog w) A (eval slice env) (λi s₂=>s₂.TypeIs o T/\vO (model prog w) A (u9 o i) Q E s₂) E s₁) E s):
  vO (model prog w) A (eval (.Subscript value slice pos) env) Q E s:=by
 refine Subscript_ (vq h (λo s₁ h₁=>vq h₁ (λi s₂ h₂=>?_) λ_ _ x=>x) λ_ _ x=>x);obtain⟨hT,h₂⟩:=h₂;unfold t9;refine vA ?_;rw[getitemInPython_of_ne hT.not_modules];refine vA (ub hT hl ?_);have fin:vO (model prog w) A (subscripted slice false o i) (λr s₃=>vO (model prog w) A (letTemporaryGo value o r >>= λ_=>pure r) Q E s₃) E s₂:=by
  rw[hs o i];exact wpAny_operating (vq h₂ (λr s₃ h₃=>vA (wpAny_letTemporaryGo (vH h₃))) λ_ _ x=>x)
 first
  | exact vH (vA fin)
  | exact vA (vH (vA fin))
  | exact vA fin
theorem q9y{X:Cx}{pins:List (vJ×Obj)}{σ:St}{H:Hp}{s:vF}{a:vJ}{y:V}{o:Option V}(I:Inv X pins σ H s)(g:W0 H a y o):s.TypeIs (.ref a) "dict" := by
 rcases g with⟨kvs,k,e,_,_⟩|⟨kvs,k,b,e,_,_,_⟩
 ·obtain⟨_,_,vs,_,dd⟩:=q3A I.hok e
  exact dd.typeIs
 ·obtain⟨_,_,xs,_,dd⟩:=q5j I.hok e
  exact dd.typeIs
noncomputable def zCO(td ty:TE):TE:=λσ H Q=>td σ H λx H1=>ty σ H1 λy H2=>∃a v,x=.ref a/\W0 H2 a y (some v)/\Q v H2
noncomputable def tDIn(ty td:TE):TE:=λσ H Q=>ty σ H λy H1=>td σ H1 λx H2=>∃a o,x=.ref a/\W0 H2 a y o/\Q (.bl o.isSome) H2
noncomputable def zBN(ty td:TE):TE:=λσ H Q=>ty σ H λy H1=>td σ H1 λx H2=>∃a o,x=.ref a/\W0 H2 a y o/\Q (.bl (!o.isSome)) H2
noncomputable def sDPut(td ty tv:TE):TS:=λD σ H=>tv σ H λv H1=>td σ H1 λx H2=>ty σ H2 λy H3=>∃a H4,x=.ref a/\zCS H3 a y v H4/\D.nx σ H4
section
variable{X:Cx}{o i e value:vX}{pos pos' tpos:Pos}{td ty tv:TE}
theorem q50(hu:X.A.units+1<ui)(ho:PE X o td)(hi:PE X i ty)(hs:NoSl i):PE X (.Subscript o i pos) (zCO td ty):=by
 intro pins s σ H Q I h;refine qeQ PySem.F.slot_dict_getitem.lookup hs (thn (ho pins s σ H _ I h) λu s1 ⟨x,H1,I1,rx,q1⟩=>thn (hi pins s1 σ H1 _ I1 q1) λiv s2 ⟨y,H2,I2,ry,a,v,ex,g,q2⟩=>?_);subst ex;obtain rfl:u=Value.ref a:=rx;exact⟨q9y I2 g,qbO hu I2 g ry λw' s3 I3 rw'=>⟨v,H2,I3,rw',q2⟩⟩
theorem qcJ(hu:X.A.units+1<ui)(hi:PE X i ty)(ho:PE X o td):PC X .NotIn i o (zBN ty td):=by
 intro pins s σ H Q I h;refine thn (hi pins s σ H _ I h) λiv s1 ⟨y,H1,I1,ry,q1⟩=>thn (ho pins s1 σ H1 _ I1 q1) λu s2 ⟨x,H2,I2,rx,a,ov,ex,g,q2⟩=>?_;subst ex;obtain rfl:u=Value.ref a:=rx;exact qeS hu I2 g ry λs3 I3=>⟨.bl (!ov.isSome),H2,I3,rfl,q2⟩
theorem qaA(hu:X.A.units+1<ui)(ho:PE X o td)(hi:PE X i ty)(hv:PE X value tv)(hs:v7 value (some (.Subscript o i pos')) pos.line X.env=pure false):
  PS X (.Assign [.Subscript o i pos'] value pos) (sDPut td ty tv):=by
 intro pins s σ H D I h;refine wpAny_Assign_Subscript (thn (hv pins s σ H _ I h) λr s1 ⟨v,H1,I1,rv,q1⟩=>thn (ho pins s1 σ H1 _ I1 q1) λu s2 ⟨x,H2,I2,rx,q2⟩=>thn (hi pins s2 σ H2 _ I2 q2) λiv s3 ⟨y,H3,I3,ry,a,H4,ex,g,q3⟩=>?_) hs;subst ex;obtain rfl:u=Value.ref a:=rx;exact qbT hu I3 g ry rv λs4 I4=>⟨σ,H4,I4,q3⟩
end
theorem q8W{P:vW}{w:vZ}{H:Hp}(h:vj)(hb:uJ<h.objs.size):Y2 P w H (h.push { cls:=.type "dict", data:=.dict #[] }) h.objs.size (.dK []) :=
 ⟨zy _,beq_eq_false_iff_ne.mpr (Ne.symm (zr hb)),[],.nil,Heap.DictOf.new h⟩
noncomputable def tDNewK:TE:=λ_ H Q=>∀p,H p=none->Q (.ref p) (upd H p (.dK []))
section
variable{X:Cx}{pos:Pos}
theorem q60:PE X (.Dict [] [] pos) tDNewK:=λpins s σ H Q I h=>
 wpAny_Dict_empty ⟨.ref s.heap.objs.size,_,I.laid (a:=s.heap.objs.size) (o:=.dK []) (t':=s.toks) (λ_ _ q=>zE _ q) (zK _) (q8W s.heap I.big),rfl,h _ (I.hok.fresh (zK _))⟩
end
def zBe:List (TE×TE)->St->Hp->(List (V×V)->Hp->Prop)->Prop
 | [],_,H,Q=>Q [] H
 | (tk,tv)::r,σ,H,Q=>tk σ H λx H1=>tv σ H1 λy H2=>zBe r σ H2 λps H3=>Q ((x,y)::ps) H3
abbrev VV:List (V×V)->List (vB×vB)->Prop:=sM λp q=>RelV p.1 q.1/\RelV p.2 q.2
def PPs(X:Cx)(pos:Pos)(keys:List (Option vX))(values:List vX)(trs:List (TE×TE)):Prop :=
 ∀(pins:List (vJ×Obj))(s:vF)(σ:St)(H:Hp)(Q:List (V×V)->Hp->Prop),Inv X pins σ H s->zBe trs σ H Q ->
  vO (model X.prog X.w) X.A (evalPairs (pairTrees keys values X.env pos)) (λvs s'=>∃ps H',Inv X pins σ H' s'/\VV ps vs/\Q ps H') X.xe s
theorem qeW{X:Cx}{pos:Pos}:PPs X pos [] [] []:=λpins s σ H Q I h=>pairTrees_nil_walk ⟨[],H,I,.nil,h⟩
theorem qdy{X:Cx}{pos:Pos}{k v:vX}{ks:List (Option vX)}{vs:List vX}{tk tv:TE}{trs:List (TE×TE)}(hk:PE X k tk)(hv:PE X v tv)(hr:PPs X pos ks vs trs):
  PPs X pos (some k::ks) (v::vs) ((tk,tv)::trs):=λpins s σ H Q I h=>
 pairTrees_cons_walk (thn (hk pins s σ H _ I h) λu s1 ⟨x,H1,I1,rx,q1⟩=>thn (hv pins s1 σ H1 _ I1 q1) λw2 s2 ⟨y,H2,I2,ry,q2⟩=>
  thn (hr pins s2 σ H2 _ I2 q2) λws s3 ⟨ps,H3,I3,rel,q3⟩=>⟨(x,y)::ps,H3,I3,.cons ⟨rx,ry⟩ rel,q3⟩)
noncomputable def Wh(kvs more:List (Key×V)):List (Key×V):=more.foldl (λacc kv=>putK acc kv.1 kv.2) kvs
theorem KV.merge:∀{more:List (Key×V)}{rs:List (Key×vB)}{kvs:List (Key×V)}{vs:List (Key×vB)},KV more rs->KV kvs vs->KV (Wh kvs more) (merged vs rs):=by
 intro more rs kvs vs r;unfold KV at r
 induction r generalizing kvs vs with
 | nil=>intro q;exact q
 | @cons p q ps qs h t ih=>
  intro r0;have e:KV (putK kvs p.1 p.2) (stored vs q.1 q.2):=by
   have:=r0.put p.1 h.2;rw[<- h.1];exact this
  exact ih e
theorem q3X:∀(more kvs:List (Key×V)),(Wh kvs more).length<=kvs.length+more.length
 | [],kvs=>by show kvs.length<=kvs.length+0;omega
 | p::r,kvs=>by
  have h1:=q3X r (putK kvs p.1 p.2);have h2:=q2B kvs p.1 p.2;show (Wh (putK kvs p.1 p.2) r).length<=_;rw[zL];omega
theorem q6Y{P:vW}{w:vZ}:∀{kvs:List (Key×V)}{ws:List (vB×vB)},VV (kvs.map λkv=>(kV kv.1,kv.2)) ws->∃rs,Carries (Yw P w) ws rs/\KV kvs rs
 | [],_,r=>by rw[yP]at r;cases r;exact⟨[],True.intro,.nil⟩
 | p::kvs,_,r=>by
  rw[zc]at r;cases r with
  | @cons a b as bs h t=>
   obtain⟨rs,c,q⟩:=q6Y (P:=P) (w:=w) t;obtain⟨b1,b2⟩:=b;exact⟨(p.1,b2)::rs,⟨q3Q h.1,rfl,c⟩,.cons ⟨rfl,h.2⟩ q⟩
noncomputable def tDisp(trs:List (TE×TE)):TE:=λσ H Q=>∀p,H p=none->zBe trs σ (upd H p (.dK [])) λps H2=>H2 p=some (.dK [])/\∃kvs:List (Key×V),ps=kvs.map (λkv=>(kV kv.1,kv.2))/\kvs.length<=15/\Q (.ref p) (upd H2 p (.dK (Wh [] kvs)))
theorem qfM{X:Cx}{pos:Pos}{keys:List (Option vX)}{values:List vX}{trs:List (TE×TE)}(h:PPs X pos keys values trs)(hall:keys.all (·.isSome)=true)(hl:keys.length=values.length)(h0:keys≠[])(h15:keys.length<=15):PE X (.Dict keys values pos) (tDisp trs):=by
 intro pins s σ H Q I q;have hn:=I.hok.fresh (zK s.heap.objs.size);have I1:=I.laid (a:=s.heap.objs.size) (o:=.dK []) (h':=s.heap.push { cls:=.type "dict", data:=.dict #[] }) (t':=s.toks) (λ_ _ q=>zE _ q) (zK _) (q8W s.heap I.big);refine wpAny_Dict_walk (knd:=Yw X.prog X.w) hall hl h0 h15 (thn (h pins _ σ _ _ I1 (q _ hn)) λws s2 ⟨ps,H2,I2,rel,e,kvs,ep,lk,q2⟩=>?_);subst ep;obtain⟨rs,c,rk⟩:=q6Y (P:=X.prog) (w:=X.w) rel;obtain⟨z,hd,vs0,r0,dd⟩:=qb8 I2.hok e;cases r0;refine⟨rs,c,dd,λh' dd' hs=>⟨.ref s.heap.objs.size,_,?_,rfl,q2⟩⟩;have hz:(Wh [] kvs).length<=sizeLine:=by
  have h1:=q3X kvs [];rw[yz]at h1;rw[vh];omega
 have he:∃q,h'.get? s.heap.objs.size=some q:=let ⟨q,_,_,hq,_⟩:=dd';⟨q,hq⟩
 exact q5e I2 (by rw[e];exact True.intro) hs he (q9n hz hd (rk.merge .nil) dd')
structure M2 (X:Cx) (o:vX) (m:Str) (apos:Pos) (e f:vX) (cpos:Pos):Prop where
 base:uG o m X.env (eval o X.env)=eval o X.env
 few:((vk cpos (vK [e,f] X.env)).all (λx=>!x.1)&&(uN cpos (v4 [] X.env)).all (λx=>x.1.isSome)
  && decide (([e,f]:List vX).length+([]:List uP).length+(if ([]:List uP).isEmpty then 0 else 1)<30))=true
 line:(apos.endLine==cpos.line)=true
 trees:vk cpos (vK [e,f] X.env)=[(false,eval e X.env),(false,eval f X.env)]
def IsD(H:Hp)(a:vJ):Prop:=(∃kvs,Rd H a (.dK kvs))\/∃kvs,Rd H a (.dT kvs)
theorem qcP{X:Cx}{pins:List (vJ×Obj)}{σ:St}{H:Hp}{s:vF}{a:vJ}(I:Inv X pins σ H s)(d:IsD H a):
  s.TypeIs (.ref a) "dict" /\ (∀b,Value.ref a=.ref b->∃ob,s.heap.get? b=some ob/\ob.dict=none)/\(a==uJ)=false:=by
 rcases d with⟨kvs,e⟩|⟨kvs,e⟩
 ·obtain⟨_,hd,vs,_,dd⟩:=q3A I.hok e
  refine⟨dd.typeIs,λb q=>?_,hd⟩;cases q;obtain⟨ob,_,_,h1,h2,_⟩:=dd;exact⟨ob,h1,h2.2.1⟩
 ·obtain⟨_,hd,xs,_,dd⟩:=q5j I.hok e
  refine⟨dd.typeIs,λb q=>?_,hd⟩;cases q;obtain⟨ob,_,_,h1,h2,_⟩:=dd;exact⟨ob,h1,h2.2.1⟩
section
variable{X:Cx}{pins:List (vJ×Obj)}{σ:St}{H:Hp}{s:vF}{a:vJ}{y d:V}{u r:vB}{o:Option V}{A:ve}{E:vB->vF->Prop}
theorem qgH{Q:vB->vF->Prop}(hu:A.units+1<ui)(I:Inv X pins σ H s)(g:W0 H a y o)(ry:RelV y u)(rd:RelV d r)(h:∀w' s',Inv X pins σ H s'->RelV (o.getD d) w'->Q w' s'):
  vO (model X.prog X.w) A (call (.builtin "dict.get") [.ref a,u,r]) Q E s:=by
 rcases g with⟨kvs,k,e,ey,l⟩|⟨kvs,k,b,e,ey,eb,l⟩
 ·subst ey
  obtain⟨z,hd,vs,rel,dd⟩:=q3A I.hok e;refine sJ PySem.F.slot_dict_get dd.typeIs PySem.F.entry_dict_get (PySem.F.args_dict_get_3 _ _ _) (meets_dict_get_default (Yw X.prog X.w) a (q3Q ry) hd r) ⟨_,dd.mapOf,h _ _ (I.tok _) ?_⟩;rw[l];exact(rel.val k).getD rd
 ·subst ey
  cases (show u=Value.ref b from ry);obtain⟨z,hd,xs,rel,dd⟩:=q5j I.hok e;refine sJ PySem.F.slot_dict_get dd.typeIs PySem.F.entry_dict_get (PySem.F.args_dict_get_3 _ _ _) (meetsH_dict_get_default (tN (Yw X.prog X.w)) a b hd r) ⟨uq hu,k,xs,q4R I.hok eb,dd,h _ _ (I.tok _) ?_⟩;rw[l];exact(rel.val k).getD rd
end
noncomputable def zBS(td ty tx:TE):TE:=λσ H Q=>td σ H λx H1=>∃a,x=.ref a/\IsD H1 a/\ty σ H1 λy H2=>tx σ H2 λz H3=>∃o,W0 H3 a y o/\Q (o.getD z) H3
section
variable{X:Cx}{o e f:vX}{apos cpos:Pos}{td ty tx:TE}
theorem q9i(hu:X.A.units+1<ui)(ho:PE X o td)(he:PE X e ty)(hf:PE X f tx)(m:M2 X o "get" apos e f cpos):PE X (.Call (.Attribute o "get" apos) [e,f] [] cpos) (zBS td ty tx):=by
 intro pins s σ H Q I h;refine wpAny_Call_method m.base m.few m.line PySem.F.plainAttrs_dict PySem.F.slot_dict_get PySem.F.type_dict_get (thn (ho pins s σ H _ I h) λu s1 ⟨x,H1,I1,rx,a,ex,d,q1⟩=>?_);subst ex;obtain rfl:u=Value.ref a:=rx;obtain⟨t1,t2,_⟩:=qcP I1 d;refine⟨t1,t2,?_⟩;rw[m.trees];refine Calls.callWith_builtin rfl (Calls.evalArgs_plain (Calls.spliced_cons (thn (he pins s1 σ H1 _ I1 q1) λiv s2 ⟨y,H2,I2,ry,q2⟩=>
  Calls.spliced_cons (thn (hf pins s2 σ H2 _ I2 q2) λfv s3 ⟨z,H3,I3,rz,ov,g,q3⟩=>Calls.spliced_nil ?_))))
 exact qgH hu I3 g ry rz λw' s4 I4 rw'=>⟨_,H3,I4,rw',q3⟩
end
section
variable{X:Cx}{pins:List (vJ×Obj)}{σ:St}{H:Hp}{s:vF}{a:vJ}{kvs:List (Key×V)}{A:ve}{E:vB->vF->Prop}
end
section
variable{X:Cx}{pins:List (vJ×Obj)}{σ:St}{H:Hp}{s:vF}{a:vJ}{y:V}{u:vB}{A:ve}{E:vB->vF->Prop}
end
end L2
namespace Hk
open PySem L2
noncomputable def Yy{α:Type}:List Int->List α->Int->Option α
 | k'::ks,x::xs,k=>if k'=k then some x else Yy ks xs k
 | _,_,_=>none
noncomputable def repA{α:Type}:List Int->List α->Int->α->List α
 | k'::ks,x::xs,k,y=>(if k'=k then y else x)::repA ks xs k y
 | _,xs,_,_=>xs
noncomputable def X8(ks:List Int)(k:Int):List Int:=if k∈ks then ks else ks++[k]
noncomputable def putA{α:Type}(ks:List Int)(xs:List α)(k:Int)(y:α):List α:=if k∈ks then repA ks xs k y else xs++[y]
theorem q8M{α:Type}:∀(ks:List Int)(xs:List α)(k:Int)(y:α),(repA ks xs k y).length=xs.length
 | [],xs,_,_=>rfl
 | _::_,[],_,_=>rfl
 | k'::ks,x::xs,k,y=>by show (repA ks xs k y).length+1=xs.length+1;rw[q8M ks xs k y]
theorem qfC{α:Type}{ks:List Int}{xs:List α}(k:Int)(y:α)(h:ks.length=xs.length):(X8 ks k).length=(putA ks xs k y).length:=by
 unfold X8 putA
 by_cases z:k∈ks
 ·rw[vC z,vC z,q8M];exact h
 ·rw[vG z,vG z,zC,zC,h];rfl
theorem q02:∀{ks:List Int}{vs:List V},ks.length=vs.length->∀k,WZ (kvsOf ks vs) (Sum.inl k)=Yy ks vs k
 | [],[],_,k=>rfl
 | [],_::_,h,_=>by simp at h
 | _::_,[],h,_=>by simp at h
 | k'::ks,v::vs,h,k=>by
  show WZ ((Sum.inl k',v)::kvsOf ks vs) (Sum.inl k)=if k'=k then some v else Yy ks vs k
  by_cases z:k'=k
  ·rw[vC z,q3z (p:=((Sum.inl k':Key),v)) (by rw[z])]
  ·rw[vG z,q3E (p:=((Sum.inl k':Key),v)) (λe=>z (Sum.inl.inj e))]
   exact q02 ⇑h k
theorem q1M:∀{ks:List Int}{vs:List V},ks.length=vs.length->(kvsOf ks vs).length=ks.length
 | [],[],_=>rfl
 | [],_::_,h=>by simp at h
 | _::_,[],h=>by simp at h
 | k'::ks,v::vs,h=>by show (kvsOf ks vs).length+1=_;rw[q1M ⇑h];rfl
theorem q6k:∀{ks:List Int}{vs:List V},ks.length=vs.length->(kvsOf ks vs).map (·.1)=ks.map (Sum.inl:Int->Key)
 | [],[],_=>rfl
 | [],_::_,h=>by simp at h
 | _::_,[],h=>by simp at h
 | k'::ks,v::vs,h=>by show (Sum.inl k':Key)::(kvsOf ks vs).map (·.1)=_;rw[q6k ⇑h];rfl
theorem q83:∀{ks:List Int}{vs:List V},ks.length=vs.length->∀k,(kvsOf ks vs).any (λkv=>decide (kv.1=(Sum.inl k:Key)))=decide (k∈ks)
 | [],[],_,_=>rfl
 | [],_::_,h,_=>by simp at h
 | _::_,[],h,_=>by simp at h
 | k'::ks,v::vs,h,k=>by
  show (decide ((Sum.inl k':Key)=Sum.inl k) || (kvsOf ks vs).any _)=_;rw[q83 ⇑h k];have e:decide ((Sum.inl k':Key)=Sum.inl k)=decide (k'=k):=by
   by_cases z:k'=k
   ·rw[z];simp
   ·rw[vS z,vS (λe=>z (Sum.inl.inj e))]
  rw[e];simp only[zF]
  by_cases z:k'=k
  ·simp[z]
  ·have:¬k=k':=λy=>z y.symm
   simp[z,this]
theorem q84:∀{ks:List Int}{vs:List V},ks.length=vs.length->∀(k:Int)(v:V),(kvsOf ks vs).map (λkv=>if kv.1=(Sum.inl k:Key)then (kv.1,v)else kv)=kvsOf ks (repA ks vs k v)
 | [],[],_,_,_=>rfl
 | [],_::_,h,_,_=>by simp at h
 | _::_,[],h,_,_=>by simp at h
 | k'::ks,u::vs,h,k,v=>by
  show (if (Sum.inl k':Key)=Sum.inl k then ((Sum.inl k':Key),v)else (Sum.inl k',u))::(kvsOf ks vs).map _=(Sum.inl k',if k'=k then v else u)::kvsOf ks (repA ks vs k v);rw[q84 ⇑h k v]
  by_cases z:k'=k
  ·rw[vC (by rw[z]),vC z]
  ·rw[vG (λe=>z (Sum.inl.inj e)),vG z]
theorem q6Z:∀{ks:List Int}{vs:List V},ks.length=vs.length->∀(k:Int)(v:V),kvsOf ks vs++[(Sum.inl k,v)]=kvsOf (ks++[k]) (vs++[v])
 | [],[],_,_,_=>rfl
 | [],_::_,h,_,_=>by simp at h
 | _::_,[],h,_,_=>by simp at h
 | k'::ks,u::vs,h,k,v=>by show _::(kvsOf ks vs++[(Sum.inl k,v)])=_;rw[q6Z ⇑h k v];rfl
theorem q4E{ks:List Int}{vs:List V}(h:ks.length=vs.length)(k:Int)(v:V):putK (kvsOf ks vs) (Sum.inl k) v=kvsOf (X8 ks k) (putA ks vs k v):=by
 unfold putK X8 putA;rw[q83 h]
 by_cases z:k∈ks
 ·rw[vC (vU z),vC z,vC z];exact q84 h k v
 ·rw[vG (by rw[vS z];decide),vG z,vG z];exact q6Z h k v
section
variable{K:zA}{G:Hp}
theorem Yo.val:∀{ks:List Int}{ds:List D}{vs:List V}{k:Int}{d:D},Yo K G ds vs->Yy ks ds k=some d->∃v,Yy ks vs k=some v/\Rep K G d v
 | [],_,_,_,_,_,e=>by cases e
 | _::_,[],_,_,_,_,e=>by cases e
 | k'::ks,d'::ds,_,k,d,⟨v,r,h1,h2,h3⟩,e=>by
  subst h1;have e:(if k'=k then some d' else Yy ks ds k)=some d:=e;show ∃u,(if k'=k then some v else Yy ks r k)=some u/\_
  by_cases z:k'=k
  ·rw[vC z]at e ⊢;cases e;exact⟨v,rfl,h2⟩
  ·rw[vG z]at e ⊢;exact Yo.val h3 e
theorem Yo.isVal:∀{ks:List Int}{ds:List D}{vs:List V}(k:Int),Yo K G ds vs->(Yy ks vs k).isSome=(Yy ks ds k).isSome
 | [],_,_,_,_=>rfl
 | _::_,[],_,_,h=>by cases (show _=[]from h);rfl
 | k'::ks,d'::ds,_,k,⟨v,r,h1,h2,h3⟩=>by
  subst h1;show (if k'=k then some v else Yy ks r k).isSome=(if k'=k then some d' else Yy ks ds k).isSome
  by_cases z:k'=k
  ·rw[vC z,vC z];rfl
  ·rw[vG z,vG z];exact Yo.isVal k h3
theorem Yo.repA:∀{ks:List Int}{ds:List D}{vs:List V}(k:Int){d:D}{v:V},Yo K G ds vs->Rep K G d v->Yo K G (Hk.repA ks ds k d) (Hk.repA ks vs k v)
 | [],_,_,_,_,_,h,_=>h
 | _::_,[],_,_,_,_,h,_=>by cases (show _=[]from h);rfl
 | k'::ks,d'::ds,_,k,d,v,⟨u,r,h1,h2,h3⟩,hv=>by
  subst h1;refine⟨_,_,rfl,?_,Yo.repA k h3 hv⟩
  by_cases z:k'=k
  ·rw[vC z,vC z];exact hv
  ·rw[vG z,vG z];exact h2
theorem Yo.putA{ks:List Int}{ds:List D}{vs:List V}(k:Int){d:D}{v:V}(h:Yo K G ds vs)(hv:Rep K G d v):Yo K G (Hk.putA ks ds k d) (Hk.putA ks vs k v):=by
 unfold Hk.putA
 by_cases z:k∈ks
 ·rw[vC z,vC z];exact h.repA k hv
 ·rw[vG z,vG z];exact h.app (Yo.cons hv Yo.nil)
end
noncomputable def Wa:Option (Option W)->Option (List Int×List D)
 | some (some (.od ks ds))=>some (ks,ds)
 | some ↥(.dic ks ds)=>some (ks,ds)
 | _=>none
theorem qar{H H':Hp}{p:vJ}{u:HO}(e:Y0 H H')(h:Rd H p u):Rd H' p u:=by
 rcases h with h|⟨o,h⟩
 ·exact .inl (e _ _ h)
 ·exact .inr ⟨o,e _ _ h⟩
theorem qaa{H:Hp}{a:vJ}{kvs:List (Key×V)}{k:Key}(e:Rd H a (.dK kvs)):W0 H a (kV k) (WZ kvs k):=.inl ⟨kvs,k,e,rfl,rfl⟩
theorem Own.dic{K:zA}{G0:Hp}{H0:Fr}{G:Hp}{ω:WSt}{σ:St}{H:Hp}{i:Nat}{ks:List Int}{ds:List D}(o:Own K G0 H0 G ω σ H)(h:Wa ω[i]?=some (ks,ds)):
  ∃p vs,σ[i]?=some (some (.ref p))/\Rd H p (.dK (kvsOf ks vs))/\ks.length=ds.length/\Yo K G ds vs:=by
 unfold Wa at h
 split at h
 ·rename_i q
  cases h;obtain⟨p,vs,h1,h2,_,_,h5,h6,_⟩:=o.od i _ _ q;exact⟨p,vs,h1,.inl h2,h5,h6⟩
 ·rename_i q
  cases h;obtain⟨v,h1,p,vs,rfl,⟨ob,h2⟩,h3,h4⟩:=o.sh i _ q;exact⟨p,vs,h1,.inr ⟨ob,o.gh _ _ h2⟩,h3,h4⟩
 ·cases h
section
variable{X:Cx}{o k e:vX}{pos pos' dpos:Pos}{i:Nat}{fk fv:FD}
theorem hu1(hu:X.A.units+64<ui):X.A.units+1<ui:=∅
noncomputable def zA7(i:Nat):FS:=λω=>some (.nx,ω.set i (some (.od [] [])))
theorem q77{x:Str}(hN:X.N.Nodup)(hi:X.N[i]?=some x)(hx:Loc X.env.scope x)(hs:v7 (.Dict [] [] dpos) (some (.Name x pos')) pos.line X.env=pure false:=by rfl)(hf:X.fn x=true\/X.env.scope.names.lookup x=some .local:=by first|exact .inl rfl|exact .inr rfl|assumption):
  XS X (.Assign [.Name x pos'] (.Dict [] [] dpos) pos) (zA7 i):=by
 refine⟨_,q04 hN hi hx q60 hs hf,λG0 H0 G ω σ H out ω' E ow e k=>?_⟩;cases e;intro p hp;have o1:=ow.keep (Ext.hide ow.gh hp (.dK []));refine k G _ _ (o1.setOd (ks:=[]) (ds:=[]) (vs:=[]) qe (ow.gh.free hp) (ow.ext.hh.free hp) rfl Yo.nil λj ks' es hj z=>?_) (Y0.refl _);obtain⟨q,us,h1,h2,_⟩:=ow.od j ks' es hj;rw[h1]at z;cases z;rw[hp]at h2;cases h2
noncomputable def zAt(i:Nat)(fk fv:FD):FS:=λω=>(fv ω).bind λd=>(fk ω).bind λc=>match c,ω[i]? with
 | .int k,some (some (.od ks ds))=>if ks.length<1000000 then some (.nx,ω.set i (some (.od (X8 ks k) (putA ks ds k d))))else none
 | _,_=>none
theorem q57(hu:X.A.units+64<ui)(ho:PE X o (XJ i))(hk:XD X k fk)(hv:XD X e fv)(hs:v7 e (some (.Subscript o k pos')) pos.line X.env=pure false:=by rfl):XS X (.Assign [.Subscript o k pos'] e pos) (zAt i fk fv):=by
 obtain⟨tk,h1,h2⟩:=hk;obtain⟨tv,h3,h4⟩:=hv;refine⟨_,qaA (hu1 hu) ho h1 h3 hs,λG0 H0 G ω σ H out ω' E ow e kk=>?_⟩;obtain⟨d,q1,e⟩:=bnd e;obtain⟨c,q2,e⟩:=bnd e;refine h4 G0 H0 G ω σ H d _ ow q1 λv G1 H1 x1 y1=>?_;cases c with
 | int k=>
  split at e
  ·rename_i _ _ _ k' ks ds ek q3
   cases ek
   by_cases z:ks.length<1000000
   ·rw[vC z]at e
    cases e;have o1:=ow.keep x1;obtain⟨p,vs,r1,r2,r3,r4,r5,r6,r7⟩:=o1.od i ks ds q3;refine⟨.ref p,r1,h2 G0 H0 G1 ω σ H1 _ _ o1 q2 λu G2 H2 x2 y2=>?_⟩;cases (show u=.int k from y2);have o2:=o1.keep x2;have hl:ks.length=vs.length:=by rw[r5];exact r6.len
    refine⟨p,_,rfl,zCS.k (k:=Sum.inl k) (x2.hh _ _ r2) (by rw[q1M hl,vh];omega),?_⟩;rw[q4E hl];exact kk G2 σ _ (o2.mutD q3 r1 (x2.hh _ _ r2) (x2.new p r3 (by rw[r2];exact λz=>by cases z)) r4 (qfC k d r5) ((r6.mono x2.gg).putA k (y1.mono x2.gg))) (x1.gg.trans x2.gg)
   ·rw[vG z]at e;cases e
  ·cases e
 | _=>cases e
noncomputable def zAQ(i:Nat)(fk:FD):FE:=λω=>(Wa ω[i]?).bind λp=>(fk ω).bind λc=>match c with
 | .int k=>(Yy p.1 p.2 k).map R.sh
 | _=>none
theorem q2S(hu:X.A.units+64<ui)(ho:PE X o (XJ i))(hk:XD X k fk)(hs:NoSl k:=by intro _ _;rfl):XE X (.Subscript o k pos) (zAQ i fk):=by
 obtain⟨tk,h1,h2⟩:=hk;refine⟨_,q50 (hu1 hu) ho h1 hs,λG0 H0 G ω σ H r Q ow e kk=>?_⟩;obtain⟨⟨ks,ds⟩,q1,e⟩:=bnd e;obtain⟨c,q2,e⟩:=bnd e;obtain⟨p,vs,r1,r2,r3,r4⟩:=ow.dic q1;refine⟨.ref p,r1,h2 G0 H0 G ω σ H c _ ow q2 λu G1 H1 x1 y1=>?_⟩;cases c with
 | int k=>
  cases (show u=.int k from y1);obtain⟨d,q3,e⟩:=mpd e;subst e;obtain⟨v,z1,z2⟩:=r4.val q3;have hl:ks.length=vs.length:=by rw[r3];exact r4.len
  have g:=qaa (k:=(Sum.inl k:Key)) (qar x1.hh r2);rw[q02 hl,z1]at g;exact⟨p,v,rfl,g,kk v G1 H1 x1 (z2.mono x1.gg)⟩
 | _=>cases e
noncomputable def zBK(neg:Bool)(i:Nat)(fk:FD):FT:=λω=>(fk ω).bind λc=>(Wa ω[i]?).bind λp=>match c with
 | .int k=>some (if neg then !(Yy p.1 p.2 k).isSome else (Yy p.1 p.2 k).isSome)
 | _=>none
theorem qeF{tk:TE}{neg:Bool}(h2:zBG X.K tk fk):zAp X.K (tB (if neg then zBN tk (XJ i)else L2.tDIn tk (XJ i))) (zBK neg i fk):=by
 intro G0 H0 G ω σ H b Q ow e kk;obtain⟨c,q2,e⟩:=bnd e;obtain⟨⟨ks,ds⟩,q1,e⟩:=bnd e;cases c with
 | int k=>
  have fin:∀(u:V)G1 H1,Ext G H G1 H1->u=.int k->∃p vs,σ[i]?=some (some (.ref p))/\W0 H1 p u (Yy ks vs k)/\(Yy ks vs k).isSome=(Yy ks ds k).isSome:=λu G1 H1 x1 hu=>by
   subst hu;obtain⟨p,vs,r1,r2,r3,r4⟩:=ow.dic q1;have hl:ks.length=vs.length:=by rw[r3];exact r4.len
   have g:=qaa (k:=(Sum.inl k:Key)) (qar x1.hh r2);rw[q02 hl]at g;exact⟨p,vs,r1,g,Yo.isVal k r4⟩
  cases neg with
  | true=>
   refine h2 G0 H0 G ω σ H _ _ ow q2 λu G1 H1 x1 y1=>?_;obtain⟨p,vs,r1,g,hs⟩:=fin u G1 H1 x1 y1;refine⟨.ref p,r1,p,_,rfl,g,_,rfl,?_⟩;cases e;rw[hs];exact kk G1 H1 x1
  | false=>
   refine h2 G0 H0 G ω σ H _ _ ow q2 λu G1 H1 x1 y1=>?_;obtain⟨p,vs,r1,g,hs⟩:=fin u G1 H1 x1 y1;refine⟨.ref p,r1,p,_,rfl,g,_,rfl,?_⟩;cases e;rw[hs];exact kk G1 H1 x1
 | _=>cases e
theorem q7I(hu:X.A.units+64<ui)(hk:XD X k fk)(ho:PE X o (XJ i))(hb:uE .NotIn o=false:=by rfl):XT X (.Compare k [.NotIn] [o] pos) (zBK true i fk):=by
 obtain⟨tk,h1,h2⟩:=hk;exact⟨_,qg4 (qcJ (hu1 hu) h1 ho) hb,qeF (neg:=true) h2⟩
end
section
variable{X:Cx}{o k e:vX}{pos pos' dpos:Pos}{i:Nat}{fk fv:FD}
noncomputable def zBd(i:Nat)(fk fv:FD):FS:=λω=>(fk ω).bind λc=>(fv ω).bind λd=>match c with
 | .int k=>some (.nx,ω.set i (some (.od [k] [d])))
 | _=>none
theorem qe1{x:Str}(hN:X.N.Nodup)(hi:X.N[i]?=some x)(hx:Loc X.env.scope x)(hk:XD X k fk)(hv:XD X e fv)(hs:v7 (.Dict [some k] [e] dpos) (some (.Name x pos')) pos.line X.env=pure false:=by rfl)(hf:X.fn x=true\/X.env.scope.names.lookup x=some .local:=by first|exact .inl rfl|exact .inr rfl|assumption):
  XS X (.Assign [.Name x pos'] (.Dict [some k] [e] dpos) pos) (zBd i fk fv):=by
 obtain⟨tk,h1,h2⟩:=hk;obtain⟨tv,h3,h4⟩:=hv;refine⟨_,q04 hN hi hx (qfM (qdy h1 h3 qeW) rfl rfl (by simp) (by show 1<=15;decide)) hs hf,λG0 H0 G ω σ H out ω' E ow e kk=>?_⟩;obtain⟨c,q1,e⟩:=bnd e;obtain⟨d,q2,e⟩:=bnd e;cases c with
 | int k=>
  cases e;intro p hp;have x0:=Ext.hide ow.gh hp (.dK []);have o1:=ow.keep x0;refine h2 G0 H0 G ω σ _ _ _ o1 q1 λu G1 H1 x1 y1=>?_;cases (show u=.int k from y1);have o2:=o1.keep x1;refine h4 G0 H0 G1 ω σ H1 d _ o2 q2 λv G2 H2 x2 y2=>?_;have o3:=o2.keep x2;have hp2:H2 p=some (.dK []):=x2.hh _ _ (x1.hh _ _ qe);have gp1:G1 p=none:=x1.new p (ow.gh.free hp) (by rw[qe];exact λz=>by cases z);have gp2:G2 p=none:=x2.new p gp1 (by rw[x1.hh _ _ qe];exact λz=>by cases z);have h0p:H0 p=none:=ow.ext.hh.free hp;refine⟨hp2,[(Sum.inl k,v)],rfl,by show 1<=15;decide,?_⟩;have em:Wh [] [((Sum.inl k:Key),v)]=kvsOf [k] [v]:=by
   show putK [] (Sum.inl k:Key) v=_;unfold putK;rw[vG (by simp)];rfl
  rw[em];have ext4:Ext G0 H0.hp G2 (upd H2 p (.dK (kvsOf [k] [v]))):=⟨o3.ext.gg,Y1 o3.ext.gh gp2 _,Y1 o3.ext.hh h0p _,o3.ext.new⟩;have np:∀(j:Nat)ds',ω[j]?=some (some (.ow ds'))->∀l vs,σ[j]?=some (some (.ref l))->H2 l=some (.lst vs)->l≠p:=λj ds' hj l vs _ h z=>by rw[z,hp2]at h;cases h
  have npd:∀(j:Nat)ks' es,ω[j]?=some (some (.od ks' es))->σ[j]?≠some (some (.ref p)):=λj ks' es hj z=>by
   obtain⟨q,us,w1,w2,_⟩:=ow.od j ks' es hj;rw[w1]at z;cases z;rw[hp]at w2;cases w2
  have o4:Own X.K G0 H0 G2 ω σ (upd H2 p (.dK (kvsOf [k] [v]))):=by
   refine⟨ext4,o3.len,o3.sh,λj ds' hj=>?_,o3.nd,λj ks' es hj=>?_,o3.pw.upd (o3.pw.ne_ob λvs z=>by rw[hp2]at z;cases z)⟩
   ·obtain⟨l,vs,w1,w2,w3,w4,w5⟩:=o3.ow j ds' hj
    exact⟨l,vs,w1,by rw[qd (np j ds' hj l vs w1 w2)];exact w2,w3,w4,w5⟩
   ·obtain⟨q,us,w1,w2,w3,w4,w5,w6,w7⟩:=o3.od j ks' es hj
    have nq:q≠p:=λz=>npd j ks' es hj (by rw[<- z];exact w1);exact⟨q,us,w1,by rw[qd nq];exact w2,w3,w4,w5,w6,w7⟩
  exact kk G2 _ _ (o4.setOd (ks:=[k]) (ds:=[d]) (vs:=[v]) qe gp2 h0p rfl (Yo.cons y2 Yo.nil) npd) (x1.gg.trans x2.gg)
 | _=>cases e
end
section
open PySem.Spec PyProof.Rows PySem.W
theorem qa0:∀(vs:List vB)(ns:List Int),vs.length=ns.length->(∀(j:Nat)v n,vs[j]?=some v->ns[j]?=some n->∃t,v=.int n t)->uC vs ns
 | [],[],_,_=>.nil
 | [],_::_,h,_=>by simp at h
 | _::_,[],h,_=>by simp at h
 | v::vs,n::ns,h,f=>by
  obtain⟨t,rfl⟩:=f 0 v n rfl rfl;exact .cons _ _ (qa0 vs ns ⇑h λj a b e1 e2=>f (j+1) a b ⇑e1 ⇑e2)
variable{prog:vW}{w:vZ}{A:ve}{E:vB->vF->Prop}{s:vF}
theorem q9U{a:vJ}{kvs:List (Key×vB)}{ns:List Int}{Q:vB->vF->Prop}(hh:A.handled=none)(lo:(a==uJ)=false)(dd:s.heap.DictOf (Yw prog w) a kvs)(hk:kvs.map (·.1)=ns.map (Sum.inl:Int->Key))(h64:ns.length<64)(h:∀(h1 h':vj)(tk:Nat)(vs:List vB)(ys:List Int)(n:Nat),(∀b o,s.heap.get? b=some o->h1.get? b=some o)->(∀b o,h1.get? b=some o->h'.get? b=some o)->h'.get? h1.objs.size=some (vt "list" vs.toArray n)->uC vs ys->ys.Perm ns->ys.Pairwise (· <= ·)->Q (.ref h1.objs.size) { s with heap:=h',toks:=tk }):
  vO (model prog w) A (call (.builtin "sorted") [.ref a]) Q E s:=by
 obtain⟨ep,hat⟩:=dd.dictAt;have hkl:kvs.length=ns.length:=by have:=v9 xj hk;simpa using this
 refine Calls.call_function_entry tj tU tV (sI _) ?_;unfold Builtin.«sorted»;refine vA (m:=sF "sorted" 1 1 _) (vH ?_);refine vA (kdu_collect (A:=A.in1) (kdl_dict (knd:=Yw prog w) (kvs:=kvs) (ep:=ep) lo) hh hat (by rw[hkl];exact yJ (yU h64) (by decide)) λh1 tk acc hk1 hacc=>?_);have y1:uC acc.toList ns:=by
  refine qa0 _ _ (by rw[zM,hacc.1,hkl]) λj v n e1 e2=>?_;obtain⟨k,x,hx,hi⟩:=hacc.2 j v (by rw[<- zZ];exact e1);have e3:(kvs.map (·.1))[j]?=some k:=by rw[zY,hx];rfl
  rw[hk,zY,e2]at e3;cases e3;rcases qB (k:=(Sum.inl n:Key)) hi with⟨i,t,e4,rfl⟩|⟨x,t,e4,_⟩
  ·cases e4;exact⟨t,rfl⟩
  ·cases e4
 have hlen:acc.toList.length=ns.length:=IntsAre.length y1;refine vA (uj ?_ (yJ (by rw[hlen];exact yU h64) (by decide)));generalize acc.toList=vs at y1 hlen;have hoL:(h1.push (vt "list" vs.toArray 0)).get? h1.objs.size=some (vt "list" vs.toArray 0):=zR _ rfl;refine vA (vn (vp slot_list_sort ⟨_,hoL,rfl⟩ entry_list_sort (list_sort_tree hoL y1 (by rw[hlen];exact h64) λout ns' a1 a2 a3=>⟨_,rfl,?_⟩) (tm _)));obtain⟨n,hn⟩:=sortedHeap_at (vs:=vs) (out:=out) hoL;refine vH ⟨_,rfl,h h1 _ tk out.toList ns' n hk1 (λb o e1=>?_) ?_ a1 a2 a3⟩
 ·rw[sortedHeap_old (zr (zO e1)) (by rw[yc];exact yR (zO e1))]
  exact zE _ e1
 ·rw[xC];exact hn
end
def rSortD:List V->Hp->VK->Prop:=λxs H Q=>∃p kvs ns,xs=[.ref p]/\Rd H p (.dK kvs)/\kvs.map (·.1)=ns.map (Sum.inl:Int->Key)/\ns.length<64/\∀l,H l=none->Q (.ref l) (upd H l (.lst ((Yu ns).map V.int)))
section
variable{X:Cx}{o:vX}{i:Nat}
theorem qaY(hc:X.calm=true):X3 X (.builtin "sorted") rSortD:=by
 intro pins s σ H xs us Q I r h;obtain⟨p,kvs,ns,rfl,hp,hk,hz,q⟩:=h;obtain⟨u,rfl,rx⟩:=vals1 r;cases rx;obtain⟨_,lo,vs,rel,dd⟩:=q3A I.hok hp;refine q9U (I.ok.hd hc) lo dd (by rw[<- rel.keys];exact hk) hz λh1 h' tk us ys n k1 k2 g1 a1 a2 a3=>?_;have en:ys=Yu ns:=q0C a3 q0i (a2.trans qq.symm);subst en;have I1:Inv X pins σ H { s with heap:=h1,toks:=tk }:=I.kept k1;have hsl:(Yu ns).length<=sizeLine:=by rw[q48];exact yJ (yU hz) (by decide)
 have I2:=I1.laid (a:=h1.objs.size) (o:=.lst ((Yu ns).map V.int)) (t':=tk) (h':=h') k2 (zK _)
  (show Y2 X.prog X.w _ h' _ (.lst _)from ⟨by rw[zB];exact hsl,us,n,q0W a1,g1⟩)
 exact⟨.ref _,_,I2,rfl,q _ (I1.hok.fresh (zK _))⟩
noncomputable def zBC(i:Nat):FE:=λω=>(Wa ω[i]?).bind λp=>if p.1.length<64 then some (.fr ((Yu p.1).map D.int))else none
theorem qdS{p q:Pos}(hc:X.calm=true)(hg:Gl X "sorted")(hm:X.mg "sorted" = none)(ho:PE X o (XJ i))(he:vK [o] X.env=(false,eval o X.env)::vK [] X.env:=by rfl)(hpl:(vk q (vK [] X.env)).any (·.1)=false:=by rfl):XE X (.Call (.Name "sorted" p) [o] [] q) (zBC i):=by
 refine⟨_,q1x (qaY hc) hg hm q1L (qt ho qr he) (by decide) (by decide) he hpl,λG0 H0 G ω σ H r Q ow e k=>?_⟩;obtain⟨⟨ks,ds⟩,q1,e⟩:=bnd e;obtain⟨p,vs,r1,r2,r3,r4⟩:=ow.dic q1
 by_cases hz:ks.length<64
 ·have e:(if ks.length<64 then some (R.fr ((Yu ks).map D.int))else none)=some r:=e
  rw[vC hz]at e;cases e;refine⟨.ref p,r1,p,_,ks,rfl,r2,q6k (by rw[r3];exact r4.len),hz,λl hl=>?_⟩;have x2:=Ext.hide ow.gh hl (.lst ((Yu ks).map V.int));exact k _ G _ x2 ⟨l,_,rfl,hl,ow.gh.free hl,qe,Yo.ints _⟩
 ·have e:(if ks.length<64 then some (R.fr ((Yu ks).map D.int))else none)=some r:=e
  rw[vG hz]at e;cases e
noncomputable def zBu(i:Nat):FM:=λω=>match ω[i]? with
 | some (some (.ow ds))=>(ds[ds.length-1]?).map λd=>(d,ω.set i (some (.ow ds.dropLast)))
 | _=>none
theorem Yo.dropLast{K:zA}{H:Hp}{ds:List D}{vs:List V}(h:Yo K H ds vs):Yo K H ds.dropLast vs.dropLast:=by
 rw[Zn,Zn,h.len];exact h.take _
theorem qfj{apos cpos:Pos}(ho:PE X o (XJ i))(hbase:uG o "pop" X.env (eval o X.env)=eval o X.env:=by rfl)(hline:(apos.endLine==cpos.line)=true:=by rfl):
  XM X (.Call (.Attribute o "pop" apos) [] [] cpos) (zBu i):=by
 refine⟨_,q8Q PySem.F.plainAttrs_list PySem.F.slot_list_pop PySem.F.type_list_pop q9d ho hbase hline,λG0 H0 G ω σ H d ω' Q ow e k=>?_⟩;unfold zBu at e
 split at e
 ·rename_i ds q2
  obtain⟨d1,hd,e⟩:=mpd e;cases e;obtain⟨l,vs,r1,r2,r3,r4,r5⟩:=ow.ow i ds q2;obtain⟨y,hy,ry⟩:=r5.get hd;refine⟨.ref l,r1,.inl ⟨rfl,vs,SqL.of r2⟩,l,vs,y,rfl,rfl,r2,by rw[<- r5.len];exact hy,k y G _ (ow.mut q2 r1 r2 r3 r4 r5.dropLast) (Y0.refl _) ry⟩
 ·cases e
end
noncomputable def WR:List Int->List (List Int)->Int->Int->List (List Int)
 | k::ks,x::xs,a,b=>if k=a then (x++[b])::xs else x::WR ks xs a b
 | _,xs,_,_=>xs
theorem q5H:∀(ks:List Int)(xs:List (List Int))(a b:Int),(WR ks xs a b).length=xs.length
 | [],_,_,_=>rfl
 | _::_,[],_,_=>rfl
 | k::ks,x::xs,a,b=>by
  unfold WR
  by_cases z:k=a
  ·rw[vC z];rfl
  ·rw[vG z,zL,zL,q5H ks xs a b]
structure Tab (G H0 H:Hp) (p:vJ) (ks:List Int) (ls:List vJ) (xss:List (List Int)):Prop where
 dict:H p=some (.dK (kvsOf ks (ls.map V.ref)))
 gp:G p=none
 hp:H0 p=none
 len:ks.length=ls.length
 len2:ls.length=xss.length
 lst:∀(j:Nat)l xs,ls[j]?=some l->xss[j]?=some xs->H l=some (.lst (xs.map V.int))
 gl:∀l∈ls,G l=none/\H0 l=none
 nd:ls.Nodup
theorem Tab.inn{G H0 H:Hp}{p:vJ}{ks:List Int}{ls:List vJ}{xss:List (List Int)}(T:Tab G H0 H p ks ls xss){l:vJ}(h:l∈ls):∃xs:List Int,H l=some (.lst (xs.map V.int)):=by
 obtain⟨j,hj,rfl⟩:=zg.mp h;have hj2:j<xss.length:=by rw[<- T.len2];exact hj
 exact⟨xss[j],T.lst j _ _ (zD hj) (zD hj2)⟩
theorem Tab.pl{G H0 H:Hp}{p:vJ}{ks:List Int}{ls:List vJ}{xss:List (List Int)}(T:Tab G H0 H p ks ls xss):p∉ls:=λh=>by
 obtain⟨xs,e⟩:=T.inn h;rw[T.dict]at e;cases e
theorem Tab.keep{G G' H0 H H':Hp}{p:vJ}{ks:List Int}{ls:List vJ}{xss:List (List Int)}(T:Tab G H0 H p ks ls xss)(x:Ext G H G' H'):Tab G' H0 H' p ks ls xss :=
 ⟨x.hh _ _ T.dict,x.new p T.gp (by rw[T.dict];exact λz=>by cases z),T.hp,T.len,T.len2,λj l xs h1 h2=>x.hh _ _ (T.lst j l xs h1 h2),λl h=>by
  obtain⟨xs,e⟩:=T.inn h;exact⟨x.new l (T.gl l h).1 (by rw[e];exact λz=>by cases z),(T.gl l h).2⟩,T.nd⟩
theorem qcO:∀{ks:List Int}{ls:List vJ}{a:Int},ks.length=ls.length->a∈ks->∃(j:Nat) (l:vJ),ks[j]?=some a/\ls[j]?=some l/\Yy ks (ls.map V.ref) a=some (.ref l)/\∀(xss:List (List Int))(b:Int),xss.length=ls.length->∃xs,xss[j]?=some xs/\WR ks xss a b=xss.set j (xs++[b])
 | [],_,_,_,h=>by simp at h
 | _::_,[],_,h,_=>by simp at h
 | k::ks,l::ls,a,h,ha=>by
  by_cases z:k=a
  ·refine⟨0,l,by rw[z];rfl,rfl,vC z,λxss b hx=>?_⟩
   cases xss with
   | nil=>simp at hx
   | cons x xs=>exact⟨x,rfl,vC z⟩
  ·have ha':a∈ks:=(zF.mp ha).resolve_left λe=>z e.symm
   obtain⟨j,l',e1,e2,e3,e4⟩:=qcO (ks:=ks) (ls:=ls) ⇑h ha';refine⟨j+1,l',e1,e2,?_,λxss b hx=>?_⟩
   ·show (if k=a then _ else _)=_
    rw[vG z];exact e3
   ·cases xss with
    | nil=>simp at hx
    | cons x xs=>
     obtain⟨y,h1,h2⟩:=e4 xs b ⇑hx;refine⟨y,h1,?_⟩;show (if k=a then _ else x::WR ks xs a b)=_;rw[vG z,h2];rfl
theorem Tab.app{G H0 H:Hp}{p:vJ}{ks:List Int}{ls:List vJ}{xss:List (List Int)}(T:Tab G H0 H p ks ls xss){a:Int}(b:Int)(ha:a∈ks):
  ∃(l:vJ) (xs:List Int),l∈ls/\xs∈xss/\Yy ks (ls.map V.ref) a=some (.ref l)/\W0 H p (.int a) (some (.ref l))/\H l=some (.lst (xs.map V.int))/\Tab G H0 (upd H l (.lst ((xs++[b]).map V.int))) p ks ls (WR ks xss a b):=by
 obtain⟨j,l,e1,e2,e3,e4⟩:=qcO T.len ha;obtain⟨xs,e5,e6⟩:=e4 xss b T.len2.symm;have hl:l∈ls:=z0 e2;have hlp:p≠l:=λz=>T.pl (z▸hl);have g:=W0.k (k:=(Sum.inl a:Key)) T.dict;rw[q02 (by rw[zB];exact T.len),e3]at g;refine⟨l,xs,hl,z0 e5,e3,g,T.lst j l xs e2 e5,?_⟩;rw[e6];refine⟨by rw[qd hlp];exact T.dict,T.gp,T.hp,T.len,by rw[yV];exact T.len2,λi m ys h1 h2=>?_,T.gl,T.nd⟩;rcases qf h2 with⟨rfl,_,rfl⟩|⟨ne,h3⟩
 ·rw[e2]at h1
  cases h1;exact qe
 ·have hm:m≠l:=λz=>by
   subst z;obtain⟨i1,i2⟩:=zh.mp h1;obtain⟨j1,j2⟩:=zh.mp e2;exact ne ((wS T.nd).mp (j2.trans i2.symm))
  rw[qd hm];exact T.lst i m ys h1 h3
theorem Own.free{K:zA}{G0:Hp}{H0:Fr}{G:Hp}{ω:WSt}{σ:St}{H:Hp}{q:vJ}{ob:HO}(o:Own K G0 H0 G ω σ H)(no:Xw ω)(hG:G q=none)(h0:H0 q=none):Own K G0 H0 G ω σ (upd H q ob) :=
 ⟨⟨o.ext.gg,Y1 o.ext.gh hG _,Y1 o.ext.hh h0 _,o.ext.new⟩,o.len,o.sh,λi ds h=>vP h (no.ow i ds),o.nd,λi ks ds h=>vP h (no.od i ks ds),Xi.no no.pw⟩
theorem Tab.put{G H0 H:Hp}{p:vJ}{ks:List Int}{ls:List vJ}{xss:List (List Int)}(T:Tab G H0 H p ks ls xss){k:Int}{l:vJ}(hk:k∉ks)(hl:H l=none)(sg:Y0 G H)(s0:Y0 H0 H)(hz:ks.length<1000000):
  ∃H4,zCS (upd H l (.lst [])) p (.int k) (.ref l) H4/\H4=upd (upd H l (.lst [])) p (.dK (kvsOf (ks++[k]) ((ls++[l]).map V.ref)))/\Tab G H0 H4 p (ks++[k]) (ls++[l]) (xss++[[]]):=by
 have hpl:p≠l:=λz=>by rw[<- z,T.dict]at hl;cases hl
 have hlen:ks.length=(ls.map V.ref).length:=by rw[zB];exact T.len
 have e:putK (kvsOf ks (ls.map V.ref)) (Sum.inl k) (.ref l)=kvsOf (ks++[k]) ((ls++[l]).map V.ref):=by
  rw[q4E hlen];unfold X8 putA;rw[vG hk,vG hk,za];rfl
 have d:=zCS.k (H:=upd H l (.lst [])) (a:=p) (kvs:=kvsOf ks (ls.map V.ref)) (k:=(Sum.inl k:Key)) (v:=.ref l) (by rw[qd hpl];exact T.dict) (by rw[q1M hlen,vh];omega);rw[e]at d;refine⟨_,d,rfl,qe,T.gp,T.hp,by rw[zC,zC,T.len];rfl,by rw[zC,zC,T.len2];rfl,λj m xs h1 h2=>?_,λm hm=>?_,?_⟩
 ·rcases zw j ls.length with z|z
  ·rw[ze z]at h1
   rw[ze (by rw[<- T.len2];exact z)]at h2;have e1:=T.lst j m xs h1 h2;have n1:m≠p:=λy=>T.pl (y▸z0 h1);have n2:m≠l:=λy=>by rw[y,hl]at e1;cases e1
   rw[qd n1,qd n2];exact e1
  ·rw[zX z]at h1
   rw[zX (by rw[<- T.len2];exact z),<- T.len2]at h2;cases hj:j-ls.length with
   | zero=>
    rw[hj]at h1 h2;cases h1;cases h2;rw[qd (Ne.symm hpl)];exact qe
   | succ n=>rw[hj]at h1;cases h1
 ·rcases zN.mp hm with h|h
  ·exact T.gl m h
  ·cases zS.mp h;exact⟨sg.free hl,s0.free hl⟩
 ·rw[yY]
  refine⟨T.nd,by simp,λa ha b hb z=>?_⟩;cases zS.mp hb;obtain⟨xs,e1⟩:=T.inn ha;rw[z,hl]at e1;cases e1
noncomputable def pairsOf:List D->Option (List (Int×Int))
 | []=>some []
 | .tup [.int a,.int b]::r=>(pairsOf r).map λl=>(a,b)::l
 | _=>none
noncomputable def Ym(e:Int×Int):D:=.tup [.int e.1,.int e.2]
theorem q3G:∀{ds:List D}{es:List (Int×Int)},pairsOf ds=some es->ds=es.map Ym
 | [],_,h=>by cases h;rfl
 | d::r,es,h=>by
  unfold pairsOf at h
  split at h
  ·rename_i e;cases e
  ·rename_i e
   cases e;obtain⟨l,h1,h2⟩:=mpd h;subst h2;rw[q3G h1];rfl
  ·cases h
theorem q2A:∀es:List (Int×Int),pairsOf (es.map Ym)=some es
 | []=>rfl
 | e::r=>by show (pairsOf (r.map Ym)).map _=_;rw[q2A r];rfl
noncomputable def X4(ks:List Int)(xss:List (List Int))(e:Int×Int):List (List Int):=WR ks (WR ks xss e.1 e.2) e.2 e.1
noncomputable def nbT(ts:List Int)(es:List (Int×Int)):List (List Int):=es.foldl (X4 ts) (ts.map λ_=>[])
noncomputable def nbM(a b:List D):Option D:=(intsOf a).bind λts=>(pairsOf b).bind λes=>if ts.Nodup/\(∀e∈es,e.1∈ts/\e.2∈ts)/\ts.length<=1000/\es.length<=1000 then some (.dic ts ((nbT ts es).map λxs=>.lst (xs.map D.int)))else none
noncomputable def sNb:FS:=λω=>match ω with
 | [↥(.lst a),↥(.lst b),none,none,none]=>(nbM a b).map λd=>(.rt (.sh d),ω)
 | _=>none
theorem zCR{a b:D}{x:Option D}:Xw [↥a,↥b,none,none,x.map W.sh]:=by
 intro i w e
 match i,e with
 | 0,e=>cases e;exact⟨_,rfl⟩
 | 1,e=>cases e;exact⟨_,rfl⟩
 | 2,e=>cases e
 | 3,e=>cases e
 | 4,e=>
  cases x with
  | none=>cases e
  | some d=>cases e;exact⟨d,rfl⟩
 | i+5,e=>simp at e
theorem Own.other{K:zA}{G0:Hp}{H0:Fr}{G:Hp}{ω:WSt}{σ:St}{H:Hp}{i:Nat}{v:Option V}(o:Own K G0 H0 G ω σ H)(no:Xw ω)(hi:∀w,ω[i]?≠some (some w)):Own K G0 H0 G ω (σ.set i v) H :=
 ⟨o.ext,by rw[yV];exact o.len,λj d h=>by
  obtain⟨u,h1,h2⟩:=o.sh j d h;exact⟨u,by rw[zI (λz=>hi _ (z▸h))];exact h1,h2⟩,λi ds h=>vP h (no.ow i ds),λi j ds es l h=>vP h (no.ow i ds),λi ks ds h=>vP h (no.od i ks ds),Xi.no no.pw⟩
theorem q3f(n:Nat):∀(ks:List Int)(xss:List (List Int))(a b:Int),(∀x∈xss,x.length<=n)->∀x∈WR ks xss a b,x.length<=n+1
 | [],xss,_,_,h,x,hx=>wL (h x hx)
 | _::_,[],_,_,h,x,hx=>by cases hx
 | k::ks,y::xss,a,b,h,x,hx=>by
  unfold WR at hx
  by_cases z:k=a
  ·rw[vC z]at hx
   rcases zF.mp hx with rfl|hx
   ·have:=h y zG
    rw[zC,zU];omega
   ·exact wL (h x (zH _ hx))
  ·rw[vG z]at hx
   rcases zF.mp hx with rfl|hx
   ·exact wL (h _ zG)
   ·exact q3f n ks xss a b (λx h'=>h x (zH _ h')) x hx
theorem Tab.told{K:zA}{G0 G:Hp}{H0:Fr}{H:Hp}{ω:WSt}{σ:St}{p:vJ}{ks:List Int}{ls:List vJ}{xss:List (List Int)}(T:Tab G H0 H p ks ls xss)(o:Own K G0 H0 G ω σ H)(no:Xw ω)(ob:Obj):
  ∃G',Y0 G G'/\Own K G0 H0 G' ω σ (upd H p (.frz ob (.dK (kvsOf ks (ls.map V.ref)))))/\Rep K G' (.dic ks (xss.map λxs=>.lst (xs.map D.int))) (.ref p):=by
 obtain⟨H',hH⟩:∃H':Hp,H'=upd H p (.frz ob (.dK (kvsOf ks (ls.map V.ref)))):=⟨_,rfl⟩;rw[<- hH];have hp':H' p=some (.frz ob (.dK (kvsOf ks (ls.map V.ref)))):=by rw[hH];exact qe
 have hn':∀b,b≠p->H' b=H b:=λb h=>by rw[hH];exact qd h
 let G':Hp:=λb=>if b=p\/b∈ls then H' b else G b
 have hin:∀b,(b=p\/b∈ls)->G' b=H' b:=λb h=>vC h;have hout:∀b,¬(b=p\/b∈ls)->G' b=G b:=λb h=>vG h;have gn:∀b,(b=p\/b∈ls)->G b=none/\H0 b=none:=λb h=>by
  rcases h with rfl|h
  ·exact⟨T.gp,T.hp⟩
  ·exact T.gl b h
 have gg:Y0 G G':=λb u z=>by
  by_cases y:b=p\/b∈ls
  ·rw[(gn b y).1]at z;cases z
  ·rw[hout b y];exact z
 have gh:Y0 G' H':=λb u z=>by
  by_cases y:b=p\/b∈ls
  ·rw[hin b y]at z;exact z
  ·rw[hout b y]at z;rw[hn' b λw=>y (.inl w)];exact o.gh b u z
 have hh:Y0 H0.hp H':=λb u z=>by
  rw[hn' b λw=>by rw[w,T.hp]at z;cases z];exact o.ext.hh b u z
 refine⟨G',gg,⟨⟨o.ext.gg.trans gg,gh,hh,λb z1 z2=>?_⟩,o.len,λi d h=>?_,λi ds h=>vP h (no.ow i ds),o.nd,λi ks ds h=>vP h (no.od i ks ds),Xi.no no.pw⟩,p,ls.map V.ref,rfl,⟨ob,by rw[hin p (.inl rfl)];exact hp'⟩,by rw[zB,<- T.len2];exact T.len,?_⟩
 ·by_cases y:b=p\/b∈ls
  ·exact vP (gn b y).2 z2
  ·rw[hout b y];exact o.ext.new b z1 z2
 ·obtain⟨v,h1,h2⟩:=o.sh i d h
  exact⟨v,h1,h2.mono gg⟩
 ·refine q41 (by rw[zB];exact T.len2.symm) λj d t h1 h2=>?_
  rw[zY]at h1;cases q:xss[j]? with
  | none=>rw[q]at h1;cases h1
  | some xs=>
   rw[q]at h1;cases h1;have hl:=T.lst j t xs h2 q;exact⟨t,_,rfl,by rw[hin t (.inr (z0 h2)),hn' t λw=>by rw[w,T.dict]at hl;cases hl];exact hl,Yo.ints xs⟩
theorem qbB{K:zA}{ta tb:TE}{g0 g1:FD}(k2:zBG K ta g0)(k4:zBG K tb g1){G0:Hp}{H0:Fr}{G:Hp}{ω:WSt}{σ:St}{H:Hp}{p:vJ}{ks:List Int}{ls:List vJ}{xss:List (List Int)}{a b:Int}{Q:VK}(o:Own K G0 H0 G ω σ H)(no:Xw ω)(hσ:σ[2]?=some (some (.ref p)))(T:Tab G H0 H p ks ls xss)(h0:g0 ω=some (.int a))(h1:g1 ω=some (.int b))(ha:a∈ks)(hz:∀xs∈xss,xs.length<1000000)(h:∀G' H',Own K G0 H0 G' ω σ H'->Y0 G G'->Tab G' H0 H' p ks ls (WR ks xss a b)->Q .non H'):tBM K "list" Xu (zCO (XJ 2) ta) (Wb tb zAU) σ H Q:=by
 refine⟨.ref p,hσ,k2 G0 H0 G ω σ H _ _ o h0 λu G1 H1 x1 y1=>?_⟩;cases (show u=.int a from y1);have o1:=o.keep x1;have T1:=T.keep x1;obtain⟨l,xs,m1,m2,m3,m4,m5,_⟩:=T1.app b ha;refine⟨p,.ref l,rfl,m4,.inl ⟨rfl,_,SqL.of m5⟩,k4 G0 H0 G1 ω σ H1 _ _ o1 h1 λu G2 H2 x2 y2=>?_⟩;cases (show u=.int b from y2);have o2:=o1.keep x2;have T2:=T1.keep x2;obtain⟨l',xs',n1,n2,n3,n4,n5,n6⟩:=T2.app b ha;rw[m3]at n3;cases n3;refine⟨l,_,.int b,rfl,rfl,n5,by rw[zB,vh];have:=hz xs' n2;omega,?_⟩;rw[show xs'.map V.int++[V.int b]=(xs'++[b]).map V.int by rw[za];rfl];exact h G2 _ (o2.free no (T2.gl l n1).1 (T2.gl l n1).2) (x1.gg.trans x2.gg) n6
theorem qcB{a b:vX}{p:Pos}{n:Str}{env:Env}(m:Sem vB):uG (.Subscript a b p) n env m=m:=rfl
section
variable{X:Cx}
theorem qgG{x2 x3 x4:Str}{o0 o1 o2 o3 o4 o4b e0 e1 e0b e1b e0':vX}{q1 q2 q3 q4 q5 q6 q7 q8 q9 q10 q11 q12 q13 q14 q15 a1 a2 c1 c2:Pos}{g0 g1:FD}(hu:X.A.units+64<ui)(hp:tO (model X.prog X.w) X.A X.env X.xe)(hc:X.calm=true)(hN:X.N.Nodup)(i2:X.N[2]?=some x2)(i3:X.N[3]?=some x3)(i4:X.N[4]?=some x4)(l2:Loc X.env.scope x2)(l3:Loc X.env.scope x3)(l4:Loc X.env.scope x4)(f2:X.fn x2=true\/X.env.scope.names.lookup x2=some .local)(f3:X.fn x3=true\/X.env.scope.names.lookup x3=some .local)(f4:X.fn x4=true\/X.env.scope.names.lookup x4=some .local)(h0:PE X o0 (XJ 0))(h1:PE X o1 (XJ 1))(h2:PE X o2 (XJ 2))(h2':PE X o4 (XJ 2))(h2b:PE X o4b (XJ 2))(h3:PE X o3 (XJ 3))(h5:PE X e0' (XJ 2))(ha:XD X e0 g0)(hb:XD X e1 g1)(hab:XD X e0b g0)(hbb:XD X e1b g1)(hg0:∀(ω:WSt)e,ω[4]?=some (some (.sh (Ym e)))->g0 ω=some (.int e.1))(hg1:∀(ω:WSt)e,ω[4]?=some (some (.sh (Ym e)))->g1 ω=some (.int e.2))(s1:v7 (.Dict [] [] q1) (some (.Name x2 q2)) q3.line X.env=pure false:=by rfl)(s2:v7 (.List [] q4) (some (.Subscript o2 o3 q5)) q6.line X.env=pure false:=by rfl)(n0:NoSl e0:=by intro _ _;rfl)(n1:NoSl e1b:=by intro _ _;rfl)(w1:((vk c1 (vK [e1] X.env)).all (λx=>!x.1)&&(uN c1 (v4 [] X.env)).all (λx=>x.1.isSome)&&decide (([e1]:List vX).length+([]:List uP).length+(if ([]:List uP).isEmpty then 0 else 1)<30))=true:=by rfl)(w2:((vk c2 (vK [e0b] X.env)).all (λx=>!x.1)&&(uN c2 (v4 [] X.env)).all (λx=>x.1.isSome)&&decide (([e0b]:List vX).length+([]:List uP).length+(if ([]:List uP).isEmpty then 0 else 1)<30))=true:=by rfl)(z1:(a1.endLine==c1.line)=true:=by rfl)(z2:(a2.endLine==c2.line)=true:=by rfl)(t1:vK [e1] X.env=(false,eval e1 X.env)::vK [] X.env:=by rfl)(t2:vK [e0b] X.env=(false,eval e0b X.env)::vK [] X.env:=by rfl)(p1:(vk c1 (vK [] X.env)).any (·.1)=false:=by rfl)(p2:(vk c2 (vK [] X.env)).any (·.1)=false:=by rfl)(v1:v7 (.Call (.Attribute (.Subscript o4 e0 q7) "append" a1) [e1] [] c1) none q9.line X.env=pure false:=by rfl)(v2:v7 (.Call (.Attribute (.Subscript o4b e1b q8) "append" a2) [e0b] [] c2) none q10.line X.env=pure false:=by rfl)(y1:∀x,v8 o0 X.env x=pure x:=by intro _;rfl)(y2:∀x,v8 o1 X.env x=pure x:=by intro _;rfl):
  XSs X [.Assign [.Name x2 q2] (.Dict [] [] q1) q3,.For (.Name x3 q11) o0 [.Assign [.Subscript o2 o3 q5] (.List [] q4) q6] [] q12,
   .For (.Name x4 q13) o1 [.Expr (.Call (.Attribute (.Subscript o4 e0 q7) "append" a1) [e1] [] c1) q9,.Expr (.Call (.Attribute (.Subscript o4b e1b q8) "append" a2) [e0b] [] c2) q10] [] q14,.Return (some e0') q15] sNb:=by
 obtain⟨ta,k1,k2⟩:=ha;obtain⟨tb,k3,k4⟩:=hb;obtain⟨ta',k1',k2'⟩:=hab;obtain⟨tb',k3',k4'⟩:=hbb;have hu:=hu1 hu;refine⟨_,qz (q04 hN i2 l2 q60 s1 f2) (qz (q6x hp hc (q7w h0) (q3d hN i3 l3 f3) (q0o (qaA hu h2 h3 (q2b qr) s2)) y1)
  (qz (q6x hp hc (q7w h1) (q3d hN i4 l4 f4) (qz (q0B (q1X PySem.F.plainAttrs_list PySem.F.slot_list_append PySem.F.type_list_append q0z (q50 hu h2' k1 n0) (qt k3 qr t1) (qcB _) w1 z1 t1 p1) v1)
   (q0o (q0B (q1X PySem.F.plainAttrs_list PySem.F.slot_list_append PySem.F.type_list_append q0z (q50 hu h2b k3' n1) (qt k1' qr t2) (qcB _) w2 z2 t2 p2) v2))) y2) (q6j 2 (q0o (q4o h5))))),λG0 H0 G ω σ H out ω' E ow e kk=>?_⟩
 unfold sNb at e
 split at e
 case h_2=>cases e
 case h_1 _ a b=>
 obtain⟨d,e2,e3⟩:=mpd e;clear e;cases e3;obtain⟨ts,e4,e5⟩:=bnd e2;obtain⟨es,e6,e7⟩:=bnd e5;clear e2 e5
 by_cases cond:ts.Nodup/\(∀e∈es,e.1∈ts/\e.2∈ts)/\ts.length<=1000/\es.length<=1000
 case neg=>rw[vG cond]at e7;cases e7
 rw[vC cond]at e7;cases e7;obtain⟨cd1,cd2,cd3,cd4⟩:=cond;have ha':=q0y e4;have hb':=q3G e6;subst ha' hb';clear e4 e6;have no:Xw [some (W.sh (.lst (ts.map D.int))),↥(.lst (es.map Ym)),none,none,none]:=zCR (x:=none);have hlen:σ.length=5:=ow.len.symm;obtain⟨v0,r0,A0,vs0,rfl,r1,r2⟩:=ow.sh 0 _ rfl;obtain⟨v1,r3,A1,vs1,rfl,r4,r5⟩:=ow.sh 1 _ rfl;have hvs0:=r2.of_ints;subst hvs0;intro p hpn;have o1:Own X.K G0 H0 G [some (W.sh (.lst (ts.map D.int))),↥(.lst (es.map Ym)),none,none,none] (σ.set 2 (some (.ref p))) (upd H p (.dK [])):=(ow.free no (ow.gh.free hpn) (ow.ext.hh.free hpn)).other no λw z=>by cases z
 have T0:Tab G H0 (upd H p (.dK [])) p (ts.take 0) [] ((ts.take 0).map λ_=>[]):=⟨qe,ow.gh.free hpn,ow.ext.hh.free hpn,rfl,rfl,λj l xs h=>(by simp at h),λl h=>(by cases h),xO⟩;refine⟨.ref A0,by rw[zI (by decide)];exact r0,A0,rfl,⟨_,SqL.of (o1.gh _ _ r1)⟩,λn m σ2 H2=>∃ls,Own X.K G0 H0 G [some (W.sh (.lst (ts.map D.int))),↥(.lst (es.map Ym)),none,none,none] σ2 H2/\σ2[2]?=some (some (.ref p))/\Tab G H0 H2 p (ts.take n) ls ((ts.take n).map λ_=>[])/\n<=ts.length/\m=ts.length-n,
  ⟨_,[],o1,yZ (by rw[hlen];decide),T0,zy _,rfl⟩,?_⟩
 rintro n m σ2 H2 ⟨ls,o2,s22,T2,hn,rfl⟩
 by_cases hlt:n<ts.length
 ·have hq:=o2.gh _ _ r1
  refine .inr ⟨⟨_,.int ts[n],SqL.of hq,by rw[zY,zD hlt];rfl⟩,λσ3 H3=>∃ls,Own X.K G0 H0 G [some (W.sh (.lst (ts.map D.int))),↥(.lst (es.map Ym)),none,none,none] σ3 H3/\σ3[2]?=some (some (.ref p))/\Tab G H0 H3 p (ts.take (n+1)) ls ((ts.take (n+1)).map λ_=>[]),
   λσ3 H3 ⟨ls,b1,b2,b3⟩=>⟨ts.length-(n+1),∅,ls,b1,b2,b3,hlt,rfl⟩,λy H3 hy=>?_⟩
  obtain⟨rfl,hy⟩:=hy;have hy:=hy _ (SqL.of hq);rw[zY,zD hlt]at hy;cases hy;have hl2:σ2.length=5:=o2.len.symm;refine⟨by show 0<=sizeLine;exact zy _,λl hl=>?_⟩;refine⟨.ref p,by rw[zI (by decide)];exact s22,.int ts[n],yZ (by rw[hl2];decide),?_⟩;have nk:ts[n]∉ts.take n:=λz=>by
   obtain⟨j,hj,ej⟩:=zg.mp z;rw[xG]at ej;have hj':j<n:=by rw[zf]at hj;omega
   have:=(wS cd1).mp ej;omega
  obtain⟨H4,d1,d2,T4⟩:=T2.put nk hl o2.gh o2.ext.hh (by rw[zf];omega);refine⟨p,H4,rfl,d1,ls++[l],?_,by rw[zI (by decide)];exact s22,?_⟩
  ·subst d2
   exact((o2.free no (o2.gh.free hl) (o2.ext.hh.free hl)).free no T2.gp T2.hp).other no λw z=>by cases z
  ·rw[(ZN hlt).symm,za]
   exact T4
 ·have en:n=ts.length:=∅
  subst en;rw[ZV]at T2;refine .inl ⟨⟨_,SqL.of (o2.gh _ _ r1),by rw[zB];exact zK _⟩,?_⟩;obtain⟨v1',r3',A1',vs1',rfl,r4',r5'⟩:=o2.sh 1 _ rfl;have hl5:es.length=vs1'.length:=by have:=r5'.len;rw[zB]at this;exact this
  refine⟨.ref A1',r3',A1',rfl,⟨_,SqL.of (o2.gh _ _ r4')⟩,λn m σ3 H3=>∃G3 x4,Own X.K G0 H0 G3 [some (W.sh (.lst (ts.map D.int))),↥(.lst (es.map Ym)),none,none,x4.map W.sh] σ3 H3/\Y0 G G3/\σ3[2]?=some (some (.ref p))/\Tab G3 H0 H3 p ts ls ((es.take n).foldl (X4 ts) (ts.map λ_=>[])) /\
   (∀xs∈(es.take n).foldl (X4 ts) (ts.map λ_=>[]),xs.length<=2*n)/\n<=es.length/\m=es.length-n,
   ⟨_,G,none,o2,Y0.refl _,s22,T2,λxs hx=>by obtain⟨_,_,rfl⟩:=yB.mp hx;exact zK _,zy _,rfl⟩,?_⟩
  rintro n m σ3 H3 ⟨G3,x4,o3,g3,s32,T3,b3,hn3,rfl⟩
  by_cases hlt3:n<es.length
  ·have hq3:=o3.gh _ _ (g3 _ _ r4')
   have hlv:n<vs1'.length:=by rw[<- hl5];exact hlt3
   refine .inr ⟨⟨_,vs1'[n],SqL.of hq3,zD hlv⟩,λσ4 H4=>∃G4 x4,Own X.K G0 H0 G4 [some (W.sh (.lst (ts.map D.int))),↥(.lst (es.map Ym)),none,none,x4.map W.sh] σ4 H4/\Y0 G G4/\σ4[2]?=some (some (.ref p))/\Tab G4 H0 H4 p ts ls ((es.take (n+1)).foldl (X4 ts) (ts.map λ_=>[])) /\
    (∀xs∈(es.take (n+1)).foldl (X4 ts) (ts.map λ_=>[]),xs.length<=2*(n+1)),
    λσ4 H4 ⟨G4,x4,b1,b2,b4,b5,b6⟩=>⟨es.length-(n+1),∅,G4,x4,b1,b2,b4,b5,b6,hlt3,rfl⟩,λy H4 hy=>?_⟩
   obtain⟨rfl,hy⟩:=hy;have hy:=hy _ (SqL.of hq3);rw[zD hlv]at hy;cases hy;have hd:(es.map Ym)[n]?=some (Ym es[n]):=by rw[zY,zD hlt3];rfl
   obtain⟨v,hv1,hv2⟩:=r5'.get hd;rw[zD hlv]at hv1;cases hv1;have hl3:σ3.length=5:=o3.len.symm;have o4:Own X.K G0 H0 G3 [some (W.sh (.lst (ts.map D.int))),↥(.lst (es.map Ym)),none,none,↥(Ym es[n])] (σ3.set 4 (some vs1'[n])) H4:=o3.setSh (i:=4) (hv2.mono g3);have no4:Xw [some (W.sh (.lst (ts.map D.int))),↥(.lst (es.map Ym)),none,none,↥(Ym es[n])]:=zCR (x:=some (Ym es[n]));have s42:(σ3.set 4 (some vs1'[n]))[2]?=some (some (.ref p)):=by rw[zI (by decide)];exact s32
   obtain⟨in1,in2⟩:=cd2 es[n] (yW hlt3);refine qbB k2 k4 o4 no4 s42 T3 (hg0 _ es[n] rfl) (hg1 _ es[n] rfl) in1 (λxs hx=>by have:=b3 xs hx;omega) λG5 H5 o5 g5 T5=>?_;have b5:=q3f (2*n) ts _ es[n].1 es[n].2 b3;refine qbB k4' k2' o5 no4 s42 T5 (hg1 _ es[n] rfl) (hg0 _ es[n] rfl) in2 (λxs hx=>by have:=b5 xs hx;omega) λG6 H6 o6 g6 T6=>?_;have b6:=q3f (2*n+1) ts _ es[n].2 es[n].1 b5;have et:es.take (n+1)=es.take n++[es[n]]:=(ZN hlt3).symm;refine⟨G6,some (Ym es[n]),o6,(g3.trans g5).trans g6,s42,?_,?_⟩
   ·rw[et,ZK];exact T6
   ·rw[et,ZK]
    intro xs hx;have:=b6 xs hx;omega
  ·have en3:n=es.length:=∅
   subst en3;rw[ZV]at T3;refine .inl ⟨⟨_,SqL.of (o3.gh _ _ (g3 _ _ r4')),by rw[hl5];exact zK _⟩,?_⟩;have no3:Xw [some (W.sh (.lst (ts.map D.int))),↥(.lst (es.map Ym)),none,none,x4.map W.sh]:=zCR;refine⟨p,_,s32,T3.dict,λob=>?_⟩;obtain⟨G',g',o',rp⟩:=T3.told o3 no3 ob;generalize upd H3 p (.frz ob _)=H4 at o' ⊢;refine⟨.ref p,s32,?_⟩;have oF:Own X.K G0 H0 G' [some (W.sh (.lst (ts.map D.int))),↥(.lst (es.map Ym)),none,none,none] σ3 H4:=by
    refine⟨o'.ext,o'.len,λi d h=>?_,λi ds h=>vP h (no.ow i ds),λi j ds es l h=>vP h (no.ow i ds),λi ks ds h=>vP h (no.od i ks ds),Xi.no no.pw⟩
    match i,h with
    | 0,h=>exact o'.sh 0 d h
    | 1,h=>exact o'.sh 1 d h
    | 2,h=>cases h
    | 3,h=>cases h
    | 4,h=>cases h
    | i+5,h=>simp at h
   exact kk G' σ3 H4 oF (g3.trans g') (.ref p) rp
end
theorem qgx{ω:WSt}{e:Int×Int}(h:ω[4]?=some ↥(Ym e)):dOf (Yn oIx (vOf (Yi 4)) (fC (.int 0))) ω=some (.int e.1):=by
 unfold dOf Yn vOf Yi fC;rw[h];rfl
theorem qgP{ω:WSt}{e:Int×Int}(h:ω[4]?=some ↥(Ym e)):dOf (Yn oIx (vOf (Yi 4)) (fC (.int 1))) ω=some (.int e.2):=by
 unfold dOf Yn vOf Yi fC;rw[h];rfl
noncomputable def zB2(i:Nat)(ω:WSt)(c d:Option D):Option (Out×WSt):=c.bind λc=>d.bind λd=>match c with
 | .int k=>some (.nx,ω.set i (some (.od [k] [d])))
 | _=>none
noncomputable def dsetS(i:Nat)(ω:WSt)(v c:Option D)(w:Option (Option W)):Option (Out×WSt):=v.bind λd=>c.bind λc=>match c,w with
 | .int k,some (some (.od ks ds))=>if ks.length<1000000 then some (.nx,ω.set i (some (.od (X8 ks k) (putA ks ds k d))))else none
 | _,_=>none
noncomputable def dgetR(o:Option (List Int×List D))(c:Option D):Option R:=o.bind λp=>c.bind λc=>match c with
 | .int k=>(Yy p.1 p.2 k).map R.sh
 | _=>none
noncomputable def dhasT(neg:Bool)(c:Option D)(o:Option (List Int×List D)):Option Bool:=c.bind λc=>o.bind λp=>match c with
 | .int k=>some (if neg then !(Yy p.1 p.2 k).isSome else (Yy p.1 p.2 k).isSome)
 | _=>none
noncomputable def zB7(o:Option (List Int×List D)):Option R:=o.bind λp=>if p.1.length<64 then some (.fr ((Yu p.1).map D.int))else none
noncomputable def pop0(i:Nat)(ω:WSt)(w:Option (Option W)):Option (D×WSt):=match w with
 | some (some (.ow ds))=>(ds[ds.length-1]?).map λd=>(d,ω.set i (some (.ow ds.dropLast)))
 | _=>none
noncomputable def zCG(j i:Nat)(ω:WSt)(w:Option (Option W)):Option (Out×WSt):=(pop0 i ω w).map λp=>(.nx,p.2.set j (some (.sh p.1)))
section
variable{ω:WSt}{fk fv:FD}{i j:Nat}{ks:List Int}{ds:List D}{k:Int}{d:D}{neg:Bool}
theorem q4j:zA7 i ω=some (.nx,ω.set i (some (.od [] []))):=rfl
theorem q3o:zBd i fk fv ω=zB2 i ω (fk ω) (fv ω):=rfl
theorem q6d:zB2 i ω (some (.int k)) (some d)=some (.nx,ω.set i (some (.od [k] [d]))):=rfl
theorem q4H:zAt i fk fv ω=dsetS i ω (fv ω) (fk ω) ω[i]?:=rfl
theorem q4s:zAQ i fk ω=dgetR (Wa ω[i]?) (fk ω):=rfl
theorem q6C:dgetR (some (ks,ds)) (some (.int k))=(Yy ks ds k).map R.sh:=rfl
theorem q6W:Wa (some (some (.od ks ds)))=some (ks,ds):=rfl
theorem q6S:Wa (some ↥(.dic ks ds))=some (ks,ds):=rfl
theorem q4v:zBK neg i fk ω=dhasT neg (fk ω) (Wa ω[i]?):=rfl
theorem q70:dhasT true (some (.int k)) (some (ks,ds))=some (!(Yy ks ds k).isSome):=rfl
theorem q2N:zBC i ω=zB7 (Wa ω[i]?):=rfl
theorem q3k:zBx j (zBu i) ω=zCG j i ω ω[i]?:=rfl
theorem q6m:shrS i ω (some (some (.od ks ds)))=ω.set i ↥(.dic ks ds):=rfl
end
theorem q2U{i:Nat}{ω:WSt}{ks:List Int}{ds:List D}{k:Int}{d:D}(h:ks.length<1000000):dsetS i ω (some d) (some (.int k)) (some (some (.od ks ds)))=some (.nx,ω.set i (some (.od (X8 ks k) (putA ks ds k d)))):=vC h
theorem qdk{ks:List Int}{ds:List D}(h:ks.length<64):zB7 (some (ks,ds))=some (.fr ((Yu ks).map D.int)):=vC h
theorem qeu{j i:Nat}{ω:WSt}{ds:List D}{d:D}:zCG j i ω (some (some (.ow (ds++[d]))))=some (.nx,(ω.set i (some (.ow ds))).set j ↥d):=by
 unfold zCG pop0;have e1:(ds++[d])[(ds++[d]).length-1]?=some d:=by
  rw[zC,zU,xP,zX (zK _),wt];rfl
 have e2:(ds++[d]).dropLast=ds:=by simp
 show Option.map _ (((ds++[d])[(ds++[d]).length-1]?).map _)=_;rw[e1,e2];rfl
section
variable{X:Cx}{o k e:vX}{pos pos':Pos}{i:Nat}{fk fv:FD}
end
section
variable{X:Cx}{e:vX}{pos pos':Pos}{i:Nat}{fe:FD}
end
section
open PySem.Spec PyProof.Rows
variable{X:Cx}
end
end Hk
namespace L2
open PySem PySem.Spec PyProof.Rows
end L2
namespace Hk
open PySem L2
section
variable{ω:WSt}{fk fv:FD}{fa:FA}{i j:Nat}{ds:List D}{a b c:Int}{d:D}{g:Int->Int->Int}
end
end Hk
namespace L2
open PySem PySem.Spec PyProof.Rows
noncomputable def Ite(K:zA)(a:vJ):It :=
 ⟨λi H=>∃xs x,SqL K H a xs/\xs[i]?=some x,
  λi H x H'=>∃t x1,H t=none/\x=.ref t/\H'=upd H t (.tup [.int i,x1])/\∀xs,SqL K H a xs->xs[i]?=some x1,
  λi H=>∃xs,SqL K H a xs/\xs[i]?=none⟩
theorem qco{P:vW}{w:vZ}{K:zA}{elts:List vX}{kx}{tpos:Pos}(a e it:vJ)(hne:e≠it)(hae:a≠e)(hai:a≠it):
  Turn P w K (.Tuple elts kx tpos) (Ite K a) [e,it] e (λi h=>(∃old,IsEnum h e it (i:Int) old)/\h.IsListIter it a i) where
 mem:=by simp
 obj:=λi h st c hc=>by
  obtain⟨⟨old,s1⟩,⟨o4,e4,c4,d4⟩⟩:=st;simp only[zF,zi,or_false]at hc;rcases hc with rfl|rfl
  ·exact⟨_,s1,λv y=>by cases (show Data.fields _=Data.cell v from y)⟩
  ·exact⟨_,e4,λv y=>by rw[d4]at y;cases y⟩
 keep:=λi h h' st k=>by
  obtain⟨⟨old,s1⟩,s4⟩:=st;exact⟨⟨old,k _ (by simp) _ s1⟩,s4.at λo e=>k _ (by simp) o e⟩
 item:=by
  intro X hP hw hK hc i pins s σ H E I hf st hg;subst hP hw hK;obtain⟨xs,x,hq,hx⟩:=hg;obtain⟨its,rv,p,hz⟩:=I.list hq;obtain⟨u,hu,ru⟩:=rv.get hx;obtain⟨⟨old,s1⟩,s4⟩:=st;have ex:∀c∈[e,it],∃o,s.heap.get? c=some o:=λc hc=>by
   simp only[zF,zi,or_false]at hc;rcases hc with rfl|rfl
   ·exact⟨_,s1⟩
   ·obtain⟨o,e,_⟩:=s4;exact⟨o,e⟩
  have nt:∀c∈[e,it],c≠s.heap.objs.size:=λc hc=>by
   obtain⟨o,e⟩:=ex c hc;exact zr (zO e)
  refine wpAny_pyNext_enum_item s1 s4 p.isList (x:=u) (by simpa using hu) hne λh' a1 a2 a3 a4 hk=>?_;have hn:H s.heap.objs.size=none:=I.hok.fresh (zK _);have I1:Inv X pins σ (upd H s.heap.objs.size (.tup [.int i,x])) { s with heap:=s.heap.push { cls:=.type "tuple", data:=.seq #[.int i s.toks,u] },toks:=s.toks+1 } :=
   I.laid (λb o e=>zE _ e) (zK _) (show Y2 X.prog X.w _ _ _ (.tup [.int i,x])from ⟨by show 2<=sizeLine;decide,[.int i s.toks,u],.cons ⟨_,rfl⟩ (.cons ru .nil),⟨_,zR _ rfl,rfl,_,rfl⟩⟩)
  have hf':∀c∈[e,it],WH X pins (upd H s.heap.objs.size (.tup [.int i,x])) c:=λc hc=>by
   obtain⟨f0,f⟩:=hf c hc;exact⟨by rw[qd (nt c hc)];exact f0,f⟩
  have I2:Inv X pins σ (upd H s.heap.objs.size (.tup [.int i,x])) { s with heap:=h',toks:=s.toks+1 }:=I1.turnedL (λb o hb e=>by
   simp only[zF,zi,or_false,not_or]at hb
   by_cases q:b=s.heap.objs.size
   ·subst q
    rw[zR _ rfl]at e;cases e;exact a3
   ·have e':s.heap.get? b=some o:=by
     rcases zw b s.heap.objs.size with l|l
     ·obtain⟨z1,z2⟩:=wF.mp e
      refine wF.mpr ⟨?_,z2⟩;rw[<- z1];show s.heap.objs[b]?=(s.heap.objs.push _)[b]?;rw[Zt,vG q]
     ·have:=zO e
      rw[yc]at this;exact vP (by simp only[vJ]at *;omega) q
    exact hk b o hb.1 hb.2 e') hf'
  refine⟨_,rfl,wpAny_letOwnedTupleGo_enum a1 λh2 b1 sb=>?_⟩;have I3:Inv X pins σ (upd H s.heap.objs.size (.tup [.int i,x])) { s with heap:=h2,toks:=s.toks+1 }:=I2.turnedL (λb o hb e=>(sb.2 b (λq=>hb (by simp[q]))).trans e) hf';have hi:((i+1:Nat):Int)=(i:Int)+1:=by push_cast;rfl
  refine⟨.ref s.heap.objs.size,_,I3,rfl,⟨_,x,hn,rfl,rfl,λxs' q1=>by rw[I.list_inj q1 hq];exact hx⟩,⟨⟨u,by rw[hi];exact b1⟩,a2.extBut sb.extBut (Ne.symm hne)⟩,λc hc=>(hf' c hc).1⟩
 done:=by
  intro X hP hw hK hc i pins s σ H E I hf st hg;subst hP hw hK;obtain⟨xs,hq,hx⟩:=hg;obtain⟨its,rv,p,hz⟩:=I.list hq;obtain⟨⟨old,s1⟩,s4⟩:=st;have l1:=rv.length;refine wpAny_pyNext_enum_end (I.ok.hd hc) s1 s4 p.isList ?_ λh' hk=>⟨rfl,I.turnedL (t':=s.toks) (λb o hb e=>?_) hf⟩
  ·rw[xv]at hx;simp;omega
  ·simp only[zF,zi,or_false,not_or]at hb
   exact hk b o hb.2 e
 self:=λ_ _ _ _ _ st h=>by
  obtain⟨⟨old,s1⟩,s4⟩:=st;exact wpAny_pyIter_enum s1 h
noncomputable def iEnum(K:zA)(ta:TA):TI:=λσ H R=>ta σ H λvs H1=>∃a xs,vs=[.ref a]/\SqL K H1 a xs/\R (Ite K a) H1
theorem qaL{X:Cx}{a:vX}{ta:TA}{p pos tpos:Pos}{elts:List vX}{kx}(hg:Gl X "enumerate")(hm:X.mg "enumerate" = none)(ha:PA X [a] ta)(hs:vK [a] X.env=[(false,eval a X.env)]:=by rfl):
  PI X (.Tuple elts kx tpos) (.Call (.Name "enumerate" p) [a] [] pos) (iEnum X.K ta):=by
 intro pins s σ H R I h;refine Call_ (q0b I hg hm PyProof.Rows.boot_enumerate (PyProof.Rows.callWith_type1 (thn (ha pos pins s σ H _ I h) λus s1 ⟨vs,H1,I1,r1,q1⟩=>?_) hs rfl));obtain⟨l,xs,e,hq,q⟩:=q1;subst e;cases r1 with
 | cons r rr=>
  cases rr;cases r;obtain⟨its,rv,p1,hz⟩:=I1.list hq;have hlt:l<s1.heap.objs.size:=by obtain⟨_,_,e,_⟩:=p1;exact zO e
  refine call_enumerate_list p1.isList λh' a1 a2 a3 hk=>?_;refine wpAny_pyIter_enum a1 ?_;refine⟨s1.heap.objs.size+1,[s1.heap.objs.size+1,s1.heap.objs.size],_,_,H1,rfl,I1.kept (t':=s1.toks) hk,qco l _ _ (Nat.succ_ne_self _) (zr (yR hlt)) (zr hlt),⟨⟨_,a1⟩,a2⟩,λc hc=>?_,q⟩;have hle:s1.heap.objs.size<=c:=by
   simp only[zF,zi,or_false]at hc;simp only[vJ]at *;omega
  exact I1.fpOk hle (I1.hok.fresh hle)
end L2
namespace Hk
open PySem L2
noncomputable def Wf:Nat->List D->List D
 | i,a::as=>.tup [.int i,a]::Wf (i+1) as
 | _,[]=>[]
theorem q44:∀(i:Nat)(as:List D),(Wf i as).length=as.length
 | i,a::as=>by show (Wf (i+1) as).length+1=_;rw[q44];rfl
 | i,[]=>rfl
theorem q87:∀(k:Nat)(as:List D)(i:Nat)(d:D),(Wf k as)[i]?=some d->∃a,as[i]?=some a/\d=.tup [.int ((k+i:Nat):Int),a]
 | k,a::as,0,d,h=>by cases h;exact⟨a,rfl,rfl⟩
 | k,a::as,i+1,d,h=>by
  obtain⟨b,h1,h2⟩:=q87 (k+1) as i d h;exact⟨b,h1,by rw[h2];congr 4;omega⟩
 | k,[],i,d,h=>by cases h
theorem qc3{K:zA}{G:Hp}{a:vJ}{ds:List D}{vs:List V}(h1:G a=some (.lst vs))(h2:Yo K G ds vs):IterOf K (Ite K a) G (Wf 0 ds):=by
 have l1:=h2.len;refine⟨λH i s hi=>?_,λG2 H i x H' d s0 s1 hd hy=>?_,λH s=>⟨vs,SqL.of (s _ _ h1),?_⟩⟩
 ·rw[q44]at hi
  exact⟨vs,vs[i]'∅,SqL.of (s _ _ h1),zD _⟩
 ·obtain⟨t,x1,ht,rfl,rfl,y⟩:=hy
  have e1:=y vs (SqL.of (s1 _ _ (s0 _ _ h1)));obtain⟨p,f1,rfl⟩:=q87 0 ds i d hd;obtain⟨v,q1,q2⟩:=h2.get f1;rw[e1]at q1;cases q1;have x2:=Ext.lay s1 ht (.tup [.int i,x1]);exact⟨_,x2,⟨t,_,rfl,qe,Yo.cons (by show (.int i:V)=.int ((0+i:Nat):Int);rw[yq]) (Yo.cons (q2.mono (s0.trans x2.gg)) Yo.nil)⟩⟩
 ·rw[q44];exact zu ∅
noncomputable def iEn(g:FA):FI:=λω=>(g ω).bind λds=>match ds with
 | [.lst a]=>some (Wf 0 a)
 | _=>none
theorem qf3{X:Cx}{a:vX}{g:FA}{p pos tpos:Pos}{elts:List vX}{kx}(hg:Gl X "enumerate")(hm:X.mg "enumerate" = none)(ha:XA X [a] g)(hs:vK [a] X.env=[(false,eval a X.env)]:=by rfl):
  XI X (.Tuple elts kx tpos) (.Call (.Name "enumerate" p) [a] [] pos) (iEn g):=by
 obtain⟨⟨t,h1,h2⟩,_⟩:=ha;refine⟨_,qaL hg hm h1 hs,λG0 H0 G ω σ H ds R o e k=>?_⟩;obtain⟨vs,q,e⟩:=bnd e;refine h2 G0 H0 G ω σ H vs _ o q λus G1 H1 x1 y1=>?_
 match vs,e with
 | [.lst as],e=>
  cases e;obtain⟨v1,r1,rfl,z1,z2⟩:=y1;cases (show r1=[]from z2);obtain⟨a1,ws1,rfl,f1,f2⟩:=z1;exact⟨a1,ws1,rfl,SqL.of (x1.gh _ _ f1),k _ G1 H1 x1 (qc3 f1 f2)⟩
noncomputable def enI(o:Option (List D)):Option (List D):=o.bind λds=>match ds with
 | [.lst a]=>some (Wf 0 a)
 | _=>none
theorem q6q{fa:FA}{ω:WSt}:iEn fa ω=enI (fa ω):=rfl
theorem q6e{ds:List D}:enI (some [.lst ds])=some (Wf 0 ds):=rfl
section
open PyProof.Rows PySem.Spec
variable{prog:vW}{w:vZ}{A:ve}{E:vB->vF->Prop}{s:vF}{l:vJ}{xs:Array (Int×Tok)}
end
section
variable{X:Cx}
open PyProof.Rows PySem.Spec
end
end Hk
namespace Hk
open PySem PySem.Spec PyProof.Rows L2
section
variable{prog:vW}{w:vZ}{A:ve}{E:vB->vF->Prop}{s:vF}
end
end Hk
namespace L2
open PySem PySem.Spec PyProof.Rows Hk
end L2
namespace Hk
open PySem L2
end Hk
namespace L2
open PySem PySem.Spec PyProof.Rows
noncomputable def Itk(a:vJ)(ob:Obj)(kvs:List (Key×V)):It :=
 ⟨λi H=>H a=some (.frz ob (.dK kvs))/\i<kvs.length,λi H x H'=>H'=H/\∃n v,kvs[i]?=some (Sum.inl n,v)/\x=.int n,λi H=>H a=some (.frz ob (.dK kvs))/\kvs.length<=i⟩
theorem qct{X:Cx}{pins:List (vJ×Obj)}{σ:St}{H:Hp}{s:vF}{a:vJ}{ob:Obj}{kvs:List (Key×V)}{es0:Array DictEntry}{ep:Nat}(I:Inv X pins σ H s)(h:H a=some (.frz ob (.dK kvs)))(hd:ob.data=.dict es0 ep):
  (a==uJ)=false/\∃vs,KV kvs vs/\s.heap.DictAt (Yw X.prog X.w) a vs ep:=by
 obtain⟨e,_,lo,vs,r,o,es,ep',e',c1,c2,c3⟩:=(show Y2 X.prog X.w H s.heap a (.frz ob (.dK kvs))from I.hok a _ h);refine⟨lo,vs,r,o,es,e',c1,?_,c3⟩;rw[e]at e';cases e';rw[hd]at c2;cases c2;exact hd
theorem qbv{P:vW}{w:vZ}{K:zA}{tg:vX}{ob:Obj}{kvs:List (Key×V)}{es0:Array DictEntry}{ep:Nat}(a it:vJ)(hne:a≠it)(hd:ob.data=.dict es0 ep)(hk:∀p∈kvs,∃n:Int,p.1=(Sum.inl n:Key)):
  Turn P w K tg (Itk a ob kvs) [it] it (λi h=>h.IsKeyIter it a i kvs.length ep) where
 mem:=by simp
 obj:=λi h st b hb=>by
  have e:b=it:=by simpa using hb
  subst e;obtain⟨o,e,c,d⟩:=st;exact⟨o,e,λv z=>by rw[d]at z;cases z⟩
 keep:=λi h h' st k=>st.at λo e=>k it (by simp) o e
 item:=by
  intro X hP hw hK hc i pins s σ H E I hf st hg;subst hP hw hK;obtain⟨hq,hi⟩:=hg;obtain⟨lo,vs,r,hm⟩:=qct I hq hd;have hl:kvs.length=vs.length:=by have:=v9 xj r.keys;simpa using this
  obtain⟨⟨k,v⟩,hx⟩:∃p,kvs[i]?=some p:=⟨kvs[i],zD hi⟩;obtain⟨n,rfl⟩:=hk _ (z0 hx);obtain⟨⟨k',u⟩,hu⟩:∃p,vs[i]?=some p:=⟨vs[i]'∅,zD _⟩;have ek:k'=(Sum.inl n:Key):=by
   have h1:(kvs.map (·.1))[i]?=some (Sum.inl n):=by rw[zY,hx];rfl
   rw[r.keys,zY,hu]at h1;exact zx h1
  subst ek;obtain⟨f0,f1,f2,f3,f4,f5⟩:=hf it (by simp);rw[hl]at st;refine wpAny_pyNext_dict_item st hm hu λkey h' hkey st' sb=>?_;have I1:Inv X pins σ H { s with heap:=h' }:=I.turned (t':=s.toks) (λb o hb e=>(sb.2 b hb).trans e) f0 f1 f3 f4 f5;obtain⟨t,rfl⟩:∃t,key=.int n t:=by
   rcases qB (k:=(Sum.inl n:Key)) hkey with⟨i,t,e4,rfl⟩|⟨x,t,e4,_⟩
   ·cases e4;exact⟨t,rfl⟩
   ·cases e4
  obtain⟨o,e,c,d⟩:=id st';rw[<- hl]at st';exact⟨.int n t,rfl,q8k (s:={ s with heap:=h' }) e c d (by decide) ⟨.int n,H,I1,⟨t,rfl⟩,⟨rfl,n,v,hx,rfl⟩,st',λb hb=>(hf b hb).1⟩⟩
 done:=by
  intro X hP hw hK hc i pins s σ H E I hf st hg;subst hP hw hK;obtain⟨hq,hi⟩:=hg;obtain⟨lo,vs,r,hm⟩:=qct I hq hd;have hl:kvs.length=vs.length:=by have:=v9 xj r.keys;simpa using this
  obtain⟨f0,f1,f2,f3,f4,f5⟩:=hf it (by simp);rw[hl]at st;exact wpAny_pyNext_dict_end (I.ok.hd hc) st hm (zu ∅) λh' eb=>⟨rfl,I.turned (t':=s.toks) (λb o hb e=>eb b o hb e) f0 f1 f3 f4 f5⟩
 self:=λ_ _ _ _ _ st h=>wpAny_pyIter_keyiter st h
noncomputable def iKeys(tl:TE):TI:=λσ H R=>tl σ H λv H1=>∃a ob kvs,v=.ref a/\H1 a=some (.frz ob (.dK kvs))/\(∀p∈kvs,∃n:Int,p.1=(Sum.inl n:Key))/\R (Itk a ob kvs) H1
theorem qfi{X:Cx}{tg l:vX}{tl:TE}(hl:PE X l tl):PI X tg l (iKeys tl):=by
 intro pins s σ H R I h;refine thn (hl pins s σ H _ I h) λv s1 ⟨x,H1,I1,r1,q1⟩=>?_;obtain⟨a,ob,kvs,e,hq,hk,q⟩:=q1;subst e;cases r1;obtain⟨e0,_,lo,vs,r,o,es,ep,e',c1,c2,c3⟩:=(show Y2 X.prog X.w H1 s1.heap a (.frz ob (.dK kvs))from I1.hok a _ hq);have hob:ob.data=.dict es ep:=by rw[e0]at e';cases e';exact c2
 have hm:s1.heap.DictAt (Yw X.prog X.w) a vs ep:=⟨o,es,e',c1,c2,c3⟩;have hlen:kvs.length=vs.length:=by have:=v9 xj r.keys;simpa using this
 have hlt:a<s1.heap.objs.size:=zO e0;refine wpAny_pyIter_dict lo hm ?_;refine⟨s1.heap.objs.size,[s1.heap.objs.size],_,_,H1,rfl,I1.kept (t':=s1.toks) λb o e=>zE _ e,qbv a _ (zr hlt) hob hk,⟨_,zR _ rfl,rfl,by rw[hlen];rfl⟩,λb hb=>?_,q⟩;have e:b=s1.heap.objs.size:=by simpa using hb
 subst e;exact I1.fpOk (zK _) (I1.hok.fresh (zK _))
end L2
namespace Hk
open PySem L2
theorem q86:∀{ks:List Int}{vs:List V}{i:Nat}{n:Int}{v:V},(kvsOf ks vs)[i]?=some (Sum.inl n,v)->ks[i]?=some n
 | [],_,_,_,_,h=>by cases h
 | _::_,[],_,_,_,h=>by cases h
 | k::ks,v::vs,0,n,u,h=>by cases h;rfl
 | k::ks,v::vs,i+1,n,u,h=>q86 (ks:=ks) (vs:=vs) h
theorem q7M:∀{ks:List Int}{vs:List V},∀p∈kvsOf ks vs,∃n:Int,p.1=(Sum.inl n:Key)
 | [],_,_,h=>by cases h
 | _::_,[],_,h=>by cases h
 | k::ks,v::vs,p,h=>by
  rcases zF.mp h with rfl|h
  ·exact⟨k,rfl⟩
  ·exact q7M p h
theorem qbw{K:zA}{G:Hp}{a:vJ}{ob:Obj}{ks:List Int}{vs:List V}(h1:G a=some (.frz ob (.dK (kvsOf ks vs))))(hl:ks.length=vs.length):IterOf K (Itk a ob (kvsOf ks vs)) G (ks.map D.int):=by
 have l1:=q1M hl;refine⟨λH i s hi=>⟨s _ _ h1,by rw[zB]at hi;omega⟩,λG2 H i x H' d s0 s1 hd hy=>?_,λH s=>⟨s _ _ h1,by rw[zB];omega⟩⟩;obtain⟨e,n,v,q1,q2⟩:=hy;subst e q2;have:=q86 q1;rw[zY,this]at hd;cases hd;exact⟨G2,Ext.refl s1,rfl⟩
noncomputable def zBl:Option (Option W)->Option (List D)
 | some ↥(.dic ks _)=>some (ks.map D.int)
 | _=>none
noncomputable def iDk(i:Nat):FI:=λω=>zBl ω[i]?
theorem qfO{X:Cx}{tg o:vX}{i:Nat}(ho:PE X o (XJ i)):XI X tg o (iDk i):=by
 refine⟨_,qfi ho,λG0 H0 G ω σ H ds R ow e k=>?_⟩;unfold iDk zBl at e
 split at e
 ·rename_i ks ds' q
  cases e;obtain⟨v,h1,p,vs,rfl,⟨ob,h2⟩,h3,h4⟩:=ow.sh i _ q;exact⟨.ref p,h1,p,ob,_,rfl,ow.gh _ _ h2,q7M,k _ G H (Ext.refl ow.gh) (qbw h2 (by rw[h3];exact h4.len))⟩
 ·cases e
end Hk
namespace Hk
open PySem PySem.Spec L2 PyProof.Rows
section
variable{P:vW}{w:vZ}{H:Hp}{h:vj}{a:vJ}{o:HO}
end
section
variable{X:Cx}{pins:List (vJ×Obj)}{σ:L2.St}{H:Hp}{s:vF}{h':vj}
end
section
variable{X:Cx}{E:XK}
end
noncomputable abbrev FX:=WSt->Option Str
noncomputable def yNo:FX:=λ_=>none
noncomputable def yRaise(x:Str):FX:=λ_=>some x
noncomputable def yCall(g:List D->Option Str)(ga:FA):FX:=λω=>(ga ω).bind g
noncomputable def yIf(c:FT)(g g':FX):FX:=λω=>(c ω).bind λb=>if b=true then g ω else g' ω
section
variable{X:Cx}{E:XK}{st:vz}{rest:List vz}{e:vX}{es:List vX}{pos:Pos}{g g':FX}
end
end Hk
namespace PySem
section
variable{M:Model}{A:ve}{E:vB->vF->Prop}{nm q:Str}{C N:vJ}{bs bm:List vB}{hdct:Bool}{sn:List Str}{sub:List vB}{ab:Bool}{col:Option Bool}{dd:Option vJ}{k0 k1 k2 k3 k5:Option vB}{newId:String}
variable{nm' q':Str}{C' N':vJ}{bs' bm':List vB}{hdct':Bool}{sn':List Str}{sub':List vB}{ab':Bool}{col':Option Bool}{dd':Option vJ}{j0 j1 j2 j3 j5:Option vB}{newId':String}
end
end PySem
namespace Hk
open PySem PySem.Spec L2 PyProof.Rows
section
variable{X:Cx}{pins:List (vJ×Obj)}{σ:L2.St}{H:Hp}{s:vF}
end
section
variable{X:Cx}{st:vz}{rest:List vz}{e:vX}{es:List vX}{pos:Pos}{g g':FX}
end
noncomputable def sTry(f:FS)(g:FX)(cs:List Str)(i:Nat)(fh:FS):FS:=λω=>match g ω with
 | some c=>if c∈cs then (fh (ω.set i ↥(.exc c))).map λp=>(p.1,p.2.set i none)else none
 | none=>f ω
section
variable{X:Cx}{pins:List (vJ×Obj)}{σ:L2.St}{H:Hp}{s:vF}
end
section
variable{K:zA}{G0:Hp}{H0:Fr}{G:Hp}{ω:WSt}{σ:L2.St}{H:Hp}
end
section
variable{X:Cx}
end
end Hk
namespace PySem.W
open PySem PySem.Calls PyProof.Rows
open Builtin Builtin.ObjectAttr Builtin.Getset_descriptor
section
variable{prog:vW}{w:vZ}{A:ve}{E:vB->vF->Prop}{K:Frag}{x C:vJ}{h:vj}{g:Array tZ}{d:sN}{t:Nat}{os:OsState}{ob:Obj}
end
end PySem.W
namespace Hk
open PySem PySem.Spec L2 PyProof.Rows
noncomputable def fIsx(tab:List (Str×Bool))(f:FD):FE:=λω=>(f ω).bind λd=>match d with
 | .exc c=>(tab.lookup c).map λb=>.sh (.bl b)
 | _=>none
section
variable{X:Cx}{a:vX}{f:FD}
end
section
variable{X:Cx}{E:XK}{st:vz}{rest:List vz}{g:FX}
end
noncomputable def tryS(o:Option Str)(f:FS)(cs:List Str)(i:Nat)(fh:FS)(ω:WSt):Option (Out×WSt):=match o with
 | some c=>if c∈cs then (fh (ω.set i ↥(.exc c))).map λp=>(p.1,p.2.set i none)else none
 | none=>f ω
noncomputable def goS(i:Nat)(o:Option (Out×WSt)):Option (Out×WSt):=o.map λp=>(p.1,p.2.set i none)
noncomputable def ifX(o:Option Bool)(g g':FX)(ω:WSt):Option Str:=o.bind λb=>if b=true then g ω else g' ω
noncomputable def callX(m:List D->Option Str)(o:Option (List D)):Option Str:=o.bind m
noncomputable def isxR(tab:List (Str×Bool))(o:Option D):Option R:=o.bind λd=>match d with
 | .exc c=>(tab.lookup c).map λb=>.sh (.bl b)
 | _=>none
noncomputable def dropS(o:Option R)(ω:WSt):Option (Out×WSt):=o.map λ_=>(.nx,ω)
section
variable{f fh:FS}{g g':FX}{cs:List Str}{i:Nat}{ω w:WSt}{c:Str}{ft:FT}{fa:FA}{ds:List D}{fd:FD}{fe:FE}{o:Out}{r:R}
theorem qh7:sTry f g cs i fh ω=tryS (g ω) f cs i fh ω:=rfl
theorem qcX:tryS none f cs i fh ω=f ω:=rfl
theorem qd2(h:c∈cs):tryS (some c) f cs i fh ω=goS i (fh (ω.set i ↥(.exc c))):=vC h
theorem qhc:goS i (some (o,w))=some (o,w.set i none):=rfl
theorem qhy:yIf ft g g' ω=ifX (ft ω) g g' ω:=rfl
theorem qff:ifX (some true) g g' ω=g ω:=rfl
theorem qex:ifX (some false) g g' ω=g' ω:=rfl
theorem qhC:yNo ω=none:=rfl
theorem qdL:yRaise c ω=some c:=rfl
theorem qeJ{m}:yCall m fa ω=callX m (fa ω):=rfl
theorem e_xc{m}:callX m (some ds)=m ds:=rfl
theorem qhw{tab}:fIsx tab fd ω=isxR tab (fd ω):=rfl
theorem e_xi{tab}:isxR tab (some (.exc c))=(tab.lookup c).map λb=>.sh (.bl b):=rfl
theorem qf5:zBZ fe ω=dropS (fe ω) ω:=rfl
theorem e_xd:dropS (some r) ω=some (.nx,ω):=rfl
end
noncomputable def sTry0(f:FS)(g:FX)(cs:List Str)(fh:FS):FS:=λω=>match g ω with
 | some c=>if c∈cs then fh ω else none
 | none=>f ω
section
variable{X:Cx}
end
noncomputable def zCL(o:Option Str)(f:FS)(cs:List Str)(fh:FS)(ω:WSt):Option (Out×WSt):=match o with
 | some c=>if c∈cs then fh ω else none
 | none=>f ω
section
variable{f fh:FS}{g:FX}{cs:List Str}{ω:WSt}{c:Str}
theorem qhB:sTry0 f g cs fh ω=zCL (g ω) f cs fh ω:=rfl
theorem qf6:zCL none f cs fh ω=f ω:=rfl
theorem qfq(h:c∈cs):zCL (some c) f cs fh ω=fh ω:=vC h
end
end Hk
namespace L2
open PySem PySem.Spec PyProof.Rows
section
variable{X:Cx}{pins:List (vJ×Obj)}{σ:St}{H:Hp}{s:vF}{a:vJ}{A:ve}{E:vB->vF->Prop}{kvs:List (Key×V)}{k:Key}{u r:vB}{z:V}
theorem qdR{Q:vB->vF->Prop}(I:Inv X pins σ H s)(e:H a=some (.dK kvs))(hz:kvs.length<sizeLine)(ry:RelV (kV k) u)(rz:RelV z r)(h1:∀v w' s',WZ kvs k=some v->Inv X pins σ H s'->RelV v w'->Q w' s')(h2:WZ kvs k=none->∀s',Inv X pins σ (upd H a (.dK (putK kvs k z))) s'->Q r s'):
  vO (model X.prog X.w) A (call (.builtin "dict.setdefault") [.ref a,u,r]) Q E s:=by
 obtain⟨zl,hd,vs,rel,dd⟩:=qb8 I.hok e;have rv:=rel.val k;refine sJ PySem.F.slot_dict_setdefault dd.typeIs PySem.F.entry_dict_setdefault (PySem.F.args_dict_setdefault_3 _ _ _) (kt_meets_setdefault (Yw X.prog X.w) a (q3Q ry) hd r)
  ⟨vs,dd,by rw[<- rel.length];exact zl,λv hv=>?_,λhn h' dd' hs=>?_⟩
 ·rw[hv]at rv
  cases q:WZ kvs k with
  | none=>rw[q]at rv;exact rv.elim
  | some v0=>rw[q]at rv;exact h1 v0 v _ q (I.tok _) rv
 ·rw[hn]at rv
  cases q:WZ kvs k with
  | some v0=>rw[q]at rv;exact rv.elim
  | none=>
   refine h2 q _ ?_;have he:∃q,h'.get? a=some q:=let ⟨q,_,_,hq,_⟩:=dd';⟨q,hq⟩
   have hl:(putK kvs k z).length<=sizeLine:=by rw[qdc z q,zC,zU];exact hz
   exact q5e I (by rw[e];exact True.intro) hs he (q9n hl hd (rel.put k rz) dd')
end
noncomputable def tDSd(td ty tx:TE):TE:=λσ H Q=>td σ H λx H1=>∃a,x=.ref a/\IsD H1 a/\ty σ H1 λy H2=>tx σ H2 λz H3=>∃kvs k,H3 a=some (.dK kvs)/\y=kV k/\kvs.length<sizeLine /\
 (∀v,WZ kvs k=some v->Q v H3)/\(WZ kvs k=none->Q z (upd H3 a (.dK (putK kvs k z))))
theorem qgt{X:Cx}{o e f:vX}{apos cpos:Pos}{td ty tx:TE}(ho:PE X o td)(he:PE X e ty)(hf:PE X f tx)(m:M2 X o "setdefault" apos e f cpos):PE X (.Call (.Attribute o "setdefault" apos) [e,f] [] cpos) (tDSd td ty tx):=by
 intro pins s σ H Q I h;refine wpAny_Call_method m.base m.few m.line PySem.F.plainAttrs_dict PySem.F.slot_dict_setdefault PySem.F.type_dict_setdefault (thn (ho pins s σ H _ I h) λu s1 ⟨x,H1,I1,rx,a,ex,d,q1⟩=>?_);subst ex;obtain rfl:u=Value.ref a:=rx;obtain⟨t1,t2,_⟩:=qcP I1 d;refine⟨t1,t2,?_⟩;rw[m.trees];refine Calls.callWith_builtin rfl (Calls.evalArgs_plain (Calls.spliced_cons (thn (he pins s1 σ H1 _ I1 q1) λiv s2 ⟨y,H2,I2,ry,q2⟩=>
  Calls.spliced_cons (thn (hf pins s2 σ H2 _ I2 q2) λfv s3 ⟨z,H3,I3,rz,kvs,k,ea,ey,hz,g1,g2⟩=>Calls.spliced_nil ?_))))
 subst ey;exact qdR I3 ea hz ry rz (λv w' s4 hv I4 rw'=>⟨v,H3,I4,rw',g1 v hv⟩) λhn s4 I4=>⟨z,_,I4,rz,g2 hn⟩
end L2
namespace Hk
open PySem L2
theorem q0p{α:Type}:∀{ks:List Int}{xs:List α}{k:Int},ks.length=xs.length->(Yy ks xs k).isSome=decide (k∈ks)
 | [],[],k,_=>by simp[Yy]
 | [],_::_,_,h=>by simp at h
 | _::_,[],_,h=>by simp at h
 | k'::ks,x::xs,k,h=>by
  show (if k'=k then some x else Yy ks xs k).isSome=_
  by_cases z:k'=k
  ·rw[vC z,vU (by rw[z];exact zG)];rfl
  ·rw[vG z,q0p ⇑h]
   have:(k∈k'::ks)↔k∈ks:=⟨λm=>(zF.mp m).resolve_left λe=>z e.symm,zH _⟩;rw[decide_eq_decide.mpr this]
theorem q7T{α:Type}{v:α}:∀{ks:List Int}{xs:List α}{k:Int},ks.length=xs.length->k∉ks->Yy (ks++[k]) (xs++[v]) k=some v
 | [],[],k,_,_=>vC rfl
 | [],_::_,_,h,_=>by simp at h
 | _::_,[],_,h,_=>by simp at h
 | k'::ks,x::xs,k,h,hk=>by
  show (if k'=k then some x else Yy (ks++[k]) (xs++[v]) k)=some v;rw[vG (λz=>hk (by rw[z];exact zG))];exact q7T ⇑h λm=>hk (zH _ m)
noncomputable def XU(st:List Int×List (List Int))(n:Int)(a:Int):List Int×List (List Int) :=
 if a∈st.1 then (st.1,WR st.1 st.2 a n)else (st.1++[a],WR (st.1++[a]) (st.2++[[]]) a n)
noncomputable def byS(as:List (Int×Int)):Nat->List Int×List (List Int)
 | 0=>([],[])
 | n+1=>match as[n]? with
  | some a=>XU (byS as n) n a.1
  | none=>byS as n
noncomputable def spT(K:zA):Sp:=λvs H Q _=>∃(G:Hp) (as:List (Int×Int)),Y0 G H/\Yo K G [.lst (as.map Ym)] vs/\as.length<=9000 /\
 ∀G' p ls H',Ext G H G' H'->Tab G' H H' p (byS as as.length).1 ls (byS as as.length).2->Q (.ref p) H'
theorem qen(as:List (Int×Int)):∀n:Nat,(byS as n).1.length<=n/\∀xs∈(byS as n).2,xs.length<=n
 | 0=>⟨zK _,λxs h=>by cases h⟩
 | n+1=>by
  obtain⟨h1,h2⟩:=qen as n;unfold byS;cases q:as[n]? with
  | none=>exact⟨by show (byS as n).1.length<=_;omega,λxs hx=>by have:=h2 xs hx;omega⟩
  | some a=>
   show (XU (byS as n) n a.1).1.length<=_/\∀xs∈(XU (byS as n) n a.1).2,_;unfold XU
   split
   ·exact⟨by show (byS as n).1.length<=_;omega,q3f n _ _ _ _ h2⟩
   ·refine⟨by show ((byS as n).1++[a.1]).length<=_;rw[zC,zU];omega,q3f n _ _ _ _ λxs hx=>?_⟩
    rcases zN.mp hx with y|y
    ·exact h2 xs y
    ·cases zS.mp y;exact zy _
section
variable{K:zA}{G0:Hp}{H0:Fr}{G:Hp}{ω:WSt}{σ:St}{H:Hp}
end
theorem noOw4{d0 d2 d3:Option D}:Xw [d0.map W.sh,none,d2.map W.sh,d3.map W.sh]:=by
 intro i w h
 match i,h with
 | 0,h=>cases d0 <;> cases h;exact⟨_,rfl⟩
 | 1,h=>cases h
 | 2,h=>cases d2 <;> cases h;exact⟨_,rfl⟩
 | 3,h=>cases d3 <;> cases h;exact⟨_,rfl⟩
 | i+4,h=>simp at h
section
variable{X:Cx}
theorem qfg{ta:TE}{g0:FD}(k2:zBG X.K ta g0){G0:Hp}{H0:Fr}{G:Hp}{ω:WSt}{σ:St}{H:Hp}{p:vJ}{ks:List Int}{ls:List vJ}{xss:List (List Int)}{a n:Int}{Q:VK}(o:Own X.K G0 H0 G ω σ H)(no:Xw ω)(s1:σ[1]?=some (some (.ref p)))(s2:σ[2]?=some (some (.int n)))(T:Tab G H0 H p ks ls xss)(h0:g0 ω=some (.int a))(hk:ks.length<1000000)(hz:∀xs∈xss,xs.length<1000000)(h:∀G' H' ls',Own X.K G0 H0 G' ω σ H'->Y0 G G'->Tab G' H0 H' p (XU (ks,xss) n a).1 ls' (XU (ks,xss) n a).2->Q .non H'):
  tBM X.K "list" Xu (tDSd (XJ 1) ta (zCY zAU)) (Wb (XJ 2) zAU) σ H Q:=by
 have hlen:ks.length=(ls.map V.ref).length:=by rw[zB];exact T.len
 refine⟨.ref p,s1,p,rfl,.inl ⟨_,.inl T.dict⟩,k2 G0 H0 G ω σ H _ _ o h0 λu G1 H1 x1 y1=>?_⟩;cases (show u=.int a from y1);have o1:=o.keep x1;have T1:=T.keep x1;refine⟨by show 0<=sizeLine;exact zy _,λq hq=>?_⟩;have hpq:p≠q:=λz=>by rw[<- z,T1.dict]at hq;cases hq
 have x2:=Ext.hide o1.gh hq (.lst []);have o2:=o1.keep x2;have T2:=T1.keep x2;have vv:WZ (kvsOf ks (ls.map V.ref)) (Sum.inl a:Key)=Yy ks (ls.map V.ref) a:=q02 hlen a;refine⟨kvsOf ks (ls.map V.ref),Sum.inl a,T2.dict,rfl,by rw[q1M hlen,vh];omega,λv hv=>?_,λhn=>?_⟩
 ·
  have ha:a∈ks:=by
   have:=q0p (ks:=ks) (xs:=ls.map V.ref) (k:=a) hlen;rw[vv]at hv;rw[hv]at this;exact of_decide_eq_true this.symm
  obtain⟨l,xs,n1,n2,n3,n4,n5,n6⟩:=T2.app n ha;rw[vv,n3]at hv;cases hv;refine⟨.inl ⟨rfl,_,SqL.of n5⟩,.int n,s2,l,_,.int n,rfl,rfl,n5,by rw[zB,vh];have:=hz xs n2;omega,?_⟩;rw[show xs.map V.int++[V.int n]=(xs++[n]).map V.int by rw[za];rfl];refine h G1 _ ls (o2.free no (T2.gl l n1).1 (T2.gl l n1).2) x1.gg ?_;unfold XU;rw[vC ha];exact n6
 ·have ha:a∉ks:=λha=>by
   have:=q0p (ks:=ks) (xs:=ls.map V.ref) (k:=a) hlen;rw[vv]at hn;rw[hn,vU ha]at this;cases this
  obtain⟨H4,_,e4,T4⟩:=T1.put (l:=q) ha hq o1.gh o1.ext.hh hk;have ep:putK (kvsOf ks (ls.map V.ref)) (Sum.inl a) (.ref q)=kvsOf (ks++[a]) ((ls++[q]).map V.ref):=by
   rw[q4E hlen];unfold X8 putA;rw[vG ha,vG ha,za];rfl
  rw[ep,<- e4];have gp:=T1.gp;have gq:G1 q=none:=o1.gh.free hq;have h0q:H0 q=none:=o1.ext.hh.free hq;have o4:Own X.K G0 H0 G1 ω σ H4:=by rw[e4];exact o2.free no T1.gp T1.hp
  obtain⟨l,xs,n1,n2,n3,n4,n5,n6⟩:=T4.app n (a:=a) (by simp);have hq4:H4 q=some (.lst []):=by rw[e4,qd (Ne.symm hpq)];exact qe
  have lq:l=q:=by
   have:Yy (ks++[a]) ((ls++[q]).map V.ref) a=some (.ref q):=by
    rw[za];exact q7T hlen ha
   rw[this]at n3;cases n3;rfl
  subst lq;rw[hq4]at n5;have xe:xs=[]:=by
   cases xs with
   | nil=>rfl
   | cons y ys=>cases n5
  subst xe;refine⟨.inl ⟨rfl,_,SqL.of hq4⟩,.int n,s2,l,_,.int n,rfl,rfl,hq4,by show 0<sizeLine;rw[vh];omega,?_⟩;refine h G1 _ (ls++[l]) (o4.free no gq h0q) x1.gg ?_;unfold XU;rw[vG ha];exact n6
theorem qeV{x1 x2 x3:Str}{o0 o1 e0 e1 e2:vX}{q1 q2 q3 q4 q5 q6 q9 q12 q15 a1 a2 c1 c2 ep ec tp:Pos}{kx}{g0:FD}(hp:tO (model X.prog X.w) X.A X.env X.xe)(hc:X.calm=true)(hN:X.N.Nodup)(i1:X.N[1]?=some x1)(i2:X.N[2]?=some x2)(i3:X.N[3]?=some x3)(l1:Loc X.env.scope x1)(l2:Loc X.env.scope x2)(l3:Loc X.env.scope x3)(f1:X.fn x1=true\/X.env.scope.names.lookup x1=some .local)(f2:X.fn x2=true\/X.env.scope.names.lookup x2=some .local)(f3:X.fn x3=true\/X.env.scope.names.lookup x3=some .local)(hge:Gl X "enumerate")(hme:X.mg "enumerate" = none)(h0:PE X o0 (XJ 0))(h1:PE X o1 (XJ 1))(h2:PE X e1 (XJ 2))(h3:PE X e2 (XJ 1))(ha:XD X e0 g0)(hg0:∀(ω:WSt)e,ω[3]?=some (some (.sh (Ym e)))->g0 ω=some (.int e.1))(hl:X.N.length=4)(m2:M2 X o1 "setdefault" a1 e0 (.List [] q4) c1)(s1:v7 (.Dict [] [] q1) (some (.Name x1 q2)) q3.line X.env=pure false)(sE:vK [o0] X.env=[(false,eval o0 X.env)])(ab:uG (.Call (.Attribute o1 "setdefault" a1) [e0,.List [] q4] [] c1) "append" X.env (eval (.Call (.Attribute o1 "setdefault" a1) [e0,.List [] q4] [] c1) X.env)=eval (.Call (.Attribute o1 "setdefault" a1) [e0,.List [] q4] [] c1) X.env)(w1:((vk c2 (vK [e1] X.env)).all (λx=>!x.1)&&(uN c2 (v4 [] X.env)).all (λx=>x.1.isSome)&&decide (([e1]:List vX).length+([]:List uP).length+(if ([]:List uP).isEmpty then 0 else 1)<30))=true)(z1:(a2.endLine==c2.line)=true)(t1:vK [e1] X.env=(false,eval e1 X.env)::vK [] X.env)(p1:(vk c2 (vK [] X.env)).any (·.1)=false)(v1:v7 (.Call (.Attribute (.Call (.Attribute o1 "setdefault" a1) [e0,.List [] q4] [] c1) "append" a2) [e1] [] c2) none q9.line X.env=pure false)(pg:∀t,PGs X [.Name x2 q5,.Name x3 q6] t->PG X (.Tuple [.Name x2 q5,.Name x3 q6] kx tp) (gTup X.K 2 t))(y1:∀x,v8 (.Call (.Name "enumerate" ep) [o0] [] ec) X.env x=pure x){vs:List V}{H:Hp}{Q:VK}{E:XK}(sp:spT X.K vs H Q E):
  ∃t,PSs X [.Assign [.Name x1 q2] (.Dict [] [] q1) q3,.For (.Tuple [.Name x2 q5,.Name x3 q6] kx tp) (.Call (.Name "enumerate" ep) [o0] [] ec) [.Expr (.Call (.Attribute (.Call (.Attribute o1 "setdefault" a1) [e0,.List [] q4] [] c1) "append" a2) [e1] [] c2) q9] [] q12,.Return (some e2) q15] t /\
   t { nx:=λ_ H'=>Q .non H',rt:=Q } (L2.start X.N vs) H:=by
 obtain⟨ta,k1,k2⟩:=ha;refine⟨_,qz (q04 hN i1 l1 q60 s1 f1) (qz (q6x hp hc (qaL hge hme (qt h0 qr sE) sE) (pg _ (q5O (q3d hN i2 l2 f2) (q5O (q3d hN i3 l3 f3) qaI)))
  (q0o (q0B (q1X PySem.F.plainAttrs_list PySem.F.slot_list_append PySem.F.type_list_append q0z (qgt h1 k1 (q2b qr) m2) (qt h2 qr t1) ab w1 z1 t1 p1) v1)) y1) (q0o (q4o h3))),?_⟩
 obtain⟨G,as,sg,rp,hlen,fin⟩:=sp;obtain⟨v0,rfl,A0,vs0,rfl,r1,r2⟩:=rp.one;have hl0:as.length=vs0.length:=by have:=r2.len;rw[zB]at this;exact this
 have hst:L2.start X.N [V.ref A0]=[some (.ref A0),none,none,none]:=by
  unfold L2.start;rw[hl];rfl
 rw[hst];intro p hp0;have no0:Xw [some (W.sh (.lst (as.map Ym))),none,none,none]:=noOw4 (d0:=some (.lst (as.map Ym))) (d2:=none) (d3:=none);have o0:Own X.K G (fr H) G [some (W.sh (.lst (as.map Ym))),none,none,none] [some (.ref A0),none,none,none] H:=by
  refine⟨Ext.refl sg,rfl,λi d h=>?_,λi ds h=>vP h (no0.ow i ds),λi j ds es l h=>vP h (no0.ow i ds),λi ks ds h=>vP h (no0.od i ks ds),Xi.no no0.pw⟩
  match i,h with
  | 0,h=>cases h;exact⟨_,rfl,A0,vs0,rfl,r1,r2⟩
  | 1,h=>cases h
  | 2,h=>cases h
  | 3,h=>cases h
  | i+4,h=>simp at h
 have o1:Own X.K G (fr H) G [some (W.sh (.lst (as.map Ym))),none,none,none] [some (.ref A0),some (.ref p),none,none] (upd H p (.dK [])):=(o0.free no0 (sg.free hp0) hp0).other (i:=1) no0 λw z=>by cases z
 have T0:Tab G H (upd H p (.dK [])) p (byS as 0).1 [] (byS as 0).2:=⟨qe,sg.free hp0,hp0,rfl,rfl,λj l xs h=>(by simp at h),λl h=>(by cases h),xO⟩;refine⟨.ref A0,rfl,A0,vs0,rfl,SqL.of (o1.gh _ _ r1),λi m σ' H'=>∃(G':Hp) (ls:List vJ) (y2 y3:Option D),Own X.K G (fr H) G' [some (W.sh (.lst (as.map Ym))),none,y2.map W.sh,y3.map W.sh] σ' H'/\Y0 G G'/\σ'[1]?=some (some (.ref p))/\Tab G' H H' p (byS as i).1 ls (byS as i).2/\i<=as.length/\m=as.length-i,
  ⟨_,G,[],none,none,o1,Y0.refl _,rfl,T0,zy _,rfl⟩,?_⟩
 rintro i m σ' H' ⟨G',ls,y2,y3,o2,g2,s12,T2,hi,rfl⟩;have hq:=o2.gh _ _ (g2 _ _ r1)
 by_cases hlt:i<as.length
 ·refine .inr ⟨⟨vs0,vs0[i]'∅,SqL.of hq,zD _⟩,λσ3 H3=>∃(G':Hp) (ls:List vJ) (y2 y3:Option D),Own X.K G (fr H) G' [some (W.sh (.lst (as.map Ym))),none,y2.map W.sh,y3.map W.sh] σ3 H3/\Y0 G G'/\σ3[1]?=some (some (.ref p))/\Tab G' H H3 p (byS as (i+1)).1 ls (byS as (i+1)).2,
   λσ3 H3 ⟨G3,ls3,z2,z3,b1,b2,b3,b4⟩=>⟨as.length-(i+1),∅,G3,ls3,z2,z3,b1,b2,b3,b4,hlt,rfl⟩,λx H3 hy=>?_⟩
  obtain⟨t,w1',ht,rfl,rfl,hy⟩:=hy;have hy:=hy _ (SqL.of hq);have x3:=Ext.hide o2.gh ht (.tup [.int i,w1']);have o3:=o2.keep x3;have T3:=T2.keep x3;refine⟨t,_,rfl,SqT.of qe,rfl,.int i,_,rfl,?_⟩;refine⟨w1',_,rfl,rfl,?_⟩;obtain⟨u,e1,e2⟩:=r2.get (i:=i) (d:=Ym as[i]) (by rw[zY,zD hlt];rfl);rw[hy]at e1;cases e1;have o4:=(o3.setSh (i:=2) (d:=.int i) (v:=.int i) rfl).setSh (i:=3) (d:=Ym as[i]) (v:=w1') (e2.mono g2);have o4':Own X.K G (fr H) G' [some (W.sh (.lst (as.map Ym))),none,(some (D.int i)).map W.sh,(some (Ym as[i])).map W.sh] ((σ'.set 2 (some (.int i))).set 3 (some w1')) (upd H' t (.tup [.int i,w1'])):=o4;have hl4:σ'.length=4:=o2.len.symm;have bd:=qen as i;refine qfg k2 o4' (noOw4 (d0:=some (.lst (as.map Ym))) (d2:=some _) (d3:=some _)) (by rw[zI (by decide),zI (by decide)];exact s12) (by rw[zI (by decide)];exact yZ (by rw[hl4];decide)) T3 (hg0 _ as[i] rfl) ∅ (λxs hx=>by have:=bd.2 xs hx;omega) λG5 H5 ls5 o5 g5 T5=>?_;have eb:byS as (i+1)=XU (byS as i) i as[i].1:=by
   show (match as[i]? with|some a=>XU (byS as i) i a.1|none=>byS as i)=_;rw[zD hlt]
  refine⟨G5,ls5,_,_,o5,g2.trans g5,by rw[zI (by decide),zI (by decide)];exact s12,?_⟩;rw[eb];exact T5
 ·have en:i=as.length:=∅
  subst en;refine .inl ⟨⟨vs0,SqL.of hq,zu ∅⟩,.ref p,s12,fin G' p ls H' ?_ T2⟩;exact⟨g2,o2.ext.gh,o2.ext.hh,o2.ext.new⟩
end
noncomputable def X1:List Int->List (List Int)->Int->List (List Int)
 | k::ks,x::xs,a=>if k=a then x.dropLast::xs else x::X1 ks xs a
 | _,xs,_=>xs
noncomputable def Xg(ks:List Int)(xss:List (List Int))(h:Int):List Int:=(Yy ks xss h).getD []
theorem q7z:∀{ks:List Int}{ls:List vJ}{a:Int},ks.length=ls.length->a∈ks->∃(j:Nat) (l:vJ),ls[j]?=some l/\Yy ks (ls.map V.ref) a=some (.ref l)/\∀(xss:List (List Int)),xss.length=ls.length->∃xs,xss[j]?=some xs/\Yy ks xss a=some xs/\X1 ks xss a=xss.set j xs.dropLast
 | [],_,_,_,h=>by simp at h
 | _::_,[],_,h,_=>by simp at h
 | k::ks,l::ls,a,h,ha=>by
  by_cases z:k=a
  ·refine⟨0,l,rfl,vC z,λxss hx=>?_⟩
   cases xss with
   | nil=>simp at hx
   | cons x xs=>exact⟨x,rfl,vC z,vC z⟩
  ·have ha':a∈ks:=(zF.mp ha).resolve_left λe=>z e.symm
   obtain⟨j,l',e2,e3,e4⟩:=q7z (ks:=ks) (ls:=ls) ⇑h ha';refine⟨j+1,l',e2,?_,λxss hx=>?_⟩
   ·show (if k=a then _ else _)=_
    rw[vG z];exact e3
   ·cases xss with
    | nil=>simp at hx
    | cons x xs=>
     obtain⟨y,h1,h2,h3⟩:=e4 xs ⇑hx;refine⟨y,h1,?_,?_⟩
     ·show (if k=a then _ else _)=_
      rw[vG z];exact h2
     ·show (if k=a then _ else x::X1 ks xs a)=_
      rw[vG z,h3];rfl
theorem Tab.pop{G H0 H:Hp}{p:vJ}{ks:List Int}{ls:List vJ}{xss:List (List Int)}(T:Tab G H0 H p ks ls xss){a:Int}(ha:a∈ks):
  ∃(l:vJ) (xs:List Int),l∈ls/\Yy ks xss a=some xs/\W0 H p (.int a) (some (.ref l))/\H l=some (.lst (xs.map V.int))/\Tab G H0 (upd H l (.lst (xs.dropLast.map V.int))) p ks ls (X1 ks xss a):=by
 obtain⟨j,l,e2,e3,e4⟩:=q7z T.len ha;obtain⟨xs,e5,e7,e6⟩:=e4 xss T.len2.symm;have hl:l∈ls:=z0 e2;have hlp:p≠l:=λz=>T.pl (z▸hl);have g:=W0.k (k:=(Sum.inl a:Key)) T.dict;rw[q02 (by rw[zB];exact T.len),e3]at g;refine⟨l,xs,hl,e7,g,T.lst j l xs e2 e5,?_⟩;rw[e6];refine⟨by rw[qd hlp];exact T.dict,T.gp,T.hp,T.len,by rw[yV];exact T.len2,λi m ys h1 h2=>?_,T.gl,T.nd⟩;rcases qf h2 with⟨rfl,_,rfl⟩|⟨ne,h3⟩
 ·rw[e2]at h1
  cases h1;exact qe
 ·have hm:m≠l:=λz=>by
   subst z;obtain⟨i1,i2⟩:=zh.mp h1;obtain⟨j1,j2⟩:=zh.mp e2;exact ne ((wS T.nd).mp (j2.trans i2.symm))
  rw[qd hm];exact T.lst i m ys h1 h3
theorem Tab.beside{G H0 H:Hp}{p q:vJ}{ob:HO}{ks:List Int}{ls:List vJ}{xss:List (List Int)}(T:Tab G H0 H p ks ls xss)(h1:q≠p)(h2:q∉ls):Tab G H0 (upd H q ob) p ks ls xss :=
 ⟨by rw[qd (Ne.symm h1)];exact T.dict,T.gp,T.hp,T.len,T.len2,λj l xs e1 e2=>by
  have hn:l≠q:=λz=>h2 (by rw[<- z];exact z0 e1);rw[qd hn];exact T.lst j l xs e1 e2,T.gl,T.nd⟩
noncomputable def Xp(as:List (Int×Int))(ks:List Int):Nat->List (List Int)->List Int->List Int->Int->Option (List Int)
 | 0,_,_,_,_=>none
 | n+1,xss,T,B,h=>match (Xg ks xss h).getLast? with
  | some k=>if 0<=k/\k<as.length/\T.length<1000000 then Xp as ks n (X1 ks xss h) (T++[k]) B (as.getD k.toNat (0,0)).2 else none
  | none=>match T.getLast? with
   | some k=>if 0<=k/\k<as.length/\B.length<1000000 then Xp as ks n xss T.dropLast (B++[k]) (as.getD k.toNat (0,0)).1 else none
   | none=>some B.reverse
structure RfS (K:zA) (G0:Hp) (H0:Fr) (G:Hp) (s:Int) (as:List (Int×Int)) (p t b:vJ) (ks:List Int) (ls:List vJ) (xss:List (List Int)) (T B:List Int) (h:Int) (y:Option D) (σ:St) (H:Hp):Prop where
 o:Own K G0 H0 G [some (W.sh (.int s)),↥(.lst (as.map Ym)),none,none,none,↥(.int h),y.map W.sh] σ H
 s2:σ[2]?=some (some (.ref p))
 s3:σ[3]?=some (some (.ref t))
 s4:σ[4]?=some (some (.ref b))
 s5:σ[5]?=some (some (.int h))
 tab:Tab G H0 H p ks ls xss
 ht:H t=some (.lst (T.map V.int))
 gt:G t=none
 ht0:H0 t=none
 hb:H b=some (.lst (B.map V.int))
 gb:G b=none
 hb0:H0 b=none
 tb:t≠b
 tl:t∉ls
 bl:b∉ls
theorem noOw7{d0 d1 d5 d6:Option D}:Xw [d0.map W.sh,d1.map W.sh,none,none,none,d5.map W.sh,d6.map W.sh]:=by
 intro i w h
 match i,h with
 | 0,h=>cases d0 <;> cases h;exact⟨_,rfl⟩
 | 1,h=>cases d1 <;> cases h;exact⟨_,rfl⟩
 | 2,h=>cases h
 | 3,h=>cases h
 | 4,h=>cases h
 | 5,h=>cases d5 <;> cases h;exact⟨_,rfl⟩
 | 6,h=>cases d6 <;> cases h;exact⟨_,rfl⟩
 | i+7,h=>simp at h
section
variable{K:zA}{G0:Hp}{H0:Fr}{G:Hp}{s:Int}{as:List (Int×Int)}{p t b:vJ}{ks:List Int}{ls:List vJ}{xss:List (List Int)}{T B:List Int}{h:Int}{y:Option D}{σ:St}{H:Hp}
theorem RfS.no(S:RfS K G0 H0 G s as p t b ks ls xss T B h y σ H):Xw [some (W.sh (.int s)),↥(.lst (as.map Ym)),none,none,none,↥(.int h),y.map W.sh] :=
 noOw7 (d0:=some (.int s)) (d1:=some (.lst (as.map Ym))) (d5:=some (.int h)) (d6:=y)
theorem RfS.keep{G' H':Hp}(S:RfS K G0 H0 G s as p t b ks ls xss T B h y σ H)(x:Ext G H G' H'):RfS K G0 H0 G' s as p t b ks ls xss T B h y σ H' :=
 ⟨S.o.keep x,S.s2,S.s3,S.s4,S.s5,S.tab.keep x,x.hh _ _ S.ht,x.new t S.gt (by rw[S.ht];exact λz=>by cases z),S.ht0,x.hh _ _ S.hb,x.new b S.gb (by rw[S.hb];exact λz=>by cases z),S.hb0,S.tb,S.tl,S.bl⟩
theorem RfS.tp(S:RfS K G0 H0 G s as p t b ks ls xss T B h y σ H):t≠p/\b≠p:=by
 have h1:=S.ht;have h2:=S.hb;have h3:=S.tab.dict;refine⟨λz=>?_,λz=>?_⟩
 ·rw[z,h3]at h1;cases h1
 ·rw[z,h3]at h2;cases h2
theorem RfS.setT{T':List Int}(S:RfS K G0 H0 G s as p t b ks ls xss T B h y σ H):RfS K G0 H0 G s as p t b ks ls xss T' B h y σ (upd H t (.lst (T'.map V.int))) :=
 ⟨S.o.free S.no S.gt S.ht0,S.s2,S.s3,S.s4,S.s5,S.tab.beside S.tp.1 S.tl,qe,S.gt,S.ht0,by rw[qd (Ne.symm S.tb)];exact S.hb,S.gb,S.hb0,S.tb,S.tl,S.bl⟩
theorem RfS.setB{B':List Int}(S:RfS K G0 H0 G s as p t b ks ls xss T B h y σ H):RfS K G0 H0 G s as p t b ks ls xss T B' h y σ (upd H b (.lst (B'.map V.int))) :=
 ⟨S.o.free S.no S.gb S.hb0,S.s2,S.s3,S.s4,S.s5,S.tab.beside S.tp.2 S.bl,by rw[qd S.tb];exact S.ht,S.gt,S.ht0,qe,S.gb,S.hb0,S.tb,S.tl,S.bl⟩
theorem RfS.len(S:RfS K G0 H0 G s as p t b ks ls xss T B h y σ H):σ.length=7:=S.o.len.symm
theorem RfS.setN(S:RfS K G0 H0 G s as p t b ks ls xss T B h y σ H)(k:Int):RfS K G0 H0 G s as p t b ks ls xss T B h (some (.int k)) (σ.set 6 (some (.int k))) H :=
 ⟨S.o.setSh (i:=6) (d:=.int k) (v:=.int k) rfl,by rw[zI (by decide)];exact S.s2,by rw[zI (by decide)];exact S.s3,by rw[zI (by decide)];exact S.s4,by rw[zI (by decide)];exact S.s5,S.tab,S.ht,S.gt,S.ht0,S.hb,S.gb,S.hb0,S.tb,S.tl,S.bl⟩
theorem RfS.setH(S:RfS K G0 H0 G s as p t b ks ls xss T B h y σ H)(k:Int):RfS K G0 H0 G s as p t b ks ls xss T B k y (σ.set 5 (some (.int k))) H :=
 ⟨S.o.setSh (i:=5) (d:=.int k) (v:=.int k) rfl,by rw[zI (by decide)];exact S.s2,by rw[zI (by decide)];exact S.s3,by rw[zI (by decide)];exact S.s4,yZ (by rw[S.len];decide),S.tab,S.ht,S.gt,S.ht0,S.hb,S.gb,S.hb0,S.tb,S.tl,S.bl⟩
theorem RfS.popW(S:RfS K G0 H0 G s as p t b ks ls xss T B h y σ H){l:vJ}{H':HO}(hl:l∈ls){xss':List (List Int)}(T':Tab G H0 (upd H l H') p ks ls xss'):RfS K G0 H0 G s as p t b ks ls xss' T B h y σ (upd H l H') :=
 have n1:t≠l:=λz=>S.tl (by rw[z];exact hl);have n2:b≠l:=λz=>S.bl (by rw[z];exact hl)
 ⟨S.o.free S.no (S.tab.gl l hl).1 (S.tab.gl l hl).2,S.s2,S.s3,S.s4,S.s5,T',by rw[qd n1];exact S.ht,S.gt,S.ht0,by rw[qd n2];exact S.hb,S.gb,S.hb0,S.tb,S.tl,S.bl⟩
theorem qbS(S:RfS K G0 H0 G s as p t b ks ls xss T B h y σ H){Q:Bool->Hp->Prop}(q:∀H',RfS K G0 H0 G s as p t b ks ls xss T B h y σ H'->Q (!(Xg ks xss h).isEmpty) H'):
  (zBS (XJ 2) (XJ 5) (zCY zAU)) σ H λx H'=>∃k,TruV K x H' k/\Q k H':=by
 refine⟨.ref p,S.s2,p,rfl,.inl ⟨_,.inl S.tab.dict⟩,.int h,S.s5,by show 0<=sizeLine;exact zy _,λr hr=>?_⟩;have S1:=S.keep (Ext.hide S.o.gh hr (.lst []));have hlen:ks.length=(ls.map V.ref).length:=by rw[zB];exact S.tab.len
 have g:=W0.k (k:=(Sum.inl h:Key)) S1.tab.dict;rw[q02 hlen]at g;refine⟨_,g,?_⟩
 by_cases hk:h∈ks
 ·obtain⟨l,xs,e1,e2,e3,e4,_⟩:=S1.tab.pop hk
  have ev:Yy ks (ls.map V.ref) h=some (.ref l):=by
   obtain⟨j,l',f2,f3,f4⟩:=q7z S.tab.len hk;obtain⟨xs',f5,f7,f6⟩:=f4 xss S.tab.len2.symm;have g2:=W0.k (k:=(Sum.inl h:Key)) S1.tab.dict;rw[q02 hlen,f3]at g2;rcases e3 with⟨kvs,k,d1,d2,d3⟩|⟨kvs,k,b,d1,d2,_⟩
   ·rcases d1 with d1|⟨ob,d1⟩
    ·rw[S1.tab.dict]at d1
     cases d1;cases k with
     | inl i=>cases d2;rw[q02 hlen]at d3;exact d3.symm
     | inr x=>cases d2
    ·rw[S1.tab.dict]at d1;cases d1
   ·cases d2
  rw[ev];refine⟨!xs.isEmpty,?_,?_⟩
  ·refine .inl ⟨_,SqL.of e4,?_⟩
   rw[List.isEmpty_map]
  ·have:Xg ks xss h=xs:=by unfold Xg;rw[e2];rfl
   rw[<- this];exact q _ S1
 ·have ev:Yy ks (ls.map V.ref) h=none:=by
   have:=q0p (ks:=ks) (xs:=ls.map V.ref) (k:=h) hlen;rw[vS hk]at this;cases z:Yy ks (ls.map V.ref) h with
   | none=>rfl
   | some v=>rw[z]at this;cases this
  have ev2:Xg ks xss h=[]:=by
   have:=q0p (ks:=ks) (xs:=xss) (k:=h) (by rw[S.tab.len];exact S.tab.len2);rw[vS hk]at this;unfold Xg;cases z:Yy ks xss h with
   | none=>rfl
   | some v=>rw[z]at this;cases this
  rw[ev];refine⟨false,?_,by have:=q _ S1;rw[ev2]at this;exact this⟩;exact .inl ⟨_,SqL.of qe,rfl⟩
end
noncomputable def trT(K:zA)(t:TE):TT:=λσ H Q=>t σ H λx H'=>∃k,TruV K x H' k/\Q k H'
noncomputable def zCQ:TE:=zBS (XJ 2) (XJ 5) (zCY zAU)
noncomputable def zBW(K:zA)(td:TE):TS:=zA3 (zAe (tBM0 K "list" rPop (zCO (XJ 2) (XJ 5))) (Xt 6)) (zA3 (zBb (tBM K "list" Xu (XJ 3) (Wb (XJ 6) zAU))) (zAe td (Xt 5)))
noncomputable def zBB(K:zA)(td:TE):TS:=zA3 (zAe (tBM0 K "list" rPop (XJ 3)) (Xt 6)) (zA3 (zBb (tBM K "list" Xu (XJ 4) (Wb (XJ 6) zAU))) (zAe td (Xt 5)))
section
variable{K:zA}{G0:Hp}{H0:Fr}{G:Hp}{s:Int}{as:List (Int×Int)}{p t b:vJ}{ks:List Int}{ls:List vJ}{xss:List (List Int)}{T B:List Int}{h:Int}{y:Option D}{σ:St}{H:Hp}
theorem q7B{xs:List Int}{k:Int}(e:xs.getLast?=some k):(xs.map V.int)[(xs.map V.int).length-1]?=some (.int k)/\(xs.map V.int).dropLast=xs.dropLast.map V.int:=by
 rw[List.getLast?_eq_getElem?]at e;refine⟨by rw[zB,zY,e];rfl,by rw[List.map_dropLast]⟩
theorem RfS.s6(S:RfS K G0 H0 G s as p t b ks ls xss T B h y σ H)(k:Int):(σ.set 6 (some (.int k)))[6]?=some (some (.int k)):=yZ (by rw[S.len];decide)
theorem qf0{td:TE}{f:FD}(hd:zBG K td f)(hf:∀(ω:WSt)(k:Int),ω[1]?=some ↥(.lst (as.map Ym))->ω[6]?=some ↥(.int k)->0<=k->k<as.length->f ω=some (.int (as.getD k.toNat (0,0)).2))(S:RfS K G0 H0 G s as p t b ks ls xss T B h y σ H){k:Int}(e:(Xg ks xss h).getLast?=some k)(k0:0<=k)(k1:k<as.length)(hT:T.length<1000000){D0:Ends}(q:∀G' σ' H',RfS K G0 H0 G' s as p t b ks ls (X1 ks xss h) (T++[k]) B (as.getD k.toNat (0,0)).2 (some (.int k)) σ' H'->D0.nx σ' H'):zBW K td D0 σ H:=by
 have hk:h∈ks:=by
  have:=q0p (ks:=ks) (xs:=xss) (k:=h) (by rw[S.tab.len];exact S.tab.len2);unfold Xg at e;cases z:Yy ks xss h with
  | none=>rw[z]at e;cases e
  | some v=>rw[z]at this;exact of_decide_eq_true this.symm
 obtain⟨l,xs,e1,e2,e3,e4,e5⟩:=S.tab.pop hk;have ex:xs.getLast?=some k:=by unfold Xg at e;rw[e2]at e;exact e
 obtain⟨m1,m2⟩:=q7B ex;refine⟨.ref p,S.s2,.int h,S.s5,p,.ref l,rfl,e3,.inl ⟨rfl,_,SqL.of e4⟩,l,_,.int k,rfl,rfl,e4,m1,?_⟩;rw[m2];have S1:=(S.popW e1 e5).setN k;show zA3 (zBb (tBM K "list" Xu (XJ 3) (Wb (XJ 6) zAU))) (zAe td (Xt 5)) D0 (σ.set 6 (some (.int k))) _;refine⟨.ref t,S1.s3,.inl ⟨rfl,_,SqL.of S1.ht⟩,.int k,S.s6 k,t,_,.int k,rfl,rfl,S1.ht,by rw[zB,vh];omega,?_⟩;rw[show T.map V.int++[V.int k]=(T++[k]).map V.int by rw[za];rfl];have S2:=S1.setT (T':=T++[k]);show td _ _ _;refine hd G0 H0 G _ _ _ _ _ S2.o (hf _ k rfl rfl k0 k1) λu G1 H1 x1 y1=>?_;cases (show u=.int _ from y1);exact q G1 _ H1 ((S2.keep x1).setH _)
theorem qfp{td:TE}{f:FD}(hd:zBG K td f)(hf:∀(ω:WSt)(k:Int),ω[1]?=some ↥(.lst (as.map Ym))->ω[6]?=some ↥(.int k)->0<=k->k<as.length->f ω=some (.int (as.getD k.toNat (0,0)).1))(S:RfS K G0 H0 G s as p t b ks ls xss T B h y σ H){k:Int}(e:T.getLast?=some k)(k0:0<=k)(k1:k<as.length)(hB:B.length<1000000){D0:Ends}(q:∀G' σ' H',RfS K G0 H0 G' s as p t b ks ls xss T.dropLast (B++[k]) (as.getD k.toNat (0,0)).1 (some (.int k)) σ' H'->D0.nx σ' H'):zBB K td D0 σ H:=by
 obtain⟨m1,m2⟩:=q7B e;refine⟨.ref t,S.s3,.inl ⟨rfl,_,SqL.of S.ht⟩,t,_,.int k,rfl,rfl,S.ht,m1,?_⟩;rw[m2];have S1:=(S.setT (T':=T.dropLast)).setN k;show zA3 (zBb (tBM K "list" Xu (XJ 4) (Wb (XJ 6) zAU))) (zAe td (Xt 5)) D0 (σ.set 6 (some (.int k))) _;refine⟨.ref b,S1.s4,.inl ⟨rfl,_,SqL.of S1.hb⟩,.int k,S.s6 k,b,_,.int k,rfl,rfl,S1.hb,by rw[zB,vh];omega,?_⟩;rw[show B.map V.int++[V.int k]=(B++[k]).map V.int by rw[za];rfl];have S2:=S1.setB (B':=B++[k]);show td _ _ _;refine hd G0 H0 G _ _ _ _ _ S2.o (hf _ k rfl rfl k0 k1) λu G1 H1 x1 y1=>?_;cases (show u=.int _ from y1);exact q G1 _ H1 ((S2.keep x1).setH _)
end
noncomputable def tRF(K:zA)(E:XK)(td1 td0:TE):TS :=
 zA3 (zAe (tCall (spT K) [] E (Wb (XJ 1) zAU)) (Xt 2)) (zA3 (zAe (zCY zAU) (Xt 3)) (zA3 (zAe (zCY zAU) (Xt 4)) (zA3 (zAe (XJ 0) (Xt 5))
  (zA3 (zBV (tOr (trT K (XJ 3)) (trT K zCQ)) (tIfS (trT K zCQ) (zBW K td1) (zBB K td0))) (tRet (tCB rLR (Wb (XJ 4) zAU)))))))
noncomputable def Wl(s:Int)(as:List (Int×Int)):Option (List Int):=if as.length<=9000 then Xp as (byS as as.length).1 100000 (byS as as.length).2 [] [] s else none
noncomputable def mRF:List D->Option O
 | [.int s,.lst ds]=>(pairsOf ds).bind λas=>(Wl s as).map λrow=>.fr (row.map D.int)
 | _=>none
theorem qhr{K:zA}{E E':XK}{td1 td0:TE}{f1 f0:FD}(h1:zBG K td1 f1)(h0:zBG K td0 f0)(hf1:∀(as:List (Int×Int))(ω:WSt)(k:Int),ω[1]?=some ↥(.lst (as.map Ym))->ω[6]?=some ↥(.int k)->0<=k->k<as.length->f1 ω=some (.int (as.getD k.toNat (0,0)).2))(hf0:∀(as:List (Int×Int))(ω:WSt)(k:Int),ω[1]?=some ↥(.lst (as.map Ym))->ω[6]?=some ↥(.int k)->0<=k->k<as.length->f0 ω=some (.int (as.getD k.toNat (0,0)).1)){N:List Str}(hN:N.length=7){vs:List V}{H:Hp}{Q:VK}(sp:spD K 2 mRF vs H Q E'):tRF K E td1 td0 { nx:=λ_ H'=>Q .non H',rt:=Q } (L2.start N vs) H:=by
 obtain⟨G,ds,r,e,hl,sg,rp,fin⟩:=sp
 match ds,e with
 | [.int s,.lst ds],e=>
  obtain⟨as,ea,e⟩:=bnd e;obtain⟨row,er,e⟩:=mpd e;subst e;have hds:=q3G ea;subst hds;clear ea;unfold Wl at er
  by_cases hlen:as.length<=9000
  case neg=>rw[vG hlen]at er;cases er
  rw[vC hlen]at er;obtain⟨v0,v1,rfl,r0,r1⟩:=rp.two;cases (show v0=.int s from r0);have hst:L2.start N [V.int s,v1]=[some (.int s),some v1,none,none,none,none,none]:=by
   unfold L2.start;rw[hN];rfl
  rw[hst];have no0:Xw [some (W.sh (.int s)),↥(.lst (as.map Ym)),none,none,none,none,none]:=noOw7 (d0:=some (.int s)) (d1:=some (.lst (as.map Ym))) (d5:=none) (d6:=none);have o0:Own K G (fr H) G [some (W.sh (.int s)),↥(.lst (as.map Ym)),none,none,none,none,none] [some (.int s),some v1,none,none,none,none,none] H:=by
   refine⟨Ext.refl sg,rfl,λi d h=>?_,λi ds h=>vP h (no0.ow i ds),λi j ds es l h=>vP h (no0.ow i ds),λi ks ds h=>vP h (no0.od i ks ds),Xi.no no0.pw⟩
   match i,h with
   | 0,h=>cases h;exact⟨_,rfl,rfl⟩
   | 1,h=>cases h;exact⟨_,rfl,r1⟩
   | 2,h=>cases h
   | 3,h=>cases h
   | 4,h=>cases h
   | 5,h=>cases h
   | 6,h=>cases h
   | i+7,h=>simp at h
  refine⟨v1,rfl,G,as,sg,Yo.cons r1 Yo.nil,hlen,λG1 p ls H1 x1 T1=>?_⟩;have o1:=(o0.keep x1).other (i:=2) (v:=some (.ref p)) no0 λw z=>by cases z
  refine⟨by show 0<=sizeLine;exact zy _,λt ht=>?_⟩;have x2:=Ext.hide o1.gh ht (.lst []);have o2:=(o1.keep x2).other (i:=3) (v:=some (.ref t)) no0 λw z=>by cases z
  have T2:=T1.keep x2;refine⟨by show 0<=sizeLine;exact zy _,λb hb=>?_⟩;have x3:=Ext.hide o2.gh hb (.lst []);have o3:=(o2.keep x3).other (i:=4) (v:=some (.ref b)) no0 λw z=>by cases z
  have T3:=T2.keep x3;have tb:t≠b:=λz=>by rw[<- z,qe]at hb;cases hb
  have tl:t∉ls:=λz=>by
   obtain⟨xs,w⟩:=T1.inn z;rw[ht]at w;cases w
  have bl:b∉ls:=λz=>by
   obtain⟨xs,w⟩:=T2.inn z;rw[hb]at w;cases w
  have o4:=o3.setSh (i:=5) (d:=.int s) (v:=.int s) rfl;have S0:RfS K G (fr H) G1 s as p t b (byS as as.length).1 ls (byS as as.length).2 [] [] s none [some (.int s),some v1,some (.ref p),some (.ref t),some (.ref b),some (.int s),none] (upd (upd H1 t (.lst [])) b (.lst [])) :=
   ⟨o4,rfl,rfl,rfl,rfl,T3,by rw[qd tb];exact qe,o1.gh.free ht,o1.ext.hh.free ht,qe,o2.gh.free hb,o2.ext.hh.free hb,tb,tl,bl⟩
  refine⟨.int s,rfl,?_⟩;generalize (byS as as.length).1=ks at S0 er;generalize (byS as as.length).2=xss at S0 er;refine⟨λm σ' H'=>∃G' xss T B h y,RfS K G (fr H) G' s as p t b ks ls xss T B h y σ' H'/\Xp as ks m xss T B h=some row,⟨100000,G1,xss,[],[],s,none,S0,er⟩,?_⟩;rintro m σ' H' ⟨G',xss,T,B,h,y,S,run⟩;cases m with
  | zero=>cases run
  | succ n=>
   have body:∀Hx,RfS K G (fr H) G' s as p t b ks ls xss T B h y σ' Hx->(T≠[]\/Xg ks xss h≠[])->∀D0:Ends,∃NN:St->Hp->Prop,(∀σ2 H2,NN σ2 H2->∃m',m'<n+1/\∃G' xss T B h y,RfS K G (fr H) G' s as p t b ks ls xss T B h y σ2 H2/\Xp as ks m' xss T B h=some row)/\tIfS (trT K zCQ) (zBW K td1) (zBB K td0) { D0 with nx:=NN,ct:=NN,bk:=D0.nx } σ' Hx:=by
    intro Hx Sx hne D0;refine⟨λσ2 H2=>∃G' xss T B h y,RfS K G (fr H) G' s as p t b ks ls xss T B h y σ2 H2/\Xp as ks n xss T B h=some row,λσ2 H2 z=>⟨n,ye n,z⟩,?_⟩;refine qbS Sx λHy Sy=>?_;unfold Xp at run;cases eg:(Xg ks xss h).getLast? with
    | some k=>
     rw[eg]at run;have run:(if 0<=k/\k<as.length/\T.length<1000000 then Xp as ks n (X1 ks xss h) (T++[k]) B (as.getD k.toNat (0,0)).2 else none)=some row:=run;have hne:(Xg ks xss h).isEmpty=false:=by
      cases z:Xg ks xss h with
      | nil=>rw[z]at eg;cases eg
      | cons a r=>rfl
     rw[hne];show (if (!false)=true then _ else _);rw[vC (show (!false)=true from rfl)]
     by_cases c:0<=k/\k<as.length/\T.length<1000000
     ·rw[vC c]at run
      exact qf0 h1 (hf1 as) Sy eg c.1 c.2.1 c.2.2 λG2 σ2 H2 S2=>⟨G2,_,_,_,_,_,S2,run⟩
     ·rw[vG c]at run;cases run
    | none=>
     rw[eg]at run;have hem:Xg ks xss h=[]:=xw.mp eg;rw[hem];show (if (!true)=true then _ else _);rw[vG (by decide)];cases et:T.getLast? with
     | none=>exact vP (xw.mp et) (hne.resolve_right λz=>z hem)
     | some k=>
      have run:(match T.getLast? with
       | some k=>if 0<=k/\k<as.length/\B.length<1000000 then Xp as ks n xss T.dropLast (B++[k]) (as.getD k.toNat (0,0)).1 else none
       | none=>some B.reverse)=some row:=run
      rw[et]at run;have run:(if 0<=k/\k<as.length/\B.length<1000000 then Xp as ks n xss T.dropLast (B++[k]) (as.getD k.toNat (0,0)).1 else none)=some row:=run
      by_cases c:0<=k/\k<as.length/\B.length<1000000
      ·rw[vC c]at run
       exact qfp h0 (hf0 as) Sy et c.1 c.2.1 c.2.2 λG2 σ2 H2 S2=>⟨G2,_,_,_,_,_,S2,run⟩
      ·rw[vG c]at run;cases run
   refine⟨.ref t,S.s3,!(T.map V.int).isEmpty,.inl ⟨_,SqL.of S.ht,rfl⟩,?_⟩;cases T with
   | cons a r=>
    show (if (!false)=true then _ else _);rw[vC (show (!false)=true from rfl)];show (if true=true then _ else _);rw[vC rfl];exact body H' S (.inl (by simp)) _
   | nil=>
    show (if (!true)=true then _ else _);rw[vG (by decide)];refine qbS S λHx Sx=>?_;cases eg:Xg ks xss h with
    | cons a r=>
     show (if (!false)=true then _ else _);rw[vC (show (!false)=true from rfl)];exact body Hx Sx (.inr (by rw[eg];simp)) _
    | nil=>
     show (if (!true)=true then _ else _);rw[vG (by decide)];have rw0:row=B.reverse:=by
      unfold Xp at run;rw[eg]at run;have run:some B.reverse=some row:=run;exact(zx run).symm
     subst rw0;refine⟨.ref b,Sx.s4,b,_,rfl,Sx.hb,λSa hS=>?_⟩;have x9:=Ext.hide Sx.o.gh hS (.lst (B.map V.int).reverse);have o9:=Sx.o.keep x9;refine fin (.ref Sa) G' _ o9.ext ⟨Sa,_,rfl,Sx.o.ext.hh.free hS,Sx.o.gh.free hS,qe,?_⟩;rw[<- YI];exact Yo.ints _
theorem qgd{ω:WSt}{e:Int×Int}(h:ω[3]?=some ↥(Ym e)):dOf (Yn oIx (vOf (Yi 3)) (fC (.int 0))) ω=some (.int e.1):=by
 unfold dOf Yn vOf Yi fC;rw[h];rfl
theorem q8j{as:List (Int×Int)}{k:Int}(k0:0<=k)(k1:k<as.length):atI (as.map Ym) k=some (Ym (as.getD k.toNat (0,0))):=by
 rw[q0I k0 (by rw[zB];exact k1)];have hk:k.toNat<as.length:=∅
 rw[xt,zT,zD hk];rfl
theorem qgg{as:List (Int×Int)}{ω:WSt}{k:Int}(h1:ω[1]?=some ↥(.lst (as.map Ym)))(h6:ω[6]?=some ↥(.int k))(k0:0<=k)(k1:k<as.length):
  dOf (Yn oIx (vOf (Yn oIx (vOf (Yi 1)) (vOf (Yi 6)))) (fC (.int 1))) ω=some (.int (as.getD k.toNat (0,0)).2):=by
 have e:=q8j (as:=as) k0 k1;show dR (op2 oIx (vR (op2 oIx (vR (zCJ ω[1]?)) (vR (zCJ ω[6]?)))) (some (.int 1)))=_;rw[h1,h6];show dR (op2 oIx (vR ((atI (as.map Ym) k).map R.sh)) (some (.int 1)))=_;rw[e];rfl
theorem qh6{as:List (Int×Int)}{ω:WSt}{k:Int}(h1:ω[1]?=some ↥(.lst (as.map Ym)))(h6:ω[6]?=some ↥(.int k))(k0:0<=k)(k1:k<as.length):
  dOf (Yn oIx (vOf (Yn oIx (vOf (Yi 1)) (vOf (Yi 6)))) (fC (.int 0))) ω=some (.int (as.getD k.toNat (0,0)).1):=by
 have e:=q8j (as:=as) k0 k1;show dR (op2 oIx (vR (op2 oIx (vR (zCJ ω[1]?)) (vR (zCJ ω[6]?)))) (some (.int 0)))=_;rw[h1,h6];show dR (op2 oIx (vR ((atI (as.map Ym) k).map R.sh)) (some (.int 0)))=_;rw[e];rfl
theorem qg9{X:Cx}{e1 e0:vX}{E E':XK}{f1 f0:FD}(h1:XD X e1 f1)(h0:XD X e0 f0)(hf1:∀(as:List (Int×Int))(ω:WSt)(k:Int),ω[1]?=some ↥(.lst (as.map Ym))->ω[6]?=some ↥(.int k)->0<=k->k<as.length->f1 ω=some (.int (as.getD k.toNat (0,0)).2))(hf0:∀(as:List (Int×Int))(ω:WSt)(k:Int),ω[1]?=some ↥(.lst (as.map Ym))->ω[6]?=some ↥(.int k)->0<=k->k<as.length->f0 ω=some (.int (as.getD k.toNat (0,0)).1)){N:List Str}(hN:N.length=7){vs:List V}{H:Hp}{Q:VK}(sp:spD X.K 2 mRF vs H Q E'){sts:List vz}(hb:∀{td1 td0:TE},PE X e1 td1->PE X e0 td0->PSs X sts (tRF X.K E td1 td0)):
  ∃t,PSs X sts t/\t { nx:=λ_ H'=>Q .non H',rt:=Q } (L2.start N vs) H:=by
 obtain⟨td1,p1,q1⟩:=h1;obtain⟨td0,p0,q0⟩:=h0;exact⟨_,hb p1 p0,qhr q1 q0 hf1 hf0 hN sp⟩
abbrev Cal(P:vW)(w:vZ)(K:zA)(mg:Str->Option vB)(base:vj)(k:Nat)(f:vJ)(d:vQ)(x:Str)(ps:List Str)(n:Nat)(m:List D->Option O):Prop :=
 FnOk P w K mg base CX0 k f d ps (spD K n m)/\mg x=some (.ref f)/\xh K (.ref f)=true/\Binds K d ps []
section
variable{X:Cx}{x:Str}{pos:Pos}
theorem xc{e:vX}{es:List vX}{k k0:Nat}{f:vJ}{fd:vQ}{ps:List Str}{m:List D->Option O}{p:Pos}{g:FA}(c:Cal X.prog X.w X.K X.mg X.base k f fd x ps (e::es).length m)(hr:Room k0 X.A)(ha:XA X (e::es) g)(hk:k<=k0:=by decide)(hg:Gl X x:=by exact rfl)(hdb:(x==("__debug__" : Str))=false:=by decide)(he:vK (e::es) X.env=(false,eval e X.env)::vK es X.env:=by rfl)(hpl:(vk pos (vK es X.env)).any (·.1)=false:=by rfl):
  XE X (.Call (.Name x p) (e::es) [] pos) (Yr m g):=zCE c.1 (hr.mono hk) hg c.2.1 c.2.2.1 c.2.2.2 pass0 ha hdb he hpl
theorem vE(i:Nat)(hN:X.N[i]?=some x:=by rfl)(hv:Vis X.env.scope x:=by first|exact Or.inl rfl|exact Or.inr (Or.inl rfl)|exact Or.inr (Or.inr rfl))(hd:(x==("__debug__" : Str))=false:=by decide)(hcd:(x==("__classdict__" : Str))=false:=by decide):XE X (.Name x pos) (Yi i):=zBY i (pv i hN hv hd hcd)
theorem vV(i:Nat)(hN:X.N[i]?=some x:=by rfl)(hv:Vis X.env.scope x:=by first|exact Or.inl rfl|exact Or.inr (Or.inl rfl)|exact Or.inr (Or.inr rfl))(hd:(x==("__debug__" : Str))=false:=by decide)(hcd:(x==("__classdict__" : Str))=false:=by decide):XV X (.Name x pos) (vOf (Yi i)):=XE.toV (zBY i (pv i hN hv hd hcd))
theorem vD(i:Nat)(hN:X.N[i]?=some x:=by rfl)(hv:Vis X.env.scope x:=by first|exact Or.inl rfl|exact Or.inr (Or.inl rfl)|exact Or.inr (Or.inr rfl))(hd:(x==("__debug__" : Str))=false:=by decide)(hcd:(x==("__classdict__" : Str))=false:=by decide):XD X (.Name x pos) (dOf (Yi i)):=XE.toD (zBY i (pv i hN hv hd hcd))
end
def Fd(K:zA)(x:Str)(st:vz)(f:vJ):Prop:=yS K vY x=some (some (.ref f))/\∃fd,Fun K x x st f fd
section
variable{P:vW}{w:vZ}{K:zA}{mg:Str->Option vB}{base h:vj}{x:Str}{st:vz}{f:vJ}{fd:vQ}
theorem qhp{oc:vB}{od an:Option vJ}{osl:Array (Option vB)}{kV doc pm cdv ct:vB}(a:yS K vY x=some (some (.ref f)))(l:K.lookup f=some ⟨oc,od,.func (xW x x (Xy st) (Xd st) (Yk st) .none kV doc pm an cdv ct),osl⟩)(c:wy K cdv x=true)(k:xh K (.ref f)=true):Fd K x st f:=⟨a,_,qgC l c k⟩
theorem ql(P:vW)(w:vZ)(base:vj)(X:K.In h)(G:h.Ns vY mg){x:Str}{st:vz}{f:vJ}{fd:vQ}{k n:Nat}{ps:List Str}{m:List D->Option O}(D:Fd K x st f)(F:Fun K x x st f fd)(o:FnOk P w K mg base CX0 k f fd ps (spD K n m))(b:∀(kV doc pm:vB)(an:Option vJ)(cdv ct:vB)(us:List vB),us.length=ps.length->bindArgs (xW x x (Xy st) (Xd st) (Yk st) .none kV doc pm an cdv ct) ⟨us,[]⟩=pure (ps.zip us)):Cal P w K mg base k f fd x ps n m :=
 ⟨o,ZL X G D.1,F.kp,F.binds b⟩
end
end Hk
namespace Hk
open PySem PyProof.Rows
noncomputable def kcl(c:Int)(l:List vT):List vT:=l.filter λp=>tt p.1==c
def zAo(l m:List vT):Prop:=∀c,kcl c l=kcl c m
theorem q0n(c:Int)(a b:List vT):kcl c (a++b)=kcl c a++kcl c b:=w9 ..
theorem q51(c:Int)(a:List vT):kcl c a.reverse=(kcl c a).reverse:=List.filter_reverse ..
theorem q6v{c:Int}{l:List vT}(h:∀p∈l,tt p.1≠c):kcl c l=[]:=Zb.mpr λp hp=>by simpa using h p hp
theorem q2O{xs:Array vT}{i:Nat}{p:vT}(h:xs.toList[i]?=some p):K xs i=tt p.1:=by
 unfold K;rw[<- zZ,h]
theorem qav{α:Type}{l:List α}{i j:Nat}{p:α}(h:p∈(l.take j).drop i):∃n,i<=n/\n<j/\l[n]?=some p:=by
 obtain⟨m,hm⟩:=y9.mp h;rw[xQ,xS]at hm
 split at hm
 ·exact⟨i+m,∅,by assumption,hm⟩
 ·cases hm
theorem cut3{α:Type}(l:List α){i j:Nat}(h:i<=j):l.take i++((l.take j).drop i++l.drop j)=l:=by
 have:l.take i=(l.take j).take i:=by rw[wM,wo h]
 rw[this,<- zJ,z7,z7]
theorem q2D{xs:Array vT}{i j:Nat}(hij:i<=j)(hj:j<=xs.size):(mirror xs i j ((j-i)/2)).toList=xs.toList.take i++(((xs.toList.take j).drop i).reverse++xs.toList.drop j):=by
 apply yu;intro k;rw[zZ,getElem?_mirror_all hj];have hl:xs.toList.length=xs.size:=zM;rcases zw k i with h1|h1
 ·rw[vG ∅,ze (by rw[zf];omega),xS,vC h1,zZ]
 ·rw[zX (by rw[zf];omega),zf,show min i xs.toList.length=i by omega]
  have ld:((xs.toList.take j).drop i).length=j-i:=by rw[yI,zf];omega
  rcases zw k j with h2|h2
  ·rw[vC ⟨h1,h2⟩,ze (by rw[xJ,ld];omega),List.getElem?_reverse (by rw[ld];omega),ld,xQ,xS,vC ∅,zZ]
   congr 1;omega
  ·rw[vG ∅,zX (by rw[xJ,ld];omega),xJ,ld,xQ,zZ]
   congr 1;omega
theorem q9A{xs:Array vT}{j l:Nat}(hs:j<xs.size)(hl:l<=j):(bubble xs j (j-l)).toList=xs.toList.take l++(xs[j]::((xs.toList.take j).drop l++xs.toList.drop (j+1))):=by
 apply yu;intro k;rw[zZ,getElem?_bubble hs _ ∅,show j-(j-l)=l by omega];have hn:xs.toList.length=xs.size:=zM;rcases zw k l with h1|h1
 ·rw[vG ∅,vG ∅,ze (by rw[zf];omega),xS,vC h1,zZ]
 ·rw[zX (by rw[zf];omega),zf,show min l xs.toList.length=l by omega]
  rcases Z2 h1 with h2|h2
  ·subst h2
   rw[vC rfl,wt,yj,getElem?_pos xs j hs]
  ·rw[vG ∅]
   obtain⟨m,hm⟩:∃m,k-l=m+1:=⟨k-l-1,∅⟩;rw[hm,yX];have ld:((xs.toList.take j).drop l).length=j-l:=by rw[yI,zf];omega
   rcases zw m (j-l)with h3|h3
   ·rw[vC ∅,ze (by rw[ld];exact h3),xQ,xS,vC ∅,zZ]
    congr 1;omega
   ·rw[vG ∅,zX (by rw[ld];exact h3),ld,xQ,zZ]
    congr 1;omega
theorem q9x{xs:Array vT}{j l:Nat}(hs:j<xs.size)(hl:l<=j)(h:∀i,l<=i->i<j->K xs j<K xs i):zAo (bubble xs j (j-l)).toList xs.toList:=by
 intro c;have hx:xs.toList[j]?=some xs[j]:=by rw[zZ,getElem?_pos xs j hs]
 have e:xs.toList=xs.toList.take l++((xs.toList.take j).drop l++(xs[j]::xs.toList.drop (j+1))):=by
  have d:xs.toList.drop j=xs[j]::xs.toList.drop (j+1):=by
   rw[y0 (by rw[zM];exact hs),Array.getElem_toList]
  rw[<- d,cut3 _ hl]
 rw[q9A hs hl,q0n];have e2:kcl c xs.toList=kcl c (xs.toList.take l)++(kcl c ((xs.toList.take j).drop l)++kcl c (xs[j]::xs.toList.drop (j+1))):=by
  conv=>lhs;rw[e]
  rw[q0n,q0n]
 rw[e2]
 congr 1
 show kcl c ([xs[j]]++((xs.toList.take j).drop l++xs.toList.drop (j+1)))=_++kcl c ([xs[j]]++xs.toList.drop (j+1));rw[q0n,q0n,q0n]
 by_cases z:tt xs[j].1=c
 ·have no:kcl c ((xs.toList.take j).drop l)=[]:=q6v λp hp=>by
   obtain⟨n,n1,n2,n3⟩:=qav hp;have k1:=q2O n3;have k2:=q2O hx;have:=h n n1 n2;omega
  rw[no,yE,yE]
 ·have no:kcl c [xs[j]]=[]:=q6v λp hp=>by cases zS.mp hp;exact z
  rw[no,yE,yE]
structure DInv (a₀:Array vT) (xs:Array vT) (x neq:Nat):Prop where
 le:neq+1<=x
 ni:se xs x
 eq:∀i,x-(neq+1)<=i->i<x->K xs i=K xs (x-1)
 lt:0<x-(neq+1)->K xs (x-(neq+1))<K xs (x-(neq+1)-1)
 cl:∀c,kcl c (xs.toList.take (x-(neq+1)))=(kcl c (a₀.toList.take (x-(neq+1)))).reverse
 dr:xs.toList.drop (x-(neq+1))=a₀.toList.drop (x-(neq+1))
theorem DInv.flip{a₀ xs:Array vT}{x neq:Nat}(D:DInv a₀ xs x neq)(hx:x<=xs.size)(hz:xs.size=a₀.size):
  (∀c,kcl c ((mirror xs (x-(neq+1)) x ((x-(x-(neq+1)))/2)).toList.take x)=(kcl c (a₀.toList.take x)).reverse)/\(mirror xs (x-(neq+1)) x ((x-(x-(neq+1)))/2)).toList.drop x=a₀.toList.drop x:=by
 have hb:x-(neq+1)<=x:=Nat.sub_le _ _;have hle:=D.le;have hbx:x-(neq+1)<x:=∅
 have lt:=D.lt;have eq:=D.eq;have ni:=D.ni;have cl:=D.cl;have dr:=D.dr;generalize x-(neq+1)=b at hb hbx lt eq cl dr;have hn:xs.toList.length=xs.size:=zM;have hn0:a₀.toList.length=a₀.size:=zM;have run:(xs.toList.take x).drop b=(a₀.toList.take x).drop b:=by
  rw[ZA,ZA,dr]
 have lrun:((xs.toList.take x).drop b).length=x-b:=by rw[yI,zf];omega
 rw[q2D hb hx];have l1:(xs.toList.take b++((xs.toList.take x).drop b).reverse).length=x:=by
  rw[zC,xJ,lrun,zf];omega
 rw[<- zJ];refine⟨λc=>?_,?_⟩
 ·rw[YN l1,q0n,q51,run]
  have e0:a₀.toList.take x=a₀.toList.take b++(a₀.toList.take x).drop b:=by
   have:a₀.toList.take b=(a₀.toList.take x).take b:=by rw[wM,wo hb]
   rw[this,z7]
  have e9:kcl c (a₀.toList.take x)=kcl c (a₀.toList.take b)++kcl c ((a₀.toList.take x).drop b):=(v9 (kcl c) e0).trans (q0n c _ _);rw[e9,xK,<- cl c]
  by_cases z:c=K xs (x-1)
  ·have no:kcl c (xs.toList.take b)=[]:=q6v λp hp=>by
    obtain⟨m,hm⟩:=y9.mp hp;rw[xS]at hm
    split at hm
    ·rename_i hmb
     have k1:=q2O hm;have k2:=lt ∅;have k3:=ni m (b-1) ∅ ∅;have k4:K xs b=K xs (x-1):=eq b (zK _) hbx;omega
    ·cases hm
   rw[no,yE,zn]
  ·have no:kcl c ((a₀.toList.take x).drop b)=[]:=q6v λp hp=>by
    rw[<- run]at hp;obtain⟨n,n1,n2,n3⟩:=qav hp;have k1:=q2O n3;have k2:=eq n n1 n2;intro y;exact z ∅
   rw[no,List.reverse_nil,zn,yE]
 ·rw[YO l1]
  have e1:xs.toList.drop x=(xs.toList.drop b).drop (x-b):=by rw[ZB];congr 1;omega
  have e2:a₀.toList.drop x=(a₀.toList.drop b).drop (x-b):=by rw[ZB];congr 1;omega
  rw[e1,e2,dr]
section
variable{prog:vW}{w:vZ}{A:ve}{E:vB->vF->Prop}{s:vF}{a₀:Array vT}
theorem q5f{xs ys:Array vT}{x:Nat}(h:se xs x)(e:∀k,K ys k=K xs k)(hl:x=0\/K xs x<=K xs (x-1)):se ys (x+1):=by
 intro i j hij hj;rw[e,e];rcases zw j x with y|y
 ·exact h i j hij y
 ·obtain rfl:j=x:=∅
  rcases Z2 hij with z|z
  ·rw[z];exact yG _
  ·rcases hl with hl|hl
   ·omega
   ·exact yT hl (h i (j-1) ∅ ∅)
theorem q9F{st:vg}{n nrem:Nat}{Q:DescSt->vg->Prop}(h0:IntKeys a₀)(hn:nrem<=a₀.size)(h1:1<=n)(hnn:n<=nrem)(hB:u7 a₀ st)(hD:DInv a₀ (vM st) n 0)(h:∀m neq st',u7 a₀ st'->n<=m->m<=nrem->DInv a₀ (vM st') m neq->Q (none,m,neq) st'):wpS (model prog w) A E s (descLoop n nrem) Q st:=by
 unfold descLoop;refine vi (I:=λx c st'=>∃neq,c=(none,x,neq)/\u7 a₀ st'/\DInv a₀ (vM st') x neq) ?turn ?done ⟨0,rfl,hB,hD⟩
 case done=>
  rintro c st' ⟨neq,rfl,b1,b2⟩;rw[Nat.max_eq_right hnn]at b2 ⊢;exact h nrem neq st' b1 hnn (zK _) b2
 case turn=>
  rintro x c st' hx1 hx2 ⟨neq,rfl,b1,D⟩
  dsimp only
  have hsz:(vM st').size=a₀.size:=b1.size;have hle:=D.le;refine vL (wpS_ltK b1 h0 ∅ ∅ ?_)
  by_cases less:K (vM st') x<K (vM st') (x-1)
  ·rw[vU less]
   simp only[if_true];obtain⟨f1,f2⟩:=D.flip ∅ hsz;have ke:=tu (xs:=vM st') (i:=x-(neq+1)) (j:=x) ∅ D.eq;have next:DInv a₀ (mirror (vM st') (x-(neq+1)) x ((x-(x-(neq+1)))/2)) (x+1) 0:=by
    refine⟨∅,q5f D.ni ke (.inr (ym less)),λi i1 i2=>?_,λ_=>?_,?_,?_⟩
    ·congr 1;omega
    ·show K _ x<K _ (x-1)
     rw[ke,ke];exact less
    ·exact f1
    ·exact f2
   by_cases hq:neq>0
   ·rw[vC hq]
    exact vL (tz (vN ⟨0,rfl,b1.setArr (tL _ _ _ _),next⟩))
   ·rw[vG hq]
    have hq0:neq=0:=∅
    subst hq0;have e:mirror (vM st') (x-(0+1)) x ((x-(x-(0+1)))/2)=vM st':=by
     have:(x-(x-(0+1)))/2=0:=∅
     rw[this];rfl
    rw[e]at next
    exact vN ⟨0,rfl,b1,next⟩
  ·rw[vS less]
   simp only[zv,if_false];refine vL (wpS_ltK b1 h0 ∅ ∅ ?_)
   by_cases more:K (vM st') (x-1)<K (vM st') x
   ·rw[vU more]
    simp only[if_true];exact vN (h x neq st' b1 hx1 ∅ D)
   ·rw[vS more]
    simp only[zv,if_false];have ex:K (vM st') x=K (vM st') (x-1):=∅
    have eb:x+1-(neq+1+1)=x-(neq+1):=∅
    refine vN ⟨neq+1,rfl,b1,∅,q5f D.ni (λ_=>rfl) (.inr ∅),λi i1 i2=>?_,?_,?_,?_⟩
    ·rw[eb]at i1
     rw[show x+1-1=x by omega,ex];rcases zw i x with y|y
     ·exact D.eq i i1 y
     ·obtain rfl:i=x:=∅
      exact ex
    ·rw[eb];exact D.lt
    ·rw[eb];exact D.cl
    ·rw[eb];exact D.dr
theorem qak{st:vg}{n nrem:Nat}{Q:Option Nat->vg->Prop}(h0:IntKeys a₀)(hn:nrem<=a₀.size)(h1:1<=n)(hnn:n<=nrem)(hB:u7 a₀ st)(hs:se (vM st) n)(hc:∀c,kcl c ((vM st).toList.take n)=(kcl c (a₀.toList.take n)).reverse)(hd:(vM st).toList.drop n=a₀.toList.drop n)(h:∀m st',u7 a₀ st'->1<=m->m<=nrem->ue (vM st') m->zAo (vM st').toList a₀.toList->Q (some m) st'):wpS (model prog w) A E s (tail3 n nrem) Q st:=by
 unfold tail3;have hsz:n<=(vM st).size:=by rw[hB.size];omega
 refine vL (tz ?_);have b1:u7 a₀ (setArr st (mirror (vM st) 0 n ((n-0)/2))):=hB.setArr (tL _ _ _ _);have stb:zAo (mirror (vM st) 0 n ((n-0)/2)).toList a₀.toList:=λc=>by
  rw[q2D (zy _) hsz,YV,yE,ZC,q0n,q51,hc c,xD,hd,<- q0n,z7]
 refine vL (wpS_ascLoop h0 hn h1 hnn b1 (λi j hij hj=>?_) λm m1 m2 m3 _=>vN (h m _ b1 ∅ m2 m3 stb));show K (mirror (vM st) 0 n ((n-0)/2)) i<=K (mirror (vM st) 0 n ((n-0)/2)) j;rw[K_mirror hsz,K_mirror hsz,vC ∅,vC ∅];exact hs _ _ ∅ ∅
theorem q5n{st:vg}{n nrem:Nat}{Q:Option Nat->vg->Prop}(h0:IntKeys a₀)(hn:nrem<=a₀.size)(hnn:n+1<=nrem)(hB:u7 a₀ st)(hD:DInv a₀ (vM st) (n+1) 0)(h:∀m st',u7 a₀ st'->1<=m->m<=nrem->ue (vM st') m->zAo (vM st').toList a₀.toList->Q (some m) st'):wpS (model prog w) A E s (descPart n nrem) Q st:=by
 unfold descPart;refine vL (u4 (uD ⟨rfl,?_⟩));refine vL (q9F h0 hn ∅ hnn hB hD λm neq st' b1 m1 m2 D=>?_)
 dsimp only
 have hsz:(vM st').size=a₀.size:=b1.size;have hle:=D.le;obtain⟨f1,f2⟩:=D.flip ∅ hsz;have ke:=tu (xs:=vM st') (i:=m-(neq+1)) (j:=m) ∅ D.eq
 by_cases hq:neq>0
 ·rw[vC hq]
  refine vL (tz (qak h0 hn ∅ m2 (b1.setArr (tL _ _ _ _)) (λi j hij hj=>?_) f1 f2 h));show K (mirror (vM st') _ _ _) j<=K (mirror (vM st') _ _ _) i;rw[ke,ke];exact D.ni i j hij hj
 ·rw[vG hq]
  have hq0:neq=0:=∅
  subst hq0;have e:mirror (vM st') (m-(0+1)) m ((m-(m-(0+1)))/2)=vM st':=by
   have:(m-(m-(0+1)))/2=0:=∅
   rw[this];rfl
  rw[e]at f1 f2;exact qak h0 hn ∅ m2 b1 D.ni f1 f2 h
theorem q9B{st:vg}{nrem:Nat}{Q:Option Nat->vg->Prop}(h0:IntKeys a₀)(hn:nrem<=a₀.size)(h1:1<=nrem)(hB:u7 a₀ st)(hA:vM st=a₀)(h:∀m st',u7 a₀ st'->1<=m->m<=nrem->ue (vM st') m->zAo (vM st').toList a₀.toList->Q (some m) st'):wpS (model prog w) A E s (countRun' 0 nrem) Q st:=by
 rw[countRun0_eq];refine vL (wpS_ascLoop h0 hn (zK 1) h1 hB (λi j hij hj=>by obtain rfl:i=j:=∅;exact yG _) λn n1 n2 n3 n4=>?_)
 dsimp only
 have same:zAo (vM st).toList a₀.toList:=λc=>by rw[hA]
 by_cases e1:n=nrem
 ·rw[vC ⇑e1]
  exact vN (h n st hB n1 n2 n3 same)
 ·rw[vG ⇑e1]
  have lt:=n4.resolve_left e1
  by_cases e2:n>1
  ·rw[vC e2]
   refine vL (wpS_ltK hB h0 ∅ ∅ ?_)
   by_cases rose:K (vM st) 0<K (vM st) (n-1)
   ·rw[vU rose]
    simp only[if_true];exact vN (h n st hB n1 n2 n3 same)
   ·rw[vS rose]
    simp only[zv,if_false];have hsz:n<=(vM st).size:=by rw[hB.size];omega
    have all:∀k,0<=k->k<n->K (vM st) k=K (vM st) (n-1):=λk _ hk=>by
     have a1:=n3 0 k ∅ hk;have a2:=n3 k (n-1) ∅ ∅;omega
    have ke:=tu (xs:=vM st) (i:=0) (j:=n) hsz all;refine vL (tz (q5n h0 hn ∅ (hB.setArr (tL _ _ _ _)) ?_ h));show DInv a₀ (mirror (vM st) 0 n ((n-0)/2)) (n+1) 0;have ml:=q2D (zy n) hsz;rw[YV,yE,ZC]at ml;have ll:(((vM st).toList.take n).reverse).length=n:=by rw[xJ,zf,zM];omega
    have ni:se (vM st) n:=λi j hij hj=>by rw[all i ∅ ∅,all j ∅ hj];exact yG _
    refine⟨∅,q5f ni ke (.inr (ym lt)),λi i1 i2=>?_,λ_=>?_,λc=>?_,?_⟩
    ·congr 1;omega
    ·show K _ n<K _ (n-1)
     rw[ke,ke];exact lt
    ·show kcl c ((mirror (vM st) 0 n ((n-0)/2)).toList.take n)=(kcl c (a₀.toList.take n)).reverse
     rw[ml,YN ll,q51,hA]
    ·show (mirror (vM st) 0 n ((n-0)/2)).toList.drop n=a₀.toList.drop n
     rw[ml,YO ll,hA]
  ·rw[vG e2]
   obtain rfl:n=1:=∅
   refine q5n h0 hn ∅ hB ?_ h;have ni:se (vM st) 1:=λi j hij hj=>by obtain rfl:i=j:=∅;exact yG _
   refine⟨∅,q5f ni (λ_=>rfl) (.inr (ym lt)),λi i1 i2=>?_,λ_=>lt,λc=>?_,?_⟩
   ·congr 1;omega
   ·show kcl c ((vM st).toList.take 1)=(kcl c (a₀.toList.take 1)).reverse
    rw[hA,<- q51];cases a₀.toList with
    | nil=>rfl
    | cons p r=>rfl
   ·rw[hA]
theorem qbQ{st:vg}{n ok:Nat}{Q:Bool->vg->Prop}(h0:IntKeys a₀)(hn:n<=a₀.size)(hok:ok<=n)(hB:u7 a₀ st)(hs:ue (vM st) ok)(hS:zAo (vM st).toList a₀.toList)(h:∀st',u7 a₀ st'->ue (vM st') n->zAo (vM st').toList a₀.toList->Q true st'):wpS (model prog w) A E s (binarySort' 0 n ok) Q st:=by
 rw[binarySort'_eq];simp only[yq];refine vL (uA (vi (I:=λj c st'=>c=(none,())/\u7 a₀ st'/\ue (vM st') (min j n)/\zAo (vM st').toList a₀.toList)
  (Q:=λc st'=>c=(none,())/\u7 a₀ st'/\ue (vM st') n/\zAo (vM st').toList a₀.toList) ?turn ?done ?first) λc st' z=>?_)
 case first=>
  refine⟨rfl,hB,λi j hij hj=>?_,hS⟩
  by_cases y:ok=0
  ·obtain rfl:i=j:=∅
   exact yG _
  ·exact hs i j hij ∅
 case done=>
  rintro c st' ⟨hc,b1,b2,b3⟩;rw[show min (max (max ok 1) n) n=n by omega]at b2;exact⟨hc,b1,b2,b3⟩
 case turn=>
  rintro j c st' j1 j2 ⟨rfl,b1,b2,b3⟩;rw[show min j n=j by omega]at b2;have hj:j<a₀.size:=∅
  have hjs:j<(vM st').size:=by rw[b1.size];exact hj
  refine vL (uA (vi (I:=λx c st2=>st2=st'/\∃l r,c=(none,l,r)/\l<=r/\r<=j/\r-l<=j-x/\(∀i,i<l->K (vM st') i<=K (vM st') j)/\∀i,r<=i->i<j->K (vM st') j<K (vM st') i)
   (Q:=λc st2=>st2=st'/\∃l r,c=(none,l,r)/\l<=j/\(∀i,i<l->K (vM st') i<=K (vM st') j)/\∀i,l<=i->i<j->K (vM st') j<K (vM st') i) ?half ?found ?all) λc st2 z=>?_)
  case all=>exact⟨rfl,0,j,rfl,zy _,zK _,∅,λi y=>∅,λi y1 y2=>∅⟩
  case found=>
   rintro c st2 ⟨rfl,l,r,rfl,c1,c2,c3,c4,c5⟩;obtain rfl:l=r:=∅
   exact⟨rfl,l,l,rfl,c2,c4,c5⟩
  case half=>
   rintro x c st2 _ hx ⟨rfl,l,r,rfl,c1,c2,c3,c4,c5⟩
   dsimp only
   by_cases y:l>=r
   ·rw[vC y]
    obtain rfl:l=r:=∅
    exact vN ⟨rfl,l,l,rfl,c2,c4,c5⟩
   ·rw[vG y]
    refine vL (wpS_ltK b1 h0 hj ∅ ?_)
    by_cases less:K (vM st2) j<K (vM st2) ((l+r)/2)
    ·rw[vU less]
     simp only[if_true];refine vN ⟨rfl,l,(l+r)/2,rfl,∅,∅,∅,c4,λi i1 i2=>?_⟩;exact Int.lt_of_lt_of_le less (b2 _ _ i1 i2)
    ·rw[vS less]
     simp only[zv,if_false];refine vN ⟨rfl,(l+r)/2+1,r,rfl,∅,∅,∅,λi i1=>?_,c5⟩;have:=b2 i ((l+r)/2) ∅ ∅;omega
  obtain⟨rfl,l,r,rfl,c1,c2,c3⟩:=z;show wpS _ _ _ _ (do moveDown' j l;pure (ForInStep.yield (none,()))) _ _;rw[moveDown'_eq];refine vL (uZ (vN ⟨rfl,b1.setArr (bubble_perm _ _ _),?_,?_⟩))
  ·rw[show min (j+1) n=j+1 by omega]
   intro i k hik hk;show K (bubble (vM st2) j (j-l)) i<=K (bubble (vM st2) j (j-l)) k;rw[sf hjs ∅,sf hjs ∅,show j-(j-l)=l by omega]
   repeat' split
   all_goals first
    | (exfalso;omega)
    | exact yG _
    | exact c2 _ ∅
    | exact ym (c3 _ ∅ ∅)
    | exact b2 _ _ ∅ ∅
  ·intro c
   rw[<- b3 c];exact q9x hjs c1 c3 c
 obtain⟨rfl,b1,b2,b3⟩:=z;exact vN (h st' b1 b2 b3)
def zB4(a₀:Array vT)(st:vg):Prop:=SDone a₀ st/\zAo (vM st).toList a₀.toList
theorem q9I{st:vg}{Q:Unit->vg->Prop}(h0:IntKeys a₀)(hB:u7 a₀ st)(hA:vM st=a₀)(h2:2<=a₀.size)(h64:a₀.size<64)(h:∀st',(vM st').Perm a₀->uO st'=none->ue (vM st') a₀.size->zAo (vM st').toList a₀.toList->Q () st'):wpS (model prog w) A E s sortRuns' Q st:=by
 rw[sortRuns'_eq];refine vL (um ?_)
 dsimp only
 have mr:sK a₀.size a₀.size 0=a₀.size:=by
  cases e:a₀.size with
  | zero=>omega
  | succ f=>rw[minRun'_succ,vC ∅]
 simp only[hB.size,mr];refine vL (uA (vi (I:=λx c st'=>(x=0/\c=(none,0)/\st'=st)\/(1<=x/\c=(none,a₀.size)/\zB4 a₀ st')) (Q:=λc st'=>c=(none,a₀.size)/\zB4 a₀ st') ?turn ?done (.inl ⟨rfl,rfl,rfl⟩)) λc st' z=>?_)
 case done=>
  rintro c st' (⟨y,_,_⟩|⟨_,y1,y2⟩)
  ·omega
  ·exact⟨y1,y2⟩
 case turn=>
  rintro x c st' _ hx (⟨rfl,rfl,rfl⟩|⟨x1,rfl,D⟩)
  ·dsimp only
   rw[vG ∅];simp only[Nat.sub_zero,Nat.min_self,yq];refine vL (q9B h0 (zK _) ∅ hB hA λm st2 b1 m1 m2 m3 m4=>?_)
   dsimp only
   by_cases y:m<a₀.size
   ·rw[vC y]
    refine vL (u4 (uD ⟨rfl,?_⟩));refine vL (qbQ h0 (zK _) m2 b1 m3 m4 λst3 d1 d2 d3=>?_);simp only[wC,zv,if_false];refine vL (um ?_);have nb:(vc st3).back?=none:=by rw[d1.pend];rfl
    rw[nb]
    dsimp only
    exact vL (uZ (vN (.inr ⟨∅,rfl,d1.done d2,d3⟩)))
   ·rw[vG y]
    obtain rfl:m=a₀.size:=∅
    refine vL (um ?_);have nb:(vc st2).back?=none:=by rw[b1.pend];rfl
    rw[nb]
    dsimp only
    exact vL (uZ (vN (.inr ⟨∅,rfl,b1.done m3,m4⟩)))
  ·dsimp only
   rw[vC (zK _)];exact vN ⟨rfl,D⟩
 obtain⟨rfl,D⟩:=z
 dsimp only
 refine vL (uA (vi (I:=λ_ c st2=>st2=st'/\c=(none,())) (Q:=λc st2=>st2=st'/\c=(none,())) (λx c st2 _ _ y=>?_) (λ_ _ y=>y) ⟨rfl,rfl⟩) λc st2 y=>?_)
 ·obtain⟨rfl,rfl⟩:=y
  refine vL (um ?_);rw[vC (by rw[D.1.2.2.1];exact zK 1)];exact vN ⟨rfl,rfl⟩
 ·obtain⟨rfl,rfl⟩:=y
  exact vN (h _ D.1.1 D.1.2.1 D.1.2.2.2 D.2)
end
section
variable{α β:Type}
noncomputable def W1(f:α->Int)(x:α):List α->List α
 | []=>[x]
 | y::r=>if f x<=f y then x::y::r else y::W1 f x r
noncomputable def Yz(f:α->Int)(l:List α):List α:=l.foldr (W1 f) []
noncomputable def clK(f:α->Int)(c:Int)(l:List α):List α:=l.filter λx=>f x==c
theorem q4t{f:α->Int}{x:α}:∀{l:List α},(W1 f x l).Perm (x::l)
 | []=>.refl _
 | y::r=>by
  unfold W1
  split
  ·exact .refl _
  ·exact(q4t.cons y).trans (.swap x y r)
theorem q0g{f:α->Int}:∀{l:List α},(Yz f l).Perm l
 | []=>.refl _
 | y::r=>q4t.trans ((q0g (l:=r)).cons y)
theorem q7R(f:α->Int)(l:List α):(Yz f l).length=l.length:=q0g.length_eq
theorem q9Y{f:α->Int}{x:α}:∀{l:List α},l.Pairwise (λa b=>f a<=f b)->(W1 f x l).Pairwise (λa b=>f a<=f b)
 | [],_=>ZU _ _
 | y::r,h=>by
  obtain⟨h1,h2⟩:=zd.mp h;unfold W1
  split
  ·rename_i z
   refine zd.mpr ⟨λa ha=>?_,h⟩;rcases zF.mp ha with rfl|ha
   ·exact z
   ·exact yT z (h1 a ha)
  ·rename_i z
   refine zd.mpr ⟨λa ha=>?_,q9Y h2⟩;rcases zF.mp (q4t.mem_iff.mp ha)with rfl|ha
   ·omega
   ·exact h1 a ha
theorem q5u{f:α->Int}:∀{l:List α},(Yz f l).Pairwise (λa b=>f a<=f b)
 | []=>.nil
 | y::r=>q9Y (q5u (l:=r))
theorem q9W{f:α->Int}{x:α}(c:Int):∀{l:List α},l.Pairwise (λa b=>f a<=f b)->clK f c (W1 f x l)=clK f c (x::l)
 | [],_=>rfl
 | y::r,h=>by
  obtain⟨h1,h2⟩:=zd.mp h;unfold W1
  split
  ·rfl
  ·rename_i z
   have ih:=q9W (x:=x) c h2;unfold clK at ih ⊢;rw[yM,ih,yM,yM,yM]
   by_cases a:f x=c
   ·have:¬f y=c:=∅
    simp[a,this]
   ·simp[a]
theorem q9j{f:α->Int}(c:Int):∀{l:List α},clK f c (Yz f l)=clK f c l
 | []=>rfl
 | y::r=>by
  show clK f c (W1 f y (Yz f r))=_;rw[q9W c q5u];unfold clK;rw[yM,yM];have ih:=q9j (f:=f) c (l:=r);unfold clK at ih;rw[ih]
theorem q22{f:α->Int}{a:α}{l:List α}:clK f (f a) (a::l)=a::clK f (f a) l:=by
 unfold clK;rw[yM,vC (by simp)]
theorem qaJ{f:α->Int}:∀{l m:List α},l.Pairwise (λa b=>f a<=f b)->m.Pairwise (λa b=>f a<=f b)->(∀c,clK f c l=clK f c m)->l=m
 | [],m,_,_,h=>by
  cases m with
  | nil=>rfl
  | cons b m=>have:=h (f b);rw[q22]at this;cases this
 | a::l,m,h1,h2,h=>by
  cases m with
  | nil=>have:=h (f a);rw[q22]at this;cases this
  | cons b m=>
   obtain⟨p1,p2⟩:=zd.mp h1;obtain⟨q1,q2⟩:=zd.mp h2;have x1:a∈b::m:=by
    have:a∈clK f (f a) (b::m):=by rw[<- h,q22];exact zG
    exact(xH.mp this).1
   have x2:b∈a::l:=by
    have:b∈clK f (f b) (a::l):=by rw[h,q22];exact zG
    exact(xH.mp this).1
   have e:f a=f b:=by
    rcases zF.mp x1 with y|y
    ·rw[y]
    ·rcases zF.mp x2 with z|z
     ·rw[z]
     ·have:=q1 a y;have:=p1 b z;omega
   have hab:=h (f a);rw[q22]at hab;rw[e,q22]at hab;obtain⟨rfl,_⟩:=Zx hab;refine v9 (a::·) (qaJ p2 q2 λc=>?_);have hc:=h c;unfold clK at hc ⊢;rw[yM,yM]at hc
   by_cases z:(f a==c)=true
   ·rw[vC z,vC z]at hc;exact(Zx hc).2
   ·rw[vG z,vG z]at hc;exact hc
theorem q8P{f:β->Int}{g:α->β}{x:α}:∀{l:List α},W1 f (g x) (l.map g)=(W1 (λa=>f (g a)) x l).map g
 | []=>rfl
 | y::r=>by
  show (if f (g x)<=f (g y)then _ else _)=(if f (g x)<=f (g y)then _ else _:List α).map g
  split
  ·rfl
  ·rw[q8P];rfl
theorem q1I{f:β->Int}{g:α->β}:∀{l:List α},Yz f (l.map g)=(Yz (λa=>f (g a)) l).map g
 | []=>rfl
 | y::r=>by
  show W1 f (g y) (Yz f (r.map g))=(W1 _ y (Yz _ r)).map g;rw[q1I,q8P]
end
theorem qfP{a₀ xs:Array vT}(hp:xs.Perm a₀)(hs:ue xs a₀.size)(hS:zAo xs.toList a₀.toList):xs.toList=Yz (λp=>tt p.1) a₀.toList:=by
 have hn:xs.size=a₀.size:=hp.size_eq;refine qaJ (f:=λp:vT=>tt p.1) (yQ.mpr λi j hi hj hij=>?_) q5u λc=>(hS c).trans (q9j c).symm;have e1:=q2O (xs:=xs) (i:=i) (zD hi);have e2:=q2O (xs:=xs) (i:=j) (zD hj);rw[<- e1,<- e2];exact hs i j ∅ (by rw[zM]at hj;omega)
end Hk
namespace Hk
open PySem PySem.Spec PyProof.Rows L2
section
variable{X:Cx}{pins:List (vJ×Obj)}{σ:L2.St}{H:Hp}{s:vF}
theorem qcf{h':vj}{a:vJ}{ys:List V}{its:List vB}{n t':Nat}(I:Inv X pins σ H s)(fa:WH X pins H a)(k:∀b o,b≠a->s.heap.get? b=some o->h'.get? b=some o)(new:h'.get? a=some { cls:=.type "list", data:=.seq its.toArray n })(hv:Yv ys its)(hz:ys.length<=sizeLine):Inv X pins σ (upd H a (.lst ys)) { s with heap:=h',toks:=t' }:=by
 obtain⟨f0,f1,f2,f3,f4,f5⟩:=fa;have I1:=I.turned (h':=h') (t':=t') (it:=a) k f0 f1 f3 f4 f5;have na:∀{b:vJ}{u:HO},H b=some u->b≠a:=λq z=>by rw[z,f0]at q;cases q
 refine Inv.step (s:={ s with heap:=h',toks:=t' }) (H':=upd H a (.lst ys)) (h':=h') (g':=s.gens) (d':=s.drawn) (t':=t') (ch:=[a]) I1 (λb hb=>?_) (λb o _ _ _ e _=>e) (λb o _ _ _ e _=>⟨o.slots,e⟩)
  (λb o hc e n=>by rw[qd ⇑hc];exact n) (λb o _ e=>⟨o,e⟩) (λb xs q=>by rw[qd (na q)];exact q) (λb o u q=>by rw[qd (na q)];exact q)
  (λb ps q=>⟨#[],by rw[qd (na q),q];simp⟩) (λ_ hm=>hm) (λb u q=>?_) I1.bare
 ·cases zS.mp hb
  exact⟨f3,f1,f4,f5⟩
 ·by_cases z:b=a
  ·subst z
   rw[qe]at q;cases q;exact⟨hz,its,n,hv,new⟩
  ·rw[qd z]at q
   exact(I1.hok b u q).stay (λ_ _ _ q=>q) (λc q=>by rw[qd (na q)];exact q) (λc xs q=>by rw[qd (na q)];exact q)
theorem qfK{k:Nat}{f:vJ}{fd:vQ}{ps:List Str}{sp:Sp}{E:XK}{Q:VK}{us:List vB}{vs:List V}{E':vB->vF->Prop}(F:FnOk X.prog X.w X.K X.mg X.base CX0 k f fd ps sp)(hr:Room (k+2) X.A)(hb:Binds X.K fd ps [])(I:Inv X pins σ H s)(r:Yv vs us)(h:sp vs H Q E):vO (model X.prog X.w) X.A.in1.in1 (call (.ref f) us) (EP X pins σ Q) E' s:=by
 have hl:(us++[]).length=ps.length:=by rw[zn,<- r.length];exact F.len _ _ _ _ h
 have b:=hb s us I.kIn hl;rw[zn]at b;refine wpAny_call (uf (F.run X.A.in1.in1 X.stack s H ⟨us,[]⟩ us vs Q E hr.in1.in1 I.env0.in1.in1 b r h) λr s' hq=>?_);cases r with
 | error e=>exact False.elim hq
 | ok fl=>
  cases fl with
  | ret u=>exact I.after hq
  | next=>exact False.elim hq
  | brk=>exact False.elim hq
  | cont=>exact False.elim hq
end
theorem q2y{α:Type}{f g:α->Int}:∀{l:List α},(∀x∈l,f x=g x)->Yz f l=Yz g l
 | [],_=>rfl
 | y::r,h=>by
  show W1 f y (Yz f r)=W1 g y (Yz g r);rw[q2y λx hx=>h x (zH _ hx)];have:∀{l:List α},(∀x∈l,f x=g x)->W1 f y l=W1 g y l:=λ{l} hl=>by
   induction l with
   | nil=>rfl
   | cons z r ih=>
    unfold W1;rw[h y zG,hl z zG,ih λx hx=>hl x (zH _ hx)]
  exact this λx hx=>h x (zH _ (q0g.mem_iff.mp hx))
theorem q9e{α:Type}{f:α->V}{g:α->vB}:∀{l:List α},(∀t∈l,RelV (f t) (g t))->Yv (l.map f) (l.map g)
 | [],_=>.nil
 | t::r,h=>.cons (h t zG) (q9e λx hx=>h x (zH _ hx))
theorem q7t:∀{xs:List V}{vs:List vB}{i:Nat}{v:vB},Yv xs vs->vs[i]?=some v->∃x,xs[i]?=some x/\RelV x v
 | _,_,i,v,.nil,h=>by simp at h
 | _,_,0,v,.cons r _,h=>by simp at h;subst h;exact⟨_,rfl,r⟩
 | _,_,i+1,v,.cons _ r,h=>by
  obtain⟨x,a,b⟩:=q7t (i:=i) r ⇑h;exact⟨x,by simpa using a,b⟩
theorem q93:∀{vs:List vB}{ns:List Int}{i:Nat}{v:vB},uC vs ns->vs[i]?=some v->ns[i]?=some (tt v)
 | _,_,i,v,.nil,h=>by simp at h
 | _,_,0,v,.cons _ _ _,h=>by simp at h;subst h;rfl
 | _,_,i+1,v,.cons _ _ r,h=>by
  have:=q93 (i:=i) r ⇑h;simpa using this
theorem q9w{xs:List V}{vs ks:List vB}{ds:List D}{kf:D->Int}(rv:Yv xs vs)(hd:ds.length=xs.length)(hk:uC ks (ds.map kf)):Yv ((Yz (λz:D×V=>kf z.1) (ds.zip xs)).map (·.2)) ((Yz (λp:vB×vB=>tt p.1) (ks.zip vs)).map (·.2)):=by
 have l1:=rv.length;have l2:=hk.length;rw[zB]at l2
 let L:=(ds.zip xs).zip (ks.zip vs)
 have e1:ds.zip xs=L.map Prod.fst:=by
  rw[YJ];rw[xU,xU];omega
 have e2:ks.zip vs=L.map Prod.snd:=by
  rw[List.map_snd_zip];rw[xU,xU];omega
 have mem:∀t∈L,kf t.1.1=tt t.2.1/\RelV t.1.2 t.2.2:=λt ht=>by
  obtain⟨i,hi⟩:=y9.mp ht;obtain⟨a1,a2⟩:=y8.mp hi;obtain⟨b1,b2⟩:=y8.mp a1;obtain⟨c1,c2⟩:=y8.mp a2;obtain⟨x,g1,g2⟩:=q7t rv c2;rw[b2]at g1;cases g1;have g3:=q93 hk c1;rw[zY,b1]at g3;exact⟨zx g3,g2⟩
 rw[e1,e2,q1I,q1I,yb,yb,q2y λt ht=>(mem t ht).1];exact q9e λt ht=>(mem t (q0g.mem_iff.mp ht)).2
section
variable{X:Cx}{pins:List (vJ×Obj)}{σ:L2.St}{G H:Hp}{s:vF}{a kS:vJ}{xs:List V}{vs:List vB}{ds:List D}{kf:D->Int}
noncomputable def apart(pins:List (vJ×Obj))(a kS:vJ)(e1:Nat)(ks:Array vB)(e:Nat):List (vJ×Obj):=pins++[(kS,vt "list" ks e),(a,vt "list" #[] e1)]
theorem q5Y(I:Inv X (apart pins a kS e1 ks e) σ H s):s.heap.get? kS=some (vt "list" ks e)/\H kS=none:=by
 have:=I.pin (kS,vt "list" ks e) (zQ _ (zQ _ zG));exact⟨this.1,this.2.1⟩
theorem q7A(I:Inv X (apart pins a kS e1 ks e) σ H s):s.heap.get? a=some (vt "list" #[] e1)/\H a=none:=by
 have:=I.pin (a,vt "list" #[] e1) (zQ _ (zQ _ (zH _ zG)));exact⟨this.1,this.2.1⟩
theorem q7Y(I:Inv X (apart pins a kS e1 ks e) σ H s):Inv X pins σ H s:=I.unpinned
theorem q8Z{e1 e:Nat}{ks:Array vB}(I:Inv X pins σ H s)(fk:WH X pins H kS)(fa:WH X pins H a)(hk:s.heap.get? kS=some (vt "list" ks e))(ha:s.heap.get? a=some (vt "list" #[] e1)):Inv X (apart pins a kS e1 ks e) σ H s :=
 I.pins_of λp hp=>by
  rcases zN.mp hp with z|z
  ·exact I.pin p (zQ _ z)
  ·rcases zF.mp z with rfl|z
   ·exact⟨hk,fk.1,fk.2.1,fk.2.2.1,λv h=>by cases h⟩
   ·cases zS.mp z
    exact⟨ha,fa.1,fa.2.1,fa.2.2.1,λv h=>by cases h⟩
theorem q7x{h:vj}{b:vJ}{ys:Array vB}{n:Nat}(q:h.get? b=some (vt "list" ys n))(f:Array vB->Array vB):∃n',(h.update b (Obj.mapSeq f)).get? b=some (vt "list" (f ys) n'):=⟨_,get?_update_seq q f⟩
theorem q56{H':Hp}{b:vJ}(h:WH X pins H b)(n:H' b=none):WH X pins H' b:=⟨n,h.2⟩
theorem q8B{st:vg}{ks:Array vB}{e e1:Nat}{P:PySem.Fin->vF->Prop}{E:vB->vF->Prop}{A:ve}(I:Inv X (apart pins a kS e1 ks e) σ H s)(ne:kS≠a)(fk:WH X pins H kS)(fa:WH X pins H a)(rv:Yv xs vs)(hd:ds.length=xs.length)(hk:uC ks.toList (ds.map kf))(h64:vs.length<64)(ho:(vM st).toList=Yz (λp:vT=>tt p.1) (ks.toList.zip vs))(hf:uO st=none)(h:∀s',Inv X pins σ (upd H a (.lst ((Yz (λz:D×V=>kf z.1) (ds.zip xs)).map (·.2)))) s'->P (.done (.ret .none)) s'):
  vO (model X.prog X.w) A (ksk_tail a false e1 (.ref kS) st) P E s:=by
 obtain⟨qk,hk0⟩:=q5Y I;obtain⟨qa,ha0⟩:=q7A I;have I0:=q7Y I;have lk:ks.toList.length=vs.length:=by have:=hk.length;have:=rv.length;rw[zB]at *;omega
 have lo:((vM st).map (·.2)).size=vs.length:=by
  rw[YW,<- zM,ho,q7R,xU];omega
 have qa1:(s.heap.update kS (Obj.mapSeq λ_=>(#[]:Array vB))).get? a=some (vt "list" #[] e1):=(zk _ _ ne).trans qa;obtain⟨c2,qa2⟩:=q7x qa1 (λ_=>(vM st).map (·.2));have sv:=q9w rv hd hk;have el:((vM st).map (·.2)).toList=(Yz (λp:vB×vB=>tt p.1) (ks.toList.zip vs)).map (·.2):=by rw[Array.toList_map,ho]
 unfold ksk_tail
 try dsimp only
 refine vA (uk qk rfl (vA (sQ (vA (t4 qa1 rfl ?_)))) (by rw[<- zM,lk,vh];omega) (zy _));refine vA (uk qa1 rfl ?_ (zy _) (by show ((vM st).map (·.2)).size<=_;rw[lo,vh];omega));rw[hf];simp only[bne_self_eq_false,zv,if_false];refine vH (h _ ?_);have I1:=I0.turned (h':=s.heap.update kS (Obj.mapSeq λ_=>(#[]:Array vB))) (t':=s.toks) (it:=kS) (λb o hb q=>(zk _ _ (Ne.symm hb)).trans q) fk.1 fk.2.1 fk.2.2.2.1 fk.2.2.2.2.1 fk.2.2.2.2.2;refine qcf (s:={ s with heap:=s.heap.update kS (Obj.mapSeq λ_=>(#[]:Array vB)) }) (its:=((vM st).map (·.2)).toList) (n:=c2) (t':=s.toks) I1 fa (λb o hb q=>(zk _ _ (Ne.symm hb)).trans q) ?_ (by rw[el];exact sv) ?_
 ·rw[xC];exact qa2
 ·rw[sv.length,<- el,zM,lo,vh];omega
theorem qfG{ks:Array vB}{e e1:Nat}{P:PySem.Fin->vF->Prop}{E:vB->vF->Prop}{A:ve}(I:Inv X (apart pins a kS e1 ks e) σ H s)(ne:kS≠a)(fk:WH X pins H kS)(fa:WH X pins H a)(rv:Yv xs vs)(hd:ds.length=xs.length)(hk:uC ks.toList (ds.map kf))(h64:vs.length<64)(h:∀s',Inv X pins σ (upd H a (.lst ((Yz (λz:D×V=>kf z.1) (ds.zip xs)).map (·.2)))) s'->P (.done (.ret .none)) s'):
  vO (model X.prog X.w) A (ksk_end a false vs.toArray e1 (.ref kS) ks) P E s:=by
 have lk:ks.size=vs.length:=by rw[<- zM];have:=hk.length;have:=rv.length;rw[zB]at *;omega
 have lz:(ks.zip vs.toArray).size=vs.length:=by rw[Array.size_zip,lk,zP,Nat.min_self]
 have ez:(ks.zip vs.toArray).toList=ks.toList.zip vs:=ksk_zip ks vs;unfold ksk_end
 try dsimp only
 rw[vG (by decide)]
 by_cases h2:vs.toArray.size<2
 ·rw[vC h2,vC h2]
  refine vA (vH ?_);rw[StateT.run_pure];refine vA (vH (q8B (st:=SortSt.mk' general' (ks.zip vs.toArray) #[] 7 none) I ne fk fa rv hd hk h64 ?_ rfl h));show (ks.zip vs.toArray).toList=_;rw[ez];rw[zP]at h2;have l2:(ks.toList.zip vs).length<2:=by rw[xU];omega
  match ks.toList.zip vs,l2 with
  | [],_=>rfl
  | [_],_=>rfl
  | _::_::_,l2=>simp at l2;omega
 ·rw[vG h2,vG h2]
  rw[zP]at h2;rw[ksk_kind hk (by rw[lk];omega)];refine vA (vH (vA (vq (q9I (a₀:=ks.zip vs.toArray) (st:=SortSt.mk' uB (ks.zip vs.toArray) #[] 7 none)
   (Q:=λ_ st'=>(vM st').Perm (ks.zip vs.toArray)/\uO st'=none/\ue (vM st') (ks.zip vs.toArray).size/\zAo (vM st').toList (ks.zip vs.toArray).toList)
   (ksk_intKeys hk) ⟨Zk _,rfl,rfl,rfl⟩ rfl (by rw[lz];omega) (by rw[lz];exact h64) λst' b1 b2 b3 b4=>⟨b1,b2,b3,b4⟩) ?_ λ_ _ z=>z)))
  rintro⟨⟨⟩,st'⟩ s' ⟨rfl,b1,b2,b3,b4⟩
  try dsimp only
  refine q8B I ne fk fa rv hd hk h64 ?_ b2 h;rw[qfP b1 b3 b4,ez]
theorem qdm{k:Nat}{f:vJ}{fd:vQ}{ps:List Str}{m:List D->Option O}{e1:Nat}{P:PySem.Fin->vF->Prop}{E:vB->vF->Prop}(F:FnOk X.prog X.w X.K X.mg X.base CX0 k f fd ps (spD X.K 1 m))(hr:Room (k+2) X.A)(hb:Binds X.K fd ps [])(I:Inv X (apart pins a kS e1 #[] 0) σ H s)(ne:kS≠a)(fk:WH X pins H kS)(fa:WH X pins H a)(sg:Y0 G H)(rp:Yo X.K G ds xs)(rv:Yv xs vs)(h64:vs.length<64)(hm:∀d∈ds,m [d]=↥(.int (kf d)))(h:∀G' H' s',Ext G H G' H'->H' a=none->Inv X pins σ (upd H' a (.lst ((Yz (λz:D×V=>kf z.1) (ds.zip xs)).map (·.2)))) s'->P (.done (.ret .none)) s'):
  vO (model X.prog X.w) X.A.in1.in1 (ksk_rest a (.ref f) false vs.toArray e1 (.ref kS)) P E s:=by
 have ld:ds.length=xs.length:=rp.len;have lv:xs.length=vs.length:=rv.length;unfold ksk_rest;refine vA (uD ?_);rw[List.forIn_toArray];refine vA (ksk_fold (λi s'=>∃G' H' ks e,Inv X (apart pins a kS e1 ks e) σ H' s'/\Ext G H G' H'/\uC ks.toList ((ds.map kf).take i)) vs 0 s
  ⟨G,H,#[],0,I,Ext.refl sg,by simpa using IntsAre.nil⟩ ?turn ?done)
 case turn=>
  rintro j x s' hx ⟨G',H',ks,e,I',x',hk⟩;simp only[yq]at hk ⊢;have hj:j<vs.length:=(zh.mp hx).1;obtain⟨y,hy,ry⟩:=q7t rv hx;have hdj:ds[j]?=some ds[j]:=zD ∅;obtain⟨y',hy',rd⟩:=rp.get hdj;rw[hy]at hy';cases hy';have lks:ks.size<=vs.length:=by
   have:=hk.length;rw[zM,zf]at this;omega
  refine vA (uT (vq (qfK (Q:=λv H2=>v=.int (kf ds[j])/\∃G2,Ext G H G2 H2) (E:=λ_ _ _=>False) (E':=λ_ _=>False) F hr hb I' (.cons ry .nil) ?_) (λu s2 he=>?_) λ_ _ z=>False.elim z))
  ·exact⟨G',[ds[j]],_,hm _ (yW ∅),rfl,x'.gh,Yo.cons (rd.mono x'.gg) Yo.nil,λv G2 H2 x2 y2=>⟨y2,G2,x'.trans x2⟩⟩
  ·obtain⟨v,H2,I2,rvu,rfl,G2,x2⟩:=he
   obtain⟨t2,rfl⟩:∃t,u=.int (kf ds[j]) t:=by
    obtain⟨t,z⟩:=rvu;exact⟨t,z⟩
   try dsimp only
   obtain⟨qk,hk0⟩:=q5Y I2;obtain⟨qa,ha0⟩:=q7A I2;obtain⟨c2,qk2⟩:=q7x qk (·.push (.int (kf ds[j]) t2));have fk2:=q56 fk hk0;refine vA (uk qk rfl (vH ⟨rfl,G2,H2,ks.push (.int (kf ds[j]) t2),c2,?_,x2,?_⟩) (by rw[vh];omega) (by rw[Zh,vh];omega))
   ·have I3:=(q7Y I2).turned (h':=s2.heap.update kS (Obj.mapSeq (·.push (.int (kf ds[j]) t2)))) (t':=s2.toks) (it:=kS) (λb o hb q=>(zk _ _ (Ne.symm hb)).trans q) fk2.1 fk2.2.1 fk2.2.2.2.1 fk2.2.2.2.2.1 fk2.2.2.2.2.2
    exact q8Z I3 fk2 (q56 fa ha0) qk2 ((zk _ _ ne).trans qa)
   ·have ek:(ds.map kf).take (j+1)=(ds.map kf).take j++[kf ds[j]]:=by
     rw[List.take_add_one,zY,hdj];rfl
    have ea:(ks.push (Value.int (kf ds[j]) t2)).toList=ks.toList++[Value.int (kf ds[j]) t2]:=by simp
    rw[ea,ek];exact ksk_snoc hk
 case done=>
  rintro s' ⟨G',H',ks,e,I',x',hk⟩;rw[yl (by rw[zB];omega)]at hk;obtain⟨qk,hk0⟩:=q5Y I';obtain⟨qa,ha0⟩:=q7A I'
  try dsimp only
  exact vA (sL qk rfl (qfG I' ne (q56 fk hk0) (q56 fa ha0) rv ld hk h64 λs2 I2=>h G' H' s2 x' ha0 I2))
end
section
variable{X:Cx}{pins:List (vJ×Obj)}{σ:L2.St}{G H:Hp}{s:vF}{a:vJ}{xs:List V}{vs:List vB}{ds:List D}{kf:D->Int}{k:Nat}{f:vJ}{fd:vQ}{ps:List Str}{m:List D->Option O}
theorem qdx{n:Nat}{P:PySem.Fin->vF->Prop}{E:vB->vF->Prop}(F:FnOk X.prog X.w X.K X.mg X.base CX0 k f fd ps (spD X.K 1 m))(hr:Room (k+2) X.A)(hb:Binds X.K fd ps [])(I:Inv X pins σ H s)(fa:WH X pins H a)(qa:s.heap.get? a=some (vt "list" vs.toArray n))(sg:Y0 G H)(rp:Yo X.K G ds xs)(rv:Yv xs vs)(h64:vs.length<64)(hm:∀d∈ds,m [d]=some (.sh (.int (kf d))))(h:∀G' H' s',Ext G H G' H'->H' a=none->Inv X pins σ (upd H' a (.lst ((Yz (λz:D×V=>kf z.1) (ds.zip xs)).map (·.2)))) s'->P (.done (.ret .none)) s'):
  vO (model X.prog X.w) X.A.in1.in1 (ksk_tree a (.ref f) false) P E s:=by
 obtain⟨e1,qa1⟩:=q7x qa (λ_=>(#[]:Array vB));have la:a<s.heap.objs.size:=zO qa;have I3:=I.turned (h':=s.heap.update a (Obj.mapSeq λ_=>(#[]:Array vB))) (t':=s.toks) (it:=a) (λb o hb q=>(zk _ _ (Ne.symm hb)).trans q) fa.1 fa.2.1 fa.2.2.2.1 fa.2.2.2.2.1 fa.2.2.2.2.2;have I4:=I3.kept (h':=(s.heap.update a (Obj.mapSeq λ_=>(#[]:Array vB))).push (vt "tuple" vs.toArray 0)) (t':=s.toks) λb u q=>zE _ q;have fk:=I4.fpOk (zK _) (I4.hok.fresh (zK _));have I5:=I4.kept (h':=((s.heap.update a (Obj.mapSeq λ_=>(#[]:Array vB))).push (vt "tuple" vs.toArray 0)).push (vt "list" #[] 0)) (t':=s.toks) λb u q=>zE _ q;have qa5:(((s.heap.update a (Obj.mapSeq λ_=>(#[]:Array vB))).push (vt "tuple" vs.toArray 0)).push (vt "list" #[] 0)).get? a=some (vt "list" #[] e1):=zE _ (zE _ qa1);have hn:((s.heap.update a (Obj.mapSeq λ_=>(#[]:Array vB))).push (vt "tuple" vs.toArray 0)).objs.size=s.heap.objs.size+1:=by rw[size_push',xM]
 have I6:=q8Z (e:=0) (ks:=#[]) I5 fk fa (zR _ rfl) qa5;have z64:vs.toArray.size<=sizeLine:=by rw[zP,vh];omega
 unfold ksk_tree;refine vA (sL qa rfl (vA (uk qa rfl (vA (t4 qa1 rfl (vA (tI (vA (uj (vn ?_) (zy _))) ⇑z64)))) z64 (zy _))));exact qdm F hr hb I6 (by rw[hn];exact xr (yR la)) fk fa sg rp rv h64 hm h
theorem qbk{p:vJ}{Q:VK}{E:vB->vF->Prop}(F:FnOk X.prog X.w X.K X.mg X.base CX0 k f fd ps (spD X.K 1 m))(hr:Room (k+2) X.A)(hb:Binds X.K fd ps [])(I:Inv X pins σ H s)(hp:H p=some (.lst xs))(sg:Y0 G H)(rp:Yo X.K G ds xs)(h64:xs.length<64)(hm:∀d∈ds,m [d]=↥(.int (kf d)))(q:∀G' H' l,Ext G H G' H'->H' l=none->H l=none->Q (.ref l) (upd H' l (.lst ((Yz (λz:D×V=>kf z.1) (ds.zip xs)).map (·.2))))):
  vO (model X.prog X.w) X.A (call (.builtin "sorted") [.ref p] [(Str.ofString "key", .ref f)]) (EP X pins σ Q) E s:=by
 obtain⟨vs,n0,rv,e0,_⟩:=I.lst hp;have lv:xs.length=vs.length:=rv.length;have z64:vs.length<=sizeLine:=by rw[vh];omega
 have hn:((s.heap.push (vt "list" #[] 0)).update s.heap.objs.size (Obj.mapSeq (·++vs.toArray))).objs.size=s.heap.objs.size+1:=by rw[xM,size_push']
 have keep:∀b o,s.heap.get? b=some o->(((s.heap.push (vt "list" #[] 0)).update s.heap.objs.size (Obj.mapSeq (·++vs.toArray))).push (vt "list" vs.toArray 0)).get? b=some o:=λb o z=>by
  have lt:b<s.heap.objs.size:=zO z;exact zE _ ((zk _ _ (xr lt)).trans (zE _ z))
 have I2:=I.kept (t':=s.toks) keep;have fa:WH X pins H (s.heap.objs.size+1):=I.fpOk (yx _) (I.hok.fresh (yx _));have qa:(((s.heap.push (vt "list" #[] 0)).update s.heap.objs.size (Obj.mapSeq (·++vs.toArray))).push (vt "list" vs.toArray 0)).get? (s.heap.objs.size+1)=some (vt "list" vs.toArray 0):=by
  rw[<- hn];exact zR _ rfl
 refine call_function_entry_kw tj tU tV (ksk_s1 _ _) ?_;unfold Builtin.«sorted»;apply vA (m:=sF "sorted" 1 1 _);apply vH;refine vA (collect_list ⟨_,e0,rfl,n0,rfl⟩ (vA (uj ?_ z64)) z64);show vO _ _ _ _ _ { s with heap:=((s.heap.push (vt "list" #[] 0)).update s.heap.objs.size (Obj.mapSeq (·++vs.toArray))).push (vt "list" vs.toArray 0) };rw[hn];refine vA (vn (wpAny_call_entry_kw slot_list_sort ⟨_,qa,rfl⟩ entry_list_sort ?go (ksk_l1 _ _)))
 case go=>
  show vO (model X.prog X.w) X.A.in1.in1 (Builtin.«list.sort» ⟨[.ref (s.heap.objs.size+1)],[(Str.ofString "key", .ref f)]⟩) _ _ _;rw[ksk_t1];refine qdx F hr hb I2 fa qa sg rp rv ∅ hm λG' H' s' x' hn' I'=>⟨_,rfl,?_⟩;exact vH ⟨_,rfl,.ref _,_,I',rfl,q G' H' _ x' hn' fa.1⟩
theorem q8Y{K:zA}{G:Hp}:∀{l:List (D×V)},(∀t∈l,Rep K G t.1 t.2)->Yo K G (l.map (·.1)) (l.map (·.2))
 | [],_=>rfl
 | t::r,h=>Yo.cons (h t zG) (q8Y λx hx=>h x (zH _ hx))
theorem qbt{K:zA}{G:Hp}{ds:List D}{xs:List V}{kf:D->Int}(h:Yo K G ds xs):Yo K G (Yz kf ds) ((Yz (λz:D×V=>kf z.1) (ds.zip xs)).map (·.2)):=by
 have l:=h.len;have e:ds=(ds.zip xs).map Prod.fst:=by rw[YJ];omega
 have mem:∀t∈ds.zip xs,Rep K G t.1 t.2:=λt ht=>by
  obtain⟨i,hi⟩:=y9.mp ht;obtain⟨a1,a2⟩:=y8.mp hi;obtain⟨v,b1,b2⟩:=h.get a1;rw[a2]at b1;cases b1;exact b2
 have e2:Yz kf ds=(Yz (λz:D×V=>kf z.1) (ds.zip xs)).map (·.1):=by
  conv=>lhs;rw[e]
  rw[q1I]
 rw[e2];exact q8Y λt ht=>mem t (q0g.mem_iff.mp ht)
noncomputable def zBT(m:List D->Option O)(d:D):Int:=match m [d]with
 | ↥(.int k)=>k
 | _=>0
noncomputable def keyOk(m:List D->Option O)(d:D):Bool:=match m [d]with
 | ↥(.int _)=>true
 | _=>false
theorem qeb{m:List D->Option O}{d:D}(h:keyOk m d=true):m [d]=↥(.int (zBT m d)):=by
 unfold keyOk at h;unfold zBT
 split at h
 ·rename_i k e;rw[e]
 ·cases h
noncomputable def tSortK(K:zA)(m:List D->Option O)(te:TE):TE:=λσ H Q=>te σ H λv H1=>∃p xs G ds,v=.ref p/\H1 p=some (.lst xs)/\Y0 G H1/\Yo K G ds xs/\xs.length<64/\(∀d∈ds,keyOk m d=true) /\
 ∀G' H' l,Ext G H1 G' H'->H' l=none->H1 l=none->Q (.ref l) (upd H' l (.lst ((Yz (λz:D×V=>zBT m z.1) (ds.zip xs)).map (·.2))))
def askK(K:zA)(m:List D->Option O)(Q:VK):V->Hp->Prop:=λv H1=>∃p xs G ds,v=.ref p/\H1 p=some (.lst xs)/\Y0 G H1/\Yo K G ds xs/\xs.length<64/\(∀d∈ds,keyOk m d=true) /\
 ∀G' H' l,Ext G H1 G' H'->H' l=none->H1 l=none->Q (.ref l) (upd H' l (.lst ((Yz (λz:D×V=>zBT m z.1) (ds.zip xs)).map (·.2))))
def one1(R:V->Hp->Prop):List V->Hp->Prop:=λus H1=>match us with
 | [v]=>R v H1
 | _=>False
theorem qfd{R:V->Hp->Prop}{us:List V}{H1:Hp}(h:one1 R us H1):∃v,us=[v]/\R v H1:=by
 unfold one1 at h
 split at h
 ·exact⟨_,rfl,h⟩
 ·exact h.elim
theorem qe0{e:vX}{te:TE}{x:Str}{p p2 p3 pos:Pos}{k0:Nat}(c:Cal X.prog X.w X.K X.mg X.base k f fd x ps 1 m)(hr:Room k0 X.A)(hg:Gl X "sorted")(hm:X.mg "sorted" = none)(hx:Gl X x)(he:PE X e te)(hk:k+2<=k0)(hd:(x==("__debug__" : Str))=false:=by decide)(hs:vK [e] X.env=(false,eval e X.env)::vK [] X.env:=by rfl)(h1:vk pos (vK [e] X.env)=(false,eval e X.env)::vk pos (vK [] X.env):=by rfl)(h2:(vk pos (vK [e] X.env)).any (·.1)=false:=by rfl)(h3:(uN pos (v4 [⟨some (Str.ofString "key"),.Name x p2,p3⟩] X.env)).all (·.1.isSome)=true:=by rfl)(h4:(uN pos (v4 [⟨some (Str.ofString "key"),.Name x p2,p3⟩] X.env)).any (·.1.isNone)=false:=by rfl)(h5:(uN pos (v4 [⟨some (Str.ofString "key"),.Name x p2,p3⟩] X.env)).filterMap (·.1)=[Str.ofString "key"]:=by rfl):
  PE X (.Call (.Name "sorted" p) [e] [⟨some (Str.ofString "key"),.Name x p2,p3⟩] pos) (tSortK X.K m te):=by
 intro pins s σ H Q I h;refine v3 (q0b I hg hm q1L ?_ (by decide) (by decide));refine callWith_kw (thn (qt he qr hs pos pins s σ H (one1 (askK X.K m Q)) I h) λus s1 ⟨ws,H1,I1,r1,q1⟩=>?_) h1 h2 h3 h4;obtain⟨v,rfl,p,xs,G,ds,rfl,b1,b2,b3,b4,b5,b6⟩:=qfd q1;obtain⟨u,rfl,ru⟩:=vals1 r1;cases ru;refine thn (qfl (kpos:=p3) (nm:=some (Str.ofString "key")) (qeL (v:=.ref f) hx c.2.1 rfl hd) qgc pos pins s1 σ H1 (λzs H2=>zs=[.ref f]/\H2=H1) I1 ⟨rfl,rfl⟩) λzs s2 ⟨ys,H2,I2,rz,e1,e2⟩=>?_;subst e1;subst e2;obtain⟨u,rfl,ru⟩:=vals1 rz;cases ru;rw[h5];exact qbk c.1 (hr.mono hk) c.2.2.2 I2 b1 b2 b3 b4 (λd hd=>qeb (b5 d hd)) b6
end
noncomputable def zB9(m:List D->Option O):D->Option R
 | .lst ds=>if ds.length<64/\ds.all (keyOk m)=true then some (.fr (Yz (zBT m) ds))else none
 | _=>none
noncomputable def zBA(m:List D->Option O)(f:FD):FE:=λω=>(f ω).bind (zB9 m)
theorem qd3{X:Cx}{k:Nat}{f:vJ}{fd:vQ}{ps:List Str}{m:List D->Option O}{e:vX}{fe:FD}{x:Str}{p p2 p3 pos:Pos}{k0:Nat}(c:Cal X.prog X.w X.K X.mg X.base k f fd x ps 1 m)(hr:Room k0 X.A)(hm:X.mg "sorted" = none)(he:XV X e fe)(hg:Gl X "sorted" := by exact rfl)(hx:Gl X x:=by exact rfl)(hk:k+2<=k0:=by decide)(hd:(x==("__debug__" : Str))=false:=by decide)(hs:vK [e] X.env=(false,eval e X.env)::vK [] X.env:=by rfl)(h1:vk pos (vK [e] X.env)=(false,eval e X.env)::vk pos (vK [] X.env):=by rfl)(h2:(vk pos (vK [e] X.env)).any (·.1)=false:=by rfl)(h3:(uN pos (v4 [⟨some (Str.ofString "key"),.Name x p2,p3⟩] X.env)).all (·.1.isSome)=true:=by rfl)(h4:(uN pos (v4 [⟨some (Str.ofString "key"),.Name x p2,p3⟩] X.env)).any (·.1.isNone)=false:=by rfl)(h5:(uN pos (v4 [⟨some (Str.ofString "key"),.Name x p2,p3⟩] X.env)).filterMap (·.1)=[Str.ofString "key"]:=by rfl):
  XE X (.Call (.Name "sorted" p) [e] [⟨some (Str.ofString "key"),.Name x p2,p3⟩] pos) (zBA m fe):=by
 obtain⟨t,g1,g2⟩:=he;refine⟨_,qe0 c hr hg hm hx g1 hk hd hs h1 h2 h3 h4 h5,λG0 H0 G ω σ H r Q o er kk=>?_⟩;obtain⟨d,q,er⟩:=bnd er;refine g2 G0 H0 G ω σ H d _ o q λv G1 H1 x1 y1=>?_;cases d with
 | lst ds=>
  have er':(if ds.length<64/\ds.all (keyOk m)=true then some (R.fr (Yz (zBT m) ds))else none)=some r:=er
  by_cases z:ds.length<64/\ds.all (keyOk m)=true
  ·rw[vC z]at er'
   cases er';obtain⟨p,vs,rfl,w1,w2⟩:=y1.lst x1.gh;refine⟨p,vs,G1,ds,rfl,w1,x1.gh,w2,by rw[<- w2.len];exact z.1,xL.mp z.2,λG2 H2 l x2 n2 n1=>?_⟩;have x3:=Ext.hide x2.gh n2 (.lst ((Yz (λz:D×V=>zBT m z.1) (ds.zip vs)).map (·.2)));exact kk _ G2 _ ((x1.trans x2).trans x3) ⟨l,_,rfl,x1.hh.free n1,x2.gh.free n2,qe,qbt (w2.mono x2.gg)⟩
  ·rw[vG z]at er';cases er'
 | _=>cases er
end Hk
namespace Hk
open PySem L2
noncomputable def skR(m:List D->Option O)(o:Option D):Option R:=o.bind (zB9 m)
section
variable{m:List D->Option O}{f:FD}{ω:WSt}{d:D}{i:Nat}{ks:List Int}{ds:List D}
theorem q3s:zBA m f ω=skR m (f ω):=rfl
theorem q4O:iDk i ω=zBl ω[i]?:=rfl
theorem q4b:zBl (some ↥(.dic ks ds))=some (ks.map D.int):=rfl
theorem qhs(h:ds.length<64)(h':∀d∈ds,keyOk m d=true):skR m (some (.lst ds))=some (.fr (Yz (zBT m) ds)):=vC ⟨h,xL.mpr h'⟩
end
noncomputable def zBf:D->D->Option R
 | .lst xs,.int k=>if (0<=k/\k<=1000)/\xs.length<=1000 then some (.fr (zj k.toNat xs).flatten)else none
 | _,_=>none
theorem Yo.rep{K:zA}{H:Hp}{ds:List D}{vs:List V}(h:Yo K H ds vs):∀n:Nat,Yo K H (zj n ds).flatten (zj n vs).flatten
 | 0=>rfl
 | n+1=>by
  rw[z8,z8,yF,yF];exact h.app (h.rep n)
theorem qfD{K:zA}:OpV K rRep zBf:=by
 intro G H x y d v u Q s e hx hy k
 match x,y,e with
 | .lst xs,.int n,e=>
  unfold zBf at e
  dsimp only at e
  by_cases z:(0<=n/\n<=1000)/\xs.length<=1000
  ·rw[vC z]at e
   cases e;obtain⟨a,vs,rfl,h1,h2⟩:=hx.lst s;cases hy.int;have hz:vs.length*n.toNat<=sizeLine:=by
    rw[<- h2.len];have:=Nat.mul_le_mul z.2 (show n.toNat<=1000 by omega);rw[vh];omega
   refine⟨a,n,vs,rfl,rfl,h1,∅,∅,hz,λp hp=>?_⟩;exact k _ G _ (Ext.hide s hp _) ⟨p,_,rfl,hp,s.free hp,qe,h2.rep _⟩
  ·rw[vG z]at e;cases e
section
variable{X:Cx}{a b:vX}{pos:Pos}{f g:FD}
theorem qgJ(ha:XV X a f)(hb:XV X b g):XE X (.BinOp a .Mult b pos) (Yn zBf f g):=q2p qgM qfD ha hb
end
theorem qcj{ds:List D}{k:Int}(h0:0<=k)(h1:k<=1000)(h2:ds.length<=1000):zBf (.lst ds) (.int k)=some (.fr (zj k.toNat ds).flatten):=vC ⟨⟨h0,h1⟩,h2⟩
def rIdx:V->List V->Hp->VK->Prop:=λx vs H Q=>∃(l:vJ) (ns:List Int) (k:Int) (j:Nat),x=.ref l/\vs=[.int k]/\H l=some (.lst (ns.map V.int))/\zAi k ns=some j/\Q (.int (j:Int)) H
theorem qd0{X:Cx}:MtM X "list.index" rIdx:=by
 intro pins s σ H x vs v us Q I rx rv h;obtain⟨l,ns,k,j,rfl,rfl,hH,hj,q⟩:=h;cases rx;obtain⟨u,rfl,ru⟩:=rv.one;obtain⟨t,rfl⟩:=ru;obtain⟨z,its,n,r,hl,e⟩:=I.lstM hH;obtain⟨e1,e2⟩:=q7b (k:=k) r;rw[hj]at e2;obtain⟨a,b,c⟩:=Z1 e2;refine uo F.slot_list_index ⟨_,e,rfl⟩ F.entry_list_index (F.args_list_index_2 _ _)
  (MeetsSeq.list_index l its.toArray n (.int k t) (PyProof.Rows.isInt k) (λy hy=>Yb e1 y ⇑hy) j ⇑a (by have:=Wm;omega) ⇑b (λi hi hlt=>(by simpa using c i ⇑hi hlt))) ⟨e,?_⟩
 exact⟨.int (j:Int),H,I.tok _,⟨_,rfl⟩,q⟩
noncomputable def idxD:D->D->Option R
 | .lst ds,.int k=>(intsOf ds).bind λns=>(zAi k ns).map λ(j:Nat)=>.sh (.int (j:Int))
 | _,_=>none
noncomputable def fIdx(f g:FD):FE:=λω=>(f ω).bind λd=>(g ω).bind λc=>idxD d c
section
variable{X:Cx}{o e:vX}{apos cpos:Pos}{f g:FD}
theorem qdZ(ho:XV X o f)(he:XD X e g)(hbase:uG o "index" X.env (eval o X.env)=eval o X.env:=by rfl)(hfew:((vk cpos (vK [e] X.env)).all (λx=>!x.1)&&(uN cpos (v4 [] X.env)).all (λx=>x.1.isSome)
   && decide (([e]:List vX).length+([]:List uP).length+(if ([]:List uP).isEmpty then 0 else 1)<30))=true:=by rfl)
  (hline:(apos.endLine==cpos.line)=true:=by rfl) (hs:vK [e] X.env=(false,eval e X.env)::vK [] X.env:=by rfl) (hplain:(vk cpos (vK [] X.env)).any (·.1)=false:=by rfl) :
  XE X (.Call (.Attribute o "index" apos) [e] [] cpos) (fIdx f g):=by
 obtain⟨t,h1,h2⟩:=ho;obtain⟨u,h3,h4⟩:=he;refine⟨_,q1X PySem.F.plainAttrs_list PySem.F.slot_list_index PySem.F.type_list_index qd0 h1 (qt h3 qr hs) hbase hfew hline hs hplain,λG0 H0 G ω σ H r Q ow e kk=>?_⟩;obtain⟨d,q1,e⟩:=bnd e;obtain⟨c,q2,e⟩:=bnd e;obtain⟨ds,k,rfl,rfl,e⟩:∃ds k,d=.lst ds/\c=.int k/\((intsOf ds).bind λns=>(zAi k ns).map λ(j:Nat)=>R.sh (.int (j:Int)))=some r:=by
  cases d with
  | lst ds=>
   cases c with
   | int k=>exact⟨ds,k,rfl,rfl,e⟩
   | _=>cases e
  | _=>cases e
 obtain⟨ns,q3,e⟩:=bnd e;obtain⟨j,q4,e⟩:=mpd e;subst e;have hds:=q0y q3;subst hds;refine h2 G0 H0 G ω σ H _ _ ow q1 λv G1 H1 x1 y1=>?_;obtain⟨p,vs,rfl,g1,g2⟩:=y1.lst x1.gh;have hv:=g2.of_ints;subst hv;refine⟨.inl ⟨rfl,_,SqL.of g1⟩,h4 G0 H0 G1 ω σ H1 _ _ (ow.keep x1) q2 λw G2 H2 x2 y2=>?_⟩;cases (show w=.int k from y2);exact⟨p,ns,k,j,rfl,rfl,x2.hh _ _ g1,q4,kk _ G2 H2 (x1.trans x2) rfl⟩
end
end Hk
namespace So
open PySem PyProof.Rows
noncomputable def zCI:Bool->vT->Array vT->Nat->Nat->Nat->StateT vg Sem (Option Nat):=sortPriv% PySem.Builtin.gallop
noncomputable def bey(left:Bool)(k:Int)(arr:Array vT)(i:Nat):Bool:=if left=true then decide (K arr i<k)else !decide (k<K arr i)
section
variable{prog:vW}{w:vZ}{A:ve}{E:vB->vF->Prop}{s:vF}
theorem q9h{arr:Array vT}(h0:IntKeys arr){i:Nat}(hi:i<arr.size):∃p t q,arr[i]?=some p/\p=(Value.int (K arr i) t,q):=by
 have hm:arr[i]∈arr.toList:=by simp
 obtain⟨n,t,hn⟩:=h0 _ hm;have e:arr[i]?=some arr[i]:=getElem?_pos _ i hi;have e2:arr[i]=(Value.int n t,arr[i].2):=Prod.ext hn rfl;refine⟨_,t,arr[i].2,e,?_⟩;unfold K;rw[e,e2];rfl
theorem zAd{st:vg}{a b:Int}{t u:Tok}{p q:vB}{Q:Option Bool->vg->Prop}(hk:kindOf st=uB)(h:Q (some (decide (a<b))) st):wpS (model prog w) A E s (lt' (.int a t,p) (.int b u,q)) Q st:=by
 rw[lt'_eq];refine vL (um ?_);rw[hk,keyLt'_oneType];refine vL (u4 (uT (oneLt_int ⟨rfl,?_⟩)));exact vN h
theorem Yt{st:vg}{arr:Array vT}{i:Nat}{p:vT}{Q:vT->vg->Prop}(h:arr[i]?=some p)(hq:Q p st):wpS (model prog w) A E s (elem' arr i) Q st:=by
 rw[elem'_eq,h];exact vN hq
theorem WV{st:vg}{left:Bool}{k:Int}{t:Tok}{q:vB}{arr:Array vT}{i:Nat}{Q:Option Bool->vg->Prop}(h0:IntKeys arr)(hi:i<arr.size)(hk:kindOf st=uB)(h:Q (some (bey left k arr i)) st):
  wpS (model prog w) A E s (do let x <- elem' arr i;if left=true then lt' x (.int k t,q)else do let l <- lt' (.int k t,q) x;pure (Option.map (λx=>!x) l)) Q st:=by
 obtain⟨p,u,r,e1,rfl⟩:=q9h h0 hi;refine vL (Yt e1 ?_);cases left with
 | true=>exact zAd hk h
 | false=>exact vL (zAd hk (vN h))
theorem XN{left:Bool}{k:Int}{arr:Array vT}{i j:Nat}(h:K arr i<=K arr j)(hj:bey left k arr j=true):bey left k arr i=true:=by
 unfold bey at *;cases left with
 | true=>simp only[if_true,decide_eq_true_eq]at *;omega
 | false=>simp only[zv,if_false,YC,decide_eq_false_iff_not]at *;omega
theorem XL{left:Bool}{k:Int}{t:Tok}{q:vB}{arr:Array vT}{base n hint:Nat}{st:vg}{Q:Option Nat->vg->Prop}(h0:IntKeys arr)(hk:kindOf st=uB)(hsz:base+n<=arr.size)(hh:hint<n)(hs:∀i j,i<=j->j<n->K arr (base+i)<=K arr (base+j))(h:∀m,m<=n->(∀i,i<m->bey left k arr (base+i)=true)->(∀i,m<=i->i<n->bey left k arr (base+i)=false)->Q (some m) st):wpS (model prog w) A E s (zCI left (.int k t,q) arr base n hint) Q st:=by
 refine vL (WV (k:=k) h0 ∅ hk ?_)
 dsimp only
 cases hr:bey left k arr (base+hint)with
 | true=>
  rw[vC rfl];refine vL (uA (vi (I:=λx c st'=>st'=st/\∃lo of,c=(none,lo,of)/\hint+lo<n/\bey left k arr (base+(hint+lo))=true/\lo<of/\x+1<=of) (Q:=λc st'=>st'=st/\∃lo of,c=(none,lo,of)/\hint+lo<n/\bey left k arr (base+(hint+lo))=true/\lo<of/\(of>=n-hint\/bey left k arr (base+(hint+of))=false)) ?_ ?_ ⟨rfl,0,1,rfl,∅,hr,∅,∅⟩) ?_)
  ·rintro x c st' _ hx ⟨rfl,lo,of,rfl,b1,b2,b3,b4⟩
   dsimp only
   by_cases z:of>=n-hint
   ·rw[vC z]
    exact vN ⟨rfl,lo,of,rfl,b1,b2,b3,.inl z⟩
   ·rw[vG z]
    refine vL (WV (k:=k) h0 ∅ hk ?_)
    dsimp only
    cases hb:bey left k arr (base+(hint+of))with
    | true=>
     rw[vG (by decide)];exact vN ⟨rfl,of,2*of+1,rfl,∅,hb,∅,∅⟩
    | false=>
     rw[vC (by decide)];exact vN ⟨rfl,lo,of,rfl,b1,b2,b3,.inr hb⟩
  ·rintro c st' ⟨rfl,lo,of,rfl,b1,b2,b3,b4⟩
   exact⟨rfl,lo,of,rfl,b1,b2,b3,.inl ∅⟩
  ·rintro c st' ⟨rfl,lo,of,rfl,b1,b2,b3,b4⟩
   dsimp only
   refine vL (uA (Q:=λc st2=>st2=st'/\∃lo hi,c=(none,lo,hi)/\lo<=hi/\hi<=n/\hi-lo<=0/\(∀i,i<lo->bey left k arr (base+i)=true)/\(∀i,hi<=i->i<n->bey left k arr (base+i)=false)) ?_ ?_)
   ·refine vi (I:=λx c st2=>st2=st'/\∃lo hi,c=(none,lo,hi)/\lo<=hi/\hi<=n/\hi-lo<=n-x/\(∀i,i<lo->bey left k arr (base+i)=true)/\(∀i,hi<=i->i<n->bey left k arr (base+i)=false)) ?_ ?_ ?_
    ·rintro x c st2 _ hx ⟨e2,lo,hi,rfl,b1,b2,b3,b4,b5⟩
     subst e2
     dsimp only
     by_cases z:lo>=hi
     ·rw[vC z]
      exact vN ⟨rfl,lo,hi,rfl,∅,b2,∅,b4,b5⟩
     ·rw[vG z]
      refine vL (WV (k:=k) h0 ∅ hk ?_)
      dsimp only
      cases hb:bey left k arr (base+(lo+(hi-lo)/2))with
      | true=>
       rw[vC rfl];refine vN ⟨rfl,_,_,rfl,∅,b2,∅,λi hi'=>?_,b5⟩;exact XN (hs _ _ (show i<=lo+(hi-lo)/2 by omega) ∅) hb
      | false=>
       rw[vG (by decide)];refine vN ⟨rfl,_,_,rfl,∅,∅,∅,b4,λi hi' hin=>?_⟩;cases hc:bey left k arr (base+i)with
       | false=>rfl
       | true=>rw[XN (hs _ _ hi' hin) hc]at hb;cases hb
    ·rintro c st2 ⟨e2,lo,hi,rfl,b1,b2,b3,b4,b5⟩
     exact⟨e2,lo,hi,rfl,b1,b2,∅,b4,b5⟩
    refine⟨rfl,_,_,rfl,∅,∅,∅,λi hi=>?_,λi hi hin=>?_⟩
    ·exact XN (hs _ _ ∅ b1) b2
    ·rcases b4 with b4|b4
     ·omega
     ·cases hc:bey left k arr (base+i)with
      | false=>rfl
      | true=>rw[XN (hs (hint+of) i ∅ hin) hc]at b4;cases b4
   ·rintro c st2 ⟨e2,lo,hi,rfl,c1,c2,c3,c4,c5⟩
    subst e2;exact vN (h hi c2 (λi hi'=>c4 i ∅) c5)
 | false=>
  rw[vG (by decide)];refine vL (uA (vi (I:=λx c st'=>st'=st/\∃lo of,c=(none,lo,of)/\lo<=hint/\bey left k arr (base+(hint-lo))=false/\lo<of/\x+1<=of) (Q:=λc st'=>st'=st/\∃lo of,c=(none,lo,of)/\lo<=hint/\bey left k arr (base+(hint-lo))=false/\lo<of/\(of>=hint+1\/bey left k arr (base+(hint-of))=true)) ?_ ?_ ⟨rfl,0,1,rfl,∅,hr,∅,∅⟩) ?_)
  ·rintro x c st' _ hx ⟨rfl,lo,of,rfl,b1,b2,b3,b4⟩
   dsimp only
   by_cases z:of>=hint+1
   ·rw[vC z]
    exact vN ⟨rfl,lo,of,rfl,b1,b2,b3,.inl z⟩
   ·rw[vG z]
    refine vL (WV (k:=k) h0 ∅ hk ?_)
    dsimp only
    cases hb:bey left k arr (base+(hint-of))with
    | true=>
     rw[vC rfl];exact vN ⟨rfl,lo,of,rfl,b1,b2,b3,.inr hb⟩
    | false=>
     rw[vG (by decide)];exact vN ⟨rfl,of,2*of+1,rfl,∅,hb,∅,∅⟩
  ·rintro c st' ⟨rfl,lo,of,rfl,b1,b2,b3,b4⟩
   exact⟨rfl,lo,of,rfl,b1,b2,b3,.inl ∅⟩
  ·rintro c st' ⟨rfl,lo,of,rfl,b1,b2,b3,b4⟩
   dsimp only
   refine vL (uA (Q:=λc st2=>st2=st'/\∃lo hi,c=(none,lo,hi)/\lo<=hi/\hi<=n/\hi-lo<=0/\(∀i,i<lo->bey left k arr (base+i)=true)/\(∀i,hi<=i->i<n->bey left k arr (base+i)=false)) ?_ ?_)
   ·refine vi (I:=λx c st2=>st2=st'/\∃lo hi,c=(none,lo,hi)/\lo<=hi/\hi<=n/\hi-lo<=n-x/\(∀i,i<lo->bey left k arr (base+i)=true)/\(∀i,hi<=i->i<n->bey left k arr (base+i)=false)) ?_ ?_ ?_
    ·rintro x c st2 _ hx ⟨e2,lo,hi,rfl,b1,b2,b3,b4,b5⟩
     subst e2
     dsimp only
     by_cases z:lo>=hi
     ·rw[vC z]
      exact vN ⟨rfl,lo,hi,rfl,∅,b2,∅,b4,b5⟩
     ·rw[vG z]
      refine vL (WV (k:=k) h0 ∅ hk ?_)
      dsimp only
      cases hb:bey left k arr (base+(lo+(hi-lo)/2))with
      | true=>
       rw[vC rfl];refine vN ⟨rfl,_,_,rfl,∅,b2,∅,λi hi'=>?_,b5⟩;exact XN (hs _ _ (show i<=lo+(hi-lo)/2 by omega) ∅) hb
      | false=>
       rw[vG (by decide)];refine vN ⟨rfl,_,_,rfl,∅,∅,∅,b4,λi hi' hin=>?_⟩;cases hc:bey left k arr (base+i)with
       | false=>rfl
       | true=>rw[XN (hs _ _ hi' hin) hc]at hb;cases hb
    ·rintro c st2 ⟨e2,lo,hi,rfl,b1,b2,b3,b4,b5⟩
     exact⟨e2,lo,hi,rfl,b1,b2,∅,b4,b5⟩
    refine⟨rfl,_,_,rfl,∅,∅,∅,λi hi=>?_,λi hi hin=>?_⟩
    ·rcases b4 with b4|b4
     ·omega
     ·exact XN (hs _ _ ∅ ∅) b4
    ·cases hc:bey left k arr (base+i)with
     | false=>rfl
     | true=>rw[XN (hs (hint-lo) i ∅ hin) hc]at b2;cases b2
   ·rintro c st2 ⟨e2,lo,hi,rfl,c1,c2,c3,c4,c5⟩
    subst e2;exact vN (h hi c2 (λi hi'=>c4 i ∅) c5)
end
noncomputable def ke(p:vT):Int:=tt p.1
abbrev Le(x y:vT):Prop:=ke x<=ke y
abbrev Srt(l:List vT):Prop:=l.Pairwise Le
structure Mg (al bl out:List vT) (i j:Nat):Prop where
 perm:(out++(al.drop i++bl.drop j)).Perm (al++bl)
 srt:Srt out
 lea:∀x∈out,∀y∈al.drop i,Le x y
 leb:∀x∈out,∀y∈bl.drop j,Le x y
structure Done (al bl r:List vT):Prop where
 perm:r.Perm (al++bl)
 srt:Srt r
variable{al bl out:List vT}{i j:Nat}
theorem XH(h:Srt al)(k:Nat):Srt (al.drop k):=h.sublist (Z5 k al)
theorem zAX(l:List vT)(i k:Nat):l.drop i=(l.drop i).take k++l.drop (i+k):=by
 rw[<- ZB,z7]
theorem Mg.a(m:Mg al bl out i j)(sa:Srt al)(k:Nat)(h:∀x∈(al.drop i).take k,∀y∈bl.drop j,Le x y):Mg al bl (out++(al.drop i).take k) (i+k) j:=by
 have e:=zAX al i k;have sd:Srt ((al.drop i).take k++al.drop (i+k)):=by rw[<- e];exact XH sa i
 obtain⟨s1,s2,s3⟩:=zW.mp sd;have hin:∀y∈(al.drop i).take k,y∈al.drop i:=λy hy=>xZ hy;have hout:∀y∈al.drop (i+k),y∈al.drop i:=λy hy=>by rw[e];exact zQ _ hy
 refine⟨?_,?_,λx hx y hy=>?_,λx hx y hy=>?_⟩
 ·have:out++(al.drop i).take k++(al.drop (i+k)++bl.drop j)=out++(al.drop i++bl.drop j):=by
   rw[zJ,<- zJ ((al.drop i).take k),<- e]
  rw[this];exact m.perm
 ·exact zW.mpr ⟨m.srt,s1,λx hx y hy=>m.lea x hx y (hin y hy)⟩
 ·rcases zN.mp hx with hx|hx
  ·exact m.lea x hx y (hout y hy)
  ·exact s3 x hx y hy
 ·rcases zN.mp hx with hx|hx
  ·exact m.leb x hx y hy
  ·exact h x hx y hy
theorem Mg.b(m:Mg al bl out i j)(sb:Srt bl)(k:Nat)(h:∀x∈(bl.drop j).take k,∀y∈al.drop i,Le x y):Mg al bl (out++(bl.drop j).take k) i (j+k):=by
 have e:=zAX bl j k;have sd:Srt ((bl.drop j).take k++bl.drop (j+k)):=by rw[<- e];exact XH sb j
 obtain⟨s1,s2,s3⟩:=zW.mp sd;have hin:∀y∈(bl.drop j).take k,y∈bl.drop j:=λy hy=>xZ hy;have hout:∀y∈bl.drop (j+k),y∈bl.drop j:=λy hy=>by rw[e];exact zQ _ hy
 refine⟨?_,?_,λx hx y hy=>?_,λx hx y hy=>?_⟩
 ·refine yy ?_ m.perm
  rw[zJ];refine yL out ?_;refine yy ?_ (yL (al.drop i) (List.Perm.of_eq e.symm));rw[<- zJ,<- zJ];exact yv _ yh
 ·exact zW.mpr ⟨m.srt,s1,λx hx y hy=>m.leb x hx y (hin y hy)⟩
 ·rcases zN.mp hx with hx|hx
  ·exact m.lea x hx y hy
  ·exact h x hx y hy
 ·rcases zN.mp hx with hx|hx
  ·exact m.leb x hx y (hout y hy)
  ·exact s3 x hx y hy
theorem Mg.done(m:Mg al bl out i j)(sa:Srt al)(sb:Srt bl)(h:∀x∈al.drop i,∀y∈bl.drop j,Le x y):Done al bl (out++al.drop i++bl.drop j):=by
 refine⟨by rw[zJ];exact m.perm,?_⟩;rw[zJ];exact zW.mpr ⟨m.srt,zW.mpr ⟨XH sa i,XH sb j,h⟩,λx hx y hy=>(zN.mp hy).elim (m.lea x hx y) (m.leb x hx y)⟩
theorem Mg.last(m:Mg al bl out i j)(sa:Srt al)(sb:Srt bl)(h:∀y∈bl.drop j,∀x∈al.drop i,Le y x):Done al bl (out++bl.drop j++al.drop i):=by
 refine⟨?_,?_⟩
 ·rw[zJ]
  exact(yL out yh).trans m.perm
 ·rw[zJ]
  exact zW.mpr ⟨m.srt,zW.mpr ⟨XH sb j,XH sa i,h⟩,λx hx y hy=>(zN.mp hy).elim (m.leb x hx y) (m.lea x hx y)⟩
noncomputable def zBw:Array vT->Array vT->StateT vg Sem (Array vT):=sortPriv% PySem.Builtin.mergeLo
structure Kp (st st':vg):Prop where
 kind:kindOf st'=kindOf st
 arr:vM st'=vM st
 pend:vc st'=vc st
 fail:uO st'=uO st
theorem Kp.refl(st:vg):Kp st st:=⟨rfl,rfl,rfl,rfl⟩
theorem zBP{xs:Array vT}{i:Nat}{p:vT}(h:xs[i]?=some p):K xs i=ke p:=by unfold K ke;rw[h]
theorem drop_one{xs:Array vT}{i:Nat}{p:vT}(h:xs[i]?=some p):xs.toList.drop i=p::xs.toList.drop (i+1):=by
 obtain⟨hi,e⟩:=ZD.mp h;rw[y0 ⇑hi]
 congr 1
theorem Wj{xs:Array vT}{i:Nat}:(xs.extract i xs.size).toList=xs.toList.drop i:=by
 rw[xX,xx];exact yl (by simp)
theorem zAY{xs:Array vT}{i k:Nat}:(xs.extract i (i+k)).toList=(xs.toList.drop i).take k:=by
 simp[xX,List.extract_eq_drop_take]
theorem WG{l:List vT}(s:Srt l){i:Nat}{p:vT}{t:List vT}(h:l.drop i=p::t):∀y∈l.drop i,Le p y:=by
 have:=XH s i;rw[h]at this ⊢;intro y hy;rcases zF.mp hy with rfl|hy
 ·exact yG _
 ·exact(zd.mp this).1 y hy
theorem zAa{xs:Array vT}{i:Nat}(h:xs.size<=i):xs.toList.drop i=[]:=List.drop_eq_nil_of_le ⇑h
theorem Mg.b1{a b out:Array vT}{i j:Nat}{p q:vT}(m:Mg a.toList b.toList out.toList i j)(sa:Srt a.toList)(sb:Srt b.toList)(hp:b[j]?=some p)(hq:a[i]?=some q)(h:Le p q):Mg a.toList b.toList (out.push p).toList i (j+1):=by
 have e:=drop_one hp;have:=m.b sb 1 (by
  rw[e];intro x hx y hy;have:x=p:=by simpa using hx
  subst this;exact yT h (WG sa (drop_one hq) y hy))
 rw[e]at this;simpa using this
theorem Mg.a1{a b out:Array vT}{i j:Nat}{p q:vT}(m:Mg a.toList b.toList out.toList i j)(sa:Srt a.toList)(sb:Srt b.toList)(hp:a[i]?=some p)(hq:b[j]?=some q)(h:Le p q):Mg a.toList b.toList (out.push p).toList (i+1) j:=by
 have e:=drop_one hp;have:=m.a sa 1 (by
  rw[e];intro x hx y hy;have:x=p:=by simpa using hx
  subst this;exact yT h (WG sb (drop_one hq) y hy))
 rw[e]at this;simpa using this
theorem Mg.dB{a b out:Array vT}{i j:Nat}(m:Mg a.toList b.toList out.toList i j)(sa:Srt a.toList)(sb:Srt b.toList)(h:b.size<=j):Done a.toList b.toList (out++a.extract i a.size++b.extract j b.size).toList:=by
 have:=m.done sa sb (λx _ y hy=>by rw[zAa h]at hy;cases hy);rw[yD,yD,Wj,Wj];exact this
theorem Mg.dA{a b out:Array vT}{i j:Nat}(m:Mg a.toList b.toList out.toList i j)(sa:Srt a.toList)(sb:Srt b.toList)(h:a.size<=i):Done a.toList b.toList (out++a.extract i a.size++b.extract j b.size).toList:=by
 have:=m.done sa sb (λx hx=>by rw[zAa h]at hx;cases hx);rw[yD,yD,Wj,Wj];exact this
theorem Mg.dL{a b out:Array vT}{i j:Nat}(m:Mg a.toList b.toList out.toList i j)(sa:Srt a.toList)(sb:Srt b.toList)(hl:∀y∈b.toList,∀x∈a.toList.drop (a.size-1),Le y x)(h:i+1=a.size):Done a.toList b.toList (out++b.extract j b.size++a.extract i a.size).toList:=by
 have:=m.last sa sb (λy hy x hx=>hl y (xE hy) x (by rw[show a.size-1=i by omega];exact hx));rw[yD,yD,Wj,Wj];exact this
end So
set_option maxHeartbeats 1000000
namespace So
open PySem PyProof.Rows
section
variable{prog:vW}{w:vZ}{A:ve}{E:vB->vF->Prop}{s:vF}
theorem Y3{xs:Array vT}{i:Nat}(h0:IntKeys xs)(h:i<xs.size):∃t q,xs[i]?=some (Value.int (K xs i) t,q):=by
 obtain⟨p,t,q,e,rfl⟩:=q9h h0 h;exact⟨t,q,e⟩
theorem zBU{xs:Array vT}(hs:Srt xs.toList){i j:Nat}(h1:i<=j)(h2:j<xs.size):K xs i<=K xs j:=by
 have e1:xs[i]?=some xs[i]:=getElem?_pos _ i ∅;have e2:xs[j]?=some xs[j]:=getElem?_pos _ j h2;rw[zBP e1,zBP e2];rcases zw i j with z|z
 ·exact yQ.mp hs i j (by simp;omega) ⇑h2 z
 ·have:i=j:=∅
  subst this;exact yG _
noncomputable def zCC:Nat->StateT vg Sem Unit:=sortPriv% PySem.Builtin.setMinGallop
theorem Kp.trans{a b c:vg}(h:Kp a b)(h':Kp b c):Kp a c:=⟨h'.kind.trans h.kind,h'.arr.trans h.arr,h'.pend.trans h.pend,h'.fail.trans h.fail⟩
theorem Xo{g:Nat}{st:vg}{Q:Unit->vg->Prop}(h:∀st',Kp st st'->Q () st'):wpS (model prog w) A E s (zCC g) Q st:=uZ (h _ ⟨rfl,rfl,rfl,rfl⟩)
theorem zAn{xs:Array vT}{i k:Nat}{v:Int}(h:∀t,t<k->i+t<xs.size->K xs (i+t)<=v):∀x∈(xs.toList.drop i).take k,ke x<=v:=by
 intro x hx;obtain⟨t,ht,e⟩:=zg.mp hx;rw[xG,xY]at e;rw[zf,yI]at ht;have hl:i+t<xs.size:=by simp at ht;omega
 have e2:xs[i+t]?=some x:=by rw[getElem?_pos xs (i+t) hl,<- e];rfl
 have:=h t ∅ hl;rw[zBP e2]at this;exact this
theorem zAA{k:Int}{xs:Array vT}{i:Nat}:(bey false k xs i=true->K xs i<=k)/\(bey false k xs i=false->k<K xs i):=by
 unfold bey;simp only[zv,if_false,YC,decide_eq_false_iff_not,Bool.not_eq_false',decide_eq_true_eq];exact⟨λh=>∅,id⟩
theorem zAD{k:Int}{xs:Array vT}{i:Nat}:(bey true k xs i=true->K xs i<k)/\(bey true k xs i=false->k<=K xs i):=by
 unfold bey;simp only[if_true,decide_eq_true_eq,decide_eq_false_iff_not];exact⟨id,λh=>∅⟩
theorem zAM{a b:Array vT}{st:vg}{Q:Array vT->vg->Prop}(ha:IntKeys a)(hb:IntKeys b)(sa:Srt a.toList)(sb:Srt b.toList)(na:1<=a.size)(nb:1<=b.size)(h1:K b 0<=K a 0)(hl:∀y∈b.toList,∀x∈a.toList.drop (a.size-1),Le y x)(hk:kindOf st=uB)(h:∀r st',Done a.toList b.toList r.toList->Kp st st'->Q r st'):wpS (model prog w) A E s (zBw a b) Q st:=by
 refine vL (u4 (uD ⟨rfl,?_⟩));obtain⟨t0,q0,eb0⟩:=Y3 hb (show 0<b.size by omega);obtain⟨u0,r0,ea0⟩:=Y3 ha (show 0<a.size by omega);refine vL (Yt eb0 ?_);have m0:Mg a.toList b.toList (#[]:Array vT).toList 0 0:=⟨by simp,xF,λx hx=>by simp at hx,λx hx=>by simp at hx⟩;have m1:=m0.b1 sa sb eb0 ea0 (show K b 0<=K a 0 from h1);have m1:Mg a.toList b.toList (#[(Value.int (K b 0) t0,q0)]:Array vT).toList 0 1:=m1
 dsimp only
 by_cases z1:b.size=1
 ·rw[vC (by rw[z1];rfl)]
  exact vN (h _ st (m1.dB sa sb ∅) (Kp.refl st))
 rw[vG (by simp;omega)]
 by_cases z2:a.size=1
 ·rw[vC (by rw[z2];rfl)]
  exact vN (h _ st (m1.dL sa sb hl ∅) (Kp.refl st))
 rw[vG (by simp;omega)];refine vL (um ?_);refine vL (uA (vi
  (I:=λx c st'=>∃o i j g,c=(none,o,i,j,g)/\Mg a.toList b.toList o.toList i j/\i+1<a.size/\j<b.size/\x+1<=i+j/\Kp st st')
  (Q:=λc st'=>∃r z,c=(some r,z)/\Done a.toList b.toList r.toList/\Kp st st') ?_ ?_ ⟨_,_,_,_,rfl,m1,∅,∅,∅,Kp.refl st⟩) ?_)
 ·rintro x c st1 _ hx ⟨o,i,j,g,rfl,m,b1,b2,b3,kp⟩
  dsimp only
  refine vL (uA (vi
   (I:=λy c st'=>∃o' i' j' ac bc,c=(none,o',i',j',ac,bc)/\Mg a.toList b.toList o'.toList i' j'/\i'+1<a.size/\j'<b.size/\i+j+y<=i'+j'/\Kp st st')
   (Q:=λc st'=>(∃r z,c=(some r,z)/\Done a.toList b.toList r.toList/\Kp st st')\/∃o' i' j' ac bc,c=(none,o',i',j',ac,bc)/\Mg a.toList b.toList o'.toList i' j'/\i'+1<a.size/\j'<b.size/\i+j+1<=i'+j'/\Kp st st') ?_ ?_ ⟨_,_,_,_,_,rfl,m,b1,b2,∅,kp⟩) ?_)
  ·rintro y c st2 _ hy ⟨o',i',j',ac,bc,rfl,m',d1,d2,d3,kp'⟩
   dsimp only
   obtain⟨t1,q1,eb⟩:=Y3 hb d2;obtain⟨u1,r1,ea⟩:=Y3 ha (show i'<a.size by omega);have hk':kindOf st2=uB:=kp'.kind.trans hk;refine vL (Yt eb (vL (Yt ea (vL (zAd hk' ?_)))))
   dsimp only
   by_cases hw:K b j'<K a i'
   ·rw[vU hw,vC rfl]
    have m2:=m'.b1 sa sb eb ea (show K b j'<=K a i' by omega);refine vL (Yt eb ?_)
    by_cases z:j'+1=b.size
    ·rw[vC (by rw[z];exact beq_self_eq_true _)]
     exact vN (.inl ⟨_,_,rfl,m2.dB sa sb ∅,kp'⟩)
    ·rw[vG ⇑z]
     split
     ·exact vN (.inr ⟨_,_,_,_,_,rfl,m2,d1,∅,∅,kp'⟩)
     ·exact vN ⟨_,_,_,_,_,rfl,m2,d1,∅,∅,kp'⟩
   ·rw[vS hw,vG (by decide)]
    have m2:=m'.a1 sa sb ea eb (show K a i'<=K b j' by omega);refine vL (Yt ea ?_)
    by_cases z:i'+1+1=a.size
    ·rw[vC (by rw[z];exact beq_self_eq_true _)]
     exact vN (.inl ⟨_,_,rfl,m2.dL sa sb hl z,kp'⟩)
    ·rw[vG ⇑z]
     split
     ·exact vN (.inr ⟨_,_,_,_,_,rfl,m2,∅,d2,∅,kp'⟩)
     ·exact vN ⟨_,_,_,_,_,rfl,m2,∅,d2,∅,kp'⟩
  ·rintro c st2 ⟨o',i',j',ac,bc,rfl,m',d1,d2,d3,kp'⟩
   omega
  ·rintro c st2 (⟨r,z,rfl,dn,kp'⟩|⟨o',i',j',ac,bc,rfl,m',d1,d2,d3,kp'⟩)
   ·exact vN ⟨r,_,rfl,dn,kp'⟩
   ·dsimp only
    refine vL (u4 (uD ⟨rfl,?_⟩));refine vL (uA (vi
     (I:=λy c st'=>∃o2 i2 j2 g2 ac bc,c=(none,o2,i2,j2,g2,ac,bc)/\Mg a.toList b.toList o2.toList i2 j2/\i2+1<a.size/\j2<b.size/\i'+j'+y<=i2+j2/\Kp st st')
     (Q:=λc st'=>(∃r z,c=(some r,z)/\Done a.toList b.toList r.toList/\Kp st st')\/∃o2 i2 j2 g2 ac bc,c=(none,o2,i2,j2,g2,ac,bc)/\Mg a.toList b.toList o2.toList i2 j2/\i2+1<a.size/\j2<b.size/\i'+j'<=i2+j2/\Kp st st') ?_ ?_ ⟨_,_,_,_,_,_,rfl,m',d1,d2,∅,kp'⟩) ?_)
    ·rintro y c st3 _ hy ⟨o2,i2,j2,g2,ac2,bc2,rfl,m2,e1,e2,e3,kp3⟩
     dsimp only
     obtain⟨t2,q2,eb⟩:=Y3 hb e2;obtain⟨u2,r2,ea⟩:=Y3 ha (show i2<a.size by omega)
     by_cases hg:g2>1
     case' pos=>rw[vC hg]
     case' neg=>rw[vG hg]
     all_goals
      refine vL (Xo λst4 kp4=>?_);replace kp4:=kp3.trans kp4;have hk4:kindOf st4=uB:=kp4.kind.trans hk;refine vL (Yt eb ?_);refine vL (XL (k:=K b j2) ha hk4 ∅ ∅ (λs t h1 h2=>zBU sa ∅ ∅) λk g1 g2 g3=>?_)
      dsimp only
      by_cases hk0:k>0
      case' pos=>
       rw[vC hk0];have mA:=m2.a sa k (λx hx y hy=>yT (zAn (v:=K b j2) (λt h1 h2=>zAA.1 (g2 t h1)) x hx) (WG sb (drop_one eb) y hy));have mA:Mg a.toList b.toList (o2++a.extract i2 (i2+k)).toList (i2+k) j2:=by rw[yD,zAY];exact mA
       by_cases z:i2+k+1=a.size
       ·rw[vC (by rw[z];exact beq_self_eq_true _)]
        exact vN (.inl ⟨_,_,rfl,mA.dL sa sb hl z,kp4⟩)
       rw[vG ⇑z]
       by_cases z':i2+k=a.size
       ·rw[vC (by rw[z'];exact beq_self_eq_true _)]
        exact vN (.inl ⟨_,_,rfl,mA.dA sa sb ∅,kp4⟩)
       rw[vG ⇑z'];have i1:i2+k+1<a.size:=∅
       have hlt:K b j2<=K a (i2+k):=ym (zAA.2 (g3 k (zK _) ∅));have le1:i2<=i2+k:=∅
       generalize o2++a.extract i2 (i2+k)=oA at mA ⊢;generalize i2+k=iA at mA i1 hlt le1 ⊢
      case' neg=>
       rw[vG hk0];have mA:=m2;have i1:i2+1<a.size:=e1;have hlt:K b j2<=K a i2:=ym (zAA.2 (g3 0 ∅ ∅));generalize o2=oA at mA ⊢;generalize hiA:i2=iA at mA i1 hlt ⊢;have le1:i2<=iA:=∅
      all_goals
       obtain⟨u3,r3,eA⟩:=Y3 ha (show iA<a.size by omega);have mB:=mA.b1 sa sb eb eA hlt;refine vL (Yt eb ?_)
       by_cases z3:j2+1=b.size
       ·rw[vC (by rw[z3];exact beq_self_eq_true _)]
        exact vN (.inl ⟨_,_,rfl,mB.dB sa sb ∅,kp4⟩)
       rw[vG ⇑z3];refine vL (Yt eA ?_);refine vL (XL (k:=K a iA) hb hk4 ∅ ∅ (λs t h1 h2=>zBU sb ∅ ∅) λk2 p1 p2 p3=>?_)
       dsimp only
       by_cases hk2:k2>0
       case' pos=>
        rw[vC hk2];have mC:=mB.b sb k2 (λx hx y hy=>yT (zAn (v:=K a iA) (λt h1 h2=>ym (zAD.1 (p2 t h1))) x hx) (WG sa (drop_one eA) y hy));rw[<- zAY,<- yD]at mC
        by_cases z4:j2+1+k2=b.size
        ·rw[vC (by rw[z4];exact beq_self_eq_true _)]
         exact vN (.inl ⟨_,_,rfl,mC.dB sa sb ∅,kp4⟩)
        rw[vG ⇑z4];have j1:j2+1+k2<b.size:=∅
        have hle:K a iA<=K b (j2+1+k2):=zAD.2 (p3 k2 (zK _) ∅);have le2:j2+1<=j2+1+k2:=∅
        generalize oA.push (Value.int (K b j2) t2,q2)++b.extract (j2+1) (j2+1+k2)=oB at mC ⊢;generalize j2+1+k2=jB at mC j1 hle le2 ⊢
       case' neg=>
        rw[vG hk2];have mC:=mB;have j1:j2+1<b.size:=∅
        have hle:K a iA<=K b (j2+1):=zAD.2 (p3 0 ∅ ∅);generalize oA.push (Value.int (K b j2) t2,q2)=oB at mC ⊢;generalize hjB:j2+1=jB at mC j1 hle ⊢;have le2:j2+1<=jB:=∅
       all_goals
        obtain⟨t5,q5,eB⟩:=Y3 hb j1;have mD:=mC.a1 sa sb eA eB hle;refine vL (Yt eA ?_)
        by_cases z5:iA+1+1=a.size
        ·rw[vC (by rw[z5];exact beq_self_eq_true _)]
         exact vN (.inl ⟨_,_,rfl,mD.dL sa sb hl z5,kp4⟩)
        rw[vG ⇑z5]
        by_cases z6:(decide (k<7)&&decide (k2<7))=true
        ·rw[vC z6]
         exact vN (.inr ⟨_,_,_,_,_,_,rfl,mD,∅,j1,∅,kp4⟩)
        ·rw[vG z6]
         exact vN ⟨_,_,_,_,_,_,rfl,mD,∅,j1,∅,kp4⟩
    ·rintro c st3 ⟨o2,i2,j2,g2,ac2,bc2,rfl,m2,e1,e2,e3,kp3⟩
     omega
    ·rintro c st3 (⟨r,z,rfl,dn,kp3⟩|⟨o2,i2,j2,g2,ac2,bc2,rfl,m2,e1,e2,e3,kp3⟩)
     ·exact vN ⟨r,_,rfl,dn,kp3⟩
     ·dsimp only
      refine vL (Xo λst4 kp4=>?_);exact vN ⟨_,_,_,_,rfl,m2,e1,e2,∅,kp3.trans kp4⟩
 ·rintro c st1 ⟨o,i,j,g,rfl,m,b1,b2,b3,kp⟩
  omega
 ·rintro c st1 ⟨r,z,rfl,dn,kp⟩
  exact vN (h r st1 dn kp)
end
end So
set_option maxHeartbeats 1000000
namespace So
open PySem PyProof.Rows
structure Mh (al bl out:List vT) (i j:Nat):Prop where
 perm:(al.take i++(bl.take j++out.reverse)).Perm (al++bl)
 srt:Srt out.reverse
 lea:∀x∈al.take i,∀y∈out,Le x y
 leb:∀x∈bl.take j,∀y∈out,Le x y
theorem XC{l:List vT}(h:Srt l)(k:Nat):Srt (l.take k):=h.sublist (ZH k l)
theorem zBQ(l:List vT){i k:Nat}(h:k<=i):l.take i=l.take k++(l.take i).drop k:=by
 have:=(z7 k (l.take i)).symm;rw[wM,wo h]at this;exact this
variable{al bl out:List vT}{i j:Nat}
theorem Mh.a(m:Mh al bl out i j)(sa:Srt al){k:Nat}(hk:k<=i)(h:∀x∈bl.take j,∀y∈(al.take i).drop k,Le x y):Mh al bl (out++((al.take i).drop k).reverse) k j:=by
 have e:=zBQ al hk;have sd:Srt (al.take k++(al.take i).drop k):=by rw[<- e];exact XC sa i
 obtain⟨s1,s2,s3⟩:=zW.mp sd;refine⟨?_,?_,λx hx y hy=>?_,λx hx y hy=>?_⟩
 ·rw[xK,xD]
  refine yy ?_ m.perm;have e2:al.take i++(bl.take j++out.reverse)=al.take k++((al.take i).drop k++(bl.take j++out.reverse)):=by rw[<- zJ (al.take k),<- e]
  rw[e2];refine yL _ ?_;rw[<- zJ,<- zJ];exact yv _ yh
 ·rw[xK,xD]
  exact zW.mpr ⟨s2,m.srt,λx hx y hy=>m.lea x (xE hx) y (yf.mp hy)⟩
 ·rcases zN.mp hy with hy|hy
  ·exact m.lea x (by rw[e];exact zV _ hx) y hy
  ·exact s3 x hx y (yf.mp hy)
 ·rcases zN.mp hy with hy|hy
  ·exact m.leb x hx y hy
  ·exact h x hx y (yf.mp hy)
theorem Mh.b(m:Mh al bl out i j)(sb:Srt bl){k:Nat}(hk:k<=j)(h:∀x∈al.take i,∀y∈(bl.take j).drop k,Le x y):Mh al bl (out++((bl.take j).drop k).reverse) i k:=by
 have e:=zBQ bl hk;have sd:Srt (bl.take k++(bl.take j).drop k):=by rw[<- e];exact XC sb j
 obtain⟨s1,s2,s3⟩:=zW.mp sd;refine⟨?_,?_,λx hx y hy=>?_,λx hx y hy=>?_⟩
 ·rw[xK,xD]
  have e2:bl.take k++((bl.take j).drop k++out.reverse)=bl.take j++out.reverse:=by rw[<- zJ (bl.take k),<- e]
  rw[e2];exact m.perm
 ·rw[xK,xD]
  exact zW.mpr ⟨s2,m.srt,λx hx y hy=>m.leb x (xE hx) y (yf.mp hy)⟩
 ·rcases zN.mp hy with hy|hy
  ·exact m.lea x hx y hy
  ·exact h x hx y (yf.mp hy)
 ·rcases zN.mp hy with hy|hy
  ·exact m.leb x (by rw[e];exact zV _ hx) y hy
  ·exact s3 x hx y (yf.mp hy)
theorem Mh.done(m:Mh al bl out i j)(sa:Srt al)(sb:Srt bl)(h:∀x∈al.take i,∀y∈bl.take j,Le x y):Done al bl (al.take i++bl.take j++out.reverse):=by
 refine⟨by rw[zJ];exact m.perm,?_⟩;refine zW.mpr ⟨zW.mpr ⟨XC sa i,XC sb j,h⟩,m.srt,λx hx y hy=>?_⟩;exact(zN.mp hx).elim (λhx=>m.lea x hx y (yf.mp hy)) (λhx=>m.leb x hx y (yf.mp hy))
theorem Mh.first(m:Mh al bl out i j)(sa:Srt al)(sb:Srt bl)(h:∀y∈bl.take j,∀x∈al.take i,Le y x):Done al bl (bl.take j++al.take i++out.reverse):=by
 refine⟨?_,?_⟩
 ·refine yy ?_ m.perm
  rw[<- zJ];exact yv _ yh
 ·refine zW.mpr ⟨zW.mpr ⟨XC sb j,XC sa i,h⟩,m.srt,λx hx y hy=>?_⟩
  exact(zN.mp hx).elim (λhx=>m.leb x hx y (yf.mp hy)) (λhx=>m.lea x hx y (yf.mp hy))
theorem take_one{xs:Array vT}{i:Nat}{p:vT}(h:xs[i]?=some p):(xs.toList.take (i+1)).drop i=[p]:=by
 obtain⟨hi,e⟩:=ZD.mp h;rw[ZA,y0 ⇑hi];simp[e]
theorem WF{xs:Array vT}(s:Srt xs.toList){i:Nat}{p:vT}(h:xs[i]?=some p):∀y∈xs.toList.take (i+1),Le y p:=by
 have sd:=XC s (i+1);have e:=zBQ xs.toList (show i<=i+1 by omega);rw[take_one h]at e;rw[e]at sd ⊢;intro y hy;rcases zN.mp hy with hy|hy
 ·exact(zW.mp sd).2.2 y hy p (by simp)
 ·have:y=p:=by simpa using hy
  rw[this];exact yG _
theorem Mh.a1{a b out:Array vT}{i j:Nat}{p q:vT}(m:Mh a.toList b.toList out.toList (i+1) (j+1))(sa:Srt a.toList)(sb:Srt b.toList)(hp:a[i]?=some p)(hq:b[j]?=some q)(h:Le q p):Mh a.toList b.toList (out.push p).toList i (j+1):=by
 have:=m.a sa (k:=i) ∅ (by
  rw[take_one hp];intro x hx y hy;have:y=p:=by simpa using hy
  subst this;exact yT (WF sb hq x hx) h)
 rw[take_one hp]at this;simpa using this
theorem Mh.b1{a b out:Array vT}{i j:Nat}{p q:vT}(m:Mh a.toList b.toList out.toList (i+1) (j+1))(sa:Srt a.toList)(sb:Srt b.toList)(hp:b[j]?=some p)(hq:a[i]?=some q)(h:Le q p):Mh a.toList b.toList (out.push p).toList (i+1) j:=by
 have:=m.b sb (k:=j) ∅ (by
  rw[take_one hp];intro x hx y hy;have:y=p:=by simpa using hy
  subst this;exact yT (WF sa hq x hx) h)
 rw[take_one hp]at this;simpa using this
theorem zBp{xs:Array vT}{i:Nat}:(xs.extract 0 i).toList=xs.toList.take i:=by
 rw[xX,xx];simp
theorem zAO{xs:Array vT}{i k:Nat}:(xs.extract k i).toList=(xs.toList.take i).drop k:=by
 rw[xX,xx,ZA]
theorem Mh.d0{a b out:Array vT}{i j:Nat}(m:Mh a.toList b.toList out.toList i j)(sa:Srt a.toList)(sb:Srt b.toList)(h:i=0\/j=0):Done a.toList b.toList (a.extract 0 i++b.extract 0 j++out.reverse).toList:=by
 have:=m.done sa sb (λx hx y hy=>by
  rcases h with rfl|rfl
  ·simp at hx
  ·simp at hy)
 rw[yD,yD,zBp,zBp,xp];exact this
theorem Mh.dF{a b out:Array vT}{i j:Nat}(m:Mh a.toList b.toList out.toList i j)(sa:Srt a.toList)(sb:Srt b.toList)(hf:∀y∈b.toList.take 1,∀x∈a.toList,Le y x)(h:j=1):Done a.toList b.toList (b.extract 0 j++a.extract 0 i++out.reverse).toList:=by
 have:=m.first sa sb (λy hy x hx=>hf y (by rw[h]at hy;exact hy) x (xZ hx))
 rw[yD,yD,zBp,zBp,xp];exact this
end So
set_option maxHeartbeats 1000000
namespace So
open PySem PyProof.Rows
noncomputable def zBs:Array vT->Array vT->StateT vg Sem (Array vT):=sortPriv% PySem.Builtin.mergeHi
section
variable{prog:vW}{w:vZ}{A:ve}{E:vB->vF->Prop}{s:vF}
theorem zAk{xs:Array vT}{i k:Nat}{v:Int}(h:∀t,k<=t->t<i->v<=K xs t):∀x∈(xs.toList.take i).drop k,v<=ke x:=by
 intro x hx;obtain⟨t,ht,e⟩:=zg.mp hx;rw[xY,xG]at e;rw[yI,zf]at ht;have hl:k+t<xs.size:=by simp at ht;omega
 have e2:xs[k+t]?=some x:=by rw[getElem?_pos xs (k+t) hl,<- e];rfl
 have:=h (k+t) ∅ ∅;rw[zBP e2]at this;exact this
theorem zAK{a b:Array vT}{st:vg}{Q:Array vT->vg->Prop}(ha:IntKeys a)(hb:IntKeys b)(sa:Srt a.toList)(sb:Srt b.toList)(na:1<=a.size)(nb:1<=b.size)(h1:K b (b.size-1)<=K a (a.size-1))(hf:∀y∈b.toList.take 1,∀x∈a.toList,Le y x)(hk:kindOf st=uB)(h:∀r st',Done a.toList b.toList r.toList->Kp st st'->Q r st'):wpS (model prog w) A E s (zBs a b) Q st:=by
 refine vL (u4 (uD ⟨rfl,?_⟩));obtain⟨t0,q0,ea0⟩:=Y3 ha (show a.size-1<a.size by omega);obtain⟨u0,r0,eb0⟩:=Y3 hb (show b.size-1<b.size by omega);refine vL (Yt ea0 ?_);have m0:Mh a.toList b.toList (#[]:Array vT).toList (a.size-1+1) (b.size-1+1):=by
  rw[show a.size-1+1=a.size by omega,show b.size-1+1=b.size by omega];refine⟨?_,xF,λx _ y hy=>by simp at hy,λx _ y hy=>by simp at hy⟩;rw[yl (by simp),yl (by simp)];simp
 have m1:=m0.a1 sa sb ea0 eb0 (show K b (b.size-1)<=K a (a.size-1)from h1);rw[show b.size-1+1=b.size by omega]at m1;have m1:Mh a.toList b.toList (#[(Value.int (K a (a.size-1)) t0,q0)]:Array vT).toList (a.size-1) b.size:=m1
 dsimp only
 by_cases z1:a.size-1=0
 ·rw[vC (by rw[z1];rfl)]
  exact vN (h _ st (m1.d0 sa sb (.inl z1)) (Kp.refl st))
 rw[vG ⇑z1]
 by_cases z2:b.size=1
 ·rw[vC (by rw[z2];rfl)]
  exact vN (h _ st (m1.dF sa sb hf z2) (Kp.refl st))
 rw[vG ⇑z2];refine vL (um ?_);refine vL (uA (vi
  (I:=λx c st'=>∃o i j g,c=(none,i,j,o,g)/\Mh a.toList b.toList o.toList i j/\1<=i/\2<=j/\i<=a.size/\j<=b.size/\x+1+i+j<=a.size+b.size/\Kp st st')
  (Q:=λc st'=>∃r z,c=(some r,z)/\Done a.toList b.toList r.toList/\Kp st st') ?_ ?_ ⟨_,_,_,_,rfl,m1,∅,∅,∅,∅,∅,Kp.refl st⟩) ?_)
 ·rintro x c st1 _ hx ⟨o,i,j,g,rfl,m,b1,b2,b3,b4,b5,kp⟩
  dsimp only
  refine vL (uA (vi
   (I:=λy c st'=>∃o' i' j' ac bc,c=(none,i',j',o',ac,bc)/\Mh a.toList b.toList o'.toList i' j'/\1<=i'/\2<=j'/\i'<=a.size/\j'<=b.size/\y+i'+j'<=i+j/\Kp st st')
   (Q:=λc st'=>(∃r z,c=(some r,z)/\Done a.toList b.toList r.toList/\Kp st st')\/∃o' i' j' ac bc,c=(none,i',j',o',ac,bc)/\Mh a.toList b.toList o'.toList i' j'/\1<=i'/\2<=j'/\i'<=a.size/\j'<=b.size/\1+i'+j'<=i+j/\Kp st st') ?_ ?_ ⟨_,_,_,_,_,rfl,m,b1,b2,b3,b4,∅,kp⟩) ?_)
  ·rintro y c st2 _ hy ⟨o',i',j',ac,bc,rfl,m',c1,c2,c3,c4,c5,kp'⟩
   dsimp only
   obtain⟨i',rfl⟩:∃n,i'=n+1:=⟨i'-1,∅⟩;obtain⟨j',rfl⟩:∃n,j'=n+1:=⟨j'-1,∅⟩;simp only[xP];obtain⟨t1,q1,eb⟩:=Y3 hb (show j'<b.size by omega);obtain⟨u1,r1,ea⟩:=Y3 ha (show i'<a.size by omega);have hk':kindOf st2=uB:=kp'.kind.trans hk;refine vL (Yt eb (vL (Yt ea (vL (zAd hk' ?_)))))
   dsimp only
   by_cases hw:K b j'<K a i'
   ·rw[vU hw,vC rfl]
    have m2:=m'.a1 sa sb ea eb (show K b j'<=K a i' by omega);refine vL (Yt ea ?_)
    by_cases z:i'=0
    ·rw[vC (by rw[z];rfl)]
     exact vN (.inl ⟨_,_,rfl,m2.d0 sa sb (.inl z),kp'⟩)
    ·rw[vG ⇑z]
     split
     ·exact vN (.inr ⟨_,_,_,_,_,rfl,m2,∅,∅,∅,∅,∅,kp'⟩)
     ·exact vN ⟨_,_,_,_,_,rfl,m2,∅,∅,∅,∅,∅,kp'⟩
   ·rw[vS hw,vG (by decide)]
    have m2:=m'.b1 sa sb eb ea (show K a i'<=K b j' by omega);refine vL (Yt eb ?_)
    by_cases z:j'=1
    ·rw[vC (by rw[z];rfl)]
     exact vN (.inl ⟨_,_,rfl,m2.dF sa sb hf z,kp'⟩)
    ·rw[vG ⇑z]
     split
     ·exact vN (.inr ⟨_,_,_,_,_,rfl,m2,∅,∅,∅,∅,∅,kp'⟩)
     ·exact vN ⟨_,_,_,_,_,rfl,m2,∅,∅,∅,∅,∅,kp'⟩
  ·rintro c st2 ⟨o',i',j',ac,bc,rfl,m',c1,c2,c3,c4,c5,kp'⟩
   omega
  ·rintro c st2 (⟨r,z,rfl,dn,kp'⟩|⟨o',i',j',ac,bc,rfl,m',c1,c2,c3,c4,c5,kp'⟩)
   ·exact vN ⟨r,_,rfl,dn,kp'⟩
   ·dsimp only
    refine vL (u4 (uD ⟨rfl,?_⟩));refine vL (uA (vi
     (I:=λy c st'=>∃o2 i2 j2 g2 ac bc,c=(none,i2,j2,o2,g2,ac,bc)/\Mh a.toList b.toList o2.toList i2 j2/\1<=i2/\2<=j2/\i2<=a.size/\j2<=b.size/\y+i2+j2<=i'+j'/\Kp st st')
     (Q:=λc st'=>(∃r z,c=(some r,z)/\Done a.toList b.toList r.toList/\Kp st st')\/∃o2 i2 j2 g2 ac bc,c=(none,i2,j2,o2,g2,ac,bc)/\Mh a.toList b.toList o2.toList i2 j2/\1<=i2/\2<=j2/\i2<=a.size/\j2<=b.size/\i2+j2<=i'+j'/\Kp st st') ?_ ?_ ⟨_,_,_,_,_,_,rfl,m',c1,c2,c3,c4,∅,kp'⟩) ?_)
    ·rintro y c st3 _ hy ⟨o2,i2,j2,g2,ac2,bc2,rfl,m2,e1,e2,e3,e4,e5,kp3⟩
     dsimp only
     obtain⟨jB,rfl⟩:∃n,j2=n+1:=⟨j2-1,∅⟩;simp only[xP];obtain⟨t2,q2,eb⟩:=Y3 hb (show jB<b.size by omega)
     by_cases hg:g2>1
     case' pos=>rw[vC hg]
     case' neg=>rw[vG hg]
     all_goals
      refine vL (Xo λst4 kp4=>?_);replace kp4:=kp3.trans kp4;have hk4:kindOf st4=uB:=kp4.kind.trans hk;refine vL (Yt eb ?_);refine vL (XL (k:=K b jB) ha hk4 ∅ ∅ (λs t h1 h2=>zBU sa ∅ ∅) λk g1 g2 g3=>?_);simp only[yq]at g2 g3
      dsimp only
      by_cases hk0:i2-k>0
      case' pos=>
       rw[vC hk0];have mA:=m2.a sa g1 (λx hx y hy=>yT (WF sb eb x hx) (zAk (v:=K b jB) (λt h1 h2=>ym (zAA.2 (g3 t h1 h2))) y hy));have mA:Mh a.toList b.toList (o2++(a.extract k i2).reverse).toList k (jB+1):=by rw[yD,xp,zAO];exact mA
       by_cases z:k=0
       ·rw[vC (by rw[z];rfl)]
        exact vN (.inl ⟨_,_,rfl,mA.d0 sa sb (.inl z),kp4⟩)
       rw[vG ⇑z];have hle:K a (k-1)<=K b jB:=zAA.1 (g2 (k-1) ∅);have i1:1<=k/\k<=i2:=⟨∅,g1⟩;generalize o2++(a.extract k i2).reverse=oA at mA ⊢;generalize i2-k=kA;generalize k=iA at mA hle i1 ⊢
      case' neg=>
       rw[vG hk0];have mA:=m2;have hle:K a (i2-1)<=K b jB:=zAA.1 (g2 (i2-1) ∅);have i1:1<=i2/\i2<=i2:=⟨e1,zK _⟩;generalize o2=oA at mA ⊢;generalize i2-k=kA;generalize hiA:i2=iA at mA hle ⊢;rw[hiA]at i1;have i1:1<=iA/\iA<=i2:=⟨i1.1,∅⟩
      all_goals
       obtain⟨iB,rfl⟩:∃n,iA=n+1:=⟨iA-1,∅⟩;simp only[xP]at hle ⊢;obtain⟨u3,r3,eA⟩:=Y3 ha (show iB<a.size by omega);have mB:=mA.b1 sa sb eb eA hle;refine vL (Yt eb ?_)
       by_cases z3:jB=1
       ·rw[vC (by rw[z3];rfl)]
        exact vN (.inl ⟨_,_,rfl,mB.dF sa sb hf z3,kp4⟩)
       rw[vG ⇑z3];refine vL (Yt eA ?_);refine vL (XL (k:=K a iB) hb hk4 ∅ ∅ (λs t h1 h2=>zBU sb ∅ ∅) λk2 p1 p2 p3=>?_);simp only[yq]at p2 p3
       dsimp only
       by_cases hk2:jB-k2>0
       case' pos=>
        rw[vC hk2];have mC:=mB.b sb p1 (λx hx y hy=>yT (WF sa eA x hx) (zAk (v:=K a iB) (λt h1 h2=>zAD.2 (p3 t h1 h2)) y hy));rw[<- zAO,<- xp,<- yD]at mC
        by_cases z4:k2=1
        ·rw[vC (by rw[z4];rfl)]
         exact vN (.inl ⟨_,_,rfl,mC.dF sa sb hf z4,kp4⟩)
        rw[vG ⇑z4]
        by_cases z4':k2=0
        ·rw[vC (by rw[z4'];rfl)]
         exact vN (.inl ⟨_,_,rfl,mC.d0 sa sb (.inr z4'),kp4⟩)
        rw[vG ⇑z4'];have hle2:K b (k2-1)<=K a iB:=ym (zAD.1 (p2 (k2-1) ∅));have j1:2<=k2/\k2<=jB:=⟨∅,p1⟩;generalize oA.push (Value.int (K b jB) t2,q2)++(b.extract k2 jB).reverse=oB at mC ⊢;generalize jB-k2=kB;generalize k2=jC at mC hle2 j1 ⊢
       case' neg=>
        rw[vG hk2];have mC:=mB;have hle2:K b (jB-1)<=K a iB:=ym (zAD.1 (p2 (jB-1) ∅));generalize oA.push (Value.int (K b jB) t2,q2)=oB at mC ⊢;generalize jB-k2=kB;generalize hjC:jB=jC at mC hle2 ⊢;have j1:2<=jC/\jC<=jB:=⟨∅,∅⟩
       all_goals
        obtain⟨jD,rfl⟩:∃n,jC=n+1:=⟨jC-1,∅⟩;simp only[xP]at hle2;obtain⟨t5,q5,eB⟩:=Y3 hb (show jD<b.size by omega);have mD:=mC.a1 sa sb eA eB hle2;refine vL (Yt eA ?_)
        by_cases z5:iB=0
        ·rw[vC (by rw[z5];rfl)]
         exact vN (.inl ⟨_,_,rfl,mD.d0 sa sb (.inl z5),kp4⟩)
        rw[vG ⇑z5]
        by_cases z6:(decide (kA<7)&&decide (kB<7))=true
        ·rw[vC z6]
         exact vN (.inr ⟨_,_,_,_,_,_,rfl,mD,∅,∅,∅,∅,∅,kp4⟩)
        ·rw[vG z6]
         exact vN ⟨_,_,_,_,_,_,rfl,mD,∅,∅,∅,∅,∅,kp4⟩
    ·rintro c st3 ⟨o2,i2,j2,g2,ac2,bc2,rfl,m2,e1,e2,e3,e4,e5,kp3⟩
     omega
    ·rintro c st3 (⟨r,z,rfl,dn,kp3⟩|⟨o2,i2,j2,g2,ac2,bc2,rfl,m2,e1,e2,e3,e4,e5,kp3⟩)
     ·exact vN ⟨r,_,rfl,dn,kp3⟩
     ·dsimp only
      refine vL (Xo λst4 kp4=>?_);exact vN ⟨_,_,_,_,rfl,m2,e1,e2,e3,e4,∅,kp3.trans kp4⟩
 ·rintro c st1 ⟨o,i,j,g,rfl,m,b1,b2,b3,b4,b5,kp⟩
  omega
 ·rintro c st1 ⟨r,z,rfl,dn,kp⟩
  exact vN (h r st1 dn kp)
end
end So
set_option maxHeartbeats 1000000
namespace So
open PySem PyProof.Rows
theorem zCD{P:List vT}{x y:vT}{S:List vT}{n:Nat}(h:n=P.length):(P++x::S).set n y=P++y::S:=by
 subst h;rw[List.set_append_right _ _ (zK _),wt];rfl
theorem zAb(s:Nat):∀(ys:List vT)(n:Nat)(xs:Array vT)(P M S:List vT),xs.toList=P++M++S->P.length=s+n->M.length=ys.length ->
  ((ys.zipIdx n).foldl (λa p=>a.setIfInBounds (s+p.2) p.1) xs).toList=P++ys++S
 | [],n,xs,P,M,S,h,hp,hm=>by
  have:M=[]:=ZW.mp hm;subst this;exact h
 | y::ys,n,xs,P,M,S,h,hp,hm=>by
  cases M with
  | nil=>cases hm
  | cons x M=>
   rw[List.zipIdx_cons,YM];have h2:(xs.setIfInBounds (s+n) y).toList=(P++[y])++M++S:=by
    rw[ZE,h];have:P++x::M++S=P++x::(M++S):=by simp
    rw[this,zCD ∅];simp
   rw[zAb s ys (n+1) _ (P++[y]) M S h2 (by simp;omega) ⇑hm];simp
section
variable{prog:vW}{w:vZ}{A:ve}{E:vB->vF->Prop}{s:vF}
theorem WP{xs ys:Array vT}(h:IntKeys xs)(hs:∀p∈ys.toList,p∈xs.toList):IntKeys ys:=λp hp=>h p (hs p hp)
theorem zBL{X M Y:List vT}(h1:Srt X)(h2:Srt M)(h3:Srt Y)(h12:∀x∈X,∀y∈M,Le x y)(h13:∀x∈X,∀y∈Y,Le x y)(h23:∀x∈M,∀y∈Y,Le x y):Srt (X++M++Y) :=
 zW.mpr ⟨zW.mpr ⟨h1,h2,h12⟩,h3,λx hx y hy=>(zN.mp hx).elim (λhx=>h13 x hx y hy) (λhx=>h23 x hx y hy)⟩
theorem zCU{σ:Type}{M:Model}{x:σ}{Q:PUnit->σ->Prop}{st:σ}(h:Q ⟨⟩ x):wpS M A E s (set x:StateT σ Sem PUnit) Q st:=by
 unfold wpS;rw[StateT.run_set];exact vH ⟨rfl,h⟩
theorem zCF{arr:Array vT}{P X S:List vT}{s0 t:Nat}(hl:arr.toList=P++X++S)(hp:P.length=s0)(ht:t<X.length):arr[s0+t]?=X[t]?:=by
 rw[<- zZ,hl,zJ,zX ∅,show s0+t-P.length=t by omega,ze ht]
theorem We{arr:Array vT}{P X S:List vT}{s0 t:Nat}(hl:arr.toList=P++X++S)(hp:P.length=s0)(ht:t<X.length):K arr (s0+t)=ke X[t]:=by
 have:=zCF hl hp ht;rw[zD ht]at this;exact zBP this
theorem Ww{arr:Array vT}{P X S:List vT}{s0:Nat}(hl:arr.toList=P++X++S)(hp:P.length=s0)(hs:Srt X):∀i j,i<=j->j<X.length->K arr (s0+i)<=K arr (s0+j):=λi j h1 h2=>by
 rw[We hl hp ∅,We hl hp h2];rcases zw i j with z|z
 ·exact yQ.mp hs i j ∅ h2 z
 ·have:i=j:=∅
  subst this;exact yG _
theorem Xz{X:List vT}{k:Nat}{x:vT}(h:x∈X.take k):∃t,∃(ht:t<X.length),t<k/\X[t]=x:=by
 obtain⟨t,ht,e⟩:=zg.mp h;rw[zf]at ht;rw[xG]at e;exact⟨t,∅,∅,e⟩
theorem Xr{X:List vT}{k:Nat}{x:vT}(h:x∈X.drop k):∃t,∃(ht:t<X.length),k<=t/\X[t]=x:=by
 obtain⟨t,ht,e⟩:=zg.mp h;rw[yI]at ht;rw[xY]at e;exact⟨k+t,∅,∅,e⟩
theorem zBD{arr:Array vT}{P X S:List vT}{s0 e0:Nat}(hl:arr.toList=P++X++S)(hp:P.length=s0)(he:e0=s0+X.length):(arr.extract s0 e0).toList=X:=by
 rw[zAO,hl,zJ];subst he;rw[<- hp,<- zC,<- zJ,YX,List.drop_left]
theorem zAL{st:vg}{i sa na pw sb nb pw2:Nat}{P S RA RB:List vT}{Q:Bool->vg->Prop}(h0:IntKeys (vM st))(hk:kindOf st=uB)(hfl:uO st=none)(p1:(vc st)[i]?=some (sa,na,pw))(p2:(vc st)[i+1]?=some (sb,nb,pw2))(hl:(vM st).toList=P++RA++RB++S)(lP:P.length=sa)(lA:RA.length=na)(lB:RB.length=nb)(hsb:sb=sa+na)(n1:1<=na)(n2:1<=nb)(sA:Srt RA)(sB:Srt RB)(h:∀st' R,kindOf st'=uB->uO st'=none->vc st'=((vc st).setIfInBounds i (sa,na+nb,pw)).eraseIdxIfInBounds (i+1)->(vM st').toList=P++R++S->R.Perm (RA++RB)->Srt R->Q true st'):wpS (model prog w) A E s (mergeAt' i) Q st:=by
 cases st with
 | mk kd arr pe gl fa=>
 dsimp only[vM,kindOf,vc,uO]at h0 hk hfl p1 p2 hl
 refine vL (um ?_)
 dsimp only
 rw[p1,p2]
 dsimp only
 refine vL (zCU ?_);generalize hst2:SortSt.mk' kd arr ((pe.setIfInBounds i (sa,na+nb,pw)).eraseIdxIfInBounds (i+1)) gl fa=st2;have k2:kindOf st2=uB:=by rw[<- hst2];exact hk
 have f2:uO st2=none:=by rw[<- hst2];exact hfl
 have pd2:vc st2=(pe.setIfInBounds i (sa,na+nb,pw)).eraseIdxIfInBounds (i+1):=by rw[<- hst2]
 have ar2:vM st2=arr:=by rw[<- hst2]
 change wpS _ _ _ _ _ _ (SortSt.mk' kd arr ((pe.setIfInBounds i (sa,na+nb,pw)).eraseIdxIfInBounds (i+1)) gl fa)
 rw[hst2];have hlA:arr.toList=P++RA++(RB++S):=by rw[hl];simp
 have hlB:arr.toList=(P++RA)++RB++S:=by rw[hl]
 have lPA:(P++RA).length=sb:=by rw[zC];omega
 have hsz:arr.size=sa+na+nb+S.length:=by
  have:=v9 xj hl;simp only[zC,zM]at this;omega
 obtain⟨t0,q0,eb0⟩:=Y3 h0 (show sb<arr.size by omega);have kb0:K arr sb=ke RB[0]:=We (t:=0) hlB lPA ∅;refine vL (Yt eb0 ?_);refine vL (XL (k:=K arr sb) h0 k2 ∅ ∅ (λi j h1 h2=>Ww hlA lP sA i j h1 ∅) λk g1 g2 g3=>?_)
 dsimp only
 have a1:∀x∈RA.take k,ke x<=K arr sb:=λx hx=>by
  obtain⟨t,ht,hk',rfl⟩:=Xz hx;rw[<- We hlA lP ht];exact zAA.1 (g2 t hk')
 have a2:∀x∈RA.drop k,K arr sb<ke x:=λx hx=>by
  obtain⟨t,ht,hk',rfl⟩:=Xr hx;rw[<- We hlA lP ht];exact zAA.2 (g3 t hk' ∅)
 have bb:∀x∈RB,K arr sb<=ke x:=λx hx=>by
  obtain⟨t,ht,rfl⟩:=zg.mp hx;rw[<- We hlB lPA ht];exact Ww hlB lPA sB 0 t ∅ ht
 by_cases z1:na-k=0
 ·rw[vC (by rw[z1];rfl)]
  refine vN (h st2 (RA++RB) k2 f2 pd2 (by rw[ar2,hl];simp) (xN _) (zW.mpr ⟨sA,sB,λx hx y hy=>?_⟩));have e:RA.take k=RA:=yl ∅;exact yT (a1 x (by rw[e];exact hx)) (bb y hy)
 rw[vG ⇑z1];have hla:sa+k+(na-k)-1=sa+(na-1):=∅
 rw[hla];obtain⟨t1,q1,ea1⟩:=Y3 h0 (show sa+(na-1)<arr.size by omega);have ka:K arr (sa+(na-1))=ke RA[na-1]:=We hlA lP ∅;refine vL (Yt ea1 ?_);refine vL (XL (k:=K arr (sa+(na-1))) h0 k2 ∅ ∅ (λi j h1 h2=>Ww hlB lPA sB i j h1 ∅) λm c1 c2 c3=>?_)
 dsimp only
 have b1:∀x∈RB.take m,ke x<K arr (sa+(na-1)):=λx hx=>by
  obtain⟨t,ht,hk',rfl⟩:=Xz hx;rw[<- We hlB lPA ht];exact zAD.1 (c2 t hk')
 have b2:∀x∈RB.drop m,K arr (sa+(na-1))<=ke x:=λx hx=>by
  obtain⟨t,ht,hk',rfl⟩:=Xr hx;rw[<- We hlB lPA ht];exact zAD.2 (c3 t hk' ∅)
 have aa:∀x∈RA,ke x<=K arr (sa+(na-1)):=λx hx=>by
  obtain⟨t,ht,rfl⟩:=zg.mp hx;rw[<- We hlA lP ht];exact Ww hlA lP sA t (na-1) ∅ ∅
 by_cases z2:m=0
 ·rw[vC (by rw[z2];rfl)]
  refine vN (h st2 (RA++RB) k2 f2 pd2 (by rw[ar2,hl];simp) (xN _) (zW.mpr ⟨sA,sB,λx hx y hy=>?_⟩));exact yT (aa x hx) (b2 y (by rw[z2];exact hy))
 rw[vG ⇑z2];have eA:RA=RA.take k++RA.drop k:=(z7 k RA).symm;have eB:RB=RB.take m++RB.drop m:=(z7 m RB).symm;have hx:(arr.extract (sa+k) sb).toList=RA.drop k:=zBD (P:=P++RA.take k) (S:=RB++S) (by rw[hlA,zJ P (RA.take k),z7]) (by rw[zC,zf];omega) (by rw[yI];omega);have hy:(arr.extract sb (sb+m)).toList=RB.take m:=zBD (P:=P++RA) (S:=RB.drop m++S) (by rw[hlB,zJ (P++RA) (RB.take m),show RB.take m++(RB.drop m++S)=RB++S by rw[<- zJ,z7],zJ (P++RA)]) lPA (by rw[zf];omega);generalize hX:arr.extract (sa+k) sb=X at hx;generalize hY:arr.extract sb (sb+m)=Y at hy;have lX:X.size=na-k:=by rw[<- zM,hx,yI];omega
 have lY:Y.size=m:=by rw[<- zM,hy,zf];omega
 have iX:IntKeys X:=WP h0 λp hp=>by rw[hx]at hp;rw[hlA];have:=xE hp;simp[this]
 have iY:IntKeys Y:=WP h0 λp hp=>by rw[hy]at hp;rw[hlB];have:=xZ hp;simp[this]
 have sX:Srt X.toList:=by rw[hx];exact XH sA k
 have sY:Srt Y.toList:=by rw[hy];exact XC sB m
 have memX:∀i,i<X.size->∃x∈RA.drop k,K X i=ke x:=λi hi=>by
  have e:X[i]?=some X[i]:=getElem?_pos _ i hi;exact⟨X[i],by rw[<- hx];simp,zBP e⟩
 have memY:∀i,i<Y.size->∃x∈RB.take m,K Y i=ke x:=λi hi=>by
  have e:Y[i]?=some Y[i]:=getElem?_pos _ i hi;exact⟨Y[i],by rw[<- hy];simp,zBP e⟩
 have q1:∀x∈RA.drop k,∀y∈RB.take 1,Le y x:=λx hx y hy=>by
  obtain⟨t,ht,hk',rfl⟩:=Xz hy;have:t=0:=∅
  subst this;have:=a2 x hx;show ke RB[0]<=ke x;rw[<- kb0];omega
 have h1:K Y 0<=K X 0:=by
  obtain⟨x,hx',ex⟩:=memX 0 ∅;have e:Y[0]?=some Y[0]:=getElem?_pos _ 0 ∅;rw[ex,zBP e];refine q1 x hx' _ ?_;have:Y.toList.take 1=RB.take 1:=by rw[hy,wM];congr 1;omega
  rw[<- this];have:=drop_one e;rw[ZC]at this;rw[this];simp
 have hlast:∀y∈Y.toList,∀x∈X.toList.drop (X.size-1),Le y x:=λy hy' x hx'=>by
  rw[hy]at hy';rw[hx,ZB]at hx';obtain⟨t,ht,hk',rfl⟩:=Xr hx';have:t=na-1:=∅
  subst this;have:=b1 y hy';show ke y<=ke RA[na-1];rw[<- ka];omega
 have h1':K Y (Y.size-1)<=K X (X.size-1):=by
  obtain⟨y,hy',ey⟩:=memY (Y.size-1) ∅;have e:X[X.size-1]?=some X[X.size-1]:=getElem?_pos _ _ ∅;rw[ey,zBP e];refine hlast y (by rw[hy];exact hy') _ ?_;rw[drop_one e];simp
 have hfirst:∀y∈Y.toList.take 1,∀x∈X.toList,Le y x:=λy hy' x hx'=>by
  rw[hy,wM]at hy';rw[hx]at hx';exact q1 x hx' y (by rw[show min 1 m=1 by omega]at hy';exact hy')
 by_cases z3:na-k<=m
 case' pos=>
  rw[vC z3];refine vL (zAM iX iY sX sY ∅ ∅ h1 hlast k2 λr st3 dn kp=>?_)
 case' neg=>
  rw[vG z3];refine vL (zAK iX iY sX sY ∅ ∅ h1' hfirst k2 λr st3 dn kp=>?_)
 all_goals
  rw[hx,hy]at dn;have f3:uO st3=none:=kp.fail.trans f2;have ar3:vM st3=arr:=kp.arr.trans ar2;have pm:(RA.take k++r.toList++RB.drop m).Perm (RA++RB):=by
   have:RA++RB=RA.take k++(RA.drop k++RB.take m)++RB.drop m:=by
    conv=>lhs;rw[eA,eB]
    simp only[zJ]
   rw[this];exact yv _ (yL _ dn.perm)
  have inr:∀x∈r.toList,x∈RA.drop k\/x∈RB.take m:=λx hx'=>zN.mp (dn.perm.mem_iff.mp hx');have sAA:Srt (RA.take k++RA.drop k):=by rw[<- eA];exact sA
  have sBB:Srt (RB.take m++RB.drop m):=by rw[<- eB];exact sB
  have sR:Srt (RA.take k++r.toList++RB.drop m):=zBL (XC sA k) dn.srt (XH sB m)
   (λx hx' y hy'=>(inr y hy').elim (λhy'=>(zW.mp sAA).2.2 x hx' y hy') (λhy'=>yT (a1 x hx') (bb y (xZ hy'))))
   (λx hx' y hy'=>yT (a1 x hx') (bb y (xE hy')))
   (λx hx' y hy'=>(inr x hx').elim (λhx'=>yT (aa x (xE hx')) (b2 y hy')) (λhx'=>(zW.mp sBB).2.2 x hx' y hy'))
  have lr:r.toList.length=(RA.drop k++RB.take m).length:=dn.perm.length_eq;have hput:=zAb (sa+k) r.toList 0 arr (P++RA.take k) (RA.drop k++RB.take m) (RB.drop m++S) (by
   rw[hl]
   conv=>lhs;rw[eA,eB]
   simp only[zJ]) (by rw[zC,zf];omega) lr.symm
  refine vL (uZ (vL (um ?_)));have fin:=h (SortSt.mk' (kindOf st3) (ZY (λa x=>a.setIfInBounds (sa+k+x.snd) x.fst) (vM st3) r.toList.zipIdx) (vc st3) (gallopOf st3) (uO st3)) (RA.take k++r.toList++RB.drop m) (kp.kind.trans k2) f3 (kp.pend.trans pd2) (by
   show (ZY _ (vM st3) _).toList=_;rw[ar3,hput];simp only[zJ]) pm sR
  show wpS _ _ _ _ (pure (uO st3).isNone) _ _;rw[f3];exact vN fin
end
end So
set_option maxHeartbeats 1000000
namespace So
open PySem PyProof.Rows
def SrK(xs:Array vT)(lo k:Nat):Prop:=∀i j,i<=j->j<k->K xs (lo+i)<=K xs (lo+j)
structure Within (lo hi:Nat) (st st':vg):Prop where
 kind:kindOf st'=kindOf st
 pend:vc st'=vc st
 fail:uO st'=uO st
 perm:(vM st').Perm (vM st)
 out:∀t,(t<lo\/hi<=t)->(vM st')[t]?=(vM st)[t]?
theorem Within.refl(lo hi:Nat)(st:vg):Within lo hi st st:=⟨rfl,rfl,rfl,Zk _,λ_ _=>rfl⟩
theorem Within.trans{lo hi:Nat}{a b c:vg}(h:Within lo hi a b)(h':Within lo hi b c):Within lo hi a c:=⟨h'.kind.trans h.kind,h'.pend.trans h.pend,h'.fail.trans h.fail,h'.perm.trans h.perm,λt ht=>(h'.out t ht).trans (h.out t ht)⟩
theorem Within.size{lo hi:Nat}{a b:vg}(h:Within lo hi a b):(vM b).size=(vM a).size:=h.perm.size_eq
theorem Within.ints{lo hi:Nat}{a b:vg}(h:Within lo hi a b)(h0:IntKeys (vM a)):IntKeys (vM b):=λp hp=>h0 p ((xq.mp h.perm).mem_iff.mp hp)
theorem Wk{lo hi:Nat}{st:vg}{ys:Array vT}(hp:ys.Perm (vM st))(ho:∀t,(t<lo\/hi<=t)->ys[t]?=(vM st)[t]?):Within lo hi st (setArr st ys):=⟨rfl,rfl,rfl,hp,ho⟩
section
variable{prog:vW}{w:vZ}{A:ve}{E:vB->vF->Prop}{s:vF}
theorem X7{st:vg}{i j:Nat}{Q:Option Bool->vg->Prop}(h0:IntKeys (vM st))(hk:kindOf st=uB)(hi:i<(vM st).size)(hj:j<(vM st).size)(h:Q (some (decide (K (vM st) i<K (vM st) j))) st):wpS (model prog w) A E s (ltAt' i j) Q st:=by
 obtain⟨t,p,e1⟩:=Y3 h0 hi;obtain⟨u,q,e2⟩:=Y3 h0 hj;exact wpS_ltAt hk e1 e2 h
theorem zAq{st:vg}{lo n ok:Nat}{Q:Bool->vg->Prop}(h0:IntKeys (vM st))(hk:kindOf st=uB)(hn:lo+n<=(vM st).size)(hok:ok<=n)(hs:SrK (vM st) lo ok)(h:∀st',Within lo (lo+n) st st'->SrK (vM st') lo n->Q true st'):wpS (model prog w) A E s (binarySort' lo n ok) Q st:=by
 refine vL (uA (vi
  (I:=λx c st'=>c=(none,())/\Within lo (lo+n) st st'/\SrK (vM st') lo x)
  (Q:=λc st'=>c=(none,())/\Within lo (lo+n) st st'/\SrK (vM st') lo n) ?_ ?_ ⟨rfl,Within.refl _ _ _,?_⟩) ?_)
 ·rintro k c st1 hk1 hkn ⟨rfl,W,S⟩
  have sz:=W.size;have i0:=W.ints h0;have kd:kindOf st1=uB:=W.kind.trans hk
  dsimp only
  refine vL (uA (vi
   (I:=λy c st'=>st'=st1/\∃l r,c=(none,l,r)/\l<=r/\r<=k/\r-l<=k-y/\(∀t,t<l->K (vM st1) (lo+t)<=K (vM st1) (lo+k))/\(∀t,r<=t->t<k->K (vM st1) (lo+k)<K (vM st1) (lo+t)))
   (Q:=λc st'=>st'=st1/\∃l,c=(none,l,l)/\l<=k/\(∀t,t<l->K (vM st1) (lo+t)<=K (vM st1) (lo+k))/\(∀t,l<=t->t<k->K (vM st1) (lo+k)<K (vM st1) (lo+t))) ?_ ?_ ⟨rfl,0,k,rfl,∅,∅,∅,λt ht=>∅,λt h1 h2=>∅⟩) ?_)
  ·rintro y c st2 _ hy ⟨rfl,l,r,rfl,b1,b2,b3,b4,b5⟩
   dsimp only
   by_cases z:l>=r
   ·rw[vC z]
    have:l=r:=∅
    subst this;exact vN ⟨rfl,l,rfl,∅,b4,b5⟩
   ·rw[vG z]
    refine vL (X7 i0 kd ∅ ∅ ?_)
    dsimp only
    by_cases hc:K (vM st2) (lo+k)<K (vM st2) (lo+(l+r)/2)
    ·rw[vU hc,vC rfl]
     refine vN ⟨rfl,_,_,rfl,∅,∅,∅,b4,λt h1 h2=>?_⟩;have:=S ((l+r)/2) t h1 h2;omega
    ·rw[vS hc,vG (by decide)]
     refine vN ⟨rfl,_,_,rfl,∅,∅,∅,λt ht=>?_,b5⟩;have:=S t ((l+r)/2) ∅ ∅;omega
  ·rintro c st2 ⟨rfl,l,r,rfl,b1,b2,b3,b4,b5⟩
   have:l=r:=∅
   subst this;exact⟨rfl,l,rfl,∅,b4,b5⟩
  ·rintro c st2 ⟨rfl,l,rfl,b1,b4,b5⟩
   dsimp only
   refine vL (uZ ?_);have hsrc:lo+k<(vM st2).size:=∅
   have hd:lo+k-(lo+l)<=lo+k:=∅
   refine vN ⟨rfl,W.trans (Wk (bubble_perm _ _ _) λt ht=>?_),λi j h1 h2=>?_⟩
   ·show (bubble (vM st2) (lo+k) (lo+k-(lo+l)))[t]?=_
    rw[getElem?_bubble hsrc _ hd,vG ∅,vG ∅]
   ·show K (bubble (vM st2) (lo+k) (lo+k-(lo+l))) (lo+i)<=K (bubble (vM st2) (lo+k) (lo+k-(lo+l))) (lo+j)
    rw[sf hsrc hd,sf hsrc hd];have e:lo+k-(lo+k-(lo+l))=lo+l:=∅
    rw[e]
    by_cases c1:i=l
    ·rw[vC ∅]
     by_cases c2:j=l
     ·rw[vC ∅];exact yG _
     ·rw[vG ∅,vC ∅,show lo+j-1=lo+(j-1) by omega]
      exact ym (b5 (j-1) ∅ ∅)
    ·rw[vG ∅]
     by_cases c3:l<i
     ·rw[vC ∅,vG ∅,vC ∅,show lo+i-1=lo+(i-1) by omega,show lo+j-1=lo+(j-1) by omega]
      exact S (i-1) (j-1) ∅ ∅
     ·rw[vG ∅]
      by_cases c2:j=l
      ·rw[vC ∅];exact b4 i ∅
      ·rw[vG ∅]
       by_cases c4:l<j
       ·rw[vC ∅,show lo+j-1=lo+(j-1) by omega]
        exact S i (j-1) ∅ ∅
       ·rw[vG ∅]
        exact S i j h1 ∅
 ·rintro c st1 ⟨rfl,W,S⟩
  refine⟨rfl,W,λi j h1 h2=>S i j h1 ∅⟩
 ·intro i j h1 h2
  by_cases z:ok=0
  ·have:i=j:=∅
   subst this;exact yG _
  ·exact hs i j h1 ∅
 ·rintro c st1 ⟨rfl,W,S⟩
  exact vN (h st1 W S)
end
end So
set_option maxHeartbeats 2000000
namespace So
open PySem PyProof.Rows
section
variable{prog:vW}{w:vZ}{A:ve}{E:vB->vF->Prop}{s:vF}
theorem Wq{st:vg}{lo hi i j:Nat}{Q:Unit->vg->Prop}(hi1:lo<=i)(hj:j<=hi)(hs:hi<=(vM st).size)(h:∀st',Within lo hi st st'->(∀k,K (vM st') k=if i<=k/\k<j then K (vM st) (i+j-1-k)else K (vM st) k)->Q () st'):wpS (model prog w) A E s (reverseSlice' i j) Q st:=by
 rw[reverseSlice'_eq];refine uZ (h _ (Wk (tL _ _ _ _) λt ht=>?_) λk=>K_mirror ∅ k);rw[getElem?_mirror_all ∅,vG ∅]
theorem keepK{xs ys:Array vT}{i j:Nat}(KK:∀k,K ys k=if i<=k/\k<j then K xs (i+j-1-k)else K xs k)(e:∀k,i<=k->k<j->K xs k=K xs (j-1))(k:Nat):K ys k=K xs k:=by
 rw[KK k]
 split
 ·rename_i hh
  rw[e (i+j-1-k) ∅ ∅,e k hh.1 hh.2]
 ·rfl
theorem zCH{st:vg}{lo nrem:Nat}{Q:Option Nat->vg->Prop}(h0:IntKeys (vM st))(hk:kindOf st=uB)(hn:lo+nrem<=(vM st).size)(h1:1<=nrem)(h:∀n st',1<=n->n<=nrem->Within lo (lo+nrem) st st'->SrK (vM st') lo n->Q (some n) st'):wpS (model prog w) A E s (countRun' lo nrem) Q st:=by
 refine vL (uA (vi
  (I:=λx c st'=>st'=st/\c=(none,x)/\x<=nrem/\SrK (vM st) lo x)
  (Q:=λc st'=>st'=st/\∃n,c=(none,n)/\1<=n/\n<=nrem/\SrK (vM st) lo n/\(n<nrem->K (vM st) (lo+n)<K (vM st) (lo+n-1))) ?_ ?_ ⟨rfl,rfl,h1,λi j h2 h3=>by rw[show i=j by omega];exact yG _⟩) ?_)
 ·rintro x c st1 hx1 hx ⟨rfl,rfl,b1,S⟩
  dsimp only
  refine vL (X7 h0 hk ∅ ∅ ?_)
  dsimp only
  by_cases hc:K (vM st1) (lo+x)<K (vM st1) (lo+x-1)
  ·rw[vU hc,vC rfl]
   exact vN ⟨rfl,x,rfl,hx1,b1,S,λ_=>hc⟩
  ·rw[vS hc,vG (by decide)]
   refine vN ⟨rfl,rfl,∅,λi j h2 h3=>?_⟩
   by_cases z:j=x
   ·subst z
    by_cases z2:i=j
    ·rw[z2];exact yG _
    ·have:=S i (j-1) ∅ ∅
     rw[show lo+(j-1)=lo+j-1 by omega]at this;omega
   ·exact S i j h2 ∅
 ·rintro c st1 ⟨rfl,rfl,b1,S⟩
  exact⟨rfl,_,rfl,∅,b1,S,λz=>∅⟩
 ·rintro c st1 ⟨rfl,n,rfl,b1,b2,S,b3⟩
  dsimp only
  by_cases z1:n=nrem
  ·rw[vC (by rw[z1];exact beq_self_eq_true _)]
   exact vN (h n st1 b1 b2 (Within.refl _ _ _) S)
  rw[vG ⇑z1];have b3:=b3 ∅;have start:∃stA,stA=st1:=⟨_,rfl⟩
  by_cases z2:n>1
  case' pos=>
   rw[vC z2];refine vL (X7 h0 hk ∅ ∅ ?_)
   dsimp only
   by_cases hc:K (vM st1) lo<K (vM st1) (lo+n-1)
   ·rw[vU hc,vC rfl]
    exact vN (h n st1 b1 b2 (Within.refl _ _ _) S)
   rw[vS hc,vG (by decide)];refine vL (Wq (lo:=lo) (hi:=lo+nrem) (zK _) ∅ hn λst2 W KK=>?_);have eqs:∀t,t<n->K (vM st1) (lo+t)=K (vM st1) (lo+n-1):=λt ht=>by
    have e1:=S 0 t ∅ ht;have e2:=S t (n-1) ∅ ∅;rw[show lo+(n-1)=lo+n-1 by omega]at e2;rw[Nat.add_zero]at e1;omega
   have same:∀k,K (vM st2) k=K (vM st1) k:=λk=>by
    rw[KK k]
    split
    ·rename_i hh
     have e1:=eqs (lo+(lo+n)-1-k-lo) ∅;have e2:=eqs (k-lo) ∅;rw[show lo+(lo+(lo+n)-1-k-lo)=lo+(lo+n)-1-k by omega]at e1;rw[show lo+(k-lo)=k by omega]at e2;rw[e1,e2]
    ·rfl
   have eqs:∀t,t<n->K (vM st2) (lo+t)=K (vM st2) (lo+n-1):=λt ht=>by rw[same,same];exact eqs t ht
   have b3:K (vM st2) (lo+n)<K (vM st2) (lo+n-1):=by rw[same,same];exact b3
  case' neg=>
   rw[vG z2];have W:Within lo (lo+nrem) st1 st1:=Within.refl _ _ _;have eqs:∀t,t<n->K (vM st1) (lo+t)=K (vM st1) (lo+n-1):=λt ht=>by rw[show lo+t=lo+n-1 by omega]
   generalize hst2:st1=st2 at eqs b3 ⊢;have W:Within lo (lo+nrem) st1 st2:=by rw[<- hst2];exact Within.refl _ _ _
  all_goals
   clear start;refine vL (u4 (uD ⟨rfl,?_⟩));refine vL (uA (vi
    (I:=λx c st'=>∃q,c=(none,x,q)/\x<=nrem/\q+1<=x/\Within lo (lo+nrem) st1 st'/\(∀i j,i<=j->j<x->K (vM st') (lo+j)<=K (vM st') (lo+i))/\(∀t,x-1-q<=t->t<x->K (vM st') (lo+t)=K (vM st') (lo+x-1)))
    (Q:=λc st'=>∃m q,c=(none,m,q)/\1<=m/\m<=nrem/\q+1<=m/\Within lo (lo+nrem) st1 st'/\(∀i j,i<=j->j<m->K (vM st') (lo+j)<=K (vM st') (lo+i))/\(∀t,m-1-q<=t->t<m->K (vM st') (lo+t)=K (vM st') (lo+m-1))) ?_ ?_ ⟨0,rfl,∅,∅,W,λi j h2 h3=>?_,λt h2 h3=>by rw[show lo+t=lo+(n+1)-1 by omega]⟩) ?_)
   ·rintro x c st3 hx1 hx ⟨q,rfl,c1,c2,W3,N3,E3⟩
    dsimp only
    have i3:=W3.ints h0;have k3:kindOf st3=uB:=W3.kind.trans hk;have s3:=W3.size;refine vL (X7 i3 k3 ∅ ∅ ?_)
    dsimp only
    by_cases hc:K (vM st3) (lo+x)<K (vM st3) (lo+x-1)
    ·rw[vU hc,vC rfl]
     have N4:∀i j,i<=j->j<x+1->K (vM st3) (lo+j)<=K (vM st3) (lo+i):=λi j h2 h3=>by
      by_cases z:j=x
      ·subst z
       by_cases z2:i=j
       ·rw[z2];exact yG _
       ·have:=N3 i (j-1) ∅ ∅
        rw[show lo+(j-1)=lo+j-1 by omega]at this;omega
      ·exact N3 i j h2 ∅
     by_cases zq:q>0
     ·rw[vC zq]
      refine vL (Wq (lo:=lo) (hi:=lo+nrem) ∅ ∅ ∅ λst4 W4 KK=>?_);have same:=keepK KK (λk h2 h3=>by
       have:=E3 (k-lo) ∅ ∅;rw[show lo+(k-lo)=k by omega]at this;exact this)
      refine vN ⟨0,rfl,∅,∅,W3.trans W4,λi j h2 h3=>by rw[same,same];exact N4 i j h2 h3,λt h2 h3=>by rw[show lo+t=lo+(x+1)-1 by omega]⟩
     ·rw[vG zq]
      exact vN ⟨0,rfl,∅,∅,W3,N4,λt h2 h3=>by rw[show lo+t=lo+(x+1)-1 by omega]⟩
    ·rw[vS hc,vG (by decide)]
     refine vL (X7 i3 k3 ∅ ∅ ?_)
     dsimp only
     by_cases hd:K (vM st3) (lo+x-1)<K (vM st3) (lo+x)
     ·rw[vU hd,vC rfl]
      exact vN ⟨x,q,rfl,∅,c1,c2,W3,N3,E3⟩
     ·rw[vS hd,vG (by decide)]
      have eq:K (vM st3) (lo+x)=K (vM st3) (lo+x-1):=∅
      refine vN ⟨q+1,rfl,∅,∅,W3,λi j h2 h3=>?_,λt h2 h3=>?_⟩
      ·by_cases z:j=x
       ·subst z
        by_cases z2:i=j
        ·rw[z2];exact yG _
        ·have:=N3 i (j-1) ∅ ∅
         rw[show lo+(j-1)=lo+j-1 by omega]at this;omega
       ·exact N3 i j h2 ∅
      ·rw[show lo+(x+1)-1=lo+x by omega,eq]
       by_cases z:t=x
       ·rw[z,eq]
       ·exact E3 t ∅ ∅
   ·rintro c st3 ⟨q,rfl,c1,c2,W3,N3,E3⟩
    exact⟨_,q,rfl,∅,c1,c2,W3,N3,E3⟩
   ·by_cases z:j=n
    ·subst z
     by_cases z2:i=j
     ·rw[z2];exact yG _
     ·have:=eqs i ∅
      omega
    ·have e1:=eqs i ∅
     have e2:=eqs j ∅;omega
   ·rintro c st3 ⟨m,q,rfl,c0,c1,c2,W3,N3,E3⟩
    dsimp only
    have s3:=W3.size;have start:∃stA,stA=st3:=⟨_,rfl⟩
    by_cases zq:q>0
    case' pos=>
     rw[vC zq];refine vL (Wq (lo:=lo) (hi:=lo+nrem) ∅ ∅ ∅ λst4 W4 KK=>?_);have same:=keepK KK (λk h2 h3=>by
      have:=E3 (k-lo) ∅ ∅;rw[show lo+(k-lo)=k by omega]at this;exact this)
     have N4:∀i j,i<=j->j<m->K (vM st4) (lo+j)<=K (vM st4) (lo+i):=λi j h2 h3=>by rw[same,same];exact N3 i j h2 h3
     replace W4:=W3.trans W4
    case' neg=>
     rw[vG zq];have N4:=N3;have W4:=W3;generalize hst4:st3=st4 at N4 W4 ⊢
    all_goals
     have s4:=W4.size;refine vL (Wq (lo:=lo) (hi:=lo+nrem) ∅ ∅ ∅ λst5 W5 KK5=>?_);replace W5:=W4.trans W5;have s5:=W5.size;have i5:=W5.ints h0;have k5:kindOf st5=uB:=W5.kind.trans hk;have S5:SrK (vM st5) lo m:=λi j h2 h3=>by
      rw[KK5 (lo+i),KK5 (lo+j),vC ∅,vC ∅,show lo+(lo+m)-1-(lo+i)=lo+(m-1-i) by omega,show lo+(lo+m)-1-(lo+j)=lo+(m-1-j) by omega];exact N4 (m-1-j) (m-1-i) ∅ ∅
     refine vL (uA (vi
      (I:=λx c st'=>st'=st5/\c=(none,x)/\x<=nrem/\SrK (vM st5) lo x)
      (Q:=λc st'=>st'=st5/\∃n,c=(none,n)/\1<=n/\n<=nrem/\SrK (vM st5) lo n) ?_ ?_ ⟨rfl,rfl,c1,S5⟩) ?_)
     ·rintro x c st6 hx1 hx ⟨rfl,rfl,d1,S6⟩
      dsimp only
      refine vL (X7 i5 k5 ∅ ∅ ?_)
      dsimp only
      by_cases hc:K (vM st6) (lo+x)<K (vM st6) (lo+x-1)
      ·rw[vU hc,vC rfl]
       exact vN ⟨rfl,x,rfl,∅,d1,S6⟩
      ·rw[vS hc,vG (by decide)]
       refine vN ⟨rfl,rfl,∅,λi j h2 h3=>?_⟩
       by_cases z:j=x
       ·subst z
        by_cases z2:i=j
        ·rw[z2];exact yG _
        ·have:=S6 i (j-1) ∅ ∅
         rw[show lo+(j-1)=lo+j-1 by omega]at this;omega
       ·exact S6 i j h2 ∅
     ·rintro c st6 ⟨rfl,rfl,d1,S6⟩
      exact⟨rfl,_,rfl,∅,d1,S6⟩
     ·rintro c st6 ⟨rfl,n',rfl,d0,d1,S6⟩
      exact vN (h n' st6 d0 d1 W5 S6)
end
end So
set_option maxHeartbeats 2000000
namespace So
open PySem PyProof.Rows
def Xf:Nat->List (Nat×Nat×Nat)->List (List vT)->Prop
 | _,[],[]=>True
 | s,p::r,X::Xs=>p.1=s/\p.2.1=X.length/\1<=X.length/\Srt X/\Xf (s+X.length) r Xs
 | _,_,_=>False
theorem Wv:∀{s:Nat}{ps:List (Nat×Nat×Nat)}{Xs:List (List vT)},Xf s ps Xs->ps.length=Xs.length
 | _,[],[],_=>rfl
 | _,_::_,_::_,h=>by rw[zL,zL,Wv h.2.2.2.2]
 | _,[],_::_,h=>h.elim
 | _,_::_,[],h=>h.elim
theorem zBO:∀(i s:Nat)(ps:List (Nat×Nat×Nat))(Xs:List (List vT)),Xf s ps Xs->i+1<ps.length->∃Pre X Y zA5 pw pw2,Xs=Pre++X::Y::zA5/\ps[i]?=some (s+Pre.flatten.length,X.length,pw)/\ps[i+1]?=some (s+Pre.flatten.length+X.length,Y.length,pw2)/\1<=X.length/\1<=Y.length/\Srt X/\Srt Y /\
  ∀R:List vT,R.length=X.length+Y.length->Srt R->Xf s ((ps.set i (s+Pre.flatten.length,X.length+Y.length,pw)).eraseIdx (i+1)) (Pre++R::zA5)
 | 0,s,ps,Xs,h,hl=>by
  match ps,Xs,h,hl with
  | p::q::r,X::Y::Xs,⟨h1,h2,h3,h4,h5,h6,h7,h8,h9⟩,_=>
   refine⟨[],X,Y,Xs,p.2.2,q.2.2,rfl,?_,?_,h3,h7,h4,h8,λR hR sR=>?_⟩
   ·show some p=_
    rw[<- h2];exact v9 some (Prod.ext h1 rfl)
   ·show some q=_
    rw[<- h6];exact v9 some (Prod.ext h5 rfl)
   ·refine⟨rfl,hR.symm,∅,sR,?_⟩
    rw[hR,<- wW];exact h9
 | i+1,s,ps,Xs,h,hl=>by
  match ps,Xs,h,hl with
  | p::r,X0::Xs,⟨h1,h2,h3,h4,h5⟩,hl=>
   obtain⟨Pre,X,Y,zA5,pw,pw2,e,g1,g2,g3,g4,g5,g6,g7⟩:=zBO i (s+X0.length) r Xs h5 ⇑hl;refine⟨X0::Pre,X,Y,zA5,pw,pw2,by rw[e];rfl,?_,?_,g3,g4,g5,g6,λR hR sR=>?_⟩
   ·show r[i]?=_
    rw[g1,yF,zC,<- wW]
   ·show r[i+1]?=_
    rw[g2,yF,zC,<- wW s]
   ·have:=g7 R hR sR
    rw[yF,zC,<- wW];exact⟨h1,h2,h3,h4,this⟩
theorem zAE:∀{s:Nat}{ps:List (Nat×Nat×Nat)}{Xs:List (List vT)}{X:List vT}{pw:Nat},Xf s ps Xs->1<=X.length->Srt X->Xf s (ps++[(s+Xs.flatten.length,X.length,pw)]) (Xs++[X])
 | s,[],[],X,pw,_,h1,h2=>⟨rfl,rfl,h1,h2,trivial⟩
 | s,p::r,X0::Xs,X,pw,⟨g1,g2,g3,g4,g5⟩,h1,h2=>by
  refine⟨g1,g2,g3,g4,?_⟩;have:=zAE (pw:=pw) g5 h1 h2;rw[yF,zC,<- wW];exact this
theorem zAl:∀{s:Nat}{ps ps':List (Nat×Nat×Nat)}{Xs:List (List vT)},Xf s ps Xs->ps'.map (λp=>(p.1,p.2.1))=ps.map (λp=>(p.1,p.2.1))->Xf s ps' Xs
 | s,[],[],[],_,_=>trivial
 | s,p::r,p'::r',X::Xs,⟨h1,h2,h3,h4,h5⟩,e=>by
  rw[zc,zc]at e;obtain⟨e1,e2⟩:=Zx e;obtain⟨f1,f2⟩:=Prod.mk.inj e1;exact⟨f1.trans h1,f2.trans h2,h3,h4,zAl h5 e2⟩
 | s,p::r,[],_,_,e=>by cases e
 | s,[],p::r,_,_,e=>by cases e
 | s,p::r,p'::r',[],h,_=>h.elim
structure IV (a₀:Array vT) (st:vg) (lo:Nat) (S:List vT):Prop where
 kind:kindOf st=uB
 fail:uO st=none
 perm:(vM st).Perm a₀
 runs:∃Xs,(vM st).toList=Xs.flatten++S/\Xf 0 (vc st).toList Xs/\Xs.flatten.length=lo
section
variable{prog:vW}{w:vZ}{A:ve}{E:vB->vF->Prop}{s:vF}
theorem IV.ints{a₀:Array vT}{st:vg}{lo:Nat}{S:List vT}(h:IV a₀ st lo S)(h0:IntKeys a₀):IntKeys (vM st):=λp hp=>h0 p ((xq.mp h.perm).mem_iff.mp hp)
theorem X5{a₀:Array vT}{st:vg}{lo i:Nat}{S:List vT}{Q:Bool->vg->Prop}(h0:IntKeys a₀)(V:IV a₀ st lo S)(hi:i+1<(vc st).size)(h:∀st',IV a₀ st' lo S->(vc st').size+1=(vc st).size->Q true st'):wpS (model prog w) A E s (mergeAt' i) Q st:=by
 obtain⟨Xs,e1,e2,e3⟩:=V.runs;obtain⟨Pre,X,Y,zA5,pw,pw2,rfl,g1,g2,g3,g4,g5,g6,g7⟩:=zBO i 0 _ _ e2 ⇑hi;rw[yq]at g1 g2 g7;rw[zZ]at g1 g2;have hl:(vM st).toList=Pre.flatten++X++Y++(zA5.flatten++S):=by
  rw[e1];simp
 refine zAL (V.ints h0) V.kind V.fail g1 g2 hl rfl rfl rfl rfl g3 g4 g5 g6 λst' R k1 k2 k3 k4 k5 k6=>?_;have lR:R.length=X.length+Y.length:=by rw[k5.length_eq,zC]
 refine h st' ⟨k1,k2,?_,Pre++R::zA5,?_,?_,?_⟩ ?_
 ·refine Array.Perm.trans ?_ V.perm
  rw[xq,k4,hl];have:Pre.flatten++X++Y++(zA5.flatten++S)=Pre.flatten++(X++Y)++(zA5.flatten++S):=by simp
  rw[this];exact yv _ (yL _ k5)
 ·rw[k4];simp
 ·rw[k3]
  have:=g7 R lR k6;rw[wQ,ZE];exact this
 ·rw[<- e3];simp[lR];omega
 ·rw[k3]
  have hi':i+1<((vc st).setIfInBounds i (Pre.flatten.length,X.length+Y.length,pw)).size:=by simpa using hi
  rw[<- zM,wQ,List.length_eraseIdx];rw[vC ⇑hi];simp;omega
end
end So
set_option maxHeartbeats 2000000
namespace So
open PySem PyProof.Rows
theorem Wi{α β:Type}{g:α->β}{f:α->α}(h:∀x,g (f x)=g x):∀(l:List α)(i:Nat),(l.modify i f).map g=l.map g
 | [],i=>by simp
 | x::l,0=>by simp[h]
 | x::l,i+1=>by simp[Wi h l i]
theorem zAG:∀{s:Nat}{ps:List (Nat×Nat×Nat)}{Xs:List (List vT)},Xf s ps Xs->Xs.length<=Xs.flatten.length
 | _,[],[],_=>zK _
 | _,_::_,X::Xs,h=>by
  have:=zAG h.2.2.2.2;have:=h.2.2.1;rw[zL,yF,zC];omega
theorem IV.push{a₀:Array vT}{st:vg}{lo m:Nat}{X S:List vT}(V:IV a₀ st lo (X++S))(lX:X.length=m)(h1:1<=m)(sX:Srt X):IV a₀ (setPending st ((vc st).push (lo,m,0))) (lo+m) S:=by
 obtain⟨Xs,e1,e2,e3⟩:=V.runs;refine⟨V.kind,V.fail,V.perm,Xs++[X],?_,?_,?_⟩
 ·show (vM st).toList=_
  rw[e1];simp
 ·show Xf 0 ((vc st).push (lo,m,0)).toList _
  have:=zAE (pw:=0) e2 (∅:1<=X.length) sX;rw[yq,e3,lX]at this;rw[ZJ];exact this
 ·rw[List.flatten_append,zC,e3];simp[lX]
theorem IV.pow{a₀:Array vT}{st:vg}{lo i pw:Nat}{S:List vT}(V:IV a₀ st lo S):IV a₀ (setPending st ((vc st).modify i λx=>(x.fst,x.2.fst,pw))) lo S:=by
 obtain⟨Xs,e1,e2,e3⟩:=V.runs;refine⟨V.kind,V.fail,V.perm,Xs,e1,?_,e3⟩;show Xf 0 ((vc st).modify i λx=>(x.fst,x.2.fst,pw)).toList _;refine zAl e2 ?_;rw[Array.toList_modify];exact Wi (g:=λp:Nat×Nat×Nat=>(p.1,p.2.1)) (f:=λx=>(x.1,x.2.1,pw)) (λ_=>rfl) _ _
theorem Within.wider{lo hi hi':Nat}{a b:vg}(h:Within lo hi a b)(hh:hi<=hi'):Within lo hi' a b:=⟨h.kind,h.pend,h.fail,h.perm,λt ht=>h.out t ∅⟩
section
variable{prog:vW}{w:vZ}{A:ve}{E:vB->vF->Prop}{s:vF}
theorem zAP{a₀:Array vT}{st:vg}{Q:Unit->vg->Prop}(h0:IntKeys a₀)(hB:u7 a₀ st)(h:∀st',(vM st').Perm a₀->uO st'=none->ue (vM st') a₀.size->Q () st'):wpS (model prog w) A E s sortRuns' Q st:=by
 rw[sortRuns'_eq];refine vL (um ?_);have hsz:=hB.size
 dsimp only
 simp only[hsz];have V0:IV a₀ st 0 (vM st).toList:=⟨hB.kind,hB.failed,hB.perm,[],rfl,by rw[hB.pend];trivial,rfl⟩;refine vL (uA (vi
  (I:=λx c st'=>∃lo S,c=(none,lo)/\IV a₀ st' lo S/\lo<=a₀.size/\(x<=lo\/lo=a₀.size))
  (Q:=λc st'=>c=(none,a₀.size)/\∃S,IV a₀ st' a₀.size S) ?_ ?_ ⟨0,_,rfl,V0,zy _,.inl (zK _)⟩) ?_)
 ·rintro x c st1 _ hx ⟨lo,S,rfl,V,b1,b2⟩
  dsimp only
  have hsz1:(vM st1).size=a₀.size:=V.perm.size_eq
  by_cases z:lo>=a₀.size
  ·rw[vC z]
   have:lo=a₀.size:=∅
   subst this;exact vN ⟨rfl,S,V⟩
  rw[vG z];have i1:=V.ints h0;refine vL (zCH i1 V.kind ∅ ∅ λn st2 n1 n2 W Sr=>?_)
  dsimp only
  have key:∀(m:Nat)(st3:vg),1<=m->m<=a₀.size-lo->Within lo (lo+(a₀.size-lo)) st1 st3->SrK (vM st3) lo m->∃X S',IV a₀ st3 lo (X++S')/\X.length=m/\Srt X:=λm st3 m1 m2 W3 S3=>by
   obtain⟨Xs,e1,e2,e3⟩:=V.runs;have sz3:(vM st3).size=a₀.size:=W3.size.trans hsz1;have tk:(vM st3).toList.take lo=Xs.flatten:=by
    have:(vM st3).toList.take lo=(vM st1).toList.take lo:=by
     apply yu;intro t
     by_cases ht:t<lo
     ·rw[xz ht,xz ht,zZ,zZ]
      exact W3.out t (.inl ht)
     ·rw[ZF ∅,ZF ∅]
    rw[this,e1,<- e3,YX]
   refine⟨((vM st3).toList.drop lo).take m,((vM st3).toList.drop lo).drop m,⟨W3.kind.trans V.kind,W3.fail.trans V.fail,W3.perm.trans V.perm,Xs,?_,?_,e3⟩,?_,?_⟩
   ·rw[z7,<- tk,z7]
   ·rw[W3.pend];exact e2
   ·rw[zf,yI,zM];omega
   ·rw[Srt,yQ]
    intro i j hi hj hij;rw[zf,yI,zM]at hj;have:=S3 i j ∅ ∅;have q1:(vM st3)[lo+i]?=some (vM st3)[lo+i]:=getElem?_pos _ _ ∅;have q2:(vM st3)[lo+j]?=some (vM st3)[lo+j]:=getElem?_pos _ _ ∅;rw[zBP q1,zBP q2]at this;rw[xG,xG,xY,xY];exact this
  have sz2:=W.size
  by_cases zm:n<sK a₀.size a₀.size 0
  case' pos=>
   rw[vC zm];refine vL (u4 (uD ⟨rfl,?_⟩));refine vL (zAq (W.ints i1) (W.kind.trans V.kind) ∅ ∅ Sr λst3 W3 S3=>?_);rw[vG (by decide)];have f1:1<=min (a₀.size-lo) (sK a₀.size a₀.size 0):=∅
   have f2:min (a₀.size-lo) (sK a₀.size a₀.size 0)<=a₀.size-lo:=∅
   have W4:=W.trans (W3.wider (∅:lo+min (a₀.size-lo) (sK a₀.size a₀.size 0)<=lo+(a₀.size-lo)));generalize min (a₀.size-lo) (sK a₀.size a₀.size 0)=m at f1 f2 S3 ⊢;obtain⟨X,S',V3,lX,sX⟩:=key m st3 f1 f2 W4 S3
  case' neg=>
   rw[vG zm];obtain⟨X,S',V3,lX,sX⟩:=key n st2 n1 n2 W Sr;have f1:=n1;have f2:=n2;generalize hm:n=m at lX f1 f2 ⊢;generalize hst3:st2=st3 at V3 ⊢
  all_goals
   refine vL (um ?_);cases hb:(vc st3).back? with
   | none=>
    dsimp only
    exact vL (uZ (vN ⟨lo+m,S',rfl,V3.push lX f1 sX,∅,.inl ∅⟩))
   | some p=>
    obtain⟨s1,n1',pp⟩:=p
    dsimp only
    refine vL (uA (vi (I:=λy c st'=>c=(none,())/\IV a₀ st' lo (X++S')) (Q:=λc st'=>c=(none,())/\IV a₀ st' lo (X++S')) ?_ (λ_ _ hh=>hh) ⟨rfl,V3⟩) ?_)
    ·rintro y c st4 _ _ ⟨rfl,V4⟩
     refine vL (um ?_)
     by_cases zp:(vc st4).size>1
     ·rw[vC zp,getElem?_pos (vc st4) ((vc st4).size-2) ∅]
      generalize (vc st4)[(vc st4).size-2]=row;obtain⟨r1,r2,r3⟩:=row
      dsimp only
      split
      ·exact vN ⟨rfl,V4⟩
      ·refine vL (X5 h0 V4 ∅ λst5 V5 _=>?_)
       rw[vG (by decide)];exact vN ⟨rfl,V5⟩
     ·rw[vG zp]
      exact vN ⟨rfl,V4⟩
    ·rintro c st4 ⟨rfl,V4⟩
     dsimp only
     exact vL (uZ (vL (uZ (vN ⟨lo+m,S',rfl,V4.pow.push lX f1 sX,∅,.inl ∅⟩))))
 ·rintro c st1 ⟨lo,S,rfl,V,b1,b2⟩
  have:lo=a₀.size:=∅
  subst this;exact⟨rfl,S,V⟩
 ·rintro c st1 ⟨rfl,S,V⟩
  dsimp only
  have hsz1:(vM st1).size=a₀.size:=V.perm.size_eq;have many:∀st' S',IV a₀ st' a₀.size S'->(vc st').size<=a₀.size:=λst' S' V'=>by
   obtain⟨Xs,e1,e2,e3⟩:=V'.runs;have l1:=Wv e2;have l2:=zAG e2;rw[zM]at l1;omega
  have m1:=many st1 S V;refine vL (uA (vi
   (I:=λx c st'=>c=(none,())/\IV a₀ st' a₀.size S/\((vc st').size<=1\/(vc st').size+x<=(vc st1).size))
   (Q:=λc st'=>c=(none,())/\IV a₀ st' a₀.size S/\(vc st').size<=1) ?_ ?_ ⟨rfl,V,.inr ∅⟩) ?_)
  ·rintro x c st2 _ _ ⟨rfl,V2,b⟩
   refine vL (um ?_)
   by_cases z:(vc st2).size<=1
   ·rw[vC z]
    exact vN ⟨rfl,V2,z⟩
   rw[vG z];have hx:∀c:Bool,(if c=true then (vc st2).size-2-1 else (vc st2).size-2)+1<(vc st2).size:=λc=>by cases c <;> simp <;> omega
   refine vL (X5 h0 V2 (hx _) λst3 V3 hs=>?_);rw[vG (by decide)];exact vN ⟨rfl,V3,.inr ∅⟩
  ·rintro c st2 ⟨rfl,V2,b⟩
   exact⟨rfl,V2,∅⟩
  ·rintro c st2 ⟨rfl,V2,b⟩
   dsimp only
   refine vN (h st2 V2.perm V2.fail ?_);obtain⟨Xs,e1,e2,e3⟩:=V2.runs;have sz2:(vM st2).size=a₀.size:=V2.perm.size_eq;have hS:S=[]:=by
    have:=v9 xj e1;rw[zC,zM,e3,sz2]at this;exact ZW.mp ∅
   have hl:=Wv e2;rw[zM]at hl;have st:Srt (vM st2).toList:=by
    rw[e1,hS,zn]
    match Xs,e2,hl with
    | [],_,_=>exact xF
    | [X],e2,_=>
     rw[yF,List.flatten_nil,zn]
     match hp:(vc st2).toList,e2 with
     | p::r,e2=>exact e2.2.2.2.1
    | X::Y::Z,_,hl=>rw[zL,zL]at hl;omega
   exact λi j h1 h2=>zBU st h1 ∅
end
end So
set_option maxHeartbeats 2000000
namespace So
open PySem PyProof.Rows
section
variable{prog:vW}{w:vZ}{A:ve}{E:vB->vF->Prop}{s:vF}
theorem zBk{a:vJ}{xs:List vB}{is:List Int}{k:Nat}{P:Fin->vF->Prop}(at_:s.heap.get? a=some (vt "list" xs.toArray k))(hin:uC xs is)(big:2<=xs.length)(fits:xs.length<=1000000)(h:∀(o:Array vB)(js:List Int),uC o.toList js->js.Perm is->js.Pairwise (· <= ·)->P (.done (.ret .none)) { s with heap:=sortedHeap s.heap a xs o }):vO (model prog w) A (Builtin.«list.sort» ⟨[.ref a],[]⟩) P E s:=by
 have la:=zO at_;have empty:=get?_update_seq at_ (λ_=>(#[]:Array vB));rw[list_sort_plain];refine vA (sL at_ rfl (vA (uk at_ rfl ?_)));refine vA (t4 empty rfl (vA (tI (vA (uj (vn ?_))))));have still:(((s.heap.update a (Obj.mapSeq λ_=>#[])).push (vt "tuple" xs.toArray 0)).push (vt "list" #[] 0)).get? a=some _:=zE _ (zE _ empty)
 change vO (model prog w) A _ P E (Shared.mk (((s.heap.update a (Obj.mapSeq λ_=>#[])).push (vt "tuple" xs.toArray 0)).push (vt "list" #[] 0)) _ _ _ _)
 have many:¬xs.toArray.size<2:=by rw[zP];omega
 dsimp only
 rw[vG many,vG many];have kk:keyKind' xs.toArray=pure uB:=by
  match xs,big,hin with
  | _::_::_,_,hin=>exact keyKind_ints hin
 rw[kk];refine vA (vH ?_);have base:u7 (pairsOf xs) (SortSt.mk' uB (xs.toArray.zip xs.toArray) #[] 7 none):=⟨Zk _,rfl,rfl,rfl⟩;refine vA (vq (zAP (Q:=λ_ t=>(vM t).Perm (pairsOf xs)/\uO t=none/\ue (vM t) (pairsOf xs).size) hin.intKeys base λt q1 q2 q3=>⟨q1,q2,q3⟩) (λr s3 hr=>?_) λ_ _ z=>z);obtain⟨⟨⟩,t⟩:=r;obtain⟨rfl,q1,q2,q3⟩:=hr
 dsimp only
 obtain⟨js,c1,c2,c3⟩:=sorted_out hin q1 q3;have lt:((vM t).map (·.2)).size<=sizeLine:=by
  rw[YW,q1.size_eq,pairsOf_size,vh];omega
 refine vA (t4 still rfl (vA (uk still rfl ?_ (hsz2:=wL lt))));rw[q2];simp only[bne_self_eq_false,zv,if_false];exact vH (h _ js c1 c2 c3)
theorem sorted_any{l:vJ}{xs:List vB}{is:List Int}{Q:vB->vF->Prop}(isl:s.heap.IsList l xs.toArray)(hin:uC xs is)(fits:xs.length<=1000000)(h:∀(o:Array vB)(js:List Int),uC o.toList js->js.Perm is->js.Pairwise (· <= ·)->Q (.ref (s.heap.objs.size+1)) { s with heap:=sortedAll s.heap xs o }):vO (model prog w) A (call (.builtin "sorted") [.ref l]) Q E s:=by
 by_cases few:xs.length<64
 ·exact sorted_ints isl hin few h
 refine Calls.call_function_entry tj tU tV (sI (.ref l)) ?_;unfold Builtin.«sorted»;refine vA (m:=sF "sorted" 1 1 _) (vH (vA (collect_list isl ?_ (by rw[vh];omega))));have many:((s.heap.push (vt "list" #[] 0)).update s.heap.objs.size (Obj.mapSeq (·++xs.toArray))).objs.size=s.heap.objs.size+1:=(xM _ _ _).trans (size_push' _ _);refine vA (uj ?_);generalize hh:(s.heap.push (vt "list" #[] 0)).update s.heap.objs.size (Obj.mapSeq (·++xs.toArray))=h2 at many ⊢;have here:(h2.push (vt "list" xs.toArray 0)).get? (s.heap.objs.size+1)=some (vt "list" xs.toArray 0):=by
  have:=zR h2 (o:=vt "list" xs.toArray 0) rfl
  rwa [many]at this
 change vO _ _ _ _ _ (Shared.mk (h2.push (vt "list" xs.toArray 0)) _ _ _ _)
 rw[many];refine vA (vn (vp slot_list_sort ⟨_,here,rfl⟩ entry_list_sort ?_ (tm _)));refine zBk here hin ∅ fits λo js c1 c2 c3=>?_;refine⟨_,rfl,vH ⟨_,rfl,?_⟩⟩;subst hh;exact h o js c1 c2 c3
end
end So
namespace Hk
open PySem L2
def rSortB:List V->Hp->VK->Prop:=λxs H Q=>∃p ns,xs=[.ref p]/\H p=some (.lst (ns.map V.int))/\ns.length<=1000000/\∀l,H l=none->Q (.ref l) (upd H l (.lst ((Yu ns).map V.int)))
noncomputable def zCB:D->Option R
 | .lst ds=>(intsOf ds).bind λns=>if ns.length<=1000000 then some (.fr ((Yu ns).map D.int))else none
 | _=>none
noncomputable def zAH(f:FD):FE:=λω=>(f ω).bind zCB
section
variable{X:Cx}
theorem qb0:X3 X (.builtin "sorted") rSortB:=by
 intro pins s σ H xs us Q I r h;obtain⟨p,ns,rfl,hp,hz,q⟩:=h;obtain⟨u,rfl,rx⟩:=vals1 r;cases rx;obtain⟨its,n,rv,e,_⟩:=I.lst hp;have hlen:its.length=ns.length:=by rw[<- rv.length,zB]
 refine So.sorted_any ⟨_,e,rfl,n,rfl⟩ (q3U rv) ∅ λout ns' a1 a2 a3=>?_;obtain⟨m,hm⟩:=PyProof.Rows.sortedAll_at s.heap its out;have en:ns'=Yu ns:=q0C a3 q0i (a2.trans qq.symm);subst en;have hsl:(Yu ns).length<=sizeLine:=by rw[q48,vh];omega
 have I2:=I.laid (a:=s.heap.objs.size+1) (o:=.lst ((Yu ns).map V.int)) (t':=s.toks) (λb o e=>PyProof.Rows.sortedAll_old e) (yx _)
  (show Y2 X.prog X.w _ (PyProof.Rows.sortedAll s.heap its out) _ (.lst _)from ⟨by rw[zB];exact hsl,out.toList,m,q0W a1,by rw[xC];exact hm⟩)
 exact⟨.ref _,_,I2,rfl,q _ (I.hok.fresh (yx _))⟩
theorem q5X{a:vX}{f:FD}{p q:Pos}(hg:Gl X "sorted")(hm:X.mg "sorted" = none)(ha:XV X a f)(he:vK [a] X.env=(false,eval a X.env)::vK [] X.env:=by rfl)(hpl:(vk q (vK [] X.env)).any (·.1)=false:=by rfl):XE X (.Call (.Name "sorted" p) [a] [] q) (zAH f):=by
 obtain⟨t,h1,h2⟩:=ha;refine⟨_,q1x qb0 hg hm q1L (qt h1 qr he) (by decide) (by decide) he hpl,λG0 H0 G ω σ H r Q o e k=>?_⟩;obtain⟨d,z,e⟩:=bnd e;refine h2 G0 H0 G ω σ H d _ o z λv G1 H1 x1 y1=>?_;cases d with
 | lst ds=>
  obtain⟨ns,e1,e2⟩:=bnd (show (intsOf ds).bind _=some r from e);have hds:=q0y e1;subst hds
  by_cases hz:ns.length<=1000000
  ·rw[vC hz]at e2
   cases e2;obtain⟨p,vs,rfl,g1,g2⟩:=y1.lst x1.gh;have hv:=g2.of_ints;subst hv;refine⟨p,ns,rfl,g1,hz,λl hl=>?_⟩;have x2:=Ext.hide x1.gh hl (.lst ((Yu ns).map V.int));exact k _ G1 _ (x1.trans x2) ⟨l,_,rfl,x1.hh.free hl,x1.gh.free hl,qe,Yo.ints _⟩
  ·rw[vG hz]at e2;cases e2
 | _=>cases e
noncomputable def zB8(o:Option D):Option R:=o.bind zCB
theorem q2r{fd:FD}{ω:WSt}:zAH fd ω=zB8 (fd ω):=rfl
theorem q2w{ns:List Int}(h:ns.length<=1000000):zB8 (some (.lst (ns.map D.int)))=some (.fr ((Yu ns).map D.int)):=by
 show (intsOf (ns.map D.int)).bind _=_;rw[q0h];exact vC h
end
end Hk
set_option maxHeartbeats 4000000
namespace Kx
open PySem L2 Hk
noncomputable def top(i:Nat):vz:=PySem.Challenge.pw_hookrail_k34_the_told_tour.main.body.getD i (.Pass ⟨0,0,0,0⟩)
section
variable{P:vW}{w:vZ}{K:zA}{mg:Str->Option vB}{base:vj}{f:vJ}{fd:vQ}
noncomputable def q69:FS:=(Y8 (eOf (zAB (dOf (zAm .int (vOf (Yi 0)))) (vNot (dOf (zAm .bl (vOf (Yi 0))))))))
noncomputable def qu:List D->Option O:=mir 1 q69
noncomputable abbrev q3F:vz:=top 5
theorem qaW:FnScope ["thing"] ["thing"] (Yk q3F):=⟨rfl,rfl,rfl,⋯,rfl,⋯,⋯⟩
theorem q9V (F:Fun K "is_whole" "is_whole" q3F f fd)(z_isinstance:mg "isinstance" = none)(z_bool:mg "bool" = none)(z_int:mg "int" = none)(i_int:IsT K .int)(i_bool:IsT K .bl):
  FnOk P w K mg base CX0 1 f fd ["thing"] (spD K 1 qu):=by
 have h:=fnD (P:=P) (w:=w) (mg:=mg) (base:=base) (k:=0) (body:=q69) F qaW (λcdv A outer s H E hr=>
   (qc (qg (XD.toE (qR (XE.toD (q0j (vV 0) i_int rfl z_isinstance rfl z_int qcl)) (q0k (qcC (XE.toD (q0j (vV 0) i_bool rfl z_isinstance rfl z_bool qaD)))))))))
 exact h
noncomputable def q5w:FS:=(Y8 (eOf (zAB (dOf (zAm .tup (vOf (Yi 0)))) (zAB (dOf (Yn (oEq false) (vOf (Xj WN (Yg (vOf (Yi 0)) Yq))) (fC (.int 2)))) (zAB (dOf (Yr qu (Yg (dOf (Yn oIx (vOf (Yi 0)) (fC (.int 0)))) Yq))) (dOf (Yr qu (Yg (dOf (Yn oIx (vOf (Yi 0)) (fC (.int 1)))) Yq))))))))
noncomputable def q2h:List D->Option O:=mir 1 q5w
noncomputable abbrev q5S:vz:=top 6
theorem qd1:FnScope ["thing"] ["thing"] (Yk q5S):=⟨rfl,rfl,rfl,⋯,rfl,⋯,⋯⟩
theorem qcI{f_is_whole:vJ}{d_is_whole:vQ}(F:Fun K "is_box" "is_box" q5S f fd)(c_is_whole:Cal P w K mg base 1 f_is_whole d_is_whole "is_whole" ["thing"] 1 qu)(z_len:mg "len" = none)(z_isinstance:mg "isinstance" = none)(z_tuple:mg "tuple" = none)(i_tuple:IsT K .tup):
  FnOk P w K mg base CX0 2 f fd ["thing"] (spD K 1 q2h):=by
 have h:=fnD (P:=P) (w:=w) (mg:=mg) (base:=base) (k:=1) (body:=q5w) F qd1 (λcdv A outer s H E hr=>
   (qc (qg (XD.toE (qR (XE.toD (q0j (vV 0) i_tuple rfl z_isinstance rfl z_tuple q3C)) (qR (XE.toD (WO hr.units (XE.toV (qw qj qH rfl z_len qG (qh (vV 0) qo))) (XD.toV Yh))) (qR (XE.toD (xc c_is_whole hr (Yf (XE.toD (Yj (vV 0) (XD.toV Yh))) Yl))) (q0k (XE.toD (xc c_is_whole hr (Yf (XE.toD (Yj (vV 0) (XD.toV Yh))) Yl)))))))))))
 exact h
noncomputable def q4w:FD:=(dOf (Yr q2h (Yg (dOf (Yi 0)) Yq)))
noncomputable def q2I:FS:=(Yx (sIf (W7 (XZ (WY (vOf (Yr qu (Yg (dOf (Yi 0)) Yq))))) (W7 (XZ (WY (vOf (Yr qu (Yg (dOf (Yi 1)) Yq))))) (XZ (WY (vOf (zAm .lst (vOf (Yi 2)))))))) (Y8 (eOf (fC (.bl false)))) Xq)
  (Y8 (Xj zCW (Yg (vOf (Xh 1 [] (WI (dOf (Yi 2))) (gN 0) Xk q4w)) Yq))))
noncomputable def q0r:List D->Option O:=mir 3 q2I
noncomputable abbrev q2G:vz:=top 7
theorem q9N:FnScope ["home", "last", "boxes"] ["home", "last", "boxes"] (Yk q2G):=⟨rfl,rfl,rfl,⋯,rfl,⋯,⋯⟩
theorem q8N{f_is_whole:vJ}{d_is_whole:vQ}{f_is_box:vJ}{d_is_box:vQ}(F:Fun K "is_errand" "is_errand" q2G f fd)(c_is_whole:Cal P w K mg base 1 f_is_whole d_is_whole "is_whole" ["thing"] 1 qu)(c_is_box:Cal P w K mg base 2 f_is_box d_is_box "is_box" ["thing"] 1 q2h)(z_isinstance:mg "isinstance" = none)(z_list:mg "list" = none)(z_all:mg "all" = none)(i_list:IsT K .lst):
  FnOk P w K mg base CX0 3 f fd ["home", "last", "boxes"] (spD K 3 q0r):=by
 have h:=fnD (P:=P) (w:=w) (mg:=mg) (base:=base) (k:=2) (body:=q2I) F q9N (λcdv A outer s H E hr=>
   (qb (qv (XW.toT (q0t (qN (qF (XE.toV (xc c_is_whole hr (Yf (vD 0) Yl))))) (q0t (qN (qF (XE.toV (xc c_is_whole hr (Yf (vD 1) Yl))))) (q1D (qN (qF (XE.toV (q0j (vV 2) i_list rfl z_isinstance rfl z_list q0X)))))))) (qc (qg (XD.toE Xn))) qp)
   (qc (qg (qw (q4L rfl) q8U rfl z_all q8D (qh (XE.toV (q0U rfl (blk ["box"] [] [] rfl ⋯ ⋯ rfl trivial) (qx (vD 2)) (qU 0) (λ_ _ _ _=>⟨(qi (i:=0) (show ((["box"]:List Str)++([]:List Str):List Str).Nodup from by decide +kernel) rfl (Or.inl rfl)),q0q,(XE.toD (xc c_is_box hr (Yf (vD 0) Yl)))⟩))) qo))))))
 exact h
noncomputable def q1w:FS:=(sIf (XZ (WY (vOf (Yr q0r (Yg (dOf (Yi 0)) (Yg (dOf (Yi 1)) (Yg (dOf (Yi 2)) Yq))))))) sNo Xq)
noncomputable def qI:List D->Option O:=mir 3 q1w
noncomputable abbrev q1n:vz:=top 8
theorem q7d:FnScope ["home", "last", "boxes"] ["home", "last", "boxes"] (Yk q1n):=⟨rfl,rfl,rfl,⋯,rfl,⋯,⋯⟩
theorem q6z{f_is_errand:vJ}{d_is_errand:vQ}(F:Fun K "check_errand" "check_errand" q1n f fd)(c_is_errand:Cal P w K mg base 3 f_is_errand d_is_errand "is_errand" ["home", "last", "boxes"] 3 q0r):
  FnOk P w K mg base CX0 4 f fd ["home", "last", "boxes"] (spD K 3 qI):=by
 have h:=fnD (P:=P) (w:=w) (mg:=mg) (base:=base) (k:=3) (body:=q1w) F q7d (λcdv A outer s H E hr=>
   (qc (qv (qN (qF (XE.toV (xc c_is_errand hr (Yf (vD 0) (Yf (vD 1) (Yf (vD 2) Yl))))))) (qc qb1) qp)))
 exact h
noncomputable def q5R:FS:=(sExt 3 (dOf (Yi 4)))
noncomputable def q7k:FS:=(Yx (zBZ (Yr qI (Yg (dOf (Yi 0)) (Yg (dOf (Yi 1)) (Yg (dOf (Yi 2)) Yq)))))
  (Yx (XF 3 (zAV (Yg (dOf (Yi 0)) (Yg (dOf (Yi 1)) Yq))))
  (Yx (W9 (WI (dOf (Yi 2))) (gN 4) q5R)
  (Y8 (Wo (vOf (Yi 3)))))))
noncomputable def q1j:List D->Option O:=mir 5 q7k
noncomputable abbrev q7o:vz:=top 9
theorem q7p:FnScope ["home", "last", "boxes", "places", "box"] ["home", "last", "boxes"] (Yk q7o):=⟨rfl,rfl,rfl,⋯,rfl,⋯,⋯⟩
theorem qd8{f_check_errand:vJ}{d_check_errand:vQ}(F:Fun K "stops" "stops" q7o f fd)(c_check_errand:Cal P w K mg base 4 f_check_errand d_check_errand "check_errand" ["home", "last", "boxes"] 3 qI)(z_sorted:mg "sorted" = none)(z_set:mg "set" = none):
  FnOk P w K mg base CX0 5 f fd ["home", "last", "boxes"] (spD K 3 q1j):=by
 have h:=fnD (P:=P) (w:=w) (mg:=mg) (base:=base) (k:=4) (body:=q7k) F q7p (λcdv A outer s H E hr=>
   (qb (qaq (xc c_check_errand hr (Yf (vD 0) (Yf (vD 1) (Yf (vD 2) Yl)))))
   (qb (qm (i:=3) q7p.nd rfl (Or.inl rfl) (XR (Yf (vD 0) (Yf (vD 1) Yl))))
   (qb (q00 PassesOwn.never rfl (qx (vD 2)) (qi (i:=4) q7p.nd rfl (Or.inl rfl)) (qc (qcd (pv 3) (vD 4))))
   (qc (qg (qbc rfl z_sorted rfl z_set (vV 3))))))))
 exact h
noncomputable def q8s:FS:=(Yx (XF 3 (eOf (dOf (Yr q1j (Yg (dOf (Yi 0)) (Yg (dOf (Yi 1)) (Yg (dOf (Yi 2)) Yq)))))))
  (Y8 (Xj WE (Yg (vOf (Yi 3)) (Yg (vOf (fSl (vOf (Yi 3)) (pAt (fC (.int 1))) pNo)) Yq)))))
noncomputable def q0v:List D->Option O:=mir 4 q8s
noncomputable abbrev q90:vz:=top 10
theorem qbP:FnScope ["home", "last", "boxes", "places"] ["home", "last", "boxes"] (Yk q90):=⟨rfl,rfl,rfl,⋯,rfl,⋯,⋯⟩
theorem qfv{f_stops:vJ}{d_stops:vQ}(F:Fun K "gaps" "gaps" q90 f fd)(c_stops:Cal P w K mg base 5 f_stops d_stops "stops" ["home", "last", "boxes"] 3 q1j)(z_list:mg "list" = none)(z_zip:mg "zip" = none):
  FnOk P w K mg base CX0 6 f fd ["home", "last", "boxes"] (spD K 3 q0v):=by
 have h:=fnD (P:=P) (w:=w) (mg:=mg) (base:=base) (k:=5) (body:=q8s) F qbP (λcdv A outer s H E hr=>
   (qb (qm (i:=3) qbP.nd rfl (Or.inl rfl) (XD.toE (XE.toD (xc c_stops hr (Yf (vD 0) (Yf (vD 1) (Yf (vD 2) Yl)))))))
   (qc (qg (qaT rfl z_list rfl z_zip (qh (vV 3) (qh (XE.toV (Xa (vV 3) (Xm (XD.toV Yh)) X9)) qo)))))))
 exact h
noncomputable def q26:FD:=(W2 (Yg (dOf (Yn oIx (vOf (Yi 0)) (fC (.int 0)))) (Yg (dOf (Yn oIx (vOf (Yi 0)) (fC (.int 1)))) (Yg (dOf (Yn zBt (vOf (Yn oIx (vOf (Yi 0)) (fC (.int 1)))) (vOf (Yn oIx (vOf (Yi 0)) (fC (.int 0)))))) Yq))))
noncomputable def q2C:FS:=(Y8 (Xh 1 [] (WI (dOf (Yr q0v (Yg (dOf (Yi 0)) (Yg (dOf (Yi 1)) (Yg (dOf (Yi 2)) Yq)))))) (gN 0) Xk q26))
noncomputable def q0H:List D->Option O:=mir 3 q2C
noncomputable abbrev q2z:vz:=top 11
theorem q9E:FnScope ["home", "last", "boxes"] ["home", "last", "boxes"] (Yk q2z):=⟨rfl,rfl,rfl,⋯,rfl,⋯,⋯⟩
theorem q8I{f_gaps:vJ}{d_gaps:vQ}(F:Fun K "gap_edges" "gap_edges" q2z f fd)(c_gaps:Cal P w K mg base 6 f_gaps d_gaps "gaps" ["home", "last", "boxes"] 3 q0v):
  FnOk P w K mg base CX0 7 f fd ["home", "last", "boxes"] (spD K 3 q0H):=by
 have h:=fnD (P:=P) (w:=w) (mg:=mg) (base:=base) (k:=6) (body:=q2C) F q9E (λcdv A outer s H E hr=>
   (qc (qg (q0U rfl (blk ["gap"] [] [] rfl ⋯ ⋯ rfl trivial) (qx (XE.toD (xc c_gaps hr (Yf (vD 0) (Yf (vD 1) (Yf (vD 2) Yl)))))) (qU 0) (λ_ _ _ _=>⟨(qi (i:=0) (show ((["gap"]:List Str)++([]:List Str):List Str).Nodup from by decide +kernel) rfl (Or.inl rfl)),q0q,(XB (Yf (XE.toD (Yj (vV 0) (XD.toV Yh))) (Yf (XE.toD (Yj (vV 0) (XD.toV Yh))) (Yf (XE.toD (q2g (XE.toV (Yj (vV 0) (XD.toV Yh))) (XE.toV (Yj (vV 0) (XD.toV Yh))))) Yl))))⟩)))))
 exact h
noncomputable def q2d:FS:=(Y8 (eOf (zAB (dOf (Yn oLe (vOf (Yi 0)) (vOf (Yn oIx (vOf (Yi 2)) (fC (.int 0)))))) (dOf (Yn oLe (vOf (Yn oIx (vOf (Yi 2)) (fC (.int 1)))) (vOf (Yi 1)))))))
noncomputable def q08:List D->Option O:=mir 3 q2d
noncomputable abbrev q2q:vz:=top 13
theorem q98:FnScope ["start", "goal", "gap"] ["start", "goal", "gap"] (Yk q2q):=⟨rfl,rfl,rfl,⋯,rfl,⋯,⋯⟩
theorem q8a (F:Fun K "leads_over" "leads_over" q2q f fd):
  FnOk P w K mg base CX0 1 f fd ["start", "goal", "gap"] (spD K 3 q08):=by
 have h:=fnD (P:=P) (w:=w) (mg:=mg) (base:=base) (k:=0) (body:=q2d) F q98 (λcdv A outer s H E hr=>
   (qc (qg (XD.toE (qR (XE.toD (qet (vV 0) (XE.toV (Yj (vV 2) (XD.toV Yh))))) (q0k (XE.toD (qet (XE.toV (Yj (vV 2) (XD.toV Yh))) (vV 1)))))))))
 exact h
noncomputable def q3y:FT:=(WY (vOf (Yr q08 (Yg (dOf (Yn oIx (vOf (Yi 0)) (fC (.int 0)))) (Yg (dOf (Yn oIx (vOf (Yi 0)) (fC (.int 1)))) (Yg (dOf (Yi 1)) Yq))))))
noncomputable def q3T:FD:=(dOf (Yi 0))
noncomputable def q3I:FT:=(WY (vOf (Yr q08 (Yg (dOf (Yn oIx (vOf (Yi 0)) (fC (.int 1)))) (Yg (dOf (Yn oIx (vOf (Yi 0)) (fC (.int 0)))) (Yg (dOf (Yi 1)) Yq))))))
noncomputable def q3O:FD:=(dOf (Yi 0))
noncomputable def q43:FS:=(Yx (XF 2 (Xh 1 [1] (WI (dOf (Yi 0))) (gN 0) q3y q3T))
  (Xe 2 (Yx (XF 3 (Xh 1 [1] (WI (dOf (Yi 0))) (gN 0) q3I q3O))
  (Xe 3 (Y8 (eOf (W2 (Yg (dOf (Xj WN (Yg (vOf (Yi 2)) Yq))) (Yg (dOf (Xj WN (Yg (vOf (Yi 3)) Yq))) Yq)))))))))
noncomputable def q0S:List D->Option O:=mir 4 q43
noncomputable abbrev q4Q:vz:=top 14
theorem q4F:FnScope ["boxes", "gap", "rights", "lefts"] ["boxes", "gap"] (Yk q4Q):=⟨rfl,rfl,rfl,⋯,rfl,⋯,⋯⟩
theorem qbd{f_leads_over:vJ}{d_leads_over:vQ}(F:Fun K "crossed" "crossed" q4Q f fd)(c_leads_over:Cal P w K mg base 1 f_leads_over d_leads_over "leads_over" ["start", "goal", "gap"] 3 q08)(z_len:mg "len" = none):
  FnOk P w K mg base CX0 2 f fd ["boxes", "gap"] (spD K 2 q0S):=by
 have h:=fnD (P:=P) (w:=w) (mg:=mg) (base:=base) (k:=1) (body:=q43) F q4F (λcdv A outer s H E hr=>
   (qb (q24 (i:=2) rfl q4F.nd rfl rfl (blk ["box"] ["gap"] [1] rfl ⋯ ⋯ rfl ⟨⟨rfl,(by first|exact Or.inl rfl|exact Or.inr rfl),rfl⟩,trivial⟩) (qx (vD 0)) (qU 0) (λ_ _ _ _=>⟨(qi (i:=0) (show ((["box"]:List Str)++(["gap"]:List Str):List Str).Nodup from by decide +kernel) rfl (Or.inl rfl)),(q54 (qF (XE.toV (xc c_leads_over hr (Yf (XE.toD (Yj (vV 0) (XD.toV Yh))) (Yf (XE.toD (Yj (vV 0) (XD.toV Yh))) (Yf (vD 1) Yl))))))),(vD 0)⟩))
   (qO 2 (qb (q24 (i:=3) rfl q4F.nd rfl rfl (blk ["box"] ["gap"] [1] rfl ⋯ ⋯ rfl ⟨⟨rfl,(by first|exact Or.inl rfl|exact Or.inr rfl),rfl⟩,trivial⟩) (qx (vD 0)) (qU 0) (λ_ _ _ _=>⟨(qi (i:=0) (show ((["box"]:List Str)++(["gap"]:List Str):List Str).Nodup from by decide +kernel) rfl (Or.inl rfl)),(q54 (qF (XE.toV (xc c_leads_over hr (Yf (XE.toD (Yj (vV 0) (XD.toV Yh))) (Yf (XE.toD (Yj (vV 0) (XD.toV Yh))) (Yf (vD 1) Yl))))))),(vD 0)⟩))
   (qO 3 (qc (qg (XD.toE (XB (Yf (XE.toD (qw qj qH rfl z_len qG (qh (vV 2) qo))) (Yf (XE.toD (qw qj qH rfl z_len qG (qh (vV 3) qo))) Yl)))))))))))
 exact h
noncomputable def q8n:FS:=(Yx (XF 4 (eOf (dOf (Yr q0S (Yg (dOf (zAV (Yg (W2 (Yg (dOf (Yi 0)) (Yg (dOf (Yi 1)) Yq))) Yq))) (Yg (dOf (Yi 3)) Yq))))))
  (Yx (XF 5 (eOf (dOf (Yr q0S (Yg (dOf (Yi 2)) (Yg (dOf (Yi 3)) Yq))))))
  (Y8 (Yn WB (vOf (Yn zBt (vOf (Yn zBt (vOf (Yn oIx (vOf (Yi 4)) (fC (.int 0)))) (vOf (Yn oIx (vOf (Yi 4)) (fC (.int 1)))))) (vOf (Yn oIx (vOf (Yi 5)) (fC (.int 0)))))) (vOf (Yn oIx (vOf (Yi 5)) (fC (.int 1))))))))
noncomputable def q4W:List D->Option O:=mir 6 q8n
noncomputable abbrev q8v:vz:=top 15
theorem q9r:FnScope ["home", "last", "boxes", "gap", "own", "carried"] ["home", "last", "boxes", "gap"] (Yk q8v):=⟨rfl,rfl,rfl,⋯,rfl,⋯,⋯⟩
theorem qeT{f_crossed:vJ}{d_crossed:vQ}(F:Fun K "lack" "lack" q8v f fd)(c_crossed:Cal P w K mg base 2 f_crossed d_crossed "crossed" ["boxes", "gap"] 2 q0S):
  FnOk P w K mg base CX0 3 f fd ["home", "last", "boxes", "gap"] (spD K 4 q4W):=by
 have h:=fnD (P:=P) (w:=w) (mg:=mg) (base:=base) (k:=2) (body:=q8n) F q9r (λcdv A outer s H E hr=>
   (qb (qm (i:=4) q9r.nd rfl (Or.inl rfl) (XD.toE (XE.toD (xc c_crossed hr (Yf (XE.toD (XR (Yf (XB (Yf (vD 0) (Yf (vD 1) Yl))) Yl))) (Yf (vD 3) Yl))))))
   (qb (qm (i:=5) q9r.nd rfl (Or.inl rfl) (XD.toE (XE.toD (xc c_crossed hr (Yf (vD 2) (Yf (vD 3) Yl))))))
   (qc (qg (qV (XE.toV (q2g (XE.toV (q2g (XE.toV (Yj (vV 4) (XD.toV Yh))) (XE.toV (Yj (vV 4) (XD.toV Yh))))) (XE.toV (Yj (vV 5) (XD.toV Yh))))) (XE.toV (Yj (vV 5) (XD.toV Yh)))))))))
 exact h
noncomputable def q8m:FD:=(dOf (Yr q4W (Yg (dOf (Yi 1)) (Yg (dOf (Yi 2)) (Yg (dOf (Yi 3)) (Yg (dOf (Yi 0)) Yq))))))
noncomputable def q7h:FS:=(Y8 (Xh 1 [0,1,2] (WI (dOf (Yr q0v (Yg (dOf (Yi 0)) (Yg (dOf (Yi 1)) (Yg (dOf (Yi 2)) Yq)))))) (gN 0) Xk q8m))
noncomputable def q1s:List D->Option O:=mir 3 q7h
noncomputable abbrev q7j:vz:=top 16
theorem qfL:FnScope ["home", "last", "boxes"] ["home", "last", "boxes"] (Yk q7j):=⟨rfl,rfl,rfl,⋯,rfl,⋯,⋯⟩
theorem qcU{f_gaps:vJ}{d_gaps:vQ}{f_lack:vJ}{d_lack:vQ}(F:Fun K "lacks" "lacks" q7j f fd)(c_gaps:Cal P w K mg base 6 f_gaps d_gaps "gaps" ["home", "last", "boxes"] 3 q0v)(c_lack:Cal P w K mg base 3 f_lack d_lack "lack" ["home", "last", "boxes", "gap"] 4 q4W):
  FnOk P w K mg base CX0 7 f fd ["home", "last", "boxes"] (spD K 3 q1s):=by
 have h:=fnD (P:=P) (w:=w) (mg:=mg) (base:=base) (k:=6) (body:=q7h) F qfL (λcdv A outer s H E hr=>
   (qc (qg (q0U rfl (blk ["gap"] ["home", "last", "boxes"] [0,1,2] rfl ⋯ ⋯ rfl ⟨⟨rfl,(by first|exact Or.inl rfl|exact Or.inr rfl),rfl⟩,⟨⟨rfl,(by first|exact Or.inl rfl|exact Or.inr rfl),rfl⟩,⟨⟨rfl,(by first|exact Or.inl rfl|exact Or.inr rfl),rfl⟩,trivial⟩⟩⟩) (qx (XE.toD (xc c_gaps hr (Yf (vD 0) (Yf (vD 1) (Yf (vD 2) Yl)))))) (qU 0) (λ_ _ _ _=>⟨(qi (i:=0) (show ((["gap"]:List Str)++(["home", "last", "boxes"]:List Str):List Str).Nodup from by decide +kernel) rfl (Or.inl rfl)),q0q,(XE.toD (xc c_lack hr (Yf (vD 1) (Yf (vD 2) (Yf (vD 3) (Yf (vD 0) Yl))))))⟩)))))
 exact h
noncomputable def q40:FS:=sNb
noncomputable def q1b:List D->Option O:=mir 5 q40
noncomputable abbrev q28:vz:=top 18
theorem q3Z:FnScope ["things", "ties", "beside", "thing", "tie"] ["things", "ties"] (Yk q28):=⟨rfl,rfl,rfl,⋯,rfl,⋯,⋯⟩
theorem q89 (F:Fun K "neighbours" "neighbours" q28 f fd):
  FnOk P w K mg base CX0 1 f fd ["things", "ties"] (spD K 2 q1b):=by
 have h:=fnD (P:=P) (w:=w) (mg:=mg) (base:=base) (k:=0) (body:=q40) F q3Z (λcdv A outer s H E hr=>
   (qgG hr.units PassesOwn.never rfl q3Z.nd rfl rfl rfl (by first|exact Or.inl rfl|exact Or.inr rfl) (by first|exact Or.inl rfl|exact Or.inr rfl) (by first|exact Or.inl rfl|exact Or.inr rfl) (by first|exact .inl rfl|exact .inr rfl) (by first|exact .inl rfl|exact .inr rfl) (by first|exact .inl rfl|exact .inr rfl) (pv 0) (pv 1) (pv 2) (pv 2) (pv 2) (pv 3) (pv 2) (XE.toD (Yj (vV 4) (XD.toV Yh))) (XE.toD (Yj (vV 4) (XD.toV Yh))) (XE.toD (Yj (vV 4) (XD.toV Yh))) (XE.toD (Yj (vV 4) (XD.toV Yh))) (λω e h=>qgx h) (λω e h=>qgP h)))
 exact h
noncomputable def q2F:FS:=(sIf (zBK true 2 (dOf (Yi 5))) (Yx (zAt 2 (dOf (Yi 5)) (fC (.bl true)))
  (zBq 3 (dOf (Yi 5)))) Xq)
noncomputable def q1A:FT:=(WY (vOf (Yi 3)))
noncomputable def q2E:FS:=(Yx (zBx 4 (zBu 3))
  (W9 (WI (dOf (zAQ 1 (dOf (Yi 4))))) (gN 5) q2F))
noncomputable def q3B:FS:=(Yx (zBd 2 (dOf (Yi 0)) (fC (.bl true)))
  (Yx (XF 3 (zAV (Yg (dOf (Yi 0)) Yq)))
  (Yx (sWh 1000000 q1A q2E)
  (Y8 (zBC 2)))))
noncomputable def q1d:List D->Option O:=mir 6 q3B
noncomputable abbrev q3L:vz:=top 19
theorem q17:FnScope ["thing", "beside", "found", "waiting", "here", "other"] ["thing", "beside"] (Yk q3L):=⟨rfl,rfl,rfl,⋯,rfl,⋯,⋯⟩
theorem q9Q (F:Fun K "group_of" "group_of" q3L f fd)(z_sorted:mg "sorted" = none):
  FnOk P w K mg base CX0 1 f fd ["thing", "beside"] (spD K 2 q1d):=by
 have h:=fnD (P:=P) (w:=w) (mg:=mg) (base:=base) (k:=0) (body:=q3B) F q17 (λcdv A outer s H E hr=>
   (qb (qe1 (i:=2) q17.nd rfl (Or.inl rfl) (vD 0) Xn)
   (qb (qm (i:=3) q17.nd rfl (Or.inl rfl) (XR (Yf (vD 0) Yl)))
   (qb (qde PassesOwn.never (qF (vV 3)) (qb (qeC (i:=4) q17.nd rfl (Or.inl rfl) (qfj (pv 3)))
   (qc (q00 PassesOwn.never rfl (qx (XE.toD (q2S hr.units (pv 1) (vD 4)))) (qi (i:=5) q17.nd rfl (Or.inl rfl)) (qc (qv (q7I hr.units (vD 5) (pv 2)) (qb (q57 hr.units (pv 2) (vD 5) Xn)
   (qc (q25 (pv 3) (vD 5)))) qp))))))
   (qc (qg (qdS rfl rfl z_sorted (pv 2))))))))
 exact h
noncomputable def q4k:FS:=(zAt 3 (dOf (Yi 7)) (fC (.bl true)))
noncomputable def q4M:FS:=(sIf (zBK true 3 (dOf (Yi 5))) (Yx (XF 6 (eOf (dOf (Yr q1d (Yg (dOf (Yi 5)) (Yg (dOf (Yi 2)) Yq))))))
  (Yx (zBq 4 (dOf (Yi 6)))
  (W9 (WI (dOf (Yi 6))) (gN 7) q4k))) Xq)
noncomputable def q5I:FS:=(Yx (XF 2 (eOf (dOf (Yr q1b (Yg (dOf (Yi 0)) (Yg (dOf (Yi 1)) Yq))))))
  (Yx (zA7 3)
  (Yx (XF 4 (zAV Yq))
  (Yx (W9 (WI (dOf (zBF (vOf (Yi 0))))) (gN 5) q4M)
  (zAT 4)))))
noncomputable def q1v:List D->Option O:=mir 8 q5I
noncomputable abbrev q63:vz:=top 20
theorem q0N:FnScope ["things", "ties", "beside", "grouped", "told", "thing", "group", "member"] ["things", "ties"] (Yk q63):=⟨rfl,rfl,rfl,⋯,rfl,⋯,⋯⟩
theorem qcn{f_neighbours:vJ}{d_neighbours:vQ}{f_group_of:vJ}{d_group_of:vQ}(F:Fun K "groups" "groups" q63 f fd)(c_neighbours:Cal P w K mg base 1 f_neighbours d_neighbours "neighbours" ["things", "ties"] 2 q1b)(c_group_of:Cal P w K mg base 1 f_group_of d_group_of "group_of" ["thing", "beside"] 2 q1d)(z_sorted:mg "sorted" = none):
  FnOk P w K mg base CX0 2 f fd ["things", "ties"] (spD K 2 q1v):=by
 have h:=fnD (P:=P) (w:=w) (mg:=mg) (base:=base) (k:=1) (body:=q5I) F q0N (λcdv A outer s H E hr=>
   (qb (qm (i:=2) q0N.nd rfl (Or.inl rfl) (XD.toE (XE.toD (xc c_neighbours hr (Yf (vD 0) (Yf (vD 1) Yl))))))
   (qb (q77 (i:=3) q0N.nd rfl (Or.inl rfl))
   (qb (qm (i:=4) q0N.nd rfl (Or.inl rfl) (XR Yl))
   (qb (q00 PassesOwn.never rfl (qx (XE.toD (qfu rfl z_sorted (vV 0)))) (qi (i:=5) q0N.nd rfl (Or.inl rfl)) (qc (qv (q7I hr.units (vD 5) (pv 3)) (qb (qm (i:=6) q0N.nd rfl (Or.inl rfl) (XD.toE (XE.toD (xc c_group_of hr (Yf (vD 5) (Yf (vD 2) Yl))))))
   (qb (q25 (pv 4) (vD 6))
   (qc (q00 PassesOwn.never rfl (qx (vD 6)) (qi (i:=7) q0N.nd rfl (Or.inl rfl)) (qc (q57 hr.units (pv 3) (vD 7) Xn)))))) qp)))
   (qc (q52 (pv 4))))))))
 exact h
noncomputable def q3D:FT:=(tOf (Yn (oEq true) (vOf (Yi 1)) (fC (.int 0))))
noncomputable def q5x:FD:=(dOf (Yi 0))
noncomputable def q79:FS:=(Yx (XF 3 (Xh 2 [] (iZp (Yg (dOf (Yr q0v (Yg (dOf (Yi 0)) (Yg (dOf (Yi 1)) (Yg (dOf (Yi 2)) Yq))))) (Yg (dOf (Yr q1s (Yg (dOf (Yi 0)) (Yg (dOf (Yi 1)) (Yg (dOf (Yi 2)) Yq))))) Yq))) (gT 2 (Y7 (gN 0) (Y7 (gN 1) WM))) q3D q5x))
  (Xe 3 (Y8 (Yn WB (vOf (Yn WB (vOf (Xj zAu (Yg (vOf (Yi 2)) Yq))) (vOf (zAV (Yg (W2 (Yg (dOf (Yi 0)) (Yg (dOf (Yi 1)) Yq))) Yq))))) (vOf (Yi 3))))))
noncomputable def q30:List D->Option O:=mir 4 q79
noncomputable abbrev q76:vz:=top 21
theorem qac:FnScope ["home", "last", "boxes", "lacking"] ["home", "last", "boxes"] (Yk q76):=⟨rfl,rfl,rfl,⋯,rfl,⋯,⋯⟩
theorem qdK{f_lacks:vJ}{d_lacks:vQ}{f_gaps:vJ}{d_gaps:vQ}(F:Fun K "knots" "knots" q76 f fd)(c_lacks:Cal P w K mg base 7 f_lacks d_lacks "lacks" ["home", "last", "boxes"] 3 q1s)(c_gaps:Cal P w K mg base 6 f_gaps d_gaps "gaps" ["home", "last", "boxes"] 3 q0v)(z_zip:mg "zip" = none)(z_list:mg "list" = none):
  FnOk P w K mg base CX0 8 f fd ["home", "last", "boxes"] (spD K 3 q30):=by
 have h:=fnD (P:=P) (w:=w) (mg:=mg) (base:=base) (k:=7) (body:=q79) F qac (λcdv A outer s H E hr=>
   (qb (q24 (i:=3) rfl qac.nd rfl rfl (blk ["gap", "lack"] [] [] rfl ⋯ ⋯ rfl trivial) (qci rfl z_zip (Yf (XE.toD (xc c_gaps hr (Yf (vD 0) (Yf (vD 1) (Yf (vD 2) Yl))))) (Yf (XE.toD (xc c_lacks hr (Yf (vD 0) (Yf (vD 1) (Yf (vD 2) Yl))))) Yl))) (qgl (q67 (qU 0) (q67 (qU 1) qca))) (λ_ _ _ _=>⟨(q66 rfl (q0f (qi (i:=0) (show ((["gap", "lack"]:List Str)++([]:List Str):List Str).Nodup from by decide +kernel) rfl (Or.inl rfl)) (q0f (qi (i:=1) (show ((["gap", "lack"]:List Str)++([]:List Str):List Str).Nodup from by decide +kernel) rfl (Or.inl rfl)) q5i))),(q54 (WW hr.units (vV 1) (XD.toV Yh))),(vD 0)⟩))
   (qO 3 (qc (qg (qV (XE.toV (qV (XE.toV (qeh q4p qa8 rfl z_list q0X (qh (vV 2) qo))) (XE.toV (XR (Yf (XB (Yf (vD 0) (Yf (vD 1) Yl))) Yl))))) (vV 3)))))))
 exact h
noncomputable def qbL:FS:=(Y8 (Yn oIx (vOf (Yi 0)) (fC (.int 2))))
noncomputable def q1K:List D->Option O:=mir 1 qbL
noncomputable abbrev q8R:vz:=top 23
theorem qgv:FnScope ["edge"] ["edge"] (Yk q8R):=⟨rfl,rfl,rfl,⋯,rfl,⋯,⋯⟩
theorem qfJ (F:Fun K "cost" "cost" q8R f fd):
  FnOk P w K mg base CX0 1 f fd ["edge"] (spD K 1 q1K):=by
 have h:=fnD (P:=P) (w:=w) (mg:=mg) (base:=base) (k:=0) (body:=qbL) F qgv (λcdv A outer s H E hr=>
   (qc (qg (Yj (vV 0) (XD.toV Yh)))))
 exact h
noncomputable def q0R:FS:=(zAt 1 (dOf (Yi 4)) (dOf (Yi 2)))
noncomputable def q0O:FS:=(W9 (WI (dOf (Yi 3))) (gN 4) q0R)
noncomputable def q1g:FS:=(Yx (zA7 1)
  (Yx (W9 (iEn (Yg (dOf (Yi 0)) Yq)) (gT 2 (Y7 (gN 2) (Y7 (gN 3) WM))) q0O)
  (Xe 1 (Y8 (Yi 1)))))
noncomputable def qJ:List D->Option O:=mir 5 q1g
noncomputable abbrev q19:vz:=top 24
theorem qZ:FnScope ["parts", "numbers", "number", "part", "thing"] ["parts"] (Yk q19):=⟨rfl,rfl,rfl,⋯,rfl,⋯,⋯⟩
theorem q5V (F:Fun K "group_numbers" "group_numbers" q19 f fd)(z_enumerate:mg "enumerate" = none):
  FnOk P w K mg base CX0 1 f fd ["parts"] (spD K 1 qJ):=by
 have h:=fnD (P:=P) (w:=w) (mg:=mg) (base:=base) (k:=0) (body:=q1g) F qZ (λcdv A outer s H E hr=>
   (qb (q77 (i:=1) qZ.nd rfl (Or.inl rfl))
   (qb (q00 PassesOwn.never rfl (qf3 rfl z_enumerate (Yf (vD 0) Yl)) (q66 rfl (q0f (qi (i:=2) qZ.nd rfl (Or.inl rfl)) (q0f (qi (i:=3) qZ.nd rfl (Or.inl rfl)) q5i))) (qc (q00 PassesOwn.never rfl (qx (vD 3)) (qi (i:=4) qZ.nd rfl (Or.inl rfl)) (qc (q57 hr.units (pv 1) (vD 4) (vD 2))))))
   (qO 1 (qc (qg (vE 1)))))))
 exact h
noncomputable def q0u:FS:=(zAt 3 (dOf (Yi 4)) (dOf (fIte (tOf (Yn (oEq false) (vOf (zAQ 0 (dOf (Yi 4)))) (vOf (Yi 2)))) (Yi 1) (zAQ 0 (dOf (Yi 4))))))
noncomputable def q0F:FS:=(Yx (zA7 3)
  (Yx (W9 (iDk 0) (gN 4) q0u)
  (Xe 3 (Y8 (Yi 3)))))
noncomputable def qM:List D->Option O:=mir 5 q0F
noncomputable abbrev q0G:vz:=top 25
theorem q0E:FnScope ["numbers", "one", "other", "joined", "thing"] ["numbers", "one", "other"] (Yk q0G):=⟨rfl,rfl,rfl,⋯,rfl,⋯,⋯⟩
theorem q4x (F:Fun K "with_two_joined" "with_two_joined" q0G f fd):
  FnOk P w K mg base CX0 1 f fd ["numbers", "one", "other"] (spD K 3 qM):=by
 have h:=fnD (P:=P) (w:=w) (mg:=mg) (base:=base) (k:=0) (body:=q0F) F q0E (λcdv A outer s H E hr=>
   (qb (q77 (i:=3) q0E.nd rfl (Or.inl rfl))
   (qb (q00 PassesOwn.never rfl (qfO (pv 0)) (qi (i:=4) q0E.nd rfl (Or.inl rfl)) (qc (q57 hr.units (pv 3) (vD 4) (XE.toD (qck (WQ hr.units (XE.toV (q2S hr.units (pv 0) (vD 4))) (vV 2)) (vE 1) (q2S hr.units (pv 0) (vD 4)))))))
   (qO 3 (qc (qg (vE 3)))))))
 exact h
noncomputable def q4P:FS:=(Yx (XF 6 (eOf (dOf (zAQ 3 (dOf (Yn oIx (vOf (Yi 5)) (fC (.int 0))))))))
  (Yx (XF 7 (eOf (dOf (zAQ 3 (dOf (Yn oIx (vOf (Yi 5)) (fC (.int 1))))))))
  (sIf (tOf (Yn (oEq true) (vOf (Yi 6)) (vOf (Yi 7)))) (Yx (zBq 4 (dOf (Yi 5)))
  (XF 3 (eOf (dOf (Yr qM (Yg (dOf (Yi 3)) (Yg (dOf (Yi 6)) (Yg (dOf (Yi 7)) Yq)))))))) Xq)))
noncomputable def q5E:FS:=(Yx (XF 3 (eOf (dOf (Yr qJ (Yg (dOf (Yr q1v (Yg (dOf (Yi 0)) (Yg (dOf (Yi 1)) Yq)))) Yq)))))
  (Yx (XF 4 (zAV Yq))
  (Yx (W9 (WI (dOf (zBA q1K (vOf (Yi 2))))) (gN 5) q4P)
  (zAT 4))))
noncomputable def q0L:List D->Option O:=mir 8 q5E
noncomputable abbrev q5A:vz:=top 26
theorem q0P:FnScope ["things", "knots", "edges", "numbers", "taken", "edge", "one", "other"] ["things", "knots", "edges"] (Yk q5A):=⟨rfl,rfl,rfl,⋯,rfl,⋯,⋯⟩
theorem qbX{f_group_numbers:vJ}{d_group_numbers:vQ}{f_groups:vJ}{d_groups:vQ}{f_cost:vJ}{d_cost:vQ}{f_with_two_joined:vJ}{d_with_two_joined:vQ}(F:Fun K "forest" "forest" q5A f fd)(c_group_numbers:Cal P w K mg base 1 f_group_numbers d_group_numbers "group_numbers" ["parts"] 1 qJ)(c_groups:Cal P w K mg base 2 f_groups d_groups "groups" ["things", "ties"] 2 q1v)(c_cost:Cal P w K mg base 1 f_cost d_cost "cost" ["edge"] 1 q1K)(c_with_two_joined:Cal P w K mg base 1 f_with_two_joined d_with_two_joined "with_two_joined" ["numbers", "one", "other"] 3 qM)(z_sorted:mg "sorted" = none):
  FnOk P w K mg base CX0 4 f fd ["things", "knots", "edges"] (spD K 3 q0L):=by
 have h:=fnD (P:=P) (w:=w) (mg:=mg) (base:=base) (k:=3) (body:=q5E) F q0P (λcdv A outer s H E hr=>
   (qb (qm (i:=3) q0P.nd rfl (Or.inl rfl) (XD.toE (XE.toD (xc c_group_numbers hr (Yf (XE.toD (xc c_groups hr (Yf (vD 0) (Yf (vD 1) Yl)))) Yl)))))
   (qb (qm (i:=4) q0P.nd rfl (Or.inl rfl) (XR Yl))
   (qb (q00 PassesOwn.never rfl (qx (XE.toD (qd3 c_cost hr z_sorted (vV 2)))) (qi (i:=5) q0P.nd rfl (Or.inl rfl)) (qb (qm (i:=6) q0P.nd rfl (Or.inl rfl) (XD.toE (XE.toD (q2S hr.units (pv 3) (XE.toD (Yj (vV 5) (XD.toV Yh)))))))
   (qb (qm (i:=7) q0P.nd rfl (Or.inl rfl) (XD.toE (XE.toD (q2S hr.units (pv 3) (XE.toD (Yj (vV 5) (XD.toV Yh)))))))
   (qc (qv (WW hr.units (vV 6) (vV 7)) (qb (q25 (pv 4) (vD 5))
   (qc (qm (i:=3) q0P.nd rfl (Or.inl rfl) (XD.toE (XE.toD (xc c_with_two_joined hr (Yf (vD 3) (Yf (vD 6) (Yf (vD 7) Yl))))))))) qp)))))
   (qc (q52 (pv 4)))))))
 exact h
noncomputable abbrev q01:vz:=top 28
theorem q1B:FnScope ["arcs", "numbers", "number", "arc"] ["arcs"] (Yk q01):=⟨rfl,rfl,rfl,⋯,rfl,⋯,⋯⟩
theorem q3Y(F:Fun K "numbers_by_start" "numbers_by_start" q01 f fd)(z_enumerate:mg "enumerate" = none):FnOk P w K mg base CX0 1 f fd ["arcs"] (spT K):=by
 refine F.ok q1B (λvs H Q E h=>?_) (λcdv A outer s H vs Q E hr h=>?_)
 ·obtain⟨G,as,_,rp,_⟩:=h
  rw[<- rp.len];rfl
 ·exact qeV (X:=(zBg CX0 P w K mg base ["arcs", "numbers", "number", "arc"] "numbers_by_start" (Yk q01) f cdv A outer s H E).nox) PassesOwn.never rfl q1B.nd rfl rfl rfl (by first|exact Or.inl rfl|exact Or.inr rfl) (by first|exact Or.inl rfl|exact Or.inr rfl) (by first|exact Or.inl rfl|exact Or.inr rfl) (by first|exact .inl rfl|exact .inr rfl) (by first|exact .inl rfl|exact .inr rfl) (by first|exact .inl rfl|exact .inr rfl) rfl z_enumerate (pv 0) (pv 1) (pv 2) (pv 1) (XE.toD (Yj (vV 3) (XD.toV Yh))) (λω e h=>qgd h) rfl ⟨rfl,rfl,rfl,rfl⟩ rfl rfl rfl rfl rfl rfl rfl rfl (λt h=>qcg rfl h) (by intro _;rfl) h
noncomputable def qX:FD:=(dOf (Yn oIx (vOf (Yi 0)) (fC (.int 0))))
noncomputable def qW:FD:=(dOf (Yn oIx (vOf (Yi 0)) (fC (.int 1))))
noncomputable def q05:FS:=(Y8 (Yn (oEq false) (vOf (zAH (vOf (Xh 1 [] (WI (dOf (Yi 0))) (gN 0) Xk qX)))) (vOf (zAH (vOf (Xh 1 [] (WI (dOf (Yi 0))) (gN 0) Xk qW))))))
noncomputable def qA:List D->Option O:=mir 1 q05
noncomputable abbrev q06:vz:=top 29
theorem q2H:FnScope ["arcs"] ["arcs"] (Yk q06):=⟨rfl,rfl,rfl,⋯,rfl,⋯,⋯⟩
theorem q2s (F:Fun K "as_many_begin_as_end" "as_many_begin_as_end" q06 f fd)(z_sorted:mg "sorted" = none):
  FnOk P w K mg base CX0 1 f fd ["arcs"] (spD K 1 qA):=by
 have h:=fnD (P:=P) (w:=w) (mg:=mg) (base:=base) (k:=0) (body:=q05) F q2H (λcdv A outer s H E hr=>
   (qc (qg (WO hr.units (XE.toV (q5X rfl z_sorted (XE.toV (q0U rfl (blk ["arc"] [] [] rfl ⋯ ⋯ rfl trivial) (qx (vD 0)) (qU 0) (λ_ _ _ _=>⟨(qi (i:=0) (show ((["arc"]:List Str)++([]:List Str):List Str).Nodup from by decide +kernel) rfl (Or.inl rfl)),q0q,(XE.toD (Yj (vV 0) (XD.toV Yh)))⟩))))) (XE.toV (q5X rfl z_sorted (XE.toV (q0U rfl (blk ["arc"] [] [] rfl ⋯ ⋯ rfl trivial) (qx (vD 0)) (qU 0) (λ_ _ _ _=>⟨(qi (i:=0) (show ((["arc"]:List Str)++([]:List Str):List Str).Nodup from by decide +kernel) rfl (Or.inl rfl)),q0q,(XE.toD (Yj (vV 0) (XD.toV Yh)))⟩)))))))))
 exact h
noncomputable abbrev q0x:vz:=top 30
theorem qE:FnScope ["start", "arcs", "waiting", "trail", "backwards", "here", "number"] ["start", "arcs"] (Yk q0x):=⟨rfl,rfl,rfl,⋯,rfl,⋯,⋯⟩
noncomputable def q1a:List D->Option O:=mRF
theorem q8b{f_n:vJ}{d_n:vQ}(F:Fun K "round_from" "round_from" q0x f fd)(G_n:FnOk P w K mg base CX0 1 f_n d_n ["arcs"] (spT K))(a_n:mg "numbers_by_start" = some (.ref f_n))(k_n:xh K (.ref f_n)=true)(b_n:Binds K d_n ["arcs"] [])(z_list:mg "list" = none)(z_reversed:mg "reversed" = none):FnOk P w K mg base CX0 2 f fd ["start", "arcs"] (spD K 2 q1a):=by
 refine F.ok qE (λvs H Q E h=>?_) (λcdv A outer s H vs Q E hr h=>?_)
 ·obtain⟨G,ds,r,_,h2,_,h4,_⟩:=h
  rw[<- h4.len];exact h2
 ·have hu:=hu1 (X:=(zBg CX0 P w K mg base ["start", "arcs", "waiting", "trail", "backwards", "here", "number"] "round_from" (Yk q0x) f cdv A outer s H E).nox) hr.units
  exact qg9 (X:=(zBg CX0 P w K mg base ["start", "arcs", "waiting", "trail", "backwards", "here", "number"] "round_from" (Yk q0x) f cdv A outer s H E).nox) (f1:=(dOf (Yn oIx (vOf (Yn oIx (vOf (Yi 1)) (vOf (Yi 6)))) (fC (.int 1))))) (f0:=(dOf (Yn oIx (vOf (Yn oIx (vOf (Yi 1)) (vOf (Yi 6)))) (fC (.int 0))))) (XE.toD (Yj (XE.toV (Yj (vV 1) (vV 6))) (XD.toV Yh))) (XE.toD (Yj (XE.toV (Yj (vV 1) (vV 6))) (XD.toV Yh))) (λ_ _ _=>qgg) (λ_ _ _=>qh6) rfl h (λp1 p0=>(qz (q04 (i:=2) qE.nd rfl (by first|exact Or.inl rfl|exact Or.inr rfl) (qaM G_n (hr.mono (by decide)) rfl a_n k_n b_n .nil pass0 (qt (pv 1) qr rfl)) rfl (by first|exact .inl rfl|exact .inr rfl)) (qz (q04 (i:=3) qE.nd rfl (by first|exact Or.inl rfl|exact Or.inr rfl) (q2b qr) rfl (by first|exact .inl rfl|exact .inr rfl)) (qz (q04 (i:=4) qE.nd rfl (by first|exact Or.inl rfl|exact Or.inr rfl) (q2b qr) rfl (by first|exact .inl rfl|exact .inr rfl)) (qz (q04 (i:=5) qE.nd rfl (by first|exact Or.inl rfl|exact Or.inr rfl) (pv 0) rfl (by first|exact .inl rfl|exact .inr rfl)) (qz (q92 PassesOwn.never (qem (q3u (pv 3) (by intro _;rfl)) (qcS (q3u (q9i hu (pv 2) (pv 5) (q2b qr) ⟨rfl,rfl,rfl,rfl⟩) (by intro _;rfl)))).pt (q0o (qej (q3u (q9i hu (pv 2) (pv 5) (q2b qr) ⟨rfl,rfl,rfl,rfl⟩) (by intro _;rfl)) (qz (q04 (i:=6) qE.nd rfl (by first|exact Or.inl rfl|exact Or.inr rfl) (q8Q PySem.F.plainAttrs_list PySem.F.slot_list_pop PySem.F.type_list_pop q9d (q50 hu (pv 2) (pv 5) (by intro _ _;rfl)) rfl rfl) rfl (by first|exact .inl rfl|exact .inr rfl)) (qz (q0B (q1X PySem.F.plainAttrs_list PySem.F.slot_list_append PySem.F.type_list_append q0z (pv 3) (qt (pv 6) qr rfl) rfl rfl rfl rfl rfl) rfl) (q0o (q04 (i:=5) qE.nd rfl (by first|exact Or.inl rfl|exact Or.inr rfl) p1 rfl (by first|exact .inl rfl|exact .inr rfl))))) (qz (q04 (i:=6) qE.nd rfl (by first|exact Or.inl rfl|exact Or.inr rfl) (q8Q PySem.F.plainAttrs_list PySem.F.slot_list_pop PySem.F.type_list_pop q9d (pv 3) rfl rfl) rfl (by first|exact .inl rfl|exact .inr rfl)) (qz (q0B (q1X PySem.F.plainAttrs_list PySem.F.slot_list_append PySem.F.type_list_append q0z (pv 4) (qt (pv 6) qr rfl) rfl rfl rfl rfl rfl) rfl) (q0o (q04 (i:=5) qE.nd rfl (by first|exact Or.inl rfl|exact Or.inr rfl) p0 rfl (by first|exact .inl rfl|exact .inr rfl)))))))) (q0o (q4o (qbq rfl z_list rfl z_reversed (qt (pv 4) qr rfl) rfl rfl rfl rfl rfl)))))))))
noncomputable def q5v:FS:=(Yx (sIf (XZ (WY (vOf (Yr qA (Yg (dOf (Yi 1)) Yq))))) sNo Xq)
  (Yx (XF 2 (eOf (dOf (Yr q1a (Yg (dOf (Yi 0)) (Yg (dOf (Yi 1)) Yq))))))
  (Yx (sIf (tOf (Yn (oEq true) (vOf (Xj WN (Yg (vOf (Yi 2)) Yq))) (vOf (Xj WN (Yg (vOf (Yi 1)) Yq))))) sNo Xq)
  (Y8 (Yi 2)))))
noncomputable def q2k:List D->Option O:=mir 3 q5v
noncomputable abbrev q5P:vz:=top 31
theorem q8J:FnScope ["start", "arcs", "row"] ["start", "arcs"] (Yk q5P):=⟨rfl,rfl,rfl,⋯,rfl,⋯,⋯⟩
theorem qcG{f_as_many_begin_as_end:vJ}{d_as_many_begin_as_end:vQ}{f_round_from:vJ}{d_round_from:vQ}(F:Fun K "row_of" "row_of" q5P f fd)(c_as_many_begin_as_end:Cal P w K mg base 1 f_as_many_begin_as_end d_as_many_begin_as_end "as_many_begin_as_end" ["arcs"] 1 qA)(c_round_from:Cal P w K mg base 2 f_round_from d_round_from "round_from" ["start", "arcs"] 2 q1a)(z_len:mg "len" = none):
  FnOk P w K mg base CX0 3 f fd ["start", "arcs"] (spD K 2 q2k):=by
 have h:=fnD (P:=P) (w:=w) (mg:=mg) (base:=base) (k:=2) (body:=q5v) F q8J (λcdv A outer s H E hr=>
   (qb (qv (qN (qF (XE.toV (xc c_as_many_begin_as_end hr (Yf (vD 1) Yl))))) (qc qb1) qp)
   (qb (qm (i:=2) q8J.nd rfl (Or.inl rfl) (XD.toE (XE.toD (xc c_round_from hr (Yf (vD 0) (Yf (vD 1) Yl))))))
   (qb (qv (WW hr.units (XE.toV (qw qj qH rfl z_len qG (qh (vV 2) qo))) (XE.toV (qw qj qH rfl z_len qG (qh (vV 1) qo)))) (qc qb1) qp)
   (qc (qg (vE 2)))))))
 exact h
noncomputable def q1Q:FS:=(Yx (XF 3 (eOf (dOf (Yr q2k (Yg (dOf (Yi 0)) (Yg (dOf (Yn WB (vOf (Yi 2)) (vOf (zAV (Yg (W2 (Yg (dOf (Yi 1)) (Yg (dOf (Yi 0)) Yq))) Yq))))) Yq))))))
  (Yx (XF 4 (eOf (dOf (fIdx (vOf (Yi 3)) (dOf (Xj WN (Yg (vOf (Yi 2)) Yq)))))))
  (Y8 (Yn WB (vOf (fSl (vOf (Yi 3)) (pAt (vOf (Yn WB (vOf (Yi 4)) (fC (.int 1))))) pNo)) (vOf (fSl (vOf (Yi 3)) pNo (pAt (vOf (Yi 4)))))))))
noncomputable def qY:List D->Option O:=mir 5 q1Q
noncomputable abbrev q1P:vz:=top 32
theorem q1S:FnScope ["home", "last", "arcs", "row", "cut"] ["home", "last", "arcs"] (Yk q1P):=⟨rfl,rfl,rfl,⋯,rfl,⋯,⋯⟩
theorem q75{f_row_of:vJ}{d_row_of:vQ}(F:Fun K "row_between" "row_between" q1P f fd)(c_row_of:Cal P w K mg base 3 f_row_of d_row_of "row_of" ["start", "arcs"] 2 q2k)(z_len:mg "len" = none):
  FnOk P w K mg base CX0 4 f fd ["home", "last", "arcs"] (spD K 3 qY):=by
 have h:=fnD (P:=P) (w:=w) (mg:=mg) (base:=base) (k:=3) (body:=q1Q) F q1S (λcdv A outer s H E hr=>
   (qb (qm (i:=3) q1S.nd rfl (Or.inl rfl) (XD.toE (XE.toD (xc c_row_of hr (Yf (vD 0) (Yf (XE.toD (qV (vV 2) (XE.toV (XR (Yf (XB (Yf (vD 1) (Yf (vD 0) Yl))) Yl))))) Yl))))))
   (qb (qm (i:=4) q1S.nd rfl (Or.inl rfl) (XD.toE (XE.toD (qdZ (vV 3) (XE.toD (qw qj qH rfl z_len qG (qh (vV 2) qo)))))))
   (qc (qg (qV (XE.toV (Xa (vV 3) (Xm (XE.toV (qV (vV 4) (XD.toV Yh)))) X9)) (XE.toV (Xa (vV 3) X9 (Xm (vV 4))))))))))
 exact h
noncomputable def q59:FS:=(Yx (sIf (W7 (XZ (WY (vOf (zAm .tup (vOf (Yi 0)))))) (W7 (tOf (Yn (oEq true) (vOf (Xj WN (Yg (vOf (Yi 0)) Yq))) (fC (.int 3)))) (tOf (Yn (oEq true) (vOf (Yn oIx (vOf (Yi 0)) (fC (.int 0)))) (fC (.str "go")))))) (Y8 (eOf (fC (.bl false)))) Xq)
  (Y8 (eOf (zAB (dOf (Yr qu (Yg (dOf (Yn oIx (vOf (Yi 0)) (fC (.int 1)))) Yq))) (zAB (dOf (Yr qu (Yg (dOf (Yn oIx (vOf (Yi 0)) (fC (.int 2)))) Yq))) (dOf (Yn (oEq true) (vOf (Yn oIx (vOf (Yi 0)) (fC (.int 1)))) (vOf (Yn oIx (vOf (Yi 0)) (fC (.int 2)))))))))))
noncomputable def q1h:List D->Option O:=mir 1 q59
noncomputable abbrev q7e:vz:=top 34
theorem qfm:FnScope ["thing"] ["thing"] (Yk q7e):=⟨rfl,rfl,rfl,⋯,rfl,⋯,⋯⟩
theorem qdT{f_is_whole:vJ}{d_is_whole:vQ}(F:Fun K "is_go" "is_go" q7e f fd)(c_is_whole:Cal P w K mg base 1 f_is_whole d_is_whole "is_whole" ["thing"] 1 qu)(z_len:mg "len" = none)(z_isinstance:mg "isinstance" = none)(z_tuple:mg "tuple" = none)(i_tuple:IsT K .tup):
  FnOk P w K mg base CX0 2 f fd ["thing"] (spD K 1 q1h):=by
 have h:=fnD (P:=P) (w:=w) (mg:=mg) (base:=base) (k:=1) (body:=q59) F qfm (λcdv A outer s H E hr=>
   (qb (qv (XW.toT (q0t (qN (qF (XE.toV (q0j (vV 0) i_tuple rfl z_isinstance rfl z_tuple q3C)))) (q0t (WW hr.units (XE.toV (qw qj qH rfl z_len qG (qh (vV 0) qo))) (XD.toV Yh)) (q1D (WW hr.units (XE.toV (Yj (vV 0) (XD.toV Yh))) (XD.toV WD)))))) (qc (qg (XD.toE Xn))) qp)
   (qc (qg (XD.toE (qR (XE.toD (xc c_is_whole hr (Yf (XE.toD (Yj (vV 0) (XD.toV Yh))) Yl))) (qR (XE.toD (xc c_is_whole hr (Yf (XE.toD (Yj (vV 0) (XD.toV Yh))) Yl))) (q0k (XE.toD (xe_ne hr.units (XE.toV (Yj (vV 0) (XD.toV Yh))) (XE.toV (Yj (vV 0) (XD.toV Yh)))))))))))))
 exact h
noncomputable def q1V:FD:=(dOf (Yr qu (Yg (dOf (Yi 0)) Yq)))
noncomputable def q0Q:FS:=(Yx (sIf (W7 (XZ (WY (vOf (zAm .tup (vOf (Yi 0)))))) (W7 (tOf (Yn (oEq true) (vOf (Xj WN (Yg (vOf (Yi 0)) Yq))) (fC (.int 4)))) (tOf (Yn (oEq true) (vOf (Yn oIx (vOf (Yi 0)) (fC (.int 0)))) (fC (.str "box")))))) (Y8 (eOf (fC (.bl false)))) Xq)
  (Yx (sIf (XZ (WY (vOf (Xj zCW (Yg (vOf (Xh 1 [] (WI (dOf (fSl (vOf (Yi 0)) (pAt (fC (.int 1))) pNo))) (gN 0) Xk q1V)) Yq))))) (Y8 (eOf (fC (.bl false)))) Xq)
  (Y8 (eOf (zAB (dOf (Yn oGe (vOf (Yn oIx (vOf (Yi 0)) (fC (.int 1)))) (fC (.int 0)))) (dOf (Yn oLt (vOf (Yn oIx (vOf (Yi 0)) (fC (.int 1)))) (vOf (Xj WN (Yg (vOf (Yi 1)) Yq))))))))))
noncomputable def qQ:List D->Option O:=mir 2 q0Q
noncomputable abbrev q0M:vz:=top 35
theorem q5D:FnScope ["thing", "boxes"] ["thing", "boxes"] (Yk q0M):=⟨rfl,rfl,rfl,⋯,rfl,⋯,⋯⟩
theorem q5l{f_is_whole:vJ}{d_is_whole:vQ}(F:Fun K "has_carry_form" "has_carry_form" q0M f fd)(c_is_whole:Cal P w K mg base 1 f_is_whole d_is_whole "is_whole" ["thing"] 1 qu)(z_len:mg "len" = none)(z_isinstance:mg "isinstance" = none)(z_tuple:mg "tuple" = none)(z_all:mg "all" = none)(i_tuple:IsT K .tup):
  FnOk P w K mg base CX0 2 f fd ["thing", "boxes"] (spD K 2 qQ):=by
 have h:=fnD (P:=P) (w:=w) (mg:=mg) (base:=base) (k:=1) (body:=q0Q) F q5D (λcdv A outer s H E hr=>
   (qb (qv (XW.toT (q0t (qN (qF (XE.toV (q0j (vV 0) i_tuple rfl z_isinstance rfl z_tuple q3C)))) (q0t (WW hr.units (XE.toV (qw qj qH rfl z_len qG (qh (vV 0) qo))) (XD.toV Yh)) (q1D (WW hr.units (XE.toV (Yj (vV 0) (XD.toV Yh))) (XD.toV WD)))))) (qc (qg (XD.toE Xn))) qp)
   (qb (qv (qN (qF (XE.toV (qw (q4L rfl) q8U rfl z_all q8D (qh (XE.toV (q0U rfl (blk ["part"] [] [] rfl ⋯ ⋯ rfl trivial) (qx (XE.toD (Xa (vV 0) (Xm (XD.toV Yh)) X9))) (qU 0) (λ_ _ _ _=>⟨(qi (i:=0) (show ((["part"]:List Str)++([]:List Str):List Str).Nodup from by decide +kernel) rfl (Or.inl rfl)),q0q,(XE.toD (xc c_is_whole hr (Yf (vD 0) Yl)))⟩))) qo))))) (qc (qg (XD.toE Xn))) qp)
   (qc (qg (XD.toE (qR (XE.toD (qhd (XE.toV (Yj (vV 0) (XD.toV Yh))) (XD.toV Yh))) (q0k (XE.toD (qhn (XE.toV (Yj (vV 0) (XD.toV Yh))) (XE.toV (qw qj qH rfl z_len qG (qh (vV 1) qo)))))))))))))
 exact h
noncomputable def q3J:FS:=(Y8 (eOf (zAB (dOf (Yr qQ (Yg (dOf (Yi 0)) (Yg (dOf (Yi 1)) Yq)))) (dOf (Yn (oEq false) (vOf (fSl (vOf (Yi 0)) (pAt (fC (.int 2))) pNo)) (vOf (Yn oIx (vOf (Yi 1)) (vOf (Yn oIx (vOf (Yi 0)) (fC (.int 1)))))))))))
noncomputable def q16:List D->Option O:=mir 2 q3J
noncomputable abbrev q3R:vz:=top 36
theorem qbf:FnScope ["thing", "boxes"] ["thing", "boxes"] (Yk q3R):=⟨rfl,rfl,rfl,⋯,rfl,⋯,⋯⟩
theorem q9z{f_has_carry_form:vJ}{d_has_carry_form:vQ}(F:Fun K "is_carry" "is_carry" q3R f fd)(c_has_carry_form:Cal P w K mg base 2 f_has_carry_form d_has_carry_form "has_carry_form" ["thing", "boxes"] 2 qQ):
  FnOk P w K mg base CX0 3 f fd ["thing", "boxes"] (spD K 2 q16):=by
 have h:=fnD (P:=P) (w:=w) (mg:=mg) (base:=base) (k:=2) (body:=q3J) F qbf (λcdv A outer s H E hr=>
   (qc (qg (XD.toE (qR (XE.toD (xc c_has_carry_form hr (Yf (vD 0) (Yf (vD 1) Yl)))) (q0k (XE.toD (WO hr.units (XE.toV (Xa (vV 0) (Xm (XD.toV Yh)) X9)) (XE.toV (Yj (vV 1) (XE.toV (Yj (vV 0) (XD.toV Yh)))))))))))))
 exact h
noncomputable def q4N:FS:=(Y8 (eOf (vOr (dOf (Yr q1h (Yg (dOf (Yi 0)) Yq))) (dOf (Yr q16 (Yg (dOf (Yi 0)) (Yg (dOf (Yi 1)) Yq)))))))
noncomputable def q1C:List D->Option O:=mir 2 q4N
noncomputable abbrev q4l:vz:=top 37
theorem qcH:FnScope ["thing", "boxes"] ["thing", "boxes"] (Yk q4l):=⟨rfl,rfl,rfl,⋯,rfl,⋯,⋯⟩
theorem qbh{f_is_carry:vJ}{d_is_carry:vQ}{f_is_go:vJ}{d_is_go:vQ}(F:Fun K "is_move" "is_move" q4l f fd)(c_is_carry:Cal P w K mg base 3 f_is_carry d_is_carry "is_carry" ["thing", "boxes"] 2 q16)(c_is_go:Cal P w K mg base 2 f_is_go d_is_go "is_go" ["thing"] 1 q1h):
  FnOk P w K mg base CX0 4 f fd ["thing", "boxes"] (spD K 2 q1C):=by
 have h:=fnD (P:=P) (w:=w) (mg:=mg) (base:=base) (k:=3) (body:=q4N) F qcH (λcdv A outer s H E hr=>
   (qc (qg (XD.toE (qhj (XE.toD (xc c_is_go hr (Yf (vD 0) Yl))) (q0k (XE.toD (xc c_is_carry hr (Yf (vD 0) (Yf (vD 1) Yl))))))))))
 exact h
noncomputable def q3x:FS:=(Yx (sIf (tOf (Yn (oEq true) (vOf (Yn oIx (vOf (Yi 4)) (vOf (fNeg (fC (.int 2)))))) (vOf (Yi 3)))) (Y8 (eOf (fC (.bl false)))) Xq)
  (XF 3 (eOf (dOf (Yn oIx (vOf (Yi 4)) (vOf (fNeg (fC (.int 1)))))))))
noncomputable def q7c:FS:=(Yx (XF 3 (eOf (dOf (Yi 0))))
  (Yx (W9 (WI (dOf (Yi 2))) (gN 4) q3x)
  (Y8 (Yn (oEq false) (vOf (Yi 3)) (vOf (Yi 1))))))
noncomputable def q31:List D->Option O:=mir 5 q7c
noncomputable abbrev q78:vz:=top 38
theorem q53:FnScope ["home", "last", "moves", "here", "move"] ["home", "last", "moves"] (Yk q78):=⟨rfl,rfl,rfl,⋯,rfl,⋯,⋯⟩
theorem qd7 (F:Fun K "leads" "leads" q78 f fd):
  FnOk P w K mg base CX0 1 f fd ["home", "last", "moves"] (spD K 3 q31):=by
 have h:=fnD (P:=P) (w:=w) (mg:=mg) (base:=base) (k:=0) (body:=q7c) F q53 (λcdv A outer s H E hr=>
   (qb (qm (i:=3) q53.nd rfl (Or.inl rfl) (XD.toE (vD 0)))
   (qb (q00 PassesOwn.never rfl (qx (vD 2)) (qi (i:=4) q53.nd rfl (Or.inl rfl)) (qb (qv (WW hr.units (XE.toV (Yj (vV 4) (XE.toV (q9g (XD.toV Yh))))) (vV 3)) (qc (qg (XD.toE Xn))) qp)
   (qc (qm (i:=3) q53.nd rfl (Or.inl rfl) (XD.toE (XE.toD (Yj (vV 4) (XE.toV (q9g (XD.toV Yh))))))))))
   (qc (qg (WO hr.units (vV 3) (vV 1)))))))
 exact h
noncomputable def q3P:FD:=(dOf (Yr q1C (Yg (dOf (Yi 0)) (Yg (dOf (Yi 1)) Yq))))
noncomputable def q3N:FT:=(tOf (Yn (oEq false) (vOf (Yn oIx (vOf (Yi 0)) (fC (.int 0)))) (fC (.str "box"))))
noncomputable def q3w:FD:=(dOf (Yn oIx (vOf (Yi 0)) (fC (.int 1))))
noncomputable def q4h:FS:=(Yx (zBZ (Yr qI (Yg (dOf (Yi 0)) (Yg (dOf (Yi 1)) (Yg (dOf (Yi 2)) Yq)))))
  (Yx (sIf (W7 (XZ (WY (vOf (zAm .lst (vOf (Yi 3)))))) (XZ (WY (vOf (Xj zCW (Yg (vOf (Xh 1 [2] (WI (dOf (Yi 3))) (gN 0) Xk q3P)) Yq)))))) (Y8 (eOf (fC (.bl false)))) Xq)
  (Yx (XF 4 (Xh 1 [] (WI (dOf (Yi 3))) (gN 0) q3N q3w))
  (Xe 4 (Y8 (eOf (zAB (dOf (Yn (oEq false) (vOf (zAH (vOf (Yi 4)))) (vOf (Xj zAS (Yg (vOf (Xj WN (Yg (vOf (Yi 2)) Yq))) Yq))))) (dOf (Yr q31 (Yg (dOf (Yi 0)) (Yg (dOf (Yi 1)) (Yg (dOf (Yi 3)) Yq))))))))))))
noncomputable def q0V:List D->Option O:=mir 5 q4h
noncomputable abbrev q4V:vz:=top 39
theorem q7Q:FnScope ["home", "last", "boxes", "thing", "carried"] ["home", "last", "boxes", "thing"] (Yk q4V):=⟨rfl,rfl,rfl,⋯,rfl,⋯,⋯⟩
theorem qbj{f_check_errand:vJ}{d_check_errand:vQ}{f_is_move:vJ}{d_is_move:vQ}{f_leads:vJ}{d_leads:vQ}(F:Fun K "is_tour" "is_tour" q4V f fd)(c_check_errand:Cal P w K mg base 4 f_check_errand d_check_errand "check_errand" ["home", "last", "boxes"] 3 qI)(c_is_move:Cal P w K mg base 4 f_is_move d_is_move "is_move" ["thing", "boxes"] 2 q1C)(c_leads:Cal P w K mg base 1 f_leads d_leads "leads" ["home", "last", "moves"] 3 q31)(z_all:mg "all" = none)(z_isinstance:mg "isinstance" = none)(z_list:mg "list" = none)(z_sorted:mg "sorted" = none)(z_len:mg "len" = none)(z_range:mg "range" = none)(i_list:IsT K .lst):
  FnOk P w K mg base CX0 5 f fd ["home", "last", "boxes", "thing"] (spD K 4 q0V):=by
 have h:=fnD (P:=P) (w:=w) (mg:=mg) (base:=base) (k:=4) (body:=q4h) F q7Q (λcdv A outer s H E hr=>
   (qb (qaq (xc c_check_errand hr (Yf (vD 0) (Yf (vD 1) (Yf (vD 2) Yl)))))
   (qb (qv (XW.toT (q0t (qN (qF (XE.toV (q0j (vV 3) i_list rfl z_isinstance rfl z_list q0X)))) (q1D (qN (qF (XE.toV (qw (q4L rfl) q8U rfl z_all q8D (qh (XE.toV (q0U rfl (blk ["move"] ["boxes"] [2] rfl ⋯ ⋯ rfl ⟨⟨rfl,(by first|exact Or.inl rfl|exact Or.inr rfl),rfl⟩,trivial⟩) (qx (vD 3)) (qU 0) (λ_ _ _ _=>⟨(qi (i:=0) (show ((["move"]:List Str)++(["boxes"]:List Str):List Str).Nodup from by decide +kernel) rfl (Or.inl rfl)),q0q,(XE.toD (xc c_is_move hr (Yf (vD 0) (Yf (vD 1) Yl))))⟩))) qo)))))))) (qc (qg (XD.toE Xn))) qp)
   (qb (q24 (i:=4) rfl q7Q.nd rfl rfl (blk ["move"] [] [] rfl ⋯ ⋯ rfl trivial) (qx (vD 3)) (qU 0) (λ_ _ _ _=>⟨(qi (i:=0) (show ((["move"]:List Str)++([]:List Str):List Str).Nodup from by decide +kernel) rfl (Or.inl rfl)),(q54 (WQ hr.units (XE.toV (Yj (vV 0) (XD.toV Yh))) (XD.toV WD))),(XE.toD (Yj (vV 0) (XD.toV Yh)))⟩))
   (qO 4 (qc (qg (XD.toE (qR (XE.toD (WO hr.units (XE.toV (q5X rfl z_sorted (vV 4))) (XE.toV (q5p rfl z_list rfl z_range (qh (XE.toV (qw qj qH rfl z_len qG (qh (vV 2) qo))) qo))))) (q0k (XE.toD (xc c_leads hr (Yf (vD 0) (Yf (vD 1) (Yf (vD 3) Yl)))))))))))))))
 exact h
noncomputable def q1e:FS:=(Yx (XF 6 (eOf (dOf (fIte (tOf (Yn oGt (vOf (Yi 5)) (fC (.int 0)))) (Yi 4) (eOf (W2 (Yg (dOf (Yn oIx (vOf (Yi 4)) (fC (.int 1)))) (Yg (dOf (Yn oIx (vOf (Yi 4)) (fC (.int 0)))) Yq))))))))
  (sExt 3 (dOf (Yn zBf (vOf (zAV (Yg (dOf (Yi 6)) Yq))) (vOf (Xj bAbs (Yg (vOf (Yi 5)) Yq)))))))
noncomputable def q1l:FS:=(Yx (XF 3 (zAV Yq))
  (Yx (W9 (iZp (Yg (dOf (Yr q0v (Yg (dOf (Yi 0)) (Yg (dOf (Yi 1)) (Yg (dOf (Yi 2)) Yq))))) (Yg (dOf (Yr q1s (Yg (dOf (Yi 0)) (Yg (dOf (Yi 1)) (Yg (dOf (Yi 2)) Yq))))) Yq))) (gT 2 (Y7 (gN 4) (Y7 (gN 5) WM))) q1e)
  (zAT 3)))
noncomputable def q0c:List D->Option O:=mir 7 q1l
noncomputable abbrev q1i:vz:=top 40
theorem q0a:FnScope ["home", "last", "boxes", "arcs", "gap", "lack", "arc"] ["home", "last", "boxes"] (Yk q1i):=⟨rfl,rfl,rfl,⋯,rfl,⋯,⋯⟩
theorem q6R{f_lacks:vJ}{d_lacks:vQ}{f_gaps:vJ}{d_gaps:vQ}(F:Fun K "lacking_arcs" "lacking_arcs" q1i f fd)(c_lacks:Cal P w K mg base 7 f_lacks d_lacks "lacks" ["home", "last", "boxes"] 3 q1s)(c_gaps:Cal P w K mg base 6 f_gaps d_gaps "gaps" ["home", "last", "boxes"] 3 q0v)(z_zip:mg "zip" = none)(z_abs:mg "abs" = none):
  FnOk P w K mg base CX0 8 f fd ["home", "last", "boxes"] (spD K 3 q0c):=by
 have h:=fnD (P:=P) (w:=w) (mg:=mg) (base:=base) (k:=7) (body:=q1l) F q0a (λcdv A outer s H E hr=>
   (qb (qm (i:=3) q0a.nd rfl (Or.inl rfl) (XR Yl))
   (qb (q00 PassesOwn.never rfl (qci rfl z_zip (Yf (XE.toD (xc c_gaps hr (Yf (vD 0) (Yf (vD 1) (Yf (vD 2) Yl))))) (Yf (XE.toD (xc c_lacks hr (Yf (vD 0) (Yf (vD 1) (Yf (vD 2) Yl))))) Yl))) (q66 rfl (q0f (qi (i:=4) q0a.nd rfl (Or.inl rfl)) (q0f (qi (i:=5) q0a.nd rfl (Or.inl rfl)) q5i))) (qb (qm (i:=6) q0a.nd rfl (Or.inl rfl) (XD.toE (XE.toD (qck (qhi (vV 5) (XD.toV Yh)) (vE 4) (XD.toE (XB (Yf (XE.toD (Yj (vV 4) (XD.toV Yh))) (Yf (XE.toD (Yj (vV 4) (XD.toV Yh))) Yl))))))))
   (qc (qcd (pv 3) (XE.toD (qgJ (XE.toV (XR (Yf (vD 6) Yl))) (XE.toV (qw qdX qg5 rfl z_abs qgi (qh (vV 5) qo)))))))))
   (qc (q52 (pv 3))))))
 exact h
noncomputable def q1q:FS:=(Yx (zBq 3 (W2 (Yg (dOf (Yn oIx (vOf (Yi 5)) (fC (.int 0)))) (Yg (dOf (Yn oIx (vOf (Yi 5)) (fC (.int 1)))) Yq))))
  (zBq 3 (W2 (Yg (dOf (Yn oIx (vOf (Yi 5)) (fC (.int 1)))) (Yg (dOf (Yn oIx (vOf (Yi 5)) (fC (.int 0)))) Yq)))))
noncomputable def q1R:FS:=(Yx (XF 3 (zAV Yq))
  (Yx (XF 4 (eOf (dOf (Yr q1j (Yg (dOf (Yi 0)) (Yg (dOf (Yi 1)) (Yg (dOf (Yi 2)) Yq)))))))
  (Yx (W9 (WI (dOf (Yr q0L (Yg (dOf (Yi 4)) (Yg (dOf (Yr q30 (Yg (dOf (Yi 0)) (Yg (dOf (Yi 1)) (Yg (dOf (Yi 2)) Yq))))) (Yg (dOf (Yr q0H (Yg (dOf (Yi 0)) (Yg (dOf (Yi 1)) (Yg (dOf (Yi 2)) Yq))))) Yq)))))) (gN 5) q1q)
  (zAT 3))))
noncomputable def q0m:List D->Option O:=mir 6 q1R
noncomputable abbrev q1U:vz:=top 41
theorem q0J:FnScope ["home", "last", "boxes", "arcs", "places", "edge"] ["home", "last", "boxes"] (Yk q1U):=⟨rfl,rfl,rfl,⋯,rfl,⋯,⋯⟩
theorem q7n{f_stops:vJ}{d_stops:vQ}{f_forest:vJ}{d_forest:vQ}{f_gap_edges:vJ}{d_gap_edges:vQ}{f_knots:vJ}{d_knots:vQ}(F:Fun K "forest_arcs" "forest_arcs" q1U f fd)(c_stops:Cal P w K mg base 5 f_stops d_stops "stops" ["home", "last", "boxes"] 3 q1j)(c_forest:Cal P w K mg base 4 f_forest d_forest "forest" ["things", "knots", "edges"] 3 q0L)(c_gap_edges:Cal P w K mg base 7 f_gap_edges d_gap_edges "gap_edges" ["home", "last", "boxes"] 3 q0H)(c_knots:Cal P w K mg base 8 f_knots d_knots "knots" ["home", "last", "boxes"] 3 q30):
  FnOk P w K mg base CX0 9 f fd ["home", "last", "boxes"] (spD K 3 q0m):=by
 have h:=fnD (P:=P) (w:=w) (mg:=mg) (base:=base) (k:=8) (body:=q1R) F q0J (λcdv A outer s H E hr=>
   (qb (qm (i:=3) q0J.nd rfl (Or.inl rfl) (XR Yl))
   (qb (qm (i:=4) q0J.nd rfl (Or.inl rfl) (XD.toE (XE.toD (xc c_stops hr (Yf (vD 0) (Yf (vD 1) (Yf (vD 2) Yl)))))))
   (qb (q00 PassesOwn.never rfl (qx (XE.toD (xc c_forest hr (Yf (vD 4) (Yf (XE.toD (xc c_knots hr (Yf (vD 0) (Yf (vD 1) (Yf (vD 2) Yl))))) (Yf (XE.toD (xc c_gap_edges hr (Yf (vD 0) (Yf (vD 1) (Yf (vD 2) Yl))))) Yl)))))) (qi (i:=5) q0J.nd rfl (Or.inl rfl)) (qb (q25 (pv 3) (XB (Yf (XE.toD (Yj (vV 5) (XD.toV Yh))) (Yf (XE.toD (Yj (vV 5) (XD.toV Yh))) Yl))))
   (qc (q25 (pv 3) (XB (Yf (XE.toD (Yj (vV 5) (XD.toV Yh))) (Yf (XE.toD (Yj (vV 5) (XD.toV Yh))) Yl)))))))
   (qc (q52 (pv 3)))))))
 exact h
noncomputable def q2a:FS:=(Yx (sIf (tOf (Yn oLt (vOf (Yi 0)) (vOf (Xj WN (Yg (vOf (Yi 2)) Yq))))) (Y8 (eOf (W2 (Yg (fC (.str "box")) (Yg (dOf (Yi 0)) (Yg (dOf (Yn oIx (vOf (Yi 1)) (fC (.int 0)))) (Yg (dOf (Yn oIx (vOf (Yi 1)) (fC (.int 1)))) Yq))))))) Xq)
  (Y8 (eOf (W2 (Yg (fC (.str "go")) (Yg (dOf (Yn oIx (vOf (Yi 1)) (fC (.int 0)))) (Yg (dOf (Yn oIx (vOf (Yi 1)) (fC (.int 1)))) Yq)))))))
noncomputable def q1f:List D->Option O:=mir 3 q2a
noncomputable abbrev q2o:vz:=top 42
theorem q8A:FnScope ["number", "arc", "boxes"] ["number", "arc", "boxes"] (Yk q2o):=⟨rfl,rfl,rfl,⋯,rfl,⋯,⋯⟩
theorem q8d (F:Fun K "move_along" "move_along" q2o f fd)(z_len:mg "len" = none):
  FnOk P w K mg base CX0 1 f fd ["number", "arc", "boxes"] (spD K 3 q1f):=by
 have h:=fnD (P:=P) (w:=w) (mg:=mg) (base:=base) (k:=0) (body:=q2a) F q8A (λcdv A outer s H E hr=>
   (qb (qv (q58 (vV 0) (XE.toV (qw qj qH rfl z_len qG (qh (vV 2) qo)))) (qc (qg (XD.toE (XB (Yf WD (Yf (vD 0) (Yf (XE.toD (Yj (vV 1) (XD.toV Yh))) (Yf (XE.toD (Yj (vV 1) (XD.toV Yh))) Yl)))))))) qp)
   (qc (qg (XD.toE (XB (Yf WD (Yf (XE.toD (Yj (vV 1) (XD.toV Yh))) (Yf (XE.toD (Yj (vV 1) (XD.toV Yh))) Yl)))))))))
 exact h
noncomputable def q7i:FD:=(dOf (Yr q1f (Yg (dOf (Yi 0)) (Yg (dOf (Yn oIx (vOf (Yi 2)) (vOf (Yi 0)))) (Yg (dOf (Yi 1)) Yq)))))
noncomputable def q99:FS:=(Yx (XF 3 (eOf (dOf (Yn WB (vOf (Yr q0c (Yg (dOf (Yi 0)) (Yg (dOf (Yi 1)) (Yg (dOf (Yi 2)) Yq))))) (vOf (Yr q0m (Yg (dOf (Yi 0)) (Yg (dOf (Yi 1)) (Yg (dOf (Yi 2)) Yq)))))))))
  (Yx (XF 4 (eOf (dOf (Yn WB (vOf (Yi 2)) (vOf (Yi 3))))))
  (Y8 (Xh 1 [2,4] (WI (dOf (Yr qY (Yg (dOf (Yi 0)) (Yg (dOf (Yi 1)) (Yg (dOf (Yi 4)) Yq)))))) (gN 0) Xk q7i))))
noncomputable def q3j:List D->Option O:=mir 5 q99
noncomputable abbrev q8G:vz:=top 43
theorem q9s:FnScope ["home", "last", "boxes", "empty", "arcs"] ["home", "last", "boxes"] (Yk q8G):=⟨rfl,rfl,rfl,⋯,rfl,⋯,⋯⟩
theorem qfc{f_lacking_arcs:vJ}{d_lacking_arcs:vQ}{f_forest_arcs:vJ}{d_forest_arcs:vQ}{f_row_between:vJ}{d_row_between:vQ}{f_move_along:vJ}{d_move_along:vQ}(F:Fun K "tour" "tour" q8G f fd)(c_lacking_arcs:Cal P w K mg base 8 f_lacking_arcs d_lacking_arcs "lacking_arcs" ["home", "last", "boxes"] 3 q0c)(c_forest_arcs:Cal P w K mg base 9 f_forest_arcs d_forest_arcs "forest_arcs" ["home", "last", "boxes"] 3 q0m)(c_row_between:Cal P w K mg base 4 f_row_between d_row_between "row_between" ["home", "last", "arcs"] 3 qY)(c_move_along:Cal P w K mg base 1 f_move_along d_move_along "move_along" ["number", "arc", "boxes"] 3 q1f):
  FnOk P w K mg base CX0 10 f fd ["home", "last", "boxes"] (spD K 3 q3j):=by
 have h:=fnD (P:=P) (w:=w) (mg:=mg) (base:=base) (k:=9) (body:=q99) F q9s (λcdv A outer s H E hr=>
   (qb (qm (i:=3) q9s.nd rfl (Or.inl rfl) (XD.toE (XE.toD (qV (XE.toV (xc c_lacking_arcs hr (Yf (vD 0) (Yf (vD 1) (Yf (vD 2) Yl))))) (XE.toV (xc c_forest_arcs hr (Yf (vD 0) (Yf (vD 1) (Yf (vD 2) Yl)))))))))
   (qb (qm (i:=4) q9s.nd rfl (Or.inr rfl) (XD.toE (XE.toD (qV (vV 2) (vV 3)))))
   (qc (qg (q0U rfl (blk ["number"] ["boxes", "arcs"] [2,4] rfl ⋯ ⋯ rfl ⟨⟨rfl,(by first|exact Or.inl rfl|exact Or.inr rfl),rfl⟩,⟨⟨rfl,(by first|exact Or.inl rfl|exact Or.inr rfl),rfl⟩,trivial⟩⟩) (qx (XE.toD (xc c_row_between hr (Yf (vD 0) (Yf (vD 1) (Yf (vD 4) Yl)))))) (qU 0) (λ_ _ _ _=>⟨(qi (i:=0) (show ((["number"]:List Str)++(["boxes", "arcs"]:List Str):List Str).Nodup from by decide +kernel) rfl (Or.inl rfl)),q0q,(XE.toD (xc c_move_along hr (Yf (vD 0) (Yf (XE.toD (Yj (vV 2) (vV 0))) (Yf (vD 1) Yl)))))⟩)))))))
 exact h
noncomputable def q1u:FS:=(Yx (sIf (tOf (Yn oLt (vOf (Yi 1)) (vOf (Xj WN (Yg (vOf (Yi 0)) Yq))))) (Y8 (Yn oIx (vOf (Yi 0)) (vOf (Yi 1)))) Xq)
  (Y8 (eOf (fC (.int 0)))))
noncomputable def qD:List D->Option O:=mir 2 q1u
noncomputable abbrev q1z:vz:=top 45
theorem q7l:FnScope ["script", "k"] ["script", "k"] (Yk q1z):=⟨rfl,rfl,rfl,⋯,rfl,⋯,⋯⟩
theorem q6u (F:Fun K "_law_cell_at" "_law_cell_at" q1z f fd)(z_len:mg "len" = none):
  FnOk P w K mg base CX0 1 f fd ["script", "k"] (spD K 2 qD):=by
 have h:=fnD (P:=P) (w:=w) (mg:=mg) (base:=base) (k:=0) (body:=q1u) F q7l (λcdv A outer s H E hr=>
   (qb (qv (q58 (vV 1) (XE.toV (qw qj qH rfl z_len qG (qh (vV 0) qo)))) (qc (qg (Yj (vV 0) (vV 1)))) qp)
   (qc (qg (XD.toE Yh)))))
 exact h
noncomputable def q4n:FS:=(Y8 (eOf (zAB (dOf (zAm .int (vOf (Yi 0)))) (vNot (dOf (zAm .bl (vOf (Yi 0))))))))
noncomputable def q18:List D->Option O:=mir 1 q4n
noncomputable abbrev q2f:vz:=top 46
theorem q8O:FnScope ["found"] ["found"] (Yk q2f):=⟨rfl,rfl,rfl,⋯,rfl,⋯,⋯⟩
theorem q8e (F:Fun K "_law_whole" "_law_whole" q2f f fd)(z_isinstance:mg "isinstance" = none)(z_bool:mg "bool" = none)(z_int:mg "int" = none)(i_int:IsT K .int)(i_bool:IsT K .bl):
  FnOk P w K mg base CX0 1 f fd ["found"] (spD K 1 q18):=by
 have h:=fnD (P:=P) (w:=w) (mg:=mg) (base:=base) (k:=0) (body:=q4n) F q8O (λcdv A outer s H E hr=>
   (qc (qg (XD.toE (qR (XE.toD (q0j (vV 0) i_int rfl z_isinstance rfl z_int qcl)) (q0k (qcC (XE.toD (q0j (vV 0) i_bool rfl z_isinstance rfl z_bool qaD)))))))))
 exact h
noncomputable def q2m:FS:=(Yx (sIf (tOf (Yn (oEq false) (vOf (Yn oMod (vOf (Yi 0)) (fC (.int 3)))) (fC (.int 0)))) (Y8 (Yn zBt (vOf (Yn oMod (vOf (Yn oDiv (vOf (Yi 0)) (fC (.int 3)))) (fC (.int 19)))) (fC (.int 9)))) Xq)
  (Yx (sIf (tOf (Yn (oEq false) (vOf (Yn oMod (vOf (Yi 0)) (fC (.int 3)))) (fC (.int 1)))) (Y8 (Yn zBt (vOf (Yn oMod (vOf (Yn oDiv (vOf (Yi 0)) (fC (.int 3)))) (fC (.int 2001)))) (fC (.int 1000)))) Xq)
  (Y8 (Yn zBt (vOf (Yn oMod (vOf (Yn oDiv (vOf (Yi 0)) (fC (.int 3)))) (vOf (Yn WB (vOf (Yn zA6 (fC (.int 2)) (vOf (Yn oPow (fC (.int 10)) (fC (.int 39)))))) (fC (.int 1)))))) (vOf (Yn oPow (fC (.int 10)) (fC (.int 39))))))))
noncomputable def q0w:List D->Option O:=mir 1 q2m
noncomputable abbrev q2n:vz:=top 47
theorem q9k:FnScope ["cell"] ["cell"] (Yk q2n):=⟨rfl,rfl,rfl,⋯,rfl,⋯,⋯⟩
theorem q88 (F:Fun K "_law_place" "_law_place" q2n f fd):
  FnOk P w K mg base CX0 1 f fd ["cell"] (spD K 1 q0w):=by
 have h:=fnD (P:=P) (w:=w) (mg:=mg) (base:=base) (k:=0) (body:=q2m) F q9k (λcdv A outer s H E hr=>
   (qb (qv (WQ hr.units (XE.toV (qy (vV 0) (XD.toV Yh))) (XD.toV Yh)) (qc (qg (q2g (XE.toV (qy (XE.toV (qK (vV 0) (XD.toV Yh))) (XD.toV Yh))) (XD.toV Yh)))) qp)
   (qb (qv (WQ hr.units (XE.toV (qy (vV 0) (XD.toV Yh))) (XD.toV Yh)) (qc (qg (q2g (XE.toV (qy (XE.toV (qK (vV 0) (XD.toV Yh))) (XD.toV Yh))) (XD.toV Yh)))) qp)
   (qc (qg (q2g (XE.toV (qy (XE.toV (qK (vV 0) (XD.toV Yh))) (XE.toV (qV (XE.toV (q4C (XD.toV Yh) (XE.toV (qch (XD.toV Yh) (XD.toV Yh))))) (XD.toV Yh))))) (XE.toV (qch (XD.toV Yh) (XD.toV Yh)))))))))
 exact h
noncomputable def q3n:FD:=(dOf (Yr q0w (Yg (dOf (Yr qD (Yg (dOf (Yi 1)) (Yg (dOf (Yn WB (fC (.int 1)) (vOf (Yi 0)))) Yq)))) Yq)))
noncomputable def q1p:FS:=(Yx (XF 7 (eOf (dOf (Yn oIx (vOf (Yi 4)) (vOf (Yn oMod (vOf (Yi 6)) (vOf (Yi 3))))))))
  (Yx (XF 8 (eOf (dOf (Yn oIx (vOf (Yi 4)) (vOf (Yn oMod (vOf (Yn oDiv (vOf (Yi 6)) (vOf (Yi 3)))) (vOf (Yi 3))))))))
  (Yx (sIf (tOf (Yn oLt (vOf (Xj WN (Yg (vOf (Yi 5)) Yq))) (vOf (Yi 1)))) (zBq 5 (W2 (Yg (dOf (Yi 7)) (Yg (dOf (Yi 8)) Yq)))) Xq)
  (sIf (zBR (tOf (Yn oLt (vOf (Xj WN (Yg (vOf (Yi 5)) Yq))) (vOf (Yi 1)))) (W7 (tOf (Yn (oEq false) (vOf (Yn oMod (vOf (Yn oDiv (vOf (Yi 2)) (fC (.int 4096)))) (fC (.int 3)))) (fC (.int 1)))) (zBR (tOf (Yn (oEq false) (vOf (Yn oMod (vOf (Yn oDiv (vOf (Yi 2)) (fC (.int 4096)))) (fC (.int 3)))) (fC (.int 2)))) (tOf (Yn (oEq false) (vOf (Yn oMod (vOf (Yn oDiv (vOf (Yi 6)) (fC (.int 64)))) (fC (.int 2)))) (fC (.int 1))))))) (zBq 5 (W2 (Yg (dOf (Yi 8)) (Yg (dOf (Yi 7)) Yq)))) Xq))))
noncomputable def q1N:FS:=(Yx (XF 2 (eOf (dOf (Yn oMod (vOf (Yn zA6 (vOf (Yr qD (Yg (dOf (Yi 0)) (Yg (fC (.int 0)) Yq)))) (fC (.int 48271)))) (fC (.int 65537))))))
  (Yx (XF 3 (eOf (dOf (Yn zBt (fC (.int 8)) (vOf (Yn oMod (vOf (Yi 2)) (fC (.int 8))))))))
  (Yx (XF 4 (Xh 1 [0] (iRg1 (Yg (vOf (Yi 3)) Yq)) (gN 0) Xk q3n))
  (Xe 4 (Yx (XF 5 (zAV Yq))
  (Yx (W9 (WI (dOf (fSl (vOf (Yi 0)) (pAt (fC (.int 9))) (pAt (vOf (Yn WB (fC (.int 9)) (vOf (Yn oIx (vOf (zAV (Yg (dOf (Yi 1)) (Yg (fC (.int 3)) (Yg (fC (.int 1)) (Yg (fC (.int 5)) (Yg (fC (.int 0)) (Yg (fC (.int 2)) (Yg (dOf (Yi 1)) (Yg (fC (.int 4)) Yq)))))))))) (vOf (Yn oMod (vOf (Yn oDiv (vOf (Yi 2)) (fC (.int 512)))) (fC (.int 8)))))))))))) (gN 6) q1p)
  (Yx (XF 9 (eOf (dOf (Yn oIx (vOf (Yi 4)) (vOf (Yn oMod (vOf (Yn oDiv (vOf (Yi 2)) (fC (.int 8)))) (vOf (Yi 3))))))))
  (Yx (sIf (tOf (Yn (oEq false) (vOf (Yn oMod (vOf (Yn oDiv (vOf (Yi 2)) (fC (.int 12288)))) (fC (.int 2)))) (fC (.int 0)))) (Xe 5 (Y8 (eOf (W2 (Yg (dOf (Yi 9)) (Yg (dOf (Yi 9)) (Yg (dOf (Yi 5)) Yq))))))) Xq)
  (Xe 5 (Y8 (eOf (W2 (Yg (dOf (Yi 9)) (Yg (dOf (Yn oIx (vOf (Yi 4)) (vOf (Yn oMod (vOf (Yn oDiv (vOf (Yi 2)) (fC (.int 64)))) (vOf (Yi 3)))))) (Yg (dOf (Yi 5)) Yq)))))))))))))))
noncomputable def q0l:List D->Option O:=mir 10 q1N
noncomputable abbrev q1T:vz:=top 48
theorem qC:FnScope ["script", "most", "head", "many", "spots", "boxes", "cell", "one", "other", "home"] ["script", "most"] (Yk q1T):=⟨rfl,rfl,rfl,⋯,rfl,⋯,⋯⟩
theorem q7g{f__law_cell_at:vJ}{d__law_cell_at:vQ}{f__law_place:vJ}{d__law_place:vQ}(F:Fun K "_law_errand" "_law_errand" q1T f fd)(c__law_cell_at:Cal P w K mg base 1 f__law_cell_at d__law_cell_at "_law_cell_at" ["script", "k"] 2 qD)(c__law_place:Cal P w K mg base 1 f__law_place d__law_place "_law_place" ["cell"] 1 q0w)(z_range:mg "range" = none)(z_len:mg "len" = none):
  FnOk P w K mg base CX0 2 f fd ["script", "most"] (spD K 2 q0l):=by
 have h:=fnD (P:=P) (w:=w) (mg:=mg) (base:=base) (k:=1) (body:=q1N) F qC (λcdv A outer s H E hr=>
   (qb (qm (i:=2) qC.nd rfl (Or.inl rfl) (XD.toE (XE.toD (qy (XE.toV (q4C (XE.toV (xc c__law_cell_at hr (Yf (vD 0) (Yf Yh Yl)))) (XD.toV Yh))) (XD.toV Yh)))))
   (qb (qm (i:=3) qC.nd rfl (Or.inl rfl) (XD.toE (XE.toD (q2g (XD.toV Yh) (XE.toV (qy (vV 2) (XD.toV Yh)))))))
   (qb (q24 (i:=4) rfl qC.nd rfl rfl (blk ["k"] ["script"] [0] rfl ⋯ ⋯ rfl ⟨⟨rfl,(by first|exact Or.inl rfl|exact Or.inr rfl),rfl⟩,trivial⟩) (q7U rfl z_range (qh (vV 3) qo)) (qU 0) (λ_ _ _ _=>⟨(qi (i:=0) (show ((["k"]:List Str)++(["script"]:List Str):List Str).Nodup from by decide +kernel) rfl (Or.inl rfl)),q0q,(XE.toD (xc c__law_place hr (Yf (XE.toD (xc c__law_cell_at hr (Yf (vD 1) (Yf (XE.toD (qV (XD.toV Yh) (vV 0))) Yl)))) Yl)))⟩))
   (qO 4 (qb (qm (i:=5) qC.nd rfl (Or.inl rfl) (XR Yl))
   (qb (q00 PassesOwn.never rfl (qx (XE.toD (Xa (vV 0) (Xm (XD.toV Yh)) (Xm (XE.toV (qV (XD.toV Yh) (XE.toV (Yj (XE.toV (XR (Yf (vD 1) (Yf Yh (Yf Yh (Yf Yh (Yf Yh (Yf Yh (Yf (vD 1) (Yf Yh Yl)))))))))) (XE.toV (qy (XE.toV (qK (vV 2) (XD.toV Yh))) (XD.toV Yh))))))))))) (qi (i:=6) qC.nd rfl (Or.inl rfl)) (qb (qm (i:=7) qC.nd rfl (Or.inl rfl) (XD.toE (XE.toD (Yj (vV 4) (XE.toV (qy (vV 6) (vV 3)))))))
   (qb (qm (i:=8) qC.nd rfl (Or.inl rfl) (XD.toE (XE.toD (Yj (vV 4) (XE.toV (qy (XE.toV (qK (vV 6) (vV 3))) (vV 3)))))))
   (qb (qv (q58 (XE.toV (qw qj qH rfl z_len qG (qh (vV 5) qo))) (vV 1)) (qc (q25 (pv 5) (XB (Yf (vD 7) (Yf (vD 8) Yl))))) qp)
   (qc (qv (XW.toT (qcA (q58 (XE.toV (qw qj qH rfl z_len qG (qh (vV 5) qo))) (vV 1)) (qas (XW.toT (q0t (WQ hr.units (XE.toV (qy (XE.toV (qK (vV 2) (XD.toV Yh))) (XD.toV Yh))) (XD.toV Yh)) (q1D (XW.toT (qcA (WQ hr.units (XE.toV (qy (XE.toV (qK (vV 2) (XD.toV Yh))) (XD.toV Yh))) (XD.toV Yh)) (qas (WQ hr.units (XE.toV (qy (XE.toV (qK (vV 6) (XD.toV Yh))) (XD.toV Yh))) (XD.toV Yh))))))))))) (qc (q25 (pv 5) (XB (Yf (vD 8) (Yf (vD 7) Yl))))) qp))))))
   (qb (qm (i:=9) qC.nd rfl (Or.inl rfl) (XD.toE (XE.toD (Yj (vV 4) (XE.toV (qy (XE.toV (qK (vV 2) (XD.toV Yh))) (vV 3)))))))
   (qb (qv (WQ hr.units (XE.toV (qy (XE.toV (qK (vV 2) (XD.toV Yh))) (XD.toV Yh))) (XD.toV Yh)) (qO 5 (qc (qg (XD.toE (XB (Yf (vD 9) (Yf (vD 9) (Yf (vD 5) Yl)))))))) qp)
   (qO 5 (qc (qg (XD.toE (XB (Yf (vD 9) (Yf (XE.toD (Yj (vV 4) (XE.toV (qy (XE.toV (qK (vV 2) (XD.toV Yh))) (vV 3))))) (Yf (vD 5) Yl)))))))))))))))))
 exact h
noncomputable def q0s:FS:=(sIf (XZ (WY (vOf (Yr q18 (Yg (dOf (Yi 3)) Yq))))) (Y8 (eOf (fC (.bl false)))) Xq)
noncomputable def q1r:FS:=(Yx (sIf (W7 (XZ (WY (vOf (zAm .tup (vOf (Yi 2)))))) (W7 (tOf (Yn oLt (vOf (Xj WN (Yg (vOf (Yi 2)) Yq))) (fC (.int 3)))) (XZ (WY (vOf (zAm .str (vOf (Yn oIx (vOf (Yi 2)) (fC (.int 0)))))))))) (Y8 (eOf (fC (.bl false)))) Xq)
  (Yx (W9 (WI (dOf (fSl (vOf (Yi 2)) (pAt (fC (.int 1))) pNo))) (gN 3) q0s)
  (Yx (sIf (tOf (Yn (oEq false) (vOf (Yn oIx (vOf (Yi 2)) (fC (.int 0)))) (fC (.str "go")))) (Y8 (eOf (zAB (dOf (Yn (oEq false) (vOf (Xj WN (Yg (vOf (Yi 2)) Yq))) (fC (.int 3)))) (zAB (dOf (Yn (oEq false) (vOf (Yn oIx (vOf (Yi 2)) (fC (.int 1)))) (vOf (Yi 1)))) (dOf (Yn (oEq true) (vOf (Yn oIx (vOf (Yi 2)) (fC (.int 2)))) (vOf (Yi 1)))))))) Xq)
  (Yx (sIf (W7 (tOf (Yn (oEq true) (vOf (Yn oIx (vOf (Yi 2)) (fC (.int 0)))) (fC (.str "box")))) (W7 (tOf (Yn (oEq true) (vOf (Xj WN (Yg (vOf (Yi 2)) Yq))) (fC (.int 4)))) (W7 (tOf (Yn oLt (vOf (Yn oIx (vOf (Yi 2)) (fC (.int 1)))) (fC (.int 0)))) (tOf (Yn oGe (vOf (Yn oIx (vOf (Yi 2)) (fC (.int 1)))) (vOf (Xj WN (Yg (vOf (Yi 0)) Yq)))))))) (Y8 (eOf (fC (.bl false)))) Xq)
  (Y8 (eOf (zAB (dOf (Yn (oEq false) (vOf (Yn oIx (vOf (Yi 2)) (fC (.int 2)))) (vOf (Yi 1)))) (dOf (Yn (oEq false) (vOf (Yn oIx (vOf (Yi 0)) (vOf (Yn oIx (vOf (Yi 2)) (fC (.int 1)))))) (W2 (Yg (dOf (Yn oIx (vOf (Yi 2)) (fC (.int 2)))) (Yg (dOf (Yn oIx (vOf (Yi 2)) (fC (.int 3)))) Yq))))))))))))
noncomputable def q09:List D->Option O:=mir 4 q1r
noncomputable abbrev q1y:vz:=top 49
theorem q3m:FnScope ["boxes", "here", "move", "part"] ["boxes", "here", "move"] (Yk q1y):=⟨rfl,rfl,rfl,⋯,rfl,⋯,⋯⟩
theorem q6D{f__law_whole:vJ}{d__law_whole:vQ}(F:Fun K "_law_is_move" "_law_is_move" q1y f fd)(c__law_whole:Cal P w K mg base 1 f__law_whole d__law_whole "_law_whole" ["found"] 1 q18)(z_isinstance:mg "isinstance" = none)(z_str:mg "str" = none)(z_len:mg "len" = none)(z_tuple:mg "tuple" = none)(i_str:IsT K .str)(i_tuple:IsT K .tup):
  FnOk P w K mg base CX0 2 f fd ["boxes", "here", "move"] (spD K 3 q09):=by
 have h:=fnD (P:=P) (w:=w) (mg:=mg) (base:=base) (k:=1) (body:=q1r) F q3m (λcdv A outer s H E hr=>
   (qb (qv (XW.toT (q0t (qN (qF (XE.toV (q0j (vV 2) i_tuple rfl z_isinstance rfl z_tuple q3C)))) (q0t (q58 (XE.toV (qw qj qH rfl z_len qG (qh (vV 2) qo))) (XD.toV Yh)) (q1D (qN (qF (XE.toV (q0j (XE.toV (Yj (vV 2) (XD.toV Yh))) i_str rfl z_isinstance rfl z_str qfX)))))))) (qc (qg (XD.toE Xn))) qp)
   (qb (q00 PassesOwn.never rfl (qx (XE.toD (Xa (vV 2) (Xm (XD.toV Yh)) X9))) (qi (i:=3) q3m.nd rfl (Or.inl rfl)) (qc (qv (qN (qF (XE.toV (xc c__law_whole hr (Yf (vD 3) Yl))))) (qc (qg (XD.toE Xn))) qp)))
   (qb (qv (WQ hr.units (XE.toV (Yj (vV 2) (XD.toV Yh))) (XD.toV WD)) (qc (qg (XD.toE (qR (XE.toD (WO hr.units (XE.toV (qw qj qH rfl z_len qG (qh (vV 2) qo))) (XD.toV Yh))) (qR (XE.toD (WO hr.units (XE.toV (Yj (vV 2) (XD.toV Yh))) (vV 1))) (q0k (XE.toD (xe_ne hr.units (XE.toV (Yj (vV 2) (XD.toV Yh))) (vV 1))))))))) qp)
   (qb (qv (XW.toT (q0t (WW hr.units (XE.toV (Yj (vV 2) (XD.toV Yh))) (XD.toV WD)) (q0t (WW hr.units (XE.toV (qw qj qH rfl z_len qG (qh (vV 2) qo))) (XD.toV Yh)) (q0t (q58 (XE.toV (Yj (vV 2) (XD.toV Yh))) (XD.toV Yh)) (q1D (qhq (XE.toV (Yj (vV 2) (XD.toV Yh))) (XE.toV (qw qj qH rfl z_len qG (qh (vV 0) qo))))))))) (qc (qg (XD.toE Xn))) qp)
   (qc (qg (XD.toE (qR (XE.toD (WO hr.units (XE.toV (Yj (vV 2) (XD.toV Yh))) (vV 1))) (q0k (XE.toD (WO hr.units (XE.toV (Yj (vV 0) (XE.toV (Yj (vV 2) (XD.toV Yh))))) (XD.toV (XB (Yf (XE.toD (Yj (vV 2) (XD.toV Yh))) (Yf (XE.toD (Yj (vV 2) (XD.toV Yh))) Yl))))))))))))))))
 exact h
noncomputable def qL:FS:=(Yx (sIf (XZ (WY (vOf (Yr q09 (Yg (dOf (Yi 2)) (Yg (dOf (Yi 4)) (Yg (dOf (Yi 6)) Yq))))))) (Y8 (eOf (fC (.bl false)))) Xq)
  (Yx (sIf (tOf (Yn (oEq false) (vOf (Yn oIx (vOf (Yi 6)) (fC (.int 0)))) (fC (.str "box")))) (Yx (sIf (tOf (Yn (oIn true) (vOf (Yn oIx (vOf (Yi 6)) (fC (.int 1)))) (vOf (Yi 5)))) (Y8 (eOf (fC (.bl false)))) Xq)
  (sRem 5 (dOf (Yn oIx (vOf (Yi 6)) (fC (.int 1)))))) Xq)
  (XF 4 (eOf (dOf (Yn oIx (vOf (Yi 6)) (vOf (fNeg (fC (.int 1))))))))))
noncomputable def q1t:FS:=(Yx (sIf (XZ (WY (vOf (zAm .lst (vOf (Yi 3)))))) (Y8 (eOf (fC (.bl false)))) Xq)
  (Yx (XF 4 (eOf (dOf (Yi 0))))
  (Yx (XF 5 (Xj zAS (Yg (vOf (Xj WN (Yg (vOf (Yi 2)) Yq))) Yq)))
  (Yx (W9 (WI (dOf (Yi 3))) (gN 6) qL)
  (Y8 (eOf (zAB (dOf (Yn (oEq false) (vOf (Yi 5)) (vOf (zAV Yq)))) (dOf (Yn (oEq false) (vOf (Yi 4)) (vOf (Yi 1)))))))))))
noncomputable def qP:List D->Option O:=mir 7 q1t
noncomputable abbrev q1o:vz:=top 50
theorem q07:FnScope ["home", "last", "boxes", "found", "here", "left", "move"] ["home", "last", "boxes", "found"] (Yk q1o):=⟨rfl,rfl,rfl,⋯,rfl,⋯,⋯⟩
theorem q6t{f__law_is_move:vJ}{d__law_is_move:vQ}(F:Fun K "_law_is_tour" "_law_is_tour" q1o f fd)(c__law_is_move:Cal P w K mg base 2 f__law_is_move d__law_is_move "_law_is_move" ["boxes", "here", "move"] 3 q09)(z_isinstance:mg "isinstance" = none)(z_list:mg "list" = none)(z_len:mg "len" = none)(z_range:mg "range" = none)(i_list:IsT K .lst):
  FnOk P w K mg base CX0 3 f fd ["home", "last", "boxes", "found"] (spD K 4 qP):=by
 have h:=fnD (P:=P) (w:=w) (mg:=mg) (base:=base) (k:=2) (body:=q1t) F q07 (λcdv A outer s H E hr=>
   (qb (qv (qN (qF (XE.toV (q0j (vV 3) i_list rfl z_isinstance rfl z_list q0X)))) (qc (qg (XD.toE Xn))) qp)
   (qb (qm (i:=4) q07.nd rfl (Or.inl rfl) (XD.toE (vD 0)))
   (qb (qm (i:=5) q07.nd rfl (Or.inl rfl) (q5p rfl z_list rfl z_range (qh (XE.toV (qw qj qH rfl z_len qG (qh (vV 2) qo))) qo)))
   (qb (q00 PassesOwn.never rfl (qx (vD 3)) (qi (i:=6) q07.nd rfl (Or.inl rfl)) (qb (qv (qN (qF (XE.toV (xc c__law_is_move hr (Yf (vD 2) (Yf (vD 4) (Yf (vD 6) Yl))))))) (qc (qg (XD.toE Xn))) qp)
   (qb (qv (WQ hr.units (XE.toV (Yj (vV 6) (XD.toV Yh))) (XD.toV WD)) (qb (qv (zBn (XE.toV (Yj (vV 6) (XD.toV Yh))) (vV 5)) (qc (qg (XD.toE Xn))) qp)
   (qc (qfU (pv 5) (XE.toD (Yj (vV 6) (XD.toV Yh)))))) qp)
   (qc (qm (i:=4) q07.nd rfl (Or.inl rfl) (XD.toE (XE.toD (Yj (vV 6) (XE.toV (q9g (XD.toV Yh)))))))))))
   (qc (qg (XD.toE (qR (XE.toD (WO hr.units (vV 5) (XE.toV (XR Yl)))) (q0k (XE.toD (WO hr.units (vV 4) (vV 1)))))))))))))
 exact h
noncomputable def q6T:FD:=(W2 (Yg (dOf (Yn zA6 (vOf (Yn oMod (vOf (Yn zA6 (vOf (Yi 0)) (vOf (Yi 1)))) (fC (.int 12)))) (fC (.int 7)))) (Yg (dOf (Yn WB (vOf (Yn zA6 (vOf (Yn oMod (vOf (Yn WB (vOf (Yi 0)) (vOf (Yn oDiv (vOf (Yi 2)) (fC (.int 88)))))) (fC (.int 12)))) (fC (.int 7)))) (vOf (Yn oMod (vOf (Yi 0)) (fC (.int 2)))))) Yq)))
noncomputable def qbe:FS:=(Yx (sAsg (dOf (Yr q0l (Yg (dOf (Yi 0)) (Yg (fC (.int 14)) Yq)))) (gT 3 (Y7 (gN 1) (Y7 (gN 2) (Y7 (gN 3) WM)))))
  (Yx (XF 4 (eOf (dOf (Yr qD (Yg (dOf (Yi 0)) (Yg (fC (.int 23)) Yq))))))
  (Yx (sIf (tOf (Yn (oEq false) (vOf (Yn oMod (vOf (Yi 4)) (fC (.int 8)))) (fC (.int 5)))) (Yx (XF 5 (eOf (dOf (Yn WB (fC (.int 1)) (vOf (Yn oMod (vOf (Yn oDiv (vOf (Yi 4)) (fC (.int 8)))) (fC (.int 11))))))))
  (Yx (XF 3 (Xh 1 [5,4] (iRg1 (Yg (vOf (Yn WB (fC (.int 60)) (vOf (Yn oMod (vOf (Yn oDiv (vOf (Yi 4)) (fC (.int 8)))) (fC (.int 11)))))) Yq)) (gN 0) Xk q6T)) (Xe 3 Xq))) Xq)
  (Yx (XF 6 (eOf (dOf (Xj zAu (Yg (vOf (Yi 3)) Yq)))))
  (Yx (XF 7 (eOf (dOf (Yr q3j (Yg (dOf (Yi 1)) (Yg (dOf (Yi 2)) (Yg (dOf (Yi 6)) Yq)))))))
  (Yx (sIf (W7 (tOf (Yn (oEq true) (vOf (Yi 6)) (vOf (Yi 3)))) (XZ (WY (vOf (Yr qP (Yg (dOf (Yi 1)) (Yg (dOf (Yi 2)) (Yg (dOf (Yi 3)) (Yg (dOf (Yi 7)) Yq))))))))) (Y8 (eOf (fC (.bl false)))) Xq)
  (Y8 (Yn (oIs false) (vOf (Yr q0V (Yg (dOf (Yi 1)) (Yg (dOf (Yi 2)) (Yg (dOf (Yi 3)) (Yg (dOf (Yi 7)) Yq)))))) (fC (.bl true))))))))))
noncomputable def q5g:List D->Option O:=mir 8 qbe
noncomputable abbrev q5d:vz:=top 51
theorem q1Y:FnScope ["script", "home", "last", "boxes", "cell", "far", "handed", "found"] ["script"] (Yk q5d):=⟨rfl,rfl,rfl,⋯,rfl,⋯,⋯⟩
theorem qfW{f__law_errand:vJ}{d__law_errand:vQ}{f__law_cell_at:vJ}{d__law_cell_at:vQ}{f_tour:vJ}{d_tour:vQ}{f__law_is_tour:vJ}{d__law_is_tour:vQ}{f_is_tour:vJ}{d_is_tour:vQ}(F:Fun K "law" "law" q5d f fd)(c__law_errand:Cal P w K mg base 2 f__law_errand d__law_errand "_law_errand" ["script", "most"] 2 q0l)(c__law_cell_at:Cal P w K mg base 1 f__law_cell_at d__law_cell_at "_law_cell_at" ["script", "k"] 2 qD)(c_tour:Cal P w K mg base 10 f_tour d_tour "tour" ["home", "last", "boxes"] 3 q3j)(c__law_is_tour:Cal P w K mg base 3 f__law_is_tour d__law_is_tour "_law_is_tour" ["home", "last", "boxes", "found"] 4 qP)(c_is_tour:Cal P w K mg base 5 f_is_tour d_is_tour "is_tour" ["home", "last", "boxes", "thing"] 4 q0V)(z_range:mg "range" = none)(z_list:mg "list" = none):
  FnOk P w K mg base CX0 11 f fd ["script"] (spD K 1 q5g):=by
 have h:=fnD (P:=P) (w:=w) (mg:=mg) (base:=base) (k:=10) (body:=qbe) F q1Y (λcdv A outer s H E hr=>
   (qb (qg7 (XE.toD (xc c__law_errand hr (Yf (vD 0) (Yf Yh Yl)))) (q66 rfl (q0f (qi (i:=1) q1Y.nd rfl (Or.inl rfl)) (q0f (qi (i:=2) q1Y.nd rfl (Or.inl rfl)) (q0f (qi (i:=3) q1Y.nd rfl (Or.inl rfl)) q5i)))))
   (qb (qm (i:=4) q1Y.nd rfl (Or.inr rfl) (XD.toE (XE.toD (xc c__law_cell_at hr (Yf (vD 0) (Yf Yh Yl))))))
   (qb (qv (WQ hr.units (XE.toV (qy (vV 4) (XD.toV Yh))) (XD.toV Yh)) (qb (qm (i:=5) q1Y.nd rfl (Or.inr rfl) (XD.toE (XE.toD (qV (XD.toV Yh) (XE.toV (qy (XE.toV (qK (vV 4) (XD.toV Yh))) (XD.toV Yh)))))))
   (qb (q24 (i:=3) rfl q1Y.nd rfl rfl (blk ["k"] ["far", "cell"] [5,4] rfl ⋯ ⋯ rfl ⟨⟨rfl,(by first|exact Or.inl rfl|exact Or.inr rfl),rfl⟩,⟨⟨rfl,(by first|exact Or.inl rfl|exact Or.inr rfl),rfl⟩,trivial⟩⟩) (q7U rfl z_range (qh (XE.toV (qV (XD.toV Yh) (XE.toV (qy (XE.toV (qK (vV 4) (XD.toV Yh))) (XD.toV Yh))))) qo)) (qU 0) (λ_ _ _ _=>⟨(qi (i:=0) (show ((["k"]:List Str)++(["far", "cell"]:List Str):List Str).Nodup from by decide +kernel) rfl (Or.inl rfl)),q0q,(XB (Yf (XE.toD (q4C (XE.toV (qy (XE.toV (q4C (vV 0) (vV 1))) (XD.toV Yh))) (XD.toV Yh))) (Yf (XE.toD (qV (XE.toV (q4C (XE.toV (qy (XE.toV (qV (vV 0) (XE.toV (qK (vV 2) (XD.toV Yh))))) (XD.toV Yh))) (XD.toV Yh))) (XE.toV (qy (vV 0) (XD.toV Yh))))) Yl)))⟩)) (qO 3 qp))) qp)
   (qb (qm (i:=6) q1Y.nd rfl (Or.inl rfl) (XD.toE (XE.toD (qeh q4p qa8 rfl z_list q0X (qh (vV 3) qo)))))
   (qb (qm (i:=7) q1Y.nd rfl (Or.inl rfl) (XD.toE (XE.toD (xc c_tour hr (Yf (vD 1) (Yf (vD 2) (Yf (vD 6) Yl)))))))
   (qb (qv (XW.toT (q0t (WW hr.units (vV 6) (vV 3)) (q1D (qN (qF (XE.toV (xc c__law_is_tour hr (Yf (vD 1) (Yf (vD 2) (Yf (vD 3) (Yf (vD 7) Yl))))))))))) (qc (qg (XD.toE Xn))) qp)
   (qc (qg (xe_is (XE.toV (xc c_is_tour hr (Yf (vD 1) (Yf (vD 2) (Yf (vD 3) (Yf (vD 7) Yl)))))) (XD.toV Xn)))))))))))
 exact h
end
set_option compiler.extract_closed false
set_option hygiene false
local macro_rules|`(tactic| simp_arith $c:optConfig [$xs,*])=>`(tactic| simp $c only[q2r,q2w,q3s,q4O,q4b,q2X,e_wd,q4a,e_wz,q4e,q3p,q4j,q3o,q6d,q4H,q4s,q6C,q6W,q6S,q4v,q70,q2N,q3k,q6m,q6q,q6e,q6s,q3e,q2L,q03,q33,q2V,q6f,q6c,q34,q2Q,e_if,q4z,q42,q6r,q3a,q3q,q4K,q2J,q6h,zAz,q6U,q2W,q2e,q38,q2R,q6K,e_fs,q68,e_ag,e_gn,e_gt,e_gc,e_g0,q6a,q3r,q3g,e_c,e_e,e_ed,e_d,q36,q39,e_v,q3t,q3l,q37,e_op,e_o2,q4S,e_cl,q3b,q2Y,e_ac,e_ca,e_an,q6n,q6H,q6M,e_bl,q6b,e_sl,e_po,e_pa,e_ap,q6I,q4f,q4g,q6Q,q1F,q1E,q1H,e_t,e_tr,q4J,e_ta,q6P,q6p,e_to,q6V,q4G,e_tn,q4d,q3h,q2c,q4y,e_va,q6o,q6E,e_vo,q4U,q4T,q4m,q64,q4A,zAF,q6w,e_ng,q2K,q2T,q3c,q2i,q32,q4Y,q4u,q2Z,q45,q4I,q4Z,q49,q2P,q47,q6B,q72,q6O,at0,at1,at2,q0d,q0Y,zAr,entry,yA,yd,zL,yz,zB,zc,yP,xu,yE,z8,yw,xk,xl,yX,yj,wX,wY,wu,wv,ww,wZ,wb,wc,wd,we,wf,wg,wj,wE,↓reduceIte,wC,wk,xg,xo,xi,wK,wB,wx,xb,wN,yq,beq_self_eq_true,zv,$xs,*])
set_option compiler.extract_closed true
set_option hygiene true
noncomputable def Yp(p:Int×Int):D:=.tup [.int p.1,.int p.2]
theorem q7v{ns:List Int}{k:Int}(h:0<=k):qD [.scr ns,.int k]=↥(.int (ns.getD k.toNat 0)):=by
 unfold qD q1u
 by_cases hk:k<ns.length
 ·simp_arith[hk,decide_true,q0I h hk]
  simp[zT,zD (show k.toNat<ns.length by omega)]
 ·simp_arith[hk,decide_false]
  simp[zT,zu (show ns.length<=k.toNat by omega)]
noncomputable def place(c:Int):Int:=if c%3=0 then c/3%19-9 else if c%3=1 then c/3%2001-1000 else c/3%(2*10^39+1)-10^39
theorem qdv{c:Int}:q0w [.int c]=↥(.int (place c)):=by
 unfold q0w q2m;have h8:oPow (.int 10) (.int 39)=↥(.int (10^39)):=rfl;have h9:∀x,zA6 (.int 2) (.int x)=↥(.int (2*x)):=λx=>q95 (by decide) (by decide);unfold place
 by_cases a:c%3=0
 ·simp_arith[h8,h9,a]
 ·by_cases b:c%3=1
  ·simp_arith[h8,h9,b]
   rfl
  ·have a':(c%3==0)=false:=by simpa using a
   have b':(c%3==1)=false:=by simpa using b
   simp_arith[h8,h9,a',b',a,b]
theorem qeH{xs:List Int}{i:Int}(h0:0<=i)(h1:i<xs.length):∃y,atI (xs.map D.int) i=some (.int y):=by
 rw[q0I h0 (by rw[zB];exact h1)];exact⟨_,by rw[xt]⟩
theorem q6y{xs:List Int}{c m:Int}(hm:0<m)(h1:(xs.length:Int)=m):∃y,atI (xs.map D.int) (c%m)=some (.int y) :=
 qeH (Int.emod_nonneg _ ∅) (by rw[h1];exact Int.emod_lt_of_pos _ hm)
theorem qh5{ds:List D}{i:Int}(P:D->Prop)(h0:0<=i)(h1:i<ds.length)(h:∀d∈ds,P d):∃d,atI ds i=some d/\P d :=
 ⟨_,q0I h0 h1,h _ (yW _)⟩
theorem errand{ns:List Int}{most:Int}(h0:0<=most)(h1:most<=1000):∃(home last:Int) (bs:List (Int×Int)),q0l [.scr ns,.int most]=↥(.tup [.int home,.int last,.lst (bs.map Yp)])/\(bs.length:Int)<=most:=by
 obtain⟨head,hh⟩:∃h,ns.getD 0 0*48271%65537=h:=⟨_,rfl⟩;obtain⟨many,hm⟩:∃h,8-head%8=h:=⟨_,rfl⟩;have hm0:0<many:=∅
 have hm8:many<=8:=∅
 have hmul:∀x:Int,zA6 (.int x) (.int 48271)=↥(.int (x*48271)):=λx=>q9p (by decide) (by decide);have hdm:∀x:Int,oDiv (.int x) (.int many)=↥(.int (x/many)):=λx=>q0Y hm0 ∅;have hmm:∀x:Int,oMod (.int x) (.int many)=↥(.int (x%many)):=λx=>q0d hm0;have hr:rg1I (some [.int many])=some (upTo 0 many.toNat):=qef ⟨∅,∅⟩;have hl:(upTo 0 many.toNat).length<=1000000:=by rw[q8q];omega
 unfold q0l q1N;have hc0:=q7v (ns:=ns) (k:=0) (by decide);simp_arith[hc0,hmul,hh,hm,hdm,hmm,hr,zAF hl,inW,zAv];rw[q4c (onI λk=>place (ns.getD (1+k).toNat 0))]
 case h=>
  intro d hd;obtain⟨i,hi,rfl⟩:=qd4 hd;unfold q3n;simp_arith[q7v (ns:=ns) (k:=1+(0+(i:Int))) ∅,qdv,onI]
 rw[qdf (λk=>place (ns.getD (1+k).toNat 0))];generalize hsp:(List.map (λi:Nat=>place (ns.getD (1+(0+(i:Int))).toNat 0)) (zb many.toNat))=spots;have hsl:(spots.length:Int)=many:=by rw[<- hsp,zB,zo];omega
 simp_arith[q03];have h8:0<=head/512%8/\head/512%8<8:=∅
 obtain⟨top,ht,_⟩:=qh5 (ds:=[.int most,.int 3,.int 1,.int 5,.int 0,.int 2,.int most,.int 4]) (i:=head/512%8) (λd=>∃k,d=D.int k) h8.1 h8.2 (by
  intro d hd;simp only[zF,zi,or_false]at hd;rcases hd with rfl|rfl|rfl|rfl|rfl|rfl|rfl|rfl <;> exact⟨_,rfl⟩)
 obtain⟨k,rfl⟩:=‹∃k,top=D.int k›;simp_arith[ht,oSl];generalize cutD ns (some 9) (some (9+k))=cells;obtain⟨ω',e,bs,x6,x7,x8,rfl,hb⟩:=qdi (g:=gN 6) (b:=q1p) (cells.map D.int)
  (λpre ω=>∃(bs:List (Int×Int)) (x6 x7 x8:Option W),ω=[↥(.scr ns),↥(.int most),↥(.int head),↥(.int many),↥(.lst (spots.map D.int)),some (.ow (bs.map Yp)),x6,x7,x8,none]/\(bs.length:Int)<=most)
  (λpre d post ω hd ⟨bs,x6,x7,x8,hω,hb⟩=>by
   obtain⟨c,hc,rfl⟩:∃c,c∈cells/\D.int c=d:=by
    have:d∈cells.map D.int:=by rw[hd];simp
    obtain⟨c,h1,h2⟩:=yB.mp this;exact⟨c,h1,h2⟩
   subst hω;refine⟨_,rfl,?_⟩;obtain⟨one,h1⟩:=q6y (c:=c) hm0 hsl;obtain⟨other,h2⟩:=q6y (c:=c/many) hm0 hsl;unfold q1p;have hlen:(bs.map Yp).length<1000000:=by rw[zB];omega
   simp_arith[hdm,hmm,h1,h2,zB,zAz hlen]
   by_cases hc1:(bs.length:Int)<most
   ·simp_arith[hc1,decide_true,zAz hlen,zC,zB]
    have hlen2:(bs.map Yp++[D.tup [D.int one,D.int other]]).length<1000000:=by rw[zC,zB,zU];omega
    have e1:bs.map Yp++[D.tup [D.int one,D.int other]]=(bs++[(one,other)]).map Yp:=by rw[za];rfl
    generalize hq:(decide (((bs.length+1:Nat):Int)<most)&&_)=q;cases q with
    | true=>
     have:=(wm.mp hq).1;have:=of_decide_eq_true this;simp_arith[zAz hlen2];refine⟨bs++[(one,other)]++[(other,one)],_,_,_,by rw[za,<- e1];rfl,?_⟩;rw[zC,zC,zU,zU];omega
    | false=>
     simp_arith[q03];refine⟨bs++[(one,other)],_,_,_,by rw[<- e1],?_⟩;rw[zC,zU];omega
   ·simp_arith[hc1,decide_false,xg]
    exact⟨bs,_,_,_,rfl,hb⟩)
  ⟨[],none,none,none,rfl,by simpa using h0⟩
 obtain⟨home,g1⟩:=q6y (c:=head/8) hm0 hsl;obtain⟨last,g2⟩:=q6y (c:=head/64) hm0 hsl;simp only[yP]at e;simp_arith[e,hdm,hmm,g1,g2]
 by_cases hq:head/12288%2=0
 ·simp_arith[hq]
  exact⟨home,home,bs,rfl,hb⟩
 ·have hq':(head/12288%2==0)=false:=by simpa using hq
  simp_arith[hq',hmm,hdm,g2];exact⟨home,last,bs,rfl,hb⟩
inductive Rch (es:List (Int×Int)) (a:Int):Int->Prop where
 | refl:Rch es a a
 | step {b c:Int}:Rch es a b->((b,c)∈es\/(c,b)∈es)->Rch es a c
theorem Rch.trans{es:List (Int×Int)}{a b c:Int}(h:Rch es a b)(h':Rch es b c):Rch es a c:=by
 induction h' with
 | refl=>exact h
 | step _ e ih=>exact ih.step e
theorem Rch.symm{es:List (Int×Int)}{a b:Int}(h:Rch es a b):Rch es b a:=by
 induction h with
 | refl=>exact .refl
 | step _ e ih=>exact(Rch.refl.step e.symm).trans ih
theorem Rch.inv{es:List (Int×Int)}{a:Int}(P:Int->Prop)(h0:P a)(hs:∀b c,P b->((b,c)∈es\/(c,b)∈es)->P c){c:Int}(h:Rch es a c):P c:=by
 induction h with
 | refl=>exact h0
 | step _ e ih=>exact hs _ _ ih e
theorem q5F{α β:Type}(f:α->β):∀(ks:List Int)(xs:List α)(k:Int),Yy ks (xs.map f) k=(Yy ks xs k).map f
 | [],_,_=>rfl
 | _::_,[],_=>rfl
 | k'::ks,x::xs,k=>by
  show (if k'=k then some (f x)else Yy ks (xs.map f) k)=(if k'=k then some x else Yy ks xs k).map f
  by_cases z:k'=k
  ·rw[vC z,vC z];rfl
  ·rw[vG z,vG z,q5F f ks xs k]
theorem q2x{α:Type}:∀{ks:List Int}{xs:List α}{k:Int},ks.length=xs.length->(Yy ks xs k).isSome=decide (k∈ks)
 | [],[],_,_=>rfl
 | [],_::_,_,h=>by simp at h
 | _::_,[],_,h=>by simp at h
 | k'::ks,x::xs,k,h=>by
  show (if k'=k then some x else Yy ks xs k).isSome=_
  by_cases z:k'=k
  ·rw[vC z];simp[z]
  ·have z':¬k=k':=λy=>z y.symm
   rw[vG z,q2x ⇑h];simp[z']
theorem q5N:∀(ks:List Int)(xss:List (List Int))(a' b a:Int),Yy ks (WR ks xss a' b) a=(Yy ks xss a).map λxs=>if a=a' then xs++[b]else xs
 | [],_,_,_,_=>rfl
 | _::_,[],_,_,_=>rfl
 | k::ks,x::xss,a',b,a=>by
  unfold WR
  by_cases z:k=a'
  ·rw[vC z]
   show (if k=a then some (x++[b])else Yy ks xss a)=(if k=a then some x else Yy ks xss a).map _
   by_cases y:k=a
   ·rw[vC y,vC y,yd,vC (y▸z)]
   ·rw[vG y,vG y]
    have:¬a=a':=λe=>y (z.trans e.symm);cases Yy ks xss a with
    | none=>rfl
    | some v=>rw[yd,vG this]
  ·rw[vG z]
   show (if k=a then some x else Yy ks (WR ks xss a' b) a)=(if k=a then some x else Yy ks xss a).map _
   by_cases y:k=a
   ·have:¬a=a':=λe=>z (y.trans e)
    rw[vC y,vC y,yd,vG this]
   ·rw[vG y,vG y];exact q5N ks xss a' b a
theorem qfa(ts:List Int)(a:Int)(ha:a∈ts):∀(es:List (Int×Int)),∃xs,Yy ts (nbT ts es) a=some xs/\∀c,c∈xs↔((a,c)∈es\/(c,a)∈es):=by
 intro es;have key:∀(post pre:List (Int×Int))(T:List (List Int))(xs:List Int),Yy ts T a=some xs->(∀c,c∈xs↔((a,c)∈pre\/(c,a)∈pre))->∃xs',Yy ts (post.foldl (X4 ts) T) a=some xs'/\∀c,c∈xs'↔((a,c)∈pre++post\/(c,a)∈pre++post):=by
  intro post
  induction post with
  | nil=>intro pre T xs h1 h2;exact⟨xs,h1,by rw[zn];exact h2⟩
  | cons e post ih=>
   intro pre T xs h1 h2;have h3:Yy ts (X4 ts T e) a=some (let ys:=if a=e.1 then xs++[e.2]else xs;if a=e.2 then ys++[e.1]else ys):=by
    unfold X4;rw[q5N,q5N,h1];rfl
   obtain⟨xs',g1,g2⟩:=ih (pre++[e]) (X4 ts T e) _ h3 (λc=>by
    obtain⟨e1,e2⟩:=e;have m:∀x y:Int,(x,y)∈pre++[(e1,e2)]↔(x,y)∈pre\/(x=e1/\y=e2):=λx y=>by simp
    rw[m,m]
    by_cases y1:a=e1 <;> by_cases y2:a=e2 <;> simp[y1,y2,h2] <;> (try subst y1) <;> (try subst y2) <;> simp_all <;> grind)
   refine⟨xs',g1,λc=>?_⟩;rw[g2,zJ];rfl
 have h0:Yy ts (ts.map λ_=>([]:List Int)) a=some []:=by
  have:(Yy ts (ts.map λ_=>([]:List Int)) a).isSome=true:=by rw[q2x (by rw[zB]),vU ha]
  obtain⟨x,hx⟩:=yp.mp this;rw[q5F]at hx ⊢;obtain⟨y,hy,e⟩:=wJ.mp hx;rw[hy];rfl
 obtain⟨xs',g1,g2⟩:=key es [] _ [] h0 (by simp);exact⟨xs',g1,by simpa using g2⟩
structure Ok (ts:List Int) (es:List (Int×Int)):Prop where
 nd:ts.Nodup
 inn:∀e∈es,e.1∈ts/\e.2∈ts
 l1:ts.length<64
 l2:es.length<=1000
noncomputable def nbD(ts:List Int)(es:List (Int×Int)):List D:=(nbT ts es).map λxs=>.lst (xs.map D.int)
theorem q8f{ts:List Int}{es:List (Int×Int)}(h:Ok ts es):q1b [.lst (ts.map D.int),.lst (es.map Ym)]=↥(.dic ts (nbD ts es)):=by
 have hl:=h.l1;have e:nbM (ts.map D.int) (es.map Ym)=some (.dic ts (nbD ts es)):=by
  unfold nbM;rw[q0h,q2A];exact vC ⟨h.nd,h.inn,∅,h.l2⟩
 show outM ((nbM (ts.map D.int) (es.map Ym)).map _)=_;rw[e];rfl
theorem Rch.mem{ts:List Int}{es:List (Int×Int)}(h:Ok ts es){a c:Int}(ha:a∈ts)(r:Rch es a c):c∈ts :=
 r.inv (λx=>x∈ts) ha λb c _ e=>by
  rcases e with e|e
  ·exact(h.inn _ e).2
  ·exact(h.inn _ e).1
noncomputable def X2(F:List Int):List D:=F.map λ_=>.bl true
theorem q82(F:List Int):F.length=(X2 F).length:=by unfold X2;rw[zB]
theorem qaK{F:List Int}{c:Int}(h:c∉F):X8 F c=F++[c]/\putA F (X2 F) c (.bl true)=X2 (F++[c]):=by
 unfold X8 putA X2;rw[vG h,vG h,za];exact⟨rfl,rfl⟩
theorem q1m:∀{F ts:List Int},F.Nodup->(∀c∈F,c∈ts)->F.length<=ts.length
 | [],_,_,_=>zy _
 | a::r,ts,hn,hs=>by
  obtain⟨h1,h2⟩:=yN.mp hn;have ha:=hs a zG;have:=q1m (F:=r) (ts:=ts.erase a) h2 λc hc=>(Zq (show c≠a from λz=>h1 (by rw[<- z];exact hc))).mpr (hs c (zH _ hc));rw[ZO ha]at this;have hp:0<ts.length:=Zc ha;rw[zL];omega
structure GI (ts:List Int) (es:List (Int×Int)) (a:Int) (F Wt:List Int):Prop where
 nd:F.Nodup
 st:a∈F
 wl:Wt.length<=F.length
 w:∀c∈Wt,c∈F
 r:∀c∈F,Rch es a c
 cl:∀b∈F,b∉Wt->∀c,((b,c)∈es\/(c,b)∈es)->c∈F
theorem q9J{ts:List Int}{es:List (Int×Int)}(h:Ok ts es){a:Int}(ha:a∈ts):
  ∃F:List Int,q1d [.int a,.dic ts (nbD ts es)]=some (.fr ((Yu F).map D.int))/\F.Nodup/\∀c,c∈F↔Rch es a c:=by
 unfold q1d q3B;simp_arith[q03];have hl1:=h.l1;obtain⟨ω',e,F,x4,x5,rfl,gi⟩:=qgm (fc:=q1A) (fb:=q2E) (n:=1000000)
  (λω=>∃(F Wt:List Int) (x4 x5:Option W),ω=[↥(.int a),↥(.dic ts (nbD ts es)),some (.od F (X2 F)),some (.ow (Wt.map D.int)),x4,x5]/\GI ts es a F Wt)
  (λω=>match ω with
   | [_,_,some (.od F _),some (.ow w),_,_]=>(ts.length-F.length)+w.length
   | _=>0)
  (λω=>∃(F:List Int) (x4 x5:Option W),ω=[↥(.int a),↥(.dic ts (nbD ts es)),some (.od F (X2 F)),some (.ow []),x4,x5]/\GI ts es a F [])
  (λω ⟨F,Wt,x4,x5,hω,gi⟩ hf=>by
   subst hω;unfold q1A at hf;simp -implicitDefEqProofs only[q2r,q2w,q3s,q4O,q4b,q2X,e_wd,q4a,e_wz,q4e,q3p,q4j,q3o,q6d,q4H,q4s,q6C,q6W,q6S,q4v,q70,q2N,q3k,q6m,q6q,q6e,q6s,q3e,q2L,q03,q33,q2V,q6f,q6c,q34,q2Q,e_if,q4z,q42,q6r,q3a,q3q,q4K,q2J,q6h,zAz,q6U,q2W,q2e,q38,q2R,q6K,e_fs,q68,e_ag,e_gn,e_gt,e_gc,e_g0,q6a,q3r,q3g,e_c,e_e,e_ed,e_d,q36,q39,e_v,q3t,q3l,q37,e_op,e_o2,q4S,e_cl,q3b,q2Y,e_ac,e_ca,e_an,q6n,q6H,q6M,e_bl,q6b,e_sl,e_po,e_pa,e_ap,q6I,q4f,q4g,q6Q,q1F,q1E,q1H,e_t,e_tr,q4J,e_ta,q6P,q6p,e_to,q6V,q4G,e_tn,q4d,q3h,q2c,q4y,e_va,q6o,q6E,e_vo,q4U,q4T,q4m,q64,q4A,zAF,q6w,e_ng,q2K,q2T,q3c,q2i,q32,q4Y,q4u,q2Z,q45,q4I,q4Z,q49,q2P,q47,q6B,q72,q6O,at0,at1,at2,q0d,q0Y,zAr,entry,yA,yd,zL,yz,zB,zc,yP,xu,yE,z8,yw,xk,xl,yX,yj,wX,wY,wu,wv,ww,wZ,wb,wc,wd,we,wf,wg,wj,wE,↓reduceIte,wC,wk,xg,xo,xi,wK,wB,wx,xb,wN,yq,beq_self_eq_true,zv]at hf;cases Wt with
   | nil=>exact⟨F,x4,x5,rfl,gi⟩
   | cons w r=>cases hf)
  (λω ⟨F,Wt,x4,x5,hω,gi⟩=>by
   subst hω;refine⟨!Wt.isEmpty,?_,λhk=>?_⟩
   ·unfold q1A
    simp_arith[q03];cases Wt <;> rfl
   ·obtain⟨Wr,here,rfl⟩:∃Wr here,Wt=Wr++[here]:=by
     cases Wt with
     | nil=>cases hk
     | cons w r=>exact⟨(w::r).dropLast,(w::r).getLast (by simp),(wp _).symm⟩
    have hF:here∈F:=gi.w here (by simp);have hts:here∈ts:=(gi.r here hF).mem h ha;obtain⟨xs,v1,v2⟩:=qfa ts here hts es;have vd:Yy ts (nbD ts es) here=some (.lst (xs.map D.int)):=by unfold nbD;rw[q5F,v1];rfl
    have ew:(Wr++[here]).map D.int=Wr.map D.int++[D.int here]:=by rw[za];rfl
    have ffl:=q1m gi.nd λc hc=>(gi.r c hc).mem h ha;unfold q2E;rw[ew];simp_arith[qeu,vd];obtain⟨ω',e,F',W',x5',rfl,i1,i2,i3,i4,i5,i6,i7,i8⟩:=qS (g:=gN 5) (b:=q2F) D.int xs
     (λpre ω=>∃(F' W':List Int) (x5:Option W),ω=[↥(.int a),↥(.dic ts (nbD ts es)),some (.od F' (X2 F')),some (.ow (W'.map D.int)),↥(.int here),x5]/\F'.Nodup/\(∀c∈F,c∈F')/\(∀c∈Wr,c∈W')/\(∀c∈W',c∈F')/\(∀c∈F',Rch es a c)/\(∀c∈F',c∈F\/c∈W')/\(∀c∈pre,c∈F')/\F'.length+Wr.length=F.length+W'.length)
     (λpre c post ω hd ⟨F',W',x5,hω,i1,i2,i3,i4,i5,i6,i7,i8⟩=>by
      subst hω;refine⟨_,rfl,?_⟩;have hcx:c∈xs:=by rw[hd];simp
      have hcr:Rch es a c:=(gi.r here hF).step ((v2 c).mp hcx);have fl:=q1m i1 λc hc=>(i5 c hc).mem h ha;have hs:(Yy F' (X2 F') c).isSome=decide (c∈F'):=q2x (q82 F');unfold q2F
      by_cases hc:c∈F'
      ·simp_arith[hs,hc,decide_true]
       exact⟨F',W',_,rfl,i1,i2,i3,i4,i5,i6,λx hx=>(by rcases zN.mp hx with y|y;exact i7 x y;cases zS.mp y;exact hc),i8⟩
      ·obtain⟨p1,p2⟩:=qaK hc
       have hwl:(W'.map D.int).length<1000000:=by
        rw[zB];have:=gi.wl;rw[zC,zU]at this;omega
       simp_arith[hs,hc,decide_false,q2U (show F'.length<1000000 by omega),p1,p2,zAz hwl];refine⟨F'++[c],W'++[c],_,by rw[za];rfl,?_,λx hx=>zV _ (i2 x hx),λx hx=>zV _ (i3 x hx),λx hx=>?_,λx hx=>?_,λx hx=>?_,λx hx=>?_,by rw[zC,zC,zU];omega⟩
       ·rw[yY]
        exact⟨i1,by simp,λx hx y hy z=>by cases zS.mp hy;exact hc (z▸hx)⟩
       ·rcases zN.mp hx with y|y
        ·exact zV _ (i4 x y)
        ·exact zQ _ y
       ·rcases zN.mp hx with y|y
        ·exact i5 x y
        ·cases zS.mp y;exact hcr
       ·rcases zN.mp hx with y|y
        ·exact(i6 x y).elim .inl λz=>.inr (zV _ z)
        ·exact .inr (zQ _ y)
       ·rcases zN.mp hx with y|y
        ·exact zV _ (i7 x y)
        ·exact zQ _ y)
     (ω:=[↥(.int a),↥(.dic ts (nbD ts es)),some (.od F (X2 F)),some (.ow (Wr.map D.int)),↥(.int here),x5])
     ⟨F,Wr,x5,rfl,gi.nd,λc hc=>hc,λc hc=>hc,λc hc=>gi.w c (zV _ hc),gi.r,λc hc=>.inl hc,λc hc=>(by cases hc),rfl⟩
    have fl':=q1m i1 λc hc=>(i5 c hc).mem h ha;simp_arith[e];have wl0:=gi.wl;rw[zC,zU]at wl0;refine⟨⟨F',W',_,_,rfl,i1,i2 a gi.st,∅,i4,i5,λb hb hw c hc=>?_⟩,?_⟩
    ·rcases i6 b hb with y|y
     ·by_cases z:b=here
      ·subst z
       exact i7 c ((v2 c).mpr hc)
      ·exact i2 c (gi.cl b y (λm=>by rcases zN.mp m with m|m;exact hw (i3 b m);exact z (zS.mp m)) c hc)
     ·exact vP y hw
    ·show (ts.length-F'.length)+(W'.map D.int).length<(ts.length-F.length)+(Wr.map D.int++[D.int here]).length
     rw[zB,zC,zB,zU];omega)
  (ω:=[↥(.int a),↥(.dic ts (nbD ts es)),some (.od [a] [.bl true]),some (.ow [.int a]),none,none])
  ⟨[a],[a],none,none,rfl,by simp,by simp,zK _,λc hc=>hc,λc hc=>by cases zS.mp hc;exact .refl,λb hb hw=>vP hb hw⟩
  (by show (ts.length-1)+1<1000000;omega)
 have fl:=q1m gi.nd λc hc=>(gi.r c hc).mem h ha;simp_arith[e,qdk (show F.length<64 by omega)];exact⟨F,rfl,gi.nd,λc=>⟨gi.r c,λr=>r.inv (λx=>x∈F) gi.st λb c hb hc=>gi.cl b hb (by simp) c hc⟩⟩
noncomputable def gD(g:List Int):D:=.lst (g.map D.int)
structure Cls (ts:List Int) (es:List (Int×Int)) (g:List Int) (a:Int):Prop where
 inn:a∈ts
 up:g.Pairwise (· < ·)
 mem:∀c,c∈g↔Rch es a c
 hd:g.head?=some a
theorem qfF{F:List Int}(h:F.Nodup):(Yu F).Pairwise (· < ·):=by
 have h1:(Yu F).Nodup:=(qq (l:=F)).nodup_iff.mpr h;have h2:=q0i (l:=F);have:=List.Pairwise.and h2 h1;exact this.imp λ{a b} h=>(by have h1:=h.1;have h2:=h.2;omega)
theorem qgb{ts:List Int}{es:List (Int×Int)}{F:List Int}{a:Int}(ha:a∈ts)(hn:F.Nodup)(hm:∀c,c∈F↔Rch es a c)(least:∀c∈F,a<=c):Cls ts es (Yu F) a:=by
 have pm:=qq (l:=F);have up:=qfF hn;refine⟨ha,up,λc=>by rw[pm.mem_iff,hm],?_⟩;have haF:a∈Yu F:=pm.mem_iff.mpr ((hm a).mpr .refl);cases q:Yu F with
 | nil=>rw[q]at haF;cases haF
 | cons b r=>
  rw[q]at haF up;have hb:a<=b:=least b (pm.mem_iff.mp (by rw[q];exact zG));rcases zF.mp haF with rfl|hr
  ·rfl
  ·have:=(zd.mp up).1 a hr
   omega
structure GS (ts:List Int) (es:List (Int×Int)) (gs:List (List Int)) (hs:List Int):Prop where
 len:gs.length=hs.length
 cls:∀(j:Nat)g a,gs[j]?=some g->hs[j]?=some a->Cls ts es g a
 up:hs.Pairwise (· < ·)
theorem GS.snoc{ts:List Int}{es:List (Int×Int)}{gs:List (List Int)}{hs:List Int}(h:GS ts es gs hs){g:List Int}{a:Int}(c:Cls ts es g a)(hu:∀b∈hs,b<a):GS ts es (gs++[g]) (hs++[a]):=by
 refine⟨by rw[zC,zC,h.len];rfl,λj g' a' e1 e2=>?_,?_⟩
 ·rcases zw j gs.length with z|z
  ·rw[ze z]at e1
   rw[ze (by rw[<- h.len];exact z)]at e2;exact h.cls j g' a' e1 e2
  ·rw[zX z]at e1
   rw[zX (by rw[<- h.len];exact z),<- h.len]at e2;cases hj:j-gs.length with
   | zero=>rw[hj]at e1 e2;cases e1;cases e2;exact c
   | succ n=>rw[hj]at e1;cases e1
 ·rw[zW]
  exact⟨h.up,by simp,λb hb c hc=>by cases zS.mp hc;exact hu b hb⟩
theorem GS.one{ts:List Int}{es:List (Int×Int)}{gs:List (List Int)}{hs:List Int}(h:GS ts es gs hs){g:List Int}(hg:g∈gs):∃a∈hs,Cls ts es g a:=by
 obtain⟨j,hj,rfl⟩:=zg.mp hg;have hj2:j<hs.length:=by rw[<- h.len];exact hj
 exact⟨hs[j],yW _,h.cls j _ _ (zD hj) (zD hj2)⟩
theorem qbA{ts:List Int}{es:List (Int×Int)}(h:Ok ts es):∃gs hs,q1v [.lst (ts.map D.int),.lst (es.map Ym)]=some (.fr (gs.map gD))/\GS ts es gs hs/\(∀t∈ts,∃g∈gs,t∈g)/\gs.length<=ts.length:=by
 unfold q1v q5I;have hl1:=h.l1;have sp:=qq (l:=ts);have sl:=q0i (l:=ts);simp_arith[q8f h,qfk hl1];obtain⟨ω',e,gs,hs,Gd,x5,x6,x7,rfl,i1,i2,i3,i4,i5,i6⟩:=qS (g:=gN 5) (b:=q4M) D.int (Yu ts)
  (λpre ω=>∃(gs:List (List Int)) (hs Gd:List Int) (x5 x6 x7:Option W),ω=[↥(.lst (ts.map D.int)),↥(.lst (es.map Ym)),↥(.dic ts (nbD ts es)),some (.od Gd (X2 Gd)),some (.ow (gs.map gD)),x5,x6,x7]/\GS ts es gs hs/\Gd.Nodup/\(∀c,c∈Gd↔∃g∈gs,c∈g)/\(∀t∈pre,t∈Gd)/\(∀a∈hs,a∈pre)/\gs.length<=pre.length)
  (λpre t post ω hd ⟨gs,hs,Gd,x5,x6,x7,hω,i1,i2,i3,i4,i5,i6⟩=>by
   subst hω;refine⟨_,rfl,?_⟩;have ht:t∈ts:=sp.mem_iff.mp (by rw[hd];simp);have hs1:(Yy Gd (X2 Gd) t).isSome=decide (t∈Gd):=q2x (q82 Gd);have gts:∀c∈Gd,c∈ts:=λc hc=>by
    obtain⟨g,hg,hcg⟩:=(i3 c).mp hc;obtain⟨a,_,cl⟩:=i1.one hg;exact((cl.mem c).mp hcg).mem h cl.inn
   have plen:pre.length<=ts.length:=by rw[<- sp.length_eq,hd,zC];omega
   unfold q4M
   by_cases hc:t∈Gd
   ·simp_arith[hs1,hc,decide_true]
    exact⟨gs,hs,Gd,_,_,_,rfl,i1,i2,i3,λx hx=>(by rcases zN.mp hx with y|y;exact i4 x y;cases zS.mp y;exact hc),λa ha=>zV _ (i5 a ha),by rw[zC];omega⟩
   ·obtain⟨F,f1,f2,f3⟩:=q9J h ht
    have least:∀c∈F,t<=c:=λc hcF=>by
     rcases Int.lt_or_le c t with z|z
     ·exfalso
      have rc:=(f3 c).mp hcF;have hcs:c∈Yu ts:=sp.mem_iff.mpr (rc.mem h ht);rw[hd]at hcs sl;have hcp:c∈pre:=by
       rcases zN.mp hcs with y|y
       ·exact y
       ·rcases zF.mp y with rfl|y
        ·omega
        ·have:=(zd.mp (zW.mp sl).2.1).1 c y
         omega
      obtain⟨g,hg,hcg⟩:=(i3 c).mp (i4 c hcp);obtain⟨a,_,cl⟩:=i1.one hg;exact hc ((i3 t).mpr ⟨g,hg,(cl.mem t).mpr (((cl.mem c).mp hcg).trans rc.symm)⟩)
     ·exact z
    have cl:=qgb ht f2 f3 least;have dis:∀c∈Yu F,c∉Gd:=λc hcg hcG=>by
     obtain⟨g,hg,hcg'⟩:=(i3 c).mp hcG;obtain⟨a,_,cl'⟩:=i1.one hg;exact hc ((i3 t).mpr ⟨g,hg,(cl'.mem t).mpr (((cl'.mem c).mp hcg').trans ((cl.mem c).mp hcg).symm)⟩)
    have hgl:(gs.map gD).length<1000000:=by rw[zB];omega
    simp_arith[hs1,hc,decide_false,f1,zAz hgl];obtain⟨ω',e,x7',rfl⟩:=qS (g:=gN 7) (b:=q4k) D.int (Yu F)
     (λpre' ω=>∃(x7:Option W),ω=[↥(.lst (ts.map D.int)),↥(.lst (es.map Ym)),↥(.dic ts (nbD ts es)),some (.od (Gd++pre') (X2 (Gd++pre'))),some (.ow (gs.map gD++[.lst ((Yu F).map D.int)])),↥(.int t),↥(.lst ((Yu F).map D.int)),x7])
     (λpre' c post' ω hd' ⟨x7,hω⟩=>by
      subst hω;refine⟨_,rfl,?_⟩;have ndF:(Yu F).Nodup:=(qq (l:=F)).nodup_iff.mpr f2;have hnew:c∉Gd++pre':=λm=>by
       rcases zN.mp m with y|y
       ·exact dis c (by rw[hd'];simp) y
       ·rw[hd',yY]at ndF
        exact ndF.2.2 c y c zG rfl
      obtain⟨p1,p2⟩:=qaK hnew;have hlen:(Gd++pre').length<1000000:=by
       have z1:=q1m i2 gts;have z2:pre'.length<=ts.length:=by
        have a1:(Yu F).length<=ts.length:=by
         rw[(qq (l:=F)).length_eq];exact q1m f2 λc hc=>((f3 c).mp hc).mem h ht
        rw[hd',zC]at a1;omega
       rw[zC];omega
      unfold q4k;simp_arith[q2U hlen,p1,p2,zJ];exact⟨_,rfl⟩)
     (ω:=[↥(.lst (ts.map D.int)),↥(.lst (es.map Ym)),↥(.dic ts (nbD ts es)),some (.od Gd (X2 Gd)),some (.ow (gs.map gD++[.lst ((Yu F).map D.int)])),↥(.int t),↥(.lst ((Yu F).map D.int)),x7]) ⟨x7,by rw[zn]⟩
    simp_arith[e];refine⟨gs++[Yu F],hs++[t],Gd++Yu F,_,_,_,by rw[za];rfl,i1.snoc cl λb hb=>?_,?_,λc=>?_,λx hx=>?_,λa ha=>?_,by rw[zC,zC,zU,zU];omega⟩
    ·have hbp:=i5 b hb
     rw[hd]at sl;have le:b<=t:=(zW.mp sl).2.2 b hbp t zG;have ne:b≠t:=λz=>hc (i4 t (z▸hbp));omega
    ·rw[yY]
     exact⟨i2,(qq (l:=F)).nodup_iff.mpr f2,λx hx y hy z=>dis y hy (z▸hx)⟩
    ·rw[zN,i3]
     constructor
     ·rintro(⟨g,hg,hcg⟩|hcF)
      ·exact⟨g,zV _ hg,hcg⟩
      ·exact⟨_,zQ _ (zS.mpr rfl),hcF⟩
     ·rintro⟨g,hg,hcg⟩
      rcases zN.mp hg with y|y
      ·exact .inl ⟨g,y,hcg⟩
      ·cases zS.mp y;exact .inr hcg
    ·rcases zN.mp hx with y|y
     ·exact zV _ (i4 x y)
     ·cases zS.mp y
      exact zQ _ ((cl.mem t).mpr .refl)
    ·rcases zN.mp ha with y|y
     ·exact zV _ (i5 a y)
     ·exact zQ _ y)
  (ω:=[↥(.lst (ts.map D.int)),↥(.lst (es.map Ym)),↥(.dic ts (nbD ts es)),some (.od [] []),some (.ow []),none,none,none])
  ⟨[],[],[],none,none,none,rfl,⟨rfl,λj g a e=>(by simp at e),.nil⟩,xO,by simp,by simp,by simp,zK _⟩
 simp_arith[e];refine⟨gs,hs,rfl,i1,λt ht=>?_,by rw[<- sp.length_eq];exact i6⟩;exact(i3 t).mp (i4 t (sp.mem_iff.mpr ht))
noncomputable def WS:D->Bool
 | .int _=>true
 | _=>false
noncomputable def nsD:D->Bool
 | .scr _=>false
 | .exc _=>false
 | .dic _ _=>false
 | _=>true
noncomputable def noScr:D->Bool
 | .scr _=>false
 | .exc _=>false
 | .dic _ _=>false
 | .tup [a,b]=>nsD a&&nsD b
 | _=>true
noncomputable def isBoxL:List D->Bool
 | []=>false
 | [_]=>false
 | [a,b]=>WS a&&WS b
 | _::_::_::_=>false
noncomputable def zBM:D->Bool
 | .tup ds=>isBoxL ds
 | _=>false
theorem q3K{d:D}(h:nsD d=true):qu [d]=↥(.bl (WS d)):=by
 cases d <;> first|rfl|cases h
theorem qgs{d:D}(h:noScr d=true):q2h [d]=↥(.bl (zBM d)):=by
 unfold q2h q5w
 match d,h with
 | .non,_=>rfl
 | .bl _,_=>rfl
 | .int _,_=>rfl
 | .str _,_=>rfl
 | .lst _,_=>rfl
 | .tup [],_=>rfl
 | .tup [_],_=>simp_arith[q03];rfl
 | .tup [a,b],h=>
  have h':=wm.mp (show (_&&_)=true from h);have ha:=q3K h'.1;have hb:=q3K h'.2;simp_arith[ha,hb];simp_arith[show (((0+1+1:Nat):Int)==2)=true from rfl,ha,hb];cases a <;> cases b <;> rfl
 | .tup (a::b::c::r),_=>
  have hn:(((a::b::c::r).length:Int)==2)=false:=by
   simp only[zL,beq_eq_false_iff_ne,ne_eq];omega
  simp only[zL]at hn;simp_arith[hn];rfl
theorem q9o:∀(q:D->Bool)(ds:List D),allB (ds.map λd=>D.bl (q d))=some (ds.all q)
 | _,[]=>rfl
 | q,d::ds=>by
  show (allB (ds.map λd=>D.bl (q d))).map _=_;rw[q9o q ds];rfl
theorem qce{h l:D}{ds:List D}(hh:nsD h=true)(hl:nsD l=true)(hd:∀d∈ds,noScr d=true)(hlen:ds.length<=1000000):
  q0r [h,l,.lst ds]=↥(.bl (WS h&&(WS l&&ds.all zBM))):=by
 unfold q0r q2I;have e1:=q3K hh;have e2:=q3K hl;simp_arith[e1,e2,zAF hlen];cases WS h <;> cases WS l <;> simp_arith[e2,zAF hlen] <;> first|rfl|skip
 rw[q4c (λd=>D.bl (zBM d))]
 ·simp_arith[zCW,q9o]
 ·intro d hd'
  unfold q4w;simp_arith[inW,qgs (hd d hd')]
noncomputable def flat(bs:List (Int×Int)):List Int:=bs.flatMap λp=>[p.1,p.2]
noncomputable def plc(h l:Int)(bs:List (Int×Int)):List Int:=h::l::flat bs
theorem qdU(bs:List (Int×Int))(p:Int×Int):flat (bs++[p])=flat bs++[p.1,p.2]:=by simp[flat]
theorem q5J(bs:List (Int×Int)):(flat bs).length=2*bs.length:=by
 induction bs with
 | nil=>rfl
 | cons p r ih=>simp[flat]at ih ⊢;omega
theorem qfe(h l:Int)(bs:List (Int×Int))(p:Int×Int):plc h l (bs++[p])=plc h l bs++[p.1,p.2]:=by unfold plc;rw[qdU];rfl
theorem zAy(x:Int):nsD (.int x)=true:=rfl
theorem qcp(p:Int×Int):zBM (Yp p)=true:=rfl
theorem qbR(bs:List (Int×Int)):(bs.map Yp).all zBM=true:=by
 rw[Z8];exact xL.mpr λp _=>qcp p
theorem qby{h l:Int}{bs:List (Int×Int)}(hb:bs.length<=1000):q0r [.int h,.int l,.lst (bs.map Yp)]=↥(.bl true):=by
 have:=qce (h:=.int h) (l:=.int l) (ds:=bs.map Yp) (zAy h) (zAy l) (λd hd=>by
  obtain⟨p,_,rfl⟩:=yB.mp hd;rfl) (by rw[zB];omega)
 rw[qbR]at this;exact this
theorem q97{h l:Int}{bs:List (Int×Int)}(hb:bs.length<=1000):qI [.int h,.int l,.lst (bs.map Yp)]=some (.sh .non):=by
 unfold qI q1w;simp_arith[qby hb]
structure Bd (h l:Int) (bs:List (Int×Int)):Prop where
 n:bs.length<=100
 d:(Y5 (plc h l bs)).length<64
theorem q8u{h l:Int}{bs:List (Int×Int)}(hb:Bd h l bs):q1j [.int h,.int l,.lst (bs.map Yp)]=some (.fr ((Y5 (plc h l bs)).map D.int)):=by
 have hn:=hb.n;unfold q1j q7k;simp_arith[q97 (show bs.length<=1000 by omega)];obtain⟨ω',e,x4,rfl⟩:=qS (g:=gN 4) (b:=q5R) Yp bs
  (λpre ω=>∃x4,ω=[↥(.int h),↥(.int l),↥(.lst (bs.map Yp)),some (.ow ((plc h l pre).map D.int)),x4])
  (λpre p post ω hd ⟨x4,hω⟩=>by
   subst hω;refine⟨_,rfl,?_⟩;unfold q5R;have hl:(plc h l pre).length<=1000:=by
    have:=v9 xj hd;rw[zC,zL]at this;show (flat pre).length+1+1<=1000;rw[q5J];omega
   have e1:=q2W (i:=3) (ω:=[↥(.int h),↥(.int l),↥(.lst (bs.map Yp)),some (.ow ((plc h l pre).map D.int)),↥(Yp p)]) (ds:=(plc h l pre).map D.int) (ds':=[.int p.1,.int p.2]) (by rw[zB,zL,zU];omega);simp_arith[q03];show zA8 (extS 3 _ (some (Yp p)) _) _;rw[show Yp p=D.tup [.int p.1,.int p.2]from rfl]at e1 ⊢;rw[e1,qfe,za];exact⟨_,rfl⟩)
  (ω:=[↥(.int h),↥(.int l),↥(.lst (bs.map Yp)),some (.ow [.int h,.int l]),none]) ⟨none,rfl⟩
 simp_arith[e];have hlen:fewS (plc h l bs):=⟨hb.d,by
  show (flat bs).length+1+1<4000;rw[q5J];omega⟩
 have:Wo (vOf (Yi 3)) [↥(.int h),↥(.int l),↥(.lst (bs.map Yp)),some (.ow ((plc h l bs).map D.int)),x4]=some (.fr ((Y5 (plc h l bs)).map D.int)):=by
  show zAf (.lst ((plc h l bs).map D.int))=_;show (intsOf ((plc h l bs).map D.int)).bind _=_;rw[q0h];exact vC hlen
 simp_arith[this]
noncomputable def Ys(P:List Int):List (Int×Int):=P.zip (P.drop 1)
theorem q0Z(P:List Int):(Ys P).length=P.length-1:=by
 unfold Ys;rw[xU,yI];omega
theorem qdM{P:List Int}{i:Nat}(h:i+1<P.length):(Ys P)[i]?=some (P[i],P[i+1]):=by
 unfold Ys;rw[y8];refine⟨zD ∅,?_⟩;show (P.drop 1)[i]?=some P[i+1];rw[xQ,Nat.add_comm 1 i];exact zD h
theorem q7P:∀(xs ys:List Int),Za pairD (xs.map D.int) (ys.map D.int)=(xs.zip ys).map Yp
 | [],_=>rfl
 | _::_,[]=>rfl
 | x::xs,y::ys=>by
  show _::Za pairD (xs.map D.int) (ys.map D.int)=_::(xs.zip ys).map Yp;rw[q7P xs ys];rfl
theorem qdn(ds:List D):cutD ds (some 1) none=ds.drop 1:=by
 unfold cutD;have e:HT.sIx ds.length 0 (some 1)=min 1 ds.length:=HT.q7m ds.length 0 1;rw[e,HT.q5B];cases ds with
 | nil=>rfl
 | cons d r=>
  have:min 1 (d::r).length=1:=by rw[zL];omega
  rw[this];show List.take _ r=r;rw[zL,xP,ZV]
theorem q5a{h l:Int}{bs:List (Int×Int)}(hb:Bd h l bs):q0v [.int h,.int l,.lst (bs.map Yp)]=some (.fr ((Ys (Y5 (plc h l bs))).map Yp)):=by
 unfold q0v q8s;have hz:WE [.lst ((Y5 (plc h l bs)).map D.int),.lst (cutD ((Y5 (plc h l bs)).map D.int) (some 1) none)]=some (.fr ((Ys (Y5 (plc h l bs))).map Yp)):=by
  rw[qdn,<- ZM];show some (R.fr (Za pairD _ _))=_;rw[q7P];rfl
 simp_arith[q8u hb,qeo,hz]
structure Stp (P:List Int):Prop where
 ne:P≠[]
 rise:P.Pairwise (· < ·)
 len:P.length<=1000
theorem stp(h l:Int){bs:List (Int×Int)}(hb:Bd h l bs):Stp (Y5 (plc h l bs)):=by
 refine⟨λe=>?_,q0A,?_⟩
 ·have:h∈Y5 (plc h l bs):=q1J.mpr (by simp[plc])
  rw[e]at this;simp at this
 ·have:=hb.d;omega
theorem Stp.lt{P:List Int}(S:Stp P){i j:Nat}(hi:i<P.length)(hj:j<P.length)(h:i<j):P[i]<P[j]:=yQ.mp S.rise i j hi hj h
theorem Stp.le{P:List Int}(S:Stp P){i j:Nat}(hi:i<P.length)(hj:j<P.length)(h:i<=j):P[i]<=P[j]:=by
 rcases zw i j with z|z
 ·exact ym (S.lt hi hj z)
 ·have:i=j:=∅
  subst this;exact yG _
theorem Stp.amid{P:List Int}(S:Stp P){i:Nat}(h:i+1<P.length){x:Int}(hx:x∈P):x<=P[i]\/P[i+1]<=x:=by
 obtain⟨j,hj,rfl⟩:=zg.mp hx;rcases zw i j with z|z
 ·right;exact S.le h hj z
 ·left;exact S.le hj ∅ z
theorem q35(a b:Int):Yp (a,b)=.tup [.int a,.int b]:=rfl
noncomputable def over(s g:Int)(q:Int×Int):Bool:=decide (s<=q.1)&&decide (q.2<=g)
theorem q8V(s g a b:Int):q08 [.int s,.int g,.tup [.int a,.int b]]=↥(.bl (over s g (a,b))):=by
 unfold q08 q2d over;simp_arith[q03]
noncomputable def rts(bs:List (Int×Int))(q:Int×Int):Int:=((bs.filter λp=>over p.1 p.2 q).length:Nat)
noncomputable def lfs(bs:List (Int×Int))(q:Int×Int):Int:=((bs.filter λp=>over p.2 p.1 q).length:Nat)
noncomputable def onP(f:Int->Int->Bool):D->Bool
 | .tup [.int a,.int b]=>f a b
 | _=>false
theorem q7C(f:Int->Int->Bool)(bs:List (Int×Int)):((bs.map Yp).filter (onP f)).map (λd=>d)=(bs.filter λp=>f p.1 p.2).map Yp:=by
 rw[List.map_id',Zl];rfl
theorem q6X{bs:List (Int×Int)}{q:Int×Int}(hb:bs.length<=1000):q0S [.lst (bs.map Yp),Yp q]=↥(.tup [.int (rts bs q),.int (lfs bs q)]):=by
 unfold q0S q43;have hl:(bs.map Yp).length<=1000000:=by rw[zB];omega
 obtain⟨a,b⟩:=q;have c1:Xc (gN 0) q3y q3T (bs.map Yp) [none,↥(.tup [.int a,.int b])]=some ((bs.filter λp=>over p.1 p.2 (a,b)).map Yp):=by
  rw[<- q7C (λs g=>over s g (a,b))];refine q7N (onP λs g=>over s g (a,b)) (λd=>d) (bs.map Yp) λd hd=>?_;obtain⟨⟨s,g⟩,_,rfl⟩:=yB.mp hd;unfold q3y q3T;simp_arith[q35,q8V];exact⟨rfl,λ_=>trivial⟩
 have c2:Xc (gN 0) q3I q3O (bs.map Yp) [none,↥(.tup [.int a,.int b])]=some ((bs.filter λp=>over p.2 p.1 (a,b)).map Yp):=by
  rw[<- q7C (λs g=>over g s (a,b))];refine q7N (onP λs g=>over g s (a,b)) (λd=>d) (bs.map Yp) λd hd=>?_;obtain⟨⟨s,g⟩,_,rfl⟩:=yB.mp hd;unfold q3I q3O;simp_arith[q35,q8V];exact⟨rfl,λ_=>trivial⟩
 simp_arith[q35,zAF hl,inW,zAv,c1,c2];rfl
noncomputable def Y4(h l:Int)(bs:List (Int×Int))(q:Int×Int):Int:=rts [(h,l)] q-lfs [(h,l)] q-rts bs q+lfs bs q
theorem qfI{h l:Int}{bs:List (Int×Int)}{q:Int×Int}(hb:bs.length<=1000):q4W [.int h,.int l,.lst (bs.map Yp),Yp q]=↥(.int (Y4 h l bs q)):=by
 unfold q4W q8n;have e1:=q6X (bs:=[(h,l)]) (q:=q) (by show 1<=1000;decide);have e2:=q6X (bs:=bs) (q:=q) hb;rw[zc,yP,q35]at e1;simp_arith[e1,e2];rfl
theorem q9b{h l:Int}{bs:List (Int×Int)}(hb:Bd h l bs):q1s [.int h,.int l,.lst (bs.map Yp)]=some (.fr (((Ys (Y5 (plc h l bs))).map (Y4 h l bs)).map D.int)):=by
 unfold q1s q7h;have S:=stp h l hb;have hl:((Ys (Y5 (plc h l bs))).map Yp).length<=1000000:=by rw[zB,q0Z];have:=S.len;omega
 simp_arith[q5a hb,zAF hl,inW,zAv];rw[q4c (λd=>match d with|.tup [.int a,.int b]=>D.int (Y4 h l bs (a,b))|d=>d)]
 case h=>
  intro d hd;obtain⟨⟨a,b⟩,_,rfl⟩:=yB.mp hd;unfold q8m;have e:=qfI (h:=h) (l:=l) (bs:=bs) (q:=(a,b)) (by have:=hb.n;omega);rw[q35]at e ⊢;simp_arith[e]
 rw[yb,yb];rfl
noncomputable def ov(s g:Int)(q:Int×Int):Int:=if over s g q=true then 1 else if over g s q=true then -1 else 0
theorem q5K(f:Int×Int->Int):∀L:List (Int×Int),zA0 (L.map Yp) ((L.map f).map D.int)=L.map λq=>D.tup [Yp q,.int (f q)]
 | []=>rfl
 | q::r=>by
  show D.tup [Yp q,.int (f q)]::zA0 (r.map Yp) ((r.map f).map D.int)=_;rw[q5K f r];rfl
noncomputable def snd0:D->Bool
 | .tup [_,.int k]=>!(k==0)
 | _=>false
noncomputable def fst0:D->D
 | .tup [x,_]=>x
 | d=>d
theorem qbm(f:Int×Int->Int)(L:List (Int×Int)):Xc (gT 2 (Y7 (gN 0) (Y7 (gN 1) WM))) q3D q5x (L.map λq=>D.tup [Yp q,.int (f q)]) [none,none]=some ((L.filter λq=>!(f q==0)).map Yp):=by
 have:=q2t (g:=gT 2 (Y7 (gN 0) (Y7 (gN 1) WM))) (c:=q3D) (f:=q5x) (λw=>∃a b,w=[a,b]) snd0 fst0 (L.map λq=>D.tup [Yp q,.int (f q)]) (ω:=[none,none]) ⟨_,_,rfl⟩ (λd hd w ⟨a,b,hw⟩=>by
  obtain⟨q,_,rfl⟩:=yB.mp hd;subst hw;refine⟨[↥(Yp q),↥(.int (f q))],rfl,⟨_,_,rfl⟩,?_,λ_=>rfl⟩;unfold q3D;simp_arith[q03];rfl)
 rw[this,Zl,yb];rfl
theorem qdu{h l:Int}{bs:List (Int×Int)}(hb:Bd h l bs):q30 [.int h,.int l,.lst (bs.map Yp)]=some (.fr ((bs++[(h,l)]++(Ys (Y5 (plc h l bs))).filter λq=>!(Y4 h l bs q==0)).map Yp)):=by
 have hn:=hb.n;unfold q30 q79;have S:=stp h l hb;have hg:=q5a (h:=h) (l:=l) hb;have hk:=q9b (h:=h) (l:=l) hb;have hL:(Ys (Y5 (plc h l bs))).length<=1000:=by rw[q0Z];have:=S.len;omega
 generalize Ys (Y5 (plc h l bs))=L at hg hk hL ⊢;have hl:(L.map λq=>D.tup [Yp q,.int (Y4 h l bs q)]).length<=1000000:=by rw[zB];omega
 have hf:=xA (λq=>!(Y4 h l bs q==0)) L;simp_arith[hg,hk,q5K,zAF hl,inW,qbm (Y4 h l bs)];have a1:WB (.lst (bs.map Yp)) (.lst [.tup [.int h,.int l]])=some (.fr (bs.map Yp++[.tup [.int h,.int l]])):=q23 (by rw[zB,zU];omega);have a2:WB (.lst (bs.map Yp++[.tup [.int h,.int l]])) (.lst ((L.filter λq=>!(Y4 h l bs q==0)).map Yp))=some (.fr (bs.map Yp++[.tup [.int h,.int l]]++(L.filter λq=>!(Y4 h l bs q==0)).map Yp)):=q23 (by rw[zC,zB,zB,zU];omega);simp_arith[a1,a2];rw[za,za];rfl
theorem q6L{α:Type}{g:FG}{c:FT}{f:FD}(P:WSt->Prop)(q:α->Bool)(B F:α->D):∀(xs:List α){ω:WSt},P ω ->
  (∀x∈xs,∀ω,P ω->∃w,g (B x) ω=some w/\P w/\c w=some (q x)/\(q x=true->f w=some (F x)))->Xc g c f (xs.map B) ω=some ((xs.filter q).map F)
 | [],_,_,_=>rfl
 | x::xs,ω,h,t=>by
  obtain⟨w,h1,h2,h3,h4⟩:=t x zG ω h;have ih:=q6L P q B F xs h2 (λe he=>t e (zH _ he));rw[zc,Xc,h1,yA,h3,yA];cases hq:q x with
  | true=>rw[vC rfl,h4 hq,yA,ih,ZS hq];rfl
  | false=>rw[vG (by decide),ih,ZT (by rw[hq];decide)]
theorem q6g{α:Type}{i:Nat}{c:FT}{f:FD}(q:α->Bool)(B F:α->D)(xs:List α){ω:WSt}(h:∀x∈xs,c (ω.set i ↥(B x))=some (q x)/\(q x=true->f (ω.set i ↥(B x))=some (F x))):Xc (gN i) c f (xs.map B) ω=some ((xs.filter q).map F) :=
 q6L (g:=gN i) (c:=c) (f:=f) (λw=>∀x,w.set i x=ω.set i x) q B F xs (ω:=ω) (λx=>rfl) λd hd w hw=>
  ⟨w.set i ↥(B d),rfl,λx=>by rw[Z9,hw],by rw[hw];exact(h d hd).1,λz=>by rw[hw];exact(h d hd).2 z⟩
theorem q0D{α:Type}{i:Nat}{f:FD}(B F:α->D)(xs:List α){ω:WSt}(h:∀x∈xs,f (ω.set i ↥(B x))=some (F x)):Xc (gN i) Xk f (xs.map B) ω=some (xs.map F):=by
 have:=q6g (c:=Xk) (i:=i) (f:=f) (λ_=>true) B F xs (ω:=ω) λx hx=>⟨rfl,λ_=>h x hx⟩;rw[this,wq.mpr (λ_ _=>rfl)]
theorem qbW{α:Type}(q:α->Bool):∀bs:List α,allB (bs.map λp=>D.bl (q p))=some (bs.all q)
 | []=>rfl
 | b::r=>by
  show (allB (r.map λp=>D.bl (q p))).map _=_;rw[qbW q r];rfl
noncomputable def edD(q:Int×Int):D:=.tup [.int q.1,.int q.2,.int (q.2-q.1)]
noncomputable def Pz(h l:Int)(bs:List (Int×Int)):List Int:=Y5 (plc h l bs)
noncomputable def Kn(h l:Int)(bs:List (Int×Int)):List (Int×Int):=bs++[(h,l)]++(Ys (Pz h l bs)).filter λq=>!(Y4 h l bs q==0)
theorem qbH{h l:Int}{bs:List (Int×Int)}(hb:Bd h l bs):(Ys (Pz h l bs)).length<=1000:=by
 rw[q0Z];have:=(stp h l hb).len;unfold Pz;omega
theorem q9X(h l:Int)(bs:List (Int×Int)):(Pz h l bs).Pairwise (· < ·):=q0A
theorem qcL{h l:Int}{bs:List (Int×Int)}(hb:Bd h l bs):(Pz h l bs).length<64:=hb.d
theorem qdE{h l:Int}{bs:List (Int×Int)}(hb:Bd h l bs):q0H [.int h,.int l,.lst (bs.map Yp)]=some (.fr ((Ys (Pz h l bs)).map edD)):=by
 unfold q0H q2C;have hl:((Ys (Pz h l bs)).map Yp).length<=1000000:=by rw[zB];have:=qbH (h:=h) (l:=l) hb;omega
 have cm:=q0D (i:=0) (f:=q26) Yp edD (Ys (Pz h l bs)) (ω:=[none]) (λq hq=>by
  obtain⟨a,b⟩:=q;unfold q26 Yp edD;simp_arith[q03])
 have g:=q5a (h:=h) (l:=l) hb;rw[show Y5 (plc h l bs)=Pz h l bs from rfl]at g;simp_arith[g,zAF hl,inW,zAv,cm]
structure Gap (h l:Int) (bs:List (Int×Int)) (g:Int×Int):Prop where
 lt:g.1<g.2
 h:h<=g.1\/g.2<=h
 l:l<=g.1\/g.2<=l
 b:∀b∈bs,(b.1<=g.1\/g.2<=b.1)/\(b.2<=g.1\/g.2<=b.2)
noncomputable def zB6(c:Int):Int:=if c<0 then -c else c
theorem qT{h l:Int}{bs:List (Int×Int)}(p:Int):p∈Pz h l bs↔p=h\/p=l\/∃b∈bs,p=b.1\/p=b.2:=by
 unfold Pz;rw[q1J];unfold plc flat;simp only[zF,yg,zi,or_false]
theorem qcF{P:List Int}{g:Int×Int}(h:g∈Ys P):∃(i:Nat) (hi:i+1<P.length),g=(P[i],P[i+1]):=by
 obtain⟨i,hi,rfl⟩:=zg.mp h;have hi':=hi;rw[q0Z]at hi';have e:=qdM (P:=P) (i:=i) ∅;refine⟨i,∅,?_⟩;rw[zD hi]at e;exact zx e
theorem q0T{P:List Int}{g:Int×Int}(h:g∈Ys P):g.1∈P/\g.2∈P:=by
 obtain⟨i,hi,rfl⟩:=qcF h;exact⟨yW _,yW _⟩
theorem qcq{h l:Int}{bs:List (Int×Int)}(hb:Bd h l bs):∀g∈Ys (Pz h l bs),Gap h l bs g:=λg hg=>by
 have S:=stp h l hb;obtain⟨i,hi,rfl⟩:=qcF hg;have am:∀x∈Pz h l bs,x<=(Pz h l bs)[i]\/(Pz h l bs)[i+1]<=x:=λx hx=>Stp.amid (P:=Pz h l bs) S hi hx;exact⟨Stp.lt (P:=Pz h l bs) S ∅ hi ∅,am h ((qT h).mpr (.inl rfl)),am l ((qT l).mpr (.inr (.inl rfl))),λb hb=>⟨am _ ((qT _).mpr (.inr (.inr ⟨b,hb,.inl rfl⟩))),am _ ((qT _).mpr (.inr (.inr ⟨b,hb,.inr rfl⟩)))⟩⟩
theorem qhz{h l:Int}{bs:List (Int×Int)}{e:Int×Int}(he:e∈Kn h l bs):e.1∈Pz h l bs/\e.2∈Pz h l bs:=by
 unfold Kn at he;rcases zN.mp he with he|he
 ·rcases zN.mp he with he|he
  ·exact⟨(qT _).mpr (.inr (.inr ⟨e,he,.inl rfl⟩)),(qT _).mpr (.inr (.inr ⟨e,he,.inr rfl⟩))⟩
  ·cases zS.mp he
   exact⟨(qT _).mpr (.inl rfl),(qT _).mpr (.inr (.inl rfl))⟩
 ·exact q0T (xH.mp he).1
noncomputable def xR(x p q:Int):Int:=if p<x/\x<=q then 1 else 0
noncomputable def chi(x y:Int):Int:=if x<=y then 1 else 0
theorem qcm(x p q:Int):xR x p q-xR x q p=chi x q-chi x p:=by
 unfold xR chi
 by_cases h1:x<=p <;> by_cases h2:x<=q
 ·rw[vG ∅,vG ∅,vC h2,vC h1];rfl
 ·rw[vG ∅,vC ∅,vG h2,vC h1]
 ·rw[vC ∅,vG ∅,vC h2,vG h1]
 ·rw[vG ∅,vG ∅,vG h2,vG h1]
theorem qa9{g:Int×Int}{x p q:Int}(hp:p<=g.1\/g.2<=p)(hq:q<=g.1\/g.2<=q)(h1:g.1<x)(h2:x<=g.2):xR x p q=if over p q g=true then 1 else 0:=by
 unfold xR over
 by_cases z1:p<=g.1 <;> by_cases z2:g.2<=q
 ·rw[vC ∅,vC (by rw[vU z1,vU z2];rfl)]
 ·rw[vG ∅,vG (by rw[vS z2];simp)]
 ·rw[vG ∅,vG (by rw[vS z1];simp)]
 ·rw[vG ∅,vG (by rw[vS z1];simp)]
theorem q7s(F:Int×Int->Bool):∀bs:List (Int×Int),(bs.map λb=>if F b=true then (1:Int)else 0).sum=((bs.filter F).length:Nat)
 | []=>rfl
 | b::bs=>by
  rw[zc,yt,q7s F bs,yM]
  split <;> simp <;> omega
theorem qel{h l:Int}{bs:List (Int×Int)}{g:Int×Int}(G:Gap h l bs g){x:Int}(h1:g.1<x)(h2:x<=g.2):(bs.map λb=>xR x b.1 b.2).sum=rts bs g/\(bs.map λb=>xR x b.2 b.1).sum=lfs bs g:=by
 unfold rts lfs;rw[<- q7s,<- q7s];exact⟨v9 _ (yn λb hb=>qa9 (G.b b hb).1 (G.b b hb).2 h1 h2),v9 _ (yn λb hb=>qa9 (G.b b hb).2 (G.b b hb).1 h1 h2)⟩
theorem q1G(a b:Int)(r:List Int):Ys (a::b::r)=(a,b)::Ys (b::r):=rfl
noncomputable def sts(as:List (Int×Int)):List Int:=as.map (·.1)
noncomputable def gls(as:List (Int×Int)):List Int:=as.map (·.2)
theorem q9a:∀(a b:List Int),PyData.eqvAll (D.pys (a.map D.int)) (D.pys (b.map D.int))=decide (a=b)
 | [],[]=>rfl
 | [],_::_=>rfl
 | _::_,[]=>rfl
 | x::a,y::b=>by
  show (x==y&&PyData.eqvAll (D.pys (a.map D.int)) (D.pys (b.map D.int)))=_;rw[q9a a b]
  by_cases z:x=y
  ·subst z
   simp
  ·have:(x==y)=false:=by simpa using z
   rw[this];simp[z]
theorem q5M(a:List Int):shp (.lst (a.map D.int))=true:=qay 2 (by decide) λd hd=>by
 obtain⟨m,_,rfl⟩:=yB.mp hd;exact⟨rfl,by show 0<=2;decide⟩
theorem qdo(a b:List Int):oEq false (.lst (a.map D.int)) (.lst (b.map D.int))=↥(.bl (decide (a=b))):=by
 unfold oEq;rw[q5M,q5M];show some (R.sh (.bl (PyData.eqvAll (D.pys (a.map D.int)) (D.pys (b.map D.int)))))=_;rw[q9a]
theorem qew{as:List (Int×Int)}(hl:as.length<=9000):qA [.lst (as.map Ym)]=↥(.bl (decide ((sts as).Perm (gls as)))):=by
 unfold qA q05;have hl2:(as.map Ym).length<=1000000:=by rw[zB];omega
 have c1:=q0D (i:=0) (f:=qX) Ym (λp=>D.int p.1) as (ω:=[none]) (λp _=>by
  unfold qX Ym;simp_arith[q03])
 have c2:=q0D (i:=0) (f:=qW) Ym (λp=>D.int p.2) as (ω:=[none]) (λp _=>by
  unfold qW Ym;simp_arith[q03])
 have e1:(as.map λp=>D.int p.1)=(sts as).map D.int:=by unfold sts;rw[yb];rfl
 have e2:(as.map λp=>D.int p.2)=(gls as).map D.int:=by unfold gls;rw[yb];rfl
 rw[e1]at c1;rw[e2]at c2;have s1:=q2w (ns:=sts as) (by unfold sts;rw[zB];omega);have s2:=q2w (ns:=gls as) (by unfold gls;rw[zB];omega);have q:oEq false (.lst ((Yu (sts as)).map D.int)) (.lst ((Yu (gls as)).map D.int))=↥(.bl (decide ((sts as).Perm (gls as)))):=by
  rw[qdo,decide_eq_decide.mpr (qed (l:=sts as) (m:=gls as))]
 simp_arith[zAF hl2,inW,zAv,c1,c2,s1,s2,q]
noncomputable def Y6(as:List (Int×Int))(n:Nat):Int:=(as.getD n (0,0)).1
noncomputable def Y9(as:List (Int×Int))(n:Nat):Int:=(as.getD n (0,0)).2
inductive Wlk (as:List (Int×Int)):Int->List Nat->Int->Prop where
 | nil (a:Int):Wlk as a [] a
 | cons {a b:Int} {n:Nat} {r:List Nat} (h:Y6 as n=a) (t:Wlk as (Y9 as n) r b):Wlk as a (n::r) b
theorem Wlk.app{as:List (Int×Int)}{a b c:Int}{r q:List Nat}(h:Wlk as a r b)(h':Wlk as b q c):Wlk as a (r++q) c:=by
 induction h with
 | nil _=>exact h'
 | cons e _ ih=>exact .cons e (ih h')
theorem Wlk.snoc{as:List (Int×Int)}{a b:Int}{r:List Nat}{n:Nat}(h:Wlk as a r b)(e:Y6 as n=b):Wlk as a (r++[n]) (Y9 as n):=h.app (.cons e (.nil _))
theorem Wlk.last{as:List (Int×Int)}:∀{r:List Nat}{a b:Int}{n:Nat},Wlk as a (r++[n]) b->b=Y9 as n/\Wlk as a r (Y6 as n)
 | [],a,b,n,h=>by
  cases h with
  | cons e t=>cases t;exact⟨rfl,by rw[<- e];exact .nil _⟩
 | m::r,a,b,n,h=>by
  cases h with
  | cons e t=>
   obtain⟨h1,h2⟩:=Wlk.last t;exact⟨h1,.cons e h2⟩
noncomputable def cS(as:List (Int×Int))(U:List Nat)(v:Int):Nat:=U.countP λn=>decide (Y6 as n=v)
noncomputable def cD(as:List (Int×Int))(U:List Nat)(v:Int):Nat:=U.countP λn=>decide (Y9 as n=v)
noncomputable def ind(v h:Int):Int:=if v=h then 1 else 0
def bal(as:List (Int×Int))(U:List Nat)(h x:Int):Prop:=∀v,(cS as U v:Int)-cD as U v=ind v h-ind v x
structure HI (as:List (Int×Int)) (s:Int) (U T B:List Nat) (h:Int):Prop where
 all:(U++(T++B)).Perm (zb as.length)
 inv:∃x T0 T1,T=T0++T1/\Wlk as s T0 x/\Wlk as x T1 h/\Wlk as x B.reverse s/\bal as U h x
 shut:∀n∈B,∀m∈U,Y6 as m≠Y9 as n
theorem qfs{as:List (Int×Int)}{U U':List Nat}{n:Nat}(h:U.Perm (n::U'))(v:Int):cS as U v=cS as U' v+if Y6 as n=v then 1 else 0:=by
 unfold cS;rw[h.countP_eq,wT];simp
theorem qft{as:List (Int×Int)}{U U':List Nat}{n:Nat}(h:U.Perm (n::U'))(v:Int):cD as U v=cD as U' v+if Y9 as n=v then 1 else 0:=by
 unfold cD;rw[h.countP_eq,wT];simp
theorem HI.start{as:List (Int×Int)}{s:Int}{U:List Nat}(hU:U.Perm (zb as.length))(hb:∀v,cS as U v=cD as U v):HI as s U [] [] s :=
 ⟨by simpa using hU,⟨s,[],[],rfl,.nil _,.nil _,.nil _,λv=>by rw[hb v];omega⟩,λn hn=>by cases hn⟩
theorem HI.push{as:List (Int×Int)}{s h:Int}{U U' T B:List Nat}{n:Nat}(I:HI as s U T B h)(hn:U.Perm (n::U'))(hs:Y6 as n=h):HI as s U' (T++[n]) B (Y9 as n):=by
 obtain⟨x,T0,T1,rfl,w0,w1,w2,b⟩:=I.inv;refine⟨?_,⟨x,T0,T1++[n],by rw[zJ],w0,w1.snoc hs,w2,λv=>?_⟩,λk hk m hm=>I.shut k hk m (hn.mem_iff.mpr (zH _ hm))⟩
 ·refine yy ?_ I.all
  have h1:(U++((T0++T1)++B)).Perm ((n::U')++((T0++T1)++B)):=hn.append_right _;refine yy ?_ h1.symm;rw[zJ (T0++T1) [n] B];have h2:(U'++((T0++T1)++([n]++B))).Perm (U'++([n]++((T0++T1)++B))):=yL _ (by
   rw[<- zJ,<- zJ];exact yv _ yh)
  refine h2.trans ?_;show (U'++(n::((T0++T1)++B))).Perm (n::(U'++((T0++T1)++B)));exact ZP
 ·have:=b v
  have e1:=qfs (as:=as) hn v;have e2:=qft (as:=as) hn v;unfold ind at this ⊢;rw[hs]at e1
  by_cases z1:v=h <;> by_cases z2:v=Y9 as n
  ·rw[vC z1.symm]at e1;rw[vC z2.symm]at e2;rw[vC z1]at this;rw[vC z2];omega
  ·rw[vC z1.symm]at e1;rw[vG (λq=>z2 q.symm)]at e2;rw[vC z1]at this;rw[vG z2];omega
  ·rw[vG (λq=>z1 q.symm)]at e1;rw[vC z2.symm]at e2;rw[vG z1]at this;rw[vC z2];omega
  ·rw[vG (λq=>z1 q.symm)]at e1;rw[vG (λq=>z2 q.symm)]at e2;rw[vG z1]at this;rw[vG z2];omega
theorem qai{as:List (Int×Int)}{U:List Nat}{v:Int}(h:∀m∈U,Y6 as m≠v):cS as U v=0:=by
 unfold cS;rw[Zu];intro m hm;simpa using h m hm
theorem stuck{as:List (Int×Int)}{U:List Nat}{h x:Int}(b:bal as U h x)(hs:∀m∈U,Y6 as m≠h):h=x:=by
 have:=b h;rw[qai hs]at this;unfold ind at this;rw[vC rfl]at this
 by_cases z:h=x
 ·exact z
 ·rw[vG z]at this;omega
theorem HI.pop{as:List (Int×Int)}{s h:Int}{U T B:List Nat}{n:Nat}(I:HI as s U (T++[n]) B h)(hs:∀m∈U,Y6 as m≠h):HI as s U T (B++[n]) (Y6 as n):=by
 obtain⟨x,T0,T1,e,w0,w1,w2,b⟩:=I.inv;have hx:=stuck b hs;subst hx;have w:Wlk as s (T++[n]) h:=by rw[e];exact w0.app w1
 obtain⟨e1,e2⟩:=w.last;refine⟨?_,⟨Y6 as n,T,[],by rw[zn],e2,.nil _,?_,λv=>by have:=b v;omega⟩,λk hk m hm=>?_⟩
 ·refine yy (yL _ ?_) I.all
  rw[zJ];exact yL _ yh
 ·rw[xK]
  exact .cons rfl (by rw[<- e1];exact w2)
 ·rcases zN.mp hk with y|y
  ·exact I.shut k y m hm
  ·cases zS.mp y
   rw[<- e1];exact hs m hm
structure Rnd (as:List (Int×Int)) (s:Int) (row U:List Nat):Prop where
 all:(U++row).Perm (zb as.length)
 walk:Wlk as s row s
 s0:∀m∈U,Y6 as m≠s
 shut:∀n∈row,∀m∈U,Y6 as m≠Y9 as n
 even:∀v,cS as U v=cD as U v
theorem HI.done{as:List (Int×Int)}{s h:Int}{U B:List Nat}(I:HI as s U [] B h)(hs:∀m∈U,Y6 as m≠h):Rnd as s B.reverse U:=by
 obtain⟨x,T0,T1,e,w0,w1,w2,b⟩:=I.inv;obtain⟨rfl,rfl⟩:=List.append_eq_nil_iff.mp e.symm;cases w0;cases w1;refine⟨?_,w2,hs,λn hn=>I.shut n (yf.mp hn),λv=>by have:=b v;omega⟩;have:=I.all;rw[yE]at this;exact(yL _ (List.reverse_perm B)).trans this
theorem Wlk.mem{as:List (Int×Int)}{V:Int->Prop}:∀{r:List Nat}{a b:Int},Wlk as a r b->V a->(∀n∈r,V (Y9 as n))->∀n∈r,V (Y6 as n)
 | [],_,_,_,_,_,n,hn=>by cases hn
 | m::r,a,b,h,ha,hv,n,hn=>by
  cases h with
  | cons e t=>
   rcases zF.mp hn with rfl|hn
   ·rw[e];exact ha
   ·exact t.mem (hv m zG) (λk hk=>hv k (zH _ hk)) n hn
theorem Rnd.full{as:List (Int×Int)}{s:Int}{row U:List Nat}(R:Rnd as s row U)(hr:∀a∈as,Rch as s a.1):row.length=as.length:=by
 have hU:U=[]:=by
  cases U with
  | nil=>rfl
  | cons m U'=>
   exfalso
   let V:Int->Prop:=λv=>v=s\/∃n∈row,Y9 as n=v
   have out:∀v,V v->∀k∈m::U',Y6 as k≠v:=λv hv k hk=>by
    rcases hv with rfl|⟨n,hn,rfl⟩
    ·exact R.s0 k hk
    ·exact R.shut n hn k hk
   have inn:∀v,V v->∀k∈m::U',Y9 as k≠v:=λv hv k hk e=>by
    have h1:=qai (as:=as) (out v hv);have h2:=R.even v;rw[h1]at h2;have:cD as (m::U') v=0:=h2.symm;unfold cD at this;rw[Zu]at this;exact this k hk ⇑e
   have row_of:∀(n:Nat),n<as.length->(V (Y6 as n)\/V (Y9 as n))->n∈row:=λn hn hv=>by
    have:n∈(m::U')++row:=R.all.mem_iff.mpr (yK.mpr hn);rcases zN.mp this with y|y
    ·rcases hv with hv|hv
     ·exact vP rfl (out _ hv n y)
     ·exact vP rfl (inn _ hv n y)
    ·exact y
   have sv:∀n∈row,V (Y6 as n):=R.walk.mem (V:=V) (.inl rfl) λn hn=>.inr ⟨n,hn,rfl⟩;have cl:∀c,Rch as s c->V c:=λc h=>h.inv V (.inl rfl) λb c hb e=>by
    rcases e with e|e
    ·obtain⟨n,hn,he⟩:=zg.mp e
     have es:Y6 as n=b/\Y9 as n=c:=by
      unfold Y6 Y9;rw[zT,zD hn,he];exact⟨rfl,rfl⟩
     exact .inr ⟨n,row_of n hn (.inl (by rw[es.1];exact hb)),es.2⟩
    ·obtain⟨n,hn,he⟩:=zg.mp e
     have es:Y6 as n=c/\Y9 as n=b:=by
      unfold Y6 Y9;rw[zT,zD hn,he];exact⟨rfl,rfl⟩
     rw[<- es.1];exact sv n (row_of n hn (.inr (by rw[es.2];exact hb)))
   have hm:m<as.length:=yK.mp (R.all.mem_iff.mp (by simp));have hrm:=hr _ (yW hm);have es:Y6 as m=(as[m]).1:=by unfold Y6;rw[zT,zD hm];rfl
   exact out _ (cl _ (by rw[<- es]at hrm;exact hrm)) m zG rfl
 have:=R.all.length_eq;rw[hU,yE,zo]at this;exact this
noncomputable def cst(l:List Nat):List Int:=l.map λ(n:Nat)=>(n:Int)
structure WT (as:List (Int×Int)) (ks:List Int) (xss:List (List Int)) (U:List Nat):Prop where
 len:ks.length=xss.length
 nd:U.Nodup
 mem:∀(v k:Int),k∈Xg ks xss v↔∃n:Nat,k=n/\n∈U/\Y6 as n=v
 gn:∀v,(Xg ks xss v).Nodup
theorem q4r:∀{ks:List Int}{xss:List (List Int)}(h v:Int),ks.length=xss.length->Xg ks (X1 ks xss h) v=if v=h then (Xg ks xss h).dropLast else Xg ks xss v
 | [],[],h,v,_=>by
  show ([]:List Int)=if v=h then ([]:List Int).dropLast else []
  split <;> rfl
 | [],_::_,_,_,hl=>by simp at hl
 | _::_,[],_,_,hl=>by simp at hl
 | k::ks,x::xss,h,v,hl=>by
  have ih:=q4r (ks:=ks) (xss:=xss) h v ⇑hl;unfold Xg at ih ⊢;show (Yy (k::ks) (if k=h then x.dropLast::xss else x::X1 ks xss h) v).getD []=if v=h then ((if k=h then some x else Yy ks xss h).getD []).dropLast else (if k=v then some x else Yy ks xss v).getD []
  by_cases z:k=h
  ·rw[vC z,vC z]
   show (if k=v then some x.dropLast else Yy ks xss v).getD []=_
   by_cases y:k=v
   ·rw[vC y,vC (by rw[<- y,z])];rfl
   ·rw[vG y,vG (λe=>y (by rw[z,e])),vG y]
  ·rw[vG z,vG z]
   show (if k=v then some x else Yy ks (X1 ks xss h) v).getD []=_
   by_cases y:k=v
   ·rw[vC y,vG (λe=>z (by rw[y,e])),vC y]
   ·rw[vG y,ih,vG y]
theorem q7K:∀(ks:List Int)(xss:List (List Int))(h:Int),(X1 ks xss h).length=xss.length
 | [],_,_=>rfl
 | _::_,[],_=>rfl
 | k::ks,x::xss,h=>by
  show (if k=h then x.dropLast::xss else x::X1 ks xss h).length=_
  split
  ·rfl
  ·rw[zL,q7K,zL]
theorem q9l{l:List Int}{k a:Int}(nd:l.Nodup)(e:l.getLast?=some k):a∈l.dropLast↔a∈l/\a≠k:=by
 have hl:l=l.dropLast++[k]:=by
  have hne:l≠[]:=λz=>by rw[z]at e;cases e
  have:=wp hne;rw[List.getLast?_eq_getLast hne]at e;rw[zx e]at this;exact this.symm
 rw[hl]at nd;have nd':=yY.mp nd
 constructor
 ·intro h
  exact⟨by rw[hl];exact zV _ h,λz=>nd'.2.2 a h k (by simp) z⟩
 ·rintro⟨h1,h2⟩
  rw[hl]at h1;rcases zN.mp h1 with y|y
  ·exact y
  ·exact vP (zS.mp y) h2
theorem WT.pop{as:List (Int×Int)}{ks:List Int}{xss:List (List Int)}{U:List Nat}(W:WT as ks xss U){h:Int}{m:Nat}(e:(Xg ks xss h).getLast?=some (m:Int)):WT as ks (X1 ks xss h) (U.erase m):=by
 have hm:(m:Int)∈Xg ks xss h:=Zr e;obtain⟨n,en,hn,hs⟩:=(W.mem h m).mp hm;have:n=m:=∅
 subst this;refine⟨by rw[q7K];exact W.len,W.nd.erase _,λv k=>?_,λv=>?_⟩
 ·rw[q4r h v W.len]
  by_cases z:v=h
  ·rw[vC z,q9l (W.gn h) e,W.mem h]
   constructor
   ·rintro⟨⟨n',rfl,h1,h2⟩,h3⟩
    exact⟨n',rfl,(W.nd.mem_erase_iff).mpr ⟨λq=>h3 (by rw[q]),h1⟩,by rw[z];exact h2⟩
   ·rintro⟨n',rfl,h1,h2⟩
    obtain⟨a,b⟩:=(W.nd.mem_erase_iff).mp h1;exact⟨⟨n',rfl,b,by rw[<- z];exact h2⟩,λq=>a ∅⟩
  ·rw[vG z,W.mem v]
   constructor
   ·rintro⟨n',rfl,h1,h2⟩
    exact⟨n',rfl,(W.nd.mem_erase_iff).mpr ⟨λq=>z (by rw[<- h2,q,hs]),h1⟩,h2⟩
   ·rintro⟨n',rfl,h1,h2⟩
    exact⟨n',rfl,((W.nd.mem_erase_iff).mp h1).2,h2⟩
 ·rw[q4r h v W.len]
  split
  ·exact(W.gn h).sublist (List.dropLast_sublist _)
  ·exact W.gn v
theorem qao{as:List (Int×Int)}{m:Nat}:(as.getD ((m:Int)).toNat (0,0)).1=Y6 as m/\(as.getD ((m:Int)).toNat (0,0)).2=Y9 as m:=by
 rw[yi];exact⟨rfl,rfl⟩
theorem q9q{as:List (Int×Int)}{s:Int}(hl:as.length<=9000){ks:List Int}:∀(n:Nat)(xss:List (List Int))(U T B:List Nat)(h:Int),HI as s U T B h->WT as ks xss U->2*U.length+T.length<n ->
  ∃row U',Xp as ks n xss (cst T) (cst B) h=some (cst row)/\Rnd as s row U'
 | 0,_,_,_,_,_,_,_,hn=>vP hn (wD _)
 | n+1,xss,U,T,B,h,I,W,hn=>by
  have tot:U.length+(T.length+B.length)=as.length:=by
   have:=I.all.length_eq;rw[zC,zC,zo]at this;exact this
  unfold Xp;cases e:(Xg ks xss h).getLast? with
  | some k=>
   obtain⟨m,rfl,hm,hs⟩:=(W.mem h k).mp (Zr e);have hlt:m<as.length:=yK.mp (I.all.mem_iff.mp (zV _ hm));have pm:=List.perm_cons_erase hm;have I':=I.push pm hs;have ul:U.length=(U.erase m).length+1:=by have:=pm.length_eq;rw[zL]at this;exact this
   obtain⟨row,U',r1,r2⟩:=q9q hl n (X1 ks xss h) (U.erase m) (T++[m]) B _ I' (W.pop e) (by rw[zC,zU];omega);refine⟨row,U',?_,r2⟩;show (if 0<=(m:Int)/\(m:Int)<as.length/\(cst T).length<1000000 then Xp as ks n (X1 ks xss h) (cst T++[(m:Int)]) (cst B) (as.getD ((m:Int)).toNat (0,0)).2 else none)=_;rw[vC ⟨∅,∅,by unfold cst;rw[zB];omega⟩,qao.2];rw[show cst T++[(m:Int)]=cst (T++[m]) by unfold cst;rw[za];rfl];exact r1
  | none=>
   have hem:Xg ks xss h=[]:=xw.mp e;have hs:∀m∈U,Y6 as m≠h:=λm hm z=>by
    have:(m:Int)∈Xg ks xss h:=(W.mem h m).mpr ⟨m,rfl,hm,z⟩;rw[hem]at this;cases this
   rcases List.eq_nil_or_concat T with rfl|⟨T0,m,rfl⟩
   ·refine⟨B.reverse,U,?_,I.done hs⟩
    show some (cst B).reverse=_;unfold cst;rw[YI]
   ·rw[List.concat_eq_append]at I hn tot ⊢
    have hlt:m<as.length:=yK.mp (I.all.mem_iff.mp (zQ _ (zV _ (by simp))));have I':=I.pop hs;rw[zC,zU]at hn tot;obtain⟨row,U',r1,r2⟩:=q9q hl n xss U T0 (B++[m]) _ I' W ∅;refine⟨row,U',?_,r2⟩;have ec:cst (T0++[m])=cst T0++[(m:Int)]:=by unfold cst;rw[za];rfl
    rw[ec];show (match (cst T0++[(m:Int)]).getLast? with
     | some k=>if 0<=k/\k<as.length/\(cst B).length<1000000 then Xp as ks n xss (cst T0++[(m:Int)]).dropLast (cst B++[k]) (as.getD k.toNat (0,0)).1 else none
     | none=>some (cst B).reverse)=_
    rw[List.getLast?_concat];show (if 0<=(m:Int)/\(m:Int)<as.length/\(cst B).length<1000000 then Xp as ks n xss (cst T0++[(m:Int)]).dropLast (cst B++[(m:Int)]) (as.getD ((m:Int)).toNat (0,0)).1 else none)=_;rw[vC ⟨∅,∅,by unfold cst;rw[zB];omega⟩,qao.1,List.dropLast_concat];rw[show cst B++[(m:Int)]=cst (B++[m]) by unfold cst;rw[za];rfl];exact r1
theorem q5T:∀{ks:List Int}{xss:List (List Int)}(a b v:Int),ks.length=xss.length->a∈ks->Xg ks (WR ks xss a b) v=if v=a then Xg ks xss v++[b]else Xg ks xss v
 | [],_,_,_,_,_,h=>by cases h
 | _::_,[],_,_,_,hl,_=>by simp at hl
 | k::ks,x::xss,a,b,v,hl,ha=>by
  unfold Xg;show (Yy (k::ks) (if k=a then (x++[b])::xss else x::WR ks xss a b) v).getD []=if v=a then ((if k=v then some x else Yy ks xss v).getD [])++[b]else (if k=v then some x else Yy ks xss v).getD []
  by_cases z:k=a
  ·rw[vC z]
   show (if k=v then some (x++[b])else Yy ks xss v).getD []=_
   by_cases y:k=v
   ·rw[vC y,vC (by rw[<- y,z]),vC y];rfl
   ·rw[vG y,vG (λe=>y (by rw[z,e])),vG y]
  ·rw[vG z]
   have ha':a∈ks:=(zF.mp ha).resolve_left λe=>z e.symm;have ih:=q5T (ks:=ks) (xss:=xss) a b v ⇑hl ha';unfold Xg at ih;show (if k=v then some x else Yy ks (WR ks xss a b) v).getD []=_
   by_cases y:k=v
   ·rw[vC y,vG (λe=>z (by rw[y,e])),vC y]
   ·rw[vG y,ih,vG y]
theorem q9f:∀{ks:List Int}{xss:List (List Int)}(a v:Int),ks.length=xss.length->Xg (ks++[a]) (xss++[[]]) v=Xg ks xss v
 | [],[],a,v,_=>by
  unfold Xg;show (if a=v then some []else none).getD []=_
  split <;> rfl
 | [],_::_,_,_,hl=>by simp at hl
 | _::_,[],_,_,hl=>by simp at hl
 | k::ks,x::xss,a,v,hl=>by
  have ih:=q9f (ks:=ks) (xss:=xss) a v ⇑hl;unfold Xg at ih ⊢;show (if k=v then some x else Yy (ks++[a]) (xss++[[]]) v).getD []=(if k=v then some x else Yy ks xss v).getD []
  by_cases y:k=v
  ·rw[vC y,vC y]
  ·rw[vG y,vG y,ih]
theorem qes(as:List (Int×Int)):∀n:Nat,n<=as.length->(byS as n).1.length=(byS as n).2.length/\∀v,Xg (byS as n).1 (byS as n).2 v=cst ((zb n).filter λj=>decide (Y6 as j=v))
 | 0,_=>⟨rfl,λv=>rfl⟩
 | n+1,hn=>by
  obtain⟨h1,h2⟩:=qes as n ∅;have hlt:n<as.length:=∅
  have eb:byS as (n+1)=XU (byS as n) n (Y6 as n):=by
   show (match as[n]? with|some a=>XU (byS as n) n a.1|none=>byS as n)=_;rw[zD hlt];unfold Y6;rw[zT,zD hlt];rfl
  have er:∀v,cst ((zb (n+1)).filter λj=>decide (Y6 as j=v))=if v=Y6 as n then cst ((zb n).filter λj=>decide (Y6 as j=v))++[(n:Int)]else cst ((zb n).filter λj=>decide (Y6 as j=v)):=λv=>by
   rw[YQ,w9]
   by_cases z:v=Y6 as n
   ·rw[vC z]
    have:([n].filter λj=>decide (Y6 as j=v))=[n]:=by rw[yM,vC (vU z.symm)];rfl
    rw[this];unfold cst;rw[za];rfl
   ·rw[vG z]
    have:([n].filter λj=>decide (Y6 as j=v))=[]:=by rw[yM,vG ⇑(λe=>z e.symm)];rfl
    rw[this,zn]
  rw[eb];unfold XU
  by_cases ha:Y6 as n∈(byS as n).1
  ·rw[vC ha]
   exact⟨by show (byS as n).1.length=(WR _ _ _ _).length;rw[q5H];exact h1,λv=>by
    show Xg (byS as n).1 (WR (byS as n).1 (byS as n).2 (Y6 as n) n) v=_;rw[q5T _ _ v h1 ha,er v,h2 v]⟩
  ·rw[vG ha]
   have hl':((byS as n).1++[Y6 as n]).length=((byS as n).2++[[]]).length:=by rw[zC,zC,h1];rfl
   exact⟨by show ((byS as n).1++[Y6 as n]).length=(WR _ _ _ _).length;rw[q5H];exact hl',λv=>by
    show Xg ((byS as n).1++[Y6 as n]) (WR ((byS as n).1++[Y6 as n]) ((byS as n).2++[[]]) (Y6 as n) n) v=_;rw[q5T _ _ v hl' (by simp),q9f _ v h1,er v,h2 v]⟩
theorem qgq{l:List Nat}(h:l.Nodup):(cst l).Nodup:=by
 unfold cst YY;rw[wO];exact h.imp λ{a b} z e=>z ∅
theorem qdV(as:List (Int×Int)):WT as (byS as as.length).1 (byS as as.length).2 (zb as.length):=by
 obtain⟨h1,h2⟩:=qes as as.length (zK _);refine⟨h1,wU,λv k=>?_,λv=>by rw[h2 v];exact qgq (wU.filter _)⟩;rw[h2 v];unfold cst;rw[yB]
 constructor
 ·rintro⟨n,hn,rfl⟩
  obtain⟨a,b⟩:=xH.mp hn;exact⟨n,rfl,a,of_decide_eq_true b⟩
 ·rintro⟨n,rfl,a,b⟩
  exact⟨n,xH.mpr ⟨a,vU b⟩,rfl⟩
theorem q9G{α:Type}(d:α):∀bs:List α,(zb bs.length).map (λk=>bs.getD k d)=bs:=λbs=>by
 apply List.ext_getElem
 ·rw[zB,zo]
 ·intro i h1 h2
  rw[xt,List.getElem_range,zT,zD h2];rfl
theorem q65(as:List (Int×Int))(v:Int):cS as (zb as.length) v=(sts as).count v/\cD as (zb as.length) v=(gls as).count v:=by
 have h:∀f:Int×Int->Int,(zb as.length).countP (λn=>decide (f (as.getD n (0,0))=v))=(as.map f).count v:=λf=>by
  have e:=q9G (0,0) as;have:(as.map f)=(zb as.length).map λn=>f (as.getD n (0,0)):=by
   have:=v9 (List.map f) e;rw[yb]at this;exact this.symm
  rw[this,List.count,Zm];rfl
 exact⟨h (·.1),h (·.2)⟩
theorem qds{as:List (Int×Int)}{s:Int}(hl:as.length<=9000)(hp:(sts as).Perm (gls as)):∃row U,Wl s as=some (cst row)/\Rnd as s row U:=by
 have hb:∀v,cS as (zb as.length) v=cD as (zb as.length) v:=λv=>by
  rw[(q65 as v).1,(q65 as v).2,hp.count_eq]
 obtain⟨row,U,r1,r2⟩:=q9q (s:=s) hl 100000 (byS as as.length).2 (zb as.length) [] [] s (HI.start (.refl _) hb) (qdV as) (by rw[zo,yz];omega);exact⟨row,U,by unfold Wl;rw[vC hl];exact r1,r2⟩
theorem qad(v y:Int):(if y=v then (1:Int)else 0)=chi v y-chi (v+1) y:=by
 unfold chi
 by_cases a:v<=y <;> by_cases b:v+1<=y <;> by_cases c:y=v <;> simp[a,b,c] <;> omega
noncomputable def flw(x:Int)(as:List (Int×Int)):Int:=(as.map λa=>chi x a.2-chi x a.1).sum
theorem q21(x:Int)(a b:List (Int×Int)):flw x (a++b)=flw x a+flw x b:=by unfold flw;rw[za,List.sum_append]
theorem q27(x:Int)(a:Int×Int)(b:List (Int×Int)):flw x (a::b)=(chi x a.2-chi x a.1)+flw x b:=by unfold flw;rw[zc,yt]
theorem qaf(v:Int):∀as:List (Int×Int),((as.countP λa=>decide (a.1=v):Nat):Int)-(as.countP λa=>decide (a.2=v):Nat)=flw (v+1) as-flw v as
 | []=>rfl
 | a::as=>by
  have ih:=qaf v as;have i1:=qad v a.1;have i2:=qad v a.2;rw[q27,q27,wT,wT]
  by_cases z1:a.1=v <;> by_cases z2:a.2=v <;> simp only[z1,z2,decide_true,decide_false,if_true,if_false,zv,Int.natCast_add,Int.natCast_one,YK,Nat.add_zero]at i1 i2 ⊢ <;> omega
theorem qaR(xs:List (Int×Int)):(zb xs.length).map (λk=>xs.getD k (0,0))=xs:=by
 apply yu;intro i;rw[zY];rcases zw i xs.length with z|z
 ·rw[xI z,yd,zT,zD z];rfl
 ·rw[zu ⇑z,zu z];rfl
theorem qcM(as:List (Int×Int))(v:Int):cS as (zb as.length) v=(as.countP λa=>decide (a.1=v))/\cD as (zb as.length) v=(as.countP λa=>decide (a.2=v)):=by
 have e:=qaR as
 constructor
 ·conv=>rhs;rw[<- e]
  rw[Zm];rfl
 ·conv=>rhs;rw[<- e]
  rw[Zm];rfl
theorem q9S{as:List (Int×Int)}(h:∀x,flw x as=0)(v:Int):cS as (zb as.length) v=cD as (zb as.length) v:=by
 rw[(qcM as v).1,(qcM as v).2];have:=qaf v as;rw[h,h]at this;omega
theorem q8l(x:Int):∀(r:List Int)(k:Int),(k::r).Pairwise (· < ·)->(∃g∈Ys (k::r),g.1<x/\x<=g.2/\∀c:Int×Int->Int,((Ys (k::r)).map λg=>c g*(chi x g.2-chi x g.1)).sum=c g)\/(∀p∈k::r,∀q∈k::r,chi x p=chi x q)
 | [],k,_=>.inr λp hp q hq=>by rw[zS.mp hp,zS.mp hq]
 | k1::r,k,h=>by
  obtain⟨h1,h2⟩:=zd.mp h;have kk:=h1 k1 zG;have low:∀p∈k1::r,k1<=p:=λp hp=>by
   rcases zF.mp hp with rfl|hp
   ·exact yG _
   ·exact ym ((zd.mp h2).1 p hp)
  by_cases a:x<=k
  ·refine .inr λp hp q hq=>?_
   have:∀p∈k::k1::r,chi x p=1:=λp hp=>by
    unfold chi;rcases zF.mp hp with rfl|hp
    ·rw[vC a]
    ·have:=low p hp;rw[vC ∅]
   rw[this p hp,this q hq]
  ·by_cases b:x<=k1
   ·refine .inl ⟨(k,k1),by rw[q1G];exact zG,by simp only;omega,b,λc=>?_⟩
    have c0:chi x k1-chi x k=1:=by unfold chi;rw[vC b,vG a];rfl
    have z:((Ys (k1::r)).map λg=>c g*(chi x g.2-chi x g.1)).sum=0:=by
     have:∀g∈Ys (k1::r),c g*(chi x g.2-chi x g.1)=0:=λg hg=>by
      obtain⟨m1,m2⟩:=q0T hg;have:=low _ m1;have:=low _ m2;unfold chi;rw[vC ∅,vC ∅,YD,Int.mul_zero]
     rw[yn this];clear this
     induction Ys (k1::r)with
     | nil=>rfl
     | cons g gs ih=>rw[zc,yt,ih];rfl
    rw[q1G,zc,yt,z];simp only[c0];omega
   ·have c0:chi x k1-chi x k=0:=by unfold chi;rw[vG b,vG a];rfl
    rcases q8l x r k1 h2 with⟨g,hg,g1,g2,g3⟩|h3
    ·refine .inl ⟨g,by rw[q1G];exact zH _ hg,g1,g2,λc=>?_⟩
     rw[q1G,zc,yt,g3];simp only[c0];omega
    ·refine .inr λp hp q hq=>?_
     have e:∀p∈k::k1::r,chi x p=chi x k1:=λp hp=>by
      rcases zF.mp hp with rfl|hp
      ·omega
      ·exact h3 p hp k1 zG
     rw[e p hp,e q hq]
noncomputable def repA(c:Int)(g:Int×Int):List (Int×Int):=zj c.toNat (g.1,g.2)++zj (-c).toNat (g.2,g.1)
theorem q7u(c:Int):∀n:Nat,(zj n c).sum=n*c
 | 0=>by simp
 | n+1=>by rw[z8,yt,q7u c n];rw[show ((n+1:Nat):Int)=(n:Int)+1 by omega,Int.add_mul];omega
theorem qdh(x c:Int)(g:Int×Int):flw x (repA c g)=c*(chi x g.2-chi x g.1):=by
 unfold repA;rw[q21];unfold flw;rw[wG,wG,q7u,q7u];rcases Int.le_total 0 c with z|z
 ·rw[show (-c).toNat=0 by omega,Zv z];simp
 ·rw[show c.toNat=0 by omega,Zv (show 0 <= -c by omega)]
  simp only[YK,Int.zero_mul,Int.zero_add];rw[show chi x g.1-chi x g.2=-(chi x g.2-chi x g.1) by omega,Int.neg_mul_neg]
noncomputable def Wd(c:Int×Int->Int)(G:List (Int×Int)):List (Int×Int):=G.flatMap λg=>repA (c g) g
theorem q8t(x:Int)(c:Int×Int->Int):∀G:List (Int×Int),flw x (Wd c G)=(G.map λg=>c g*(chi x g.2-chi x g.1)).sum
 | []=>rfl
 | g::G=>by
  show flw x (repA (c g) g++Wd c G)=_;rw[q21,qdh,q8t x c G,zc,yt]
theorem qda{c:Int×Int->Int}{G:List (Int×Int)}{g:Int×Int}(hg:g∈G)(hc:c g≠0):(g.1,g.2)∈Wd c G\/(g.2,g.1)∈Wd c G:=by
 unfold Wd repA;rcases Int.lt_or_gt_of_ne hc with z|z
 ·refine .inr (yg.mpr ⟨g,hg,zQ _ (wH.mpr ⟨∅,rfl⟩)⟩)
 ·refine .inl (yg.mpr ⟨g,hg,zV _ (wH.mpr ⟨∅,rfl⟩)⟩)
theorem qgk{c:Int×Int->Int}{G:List (Int×Int)}{a:Int×Int}(h:a∈Wd c G):∃g∈G,a=(g.1,g.2)\/a=(g.2,g.1):=by
 obtain⟨g,hg,h⟩:=yg.mp h;rcases zN.mp h with h|h
 ·exact⟨g,hg,.inl (wH.mp h).2⟩
 ·exact⟨g,hg,.inr (wH.mp h).2⟩
noncomputable def twoA(F:List (Int×Int)):List (Int×Int):=F.flatMap λe=>[e,(e.2,e.1)]
theorem q8y(x:Int):∀F:List (Int×Int),flw x (twoA F)=0
 | []=>rfl
 | e::F=>by
  show flw x ([e,(e.2,e.1)]++twoA F)=0;rw[q21,q8y x F,q27,q27];unfold flw;simp only[yP,List.sum_nil];omega
theorem Rch.mono{es fs:List (Int×Int)}{a c:Int}(h:∀e∈es,e∈fs)(r:Rch es a c):Rch fs a c:=by
 induction r with
 | refl=>exact .refl
 | step _ e ih=>exact ih.step (e.elim (λz=>.inl (h _ z)) λz=>.inr (h _ z))
noncomputable def XQ(f:Int->Int)(a b:Int):Int->Int:=λx=>if f x=b then a else f x
def Tells(ts:List Int)(es:List (Int×Int))(f:Int->Int):Prop:=∀x∈ts,∀y∈ts,f x=f y↔Rch es x y
theorem Tells.skip{ts:List Int}{es:List (Int×Int)}{f:Int->Int}(h:Tells ts es f){p q:Int}(hp:p∈ts)(hq:q∈ts)(e:f p=f q):Tells ts (es++[(p,q)]) f:=by
 intro x hx y hy;rw[h x hx y hy];have pq:=(h p hp q hq).mp e;refine⟨λr=>r.mono λe he=>zV _ he,λr=>?_⟩;refine Rch.inv (λz=>Rch es x z) .refl (λb c hb hbc=>?_) r;have key:∀{u v:Int},(u,v)∈es++[(p,q)]->Rch es u v:=λ{u v} m=>by
  rcases zN.mp m with m|m
  ·exact Rch.refl.step (.inl m)
  ·cases zS.mp m;exact pq
 rcases hbc with m|m
 ·exact hb.trans (key m)
 ·exact hb.trans (key m).symm
theorem Tells.join{ts:List Int}{es:List (Int×Int)}{f:Int->Int}(h:Tells ts es f)(inn:∀e∈es,e.1∈ts/\e.2∈ts){p q:Int}(hp:p∈ts)(hq:q∈ts):Tells ts (es++[(p,q)]) (XQ f (f p) (f q)):=by
 intro x hx y hy;have up:∀{u v:Int},Rch es u v->Rch (es++[(p,q)]) u v:=λr=>r.mono λe he=>zV _ he;have pq:Rch (es++[(p,q)]) p q:=Rch.refl.step (.inl (by simp))
 constructor
 ·intro e
  unfold XQ at e
  by_cases h1:f x=f q
  ·rw[vC h1]at e
   by_cases h2:f y=f q
   ·exact up ((h x hx y hy).mp (by rw[h1,h2]))
   ·rw[vG h2]at e
    exact((up ((h x hx q hq).mp h1)).trans pq.symm).trans (up ((h p hp y hy).mp e))
  ·rw[vG h1]at e
   by_cases h2:f y=f q
   ·rw[vC h2]at e
    exact((up ((h x hx p hp).mp e)).trans pq).trans (up ((h q hq y hy).mp h2.symm))
   ·rw[vG h2]at e
    exact up ((h x hx y hy).mp e)
 ·intro r
  have key:∀{u v:Int},(u,v)∈es++[(p,q)]->u∈ts/\v∈ts/\XQ f (f p) (f q) u=XQ f (f p) (f q) v:=λ{u v} m=>by
   rcases zN.mp m with m|m
   ·obtain⟨a,b⟩:=inn _ m
    have e:=(h u a v b).mpr (Rch.refl.step (.inl m));exact⟨a,b,by unfold XQ;rw[e]⟩
   ·cases zS.mp m
    refine⟨hp,hq,?_⟩;unfold XQ;rw[vC rfl]
    by_cases z:f p=f q
    ·rw[vC z]
    ·rw[vG z]
  exact(Rch.inv (λz=>z∈ts/\XQ f (f p) (f q) x=XQ f (f p) (f q) z) ⟨hx,rfl⟩ (λb c hb hbc=>by
   rcases hbc with m|m
   ·obtain⟨a1,a2,a3⟩:=key m;exact⟨a2,hb.2.trans a3⟩
   ·obtain⟨a1,a2,a3⟩:=key m;exact⟨a1,hb.2.trans a3.symm⟩) r).2
noncomputable def lst1(f:Int->Int)(ts:List Int)(a:Int):Bool:=ts.all λc=>f c != f a || decide (a<=c)
noncomputable def many(f:Int->Int)(ts:List Int):Nat:=(ts.filter (lst1 f ts)).length
theorem q3H{f:Int->Int}{ts:List Int}{a:Int}:lst1 f ts a=true↔∀c∈ts,f c=f a->a<=c:=by
 unfold lst1;rw[xL]
 constructor
 ·intro h c hc e
  have:=h c hc;simp[e]at this;exact this
 ·intro h c hc
  by_cases e:f c=f a
  ·simp[h c hc e]
  ·simp[e]
theorem qdJ{l:List Int}(h:l.Pairwise (· < ·)):l.Nodup:=h.imp λa b=>∅
theorem qbu{ts:List Int}(P:Int->Prop)[DecidablePred P]{p:Int}(hp:p∈ts)(h:P p):∃a∈ts,P a/\∀c∈ts,P c->a<=c:=by
 induction ts with
 | nil=>cases hp
 | cons t r ih=>
  by_cases z:∃x∈r,P x
  ·obtain⟨x,hx,px⟩:=z
   have ih':∃a∈r,P a/\∀c∈r,P c->a<=c:=by
    clear ih hp
    induction r generalizing x with
    | nil=>cases hx
    | cons u r ih2=>
     by_cases y:∃w∈r,P w
     ·obtain⟨w,hw,pw⟩:=y
      obtain⟨a,a1,a2,a3⟩:=ih2 w hw pw
      by_cases pu:P u
      ·by_cases l:u<=a
       ·exact⟨u,zG,pu,λc hc pc=>(zF.mp hc).elim (λe=>by rw[e];exact yG _) λhc=>yT l (a3 c hc pc)⟩
       ·exact⟨a,zH _ a1,a2,λc hc pc=>(zF.mp hc).elim (λe=>by rw[e];omega) λhc=>a3 c hc pc⟩
      ·exact⟨a,zH _ a1,a2,λc hc pc=>(zF.mp hc).elim (λe=>vP (e▸pc) pu) λhc=>a3 c hc pc⟩
     ·have pu:P u:=(zF.mp hx).elim (λe=>e▸px) λhx=>vP ⟨x,hx,px⟩ y
      exact⟨u,zG,pu,λc hc pc=>(zF.mp hc).elim (λe=>by rw[e];exact yG _) λhc=>vP ⟨c,hc,pc⟩ y⟩
   obtain⟨a,a1,a2,a3⟩:=ih'
   by_cases pt:P t
   ·by_cases l:t<=a
    ·exact⟨t,zG,pt,λc hc pc=>(zF.mp hc).elim (λe=>by rw[e];exact yG _) λhc=>yT l (a3 c hc pc)⟩
    ·exact⟨a,zH _ a1,a2,λc hc pc=>(zF.mp hc).elim (λe=>by rw[e];omega) λhc=>a3 c hc pc⟩
   ·exact⟨a,zH _ a1,a2,λc hc pc=>(zF.mp hc).elim (λe=>vP (e▸pc) pt) λhc=>a3 c hc pc⟩
  ·have pt:P t:=(zF.mp hp).elim (λe=>e▸h) λhx=>vP ⟨p,hx,h⟩ z
   exact⟨t,zG,pt,λc hc pc=>(zF.mp hc).elim (λe=>by rw[e];exact yG _) λhc=>vP ⟨c,hc,pc⟩ z⟩
theorem q9T{l:List Int}(hn:l.Nodup){P Q:Int->Bool}{m:Int}(hm:m∈l)(pm:P m=true)(h:∀c∈l,Q c=(P c&&c != m)):(l.filter Q).length+1=(l.filter P).length:=by
 induction l with
 | nil=>cases hm
 | cons a r ih=>
  obtain⟨n1,n2⟩:=yN.mp hn;rw[yM,yM,h a zG]
  by_cases e:a=m
  ·subst e
   have:r.filter Q=r.filter P:=List.filter_congr λc hc=>by
    rw[h c (zH _ hc)];have:(c != a)=true:=by simp;intro z;exact n1 (z▸hc)
    rw[this,xo]
   simp[pm,this]
  ·have hm':m∈r:=(zF.mp hm).elim (λz=>vP z.symm e) id
   have ih':=ih n2 hm' λc hc=>h c (zH _ hc);have e':(a != m)=true:=by simpa using e
   rw[e',xo];cases P a with
   | true=>simp;omega
   | false=>simpa using ih'
theorem qcy{ts:List Int}{f:Int->Int}(hn:ts.Nodup){p q:Int}(hp:p∈ts)(hq:q∈ts)(ne:f p≠f q):many (XQ f (f p) (f q)) ts+1=many f ts:=by
 obtain⟨a,a1,a2,a3⟩:=qbu (λc=>f c=f p) hp rfl;obtain⟨b,b1,b2,b3⟩:=qbu (λc=>f c=f q) hq rfl;have ab:a≠b:=λz=>ne (by rw[<- a2,<- b2,z]);have hmax:max a b=a\/max a b=b:=∅
 have la:lst1 f ts a=true:=q3H.mpr λc hc e=>a3 c hc (by rw[e,a2]);have lb:lst1 f ts b=true:=q3H.mpr λc hc e=>b3 c hc (by rw[e,b2]);refine q9T hn (m:=max a b) (hmax.elim (λz=>by rw[z];exact a1) λz=>by rw[z];exact b1) (hmax.elim (λz=>by rw[z];exact la) λz=>by rw[z];exact lb) λc hc=>?_;rw[Bool.eq_iff_iff,z9,q3H,q3H,bne_iff_ne];have jf:∀x,XQ f (f p) (f q) x=if f x=f q then f p else f x:=λ_=>rfl
 constructor
 ·intro h
  refine⟨λd hd e=>h d hd (by rw[jf,jf,e]),λz=>?_⟩;rcases hmax with y|y
  ·have:=h b b1 (by rw[jf,jf,vC b2,z,y,a2,vG ne])
   omega
  ·have:=h a a1 (by rw[jf,jf,a2,vG ne,z,y,vC b2])
   omega
 ·rintro⟨h1,h2⟩ d hd e
  rw[jf,jf]at e
  by_cases y1:f d=f q
  ·rw[vC y1]at e
   by_cases y2:f c=f q
   ·exact h1 d hd (by rw[y1,y2])
   ·rw[vG y2]at e
    have c1:=h1 a a1 (by rw[a2,e]);have c2:=a3 c hc e.symm;have c3:=b3 d hd y1;omega
  ·rw[vG y1]at e
   by_cases y2:f c=f q
   ·rw[vC y2]at e
    have c1:=h1 b b1 (by rw[b2,y2]);have c2:=b3 c hc y2;have c3:=a3 d hd e;omega
   ·rw[vG y2]at e
    exact h1 d hd e
noncomputable abbrev Eg:=Int×Int×Int
noncomputable def Ws(e:Eg):Int×Int:=(e.1,e.2.1)
noncomputable def Xv(e:Eg):Int:=e.2.2
noncomputable def zAx(s:(Int->Int)×List Eg)(e:Eg):(Int->Int)×List Eg:=if s.1 e.1=s.1 e.2.1 then s else (XQ s.1 (s.1 e.1) (s.1 e.2.1),s.2++[e])
noncomputable def Xb(f:Int->Int)(es:List Eg):(Int->Int)×List Eg:=es.foldl zAx (f,[])
theorem q2u(f:Int->Int)(es:List Eg)(e:Eg):Xb f (es++[e])=zAx (Xb f es) e:=by unfold Xb;rw[ZK];rfl
theorem q1O{α:Type}{P:List α->Prop}(h0:P [])(hs:∀l a,P l->P (l++[a]))(l:List α):P l:=by
 have:∀l:List α,P l.reverse:=λl=>by
  induction l with
  | nil=>exact h0
  | cons a r ih=>rw[ZI];exact hs _ _ ih
 have:=this l.reverse
 rwa [xD]at this
theorem qba{ts:List Int}{kn:List (Int×Int)}{f:Int->Int}(hn:ts.Nodup)(h:Tells ts kn f)(inn:∀e∈kn,e.1∈ts/\e.2∈ts)(es:List Eg):(∀e∈es,e.1∈ts/\e.2.1∈ts)->Tells ts (kn++es.map Ws) (Xb f es).1/\many (Xb f es).1 ts+(Xb f es).2.length=many f ts:=by
 refine q1O (P:=λes=>(∀e∈es,e.1∈ts/\e.2.1∈ts)->Tells ts (kn++es.map Ws) (Xb f es).1/\many (Xb f es).1 ts+(Xb f es).2.length=many f ts) (λ_=>⟨by rw[yP,zn];exact h,rfl⟩) (λl e ih he=>?_) es;obtain⟨h1,h2⟩:=ih λx hx=>he x (zV _ hx);obtain⟨p1,p2⟩:=he e (by simp);have inn':∀x∈kn++l.map Ws,x.1∈ts/\x.2∈ts:=λx hx=>by
  rcases zN.mp hx with m|m
  ·exact inn x m
  ·obtain⟨y,hy,rfl⟩:=yB.mp m
   exact he y (zV _ hy)
 rw[q2u,za,<- zJ];unfold zAx
 by_cases z:(Xb f l).1 e.1=(Xb f l).1 e.2.1
 ·rw[vC z]
  exact⟨h1.skip p1 p2 z,h2⟩
 ·rw[vG z]
  refine⟨h1.join inn' p1 p2,?_⟩;have:=qcy hn p1 p2 z;show many (XQ _ _ _) ts+((Xb f l).2++[e]).length=_;rw[zC,zU];omega
theorem q61(f:Int->Int)(es:List Eg):(Xb f es).2.Sublist es:=by
 refine q1O (P:=λes=>(Xb f es).2.Sublist es) (YE _) (λl e ih=>?_) es;rw[q2u];unfold zAx
 split
 ·exact ih.trans (List.sublist_append_left _ _)
 ·exact ih.append (YE _)
theorem Cls.low{ts:List Int}{es:List (Int×Int)}{g:List Int}{a:Int}(c:Cls ts es g a):∀x∈g,a<=x:=λx hx=>by
 have h:=c.hd;have u:=c.up;cases g with
 | nil=>cases hx
 | cons b r=>
  cases h;rcases zF.mp hx with rfl|hx
  ·exact yG _
  ·exact ym ((zd.mp u).1 x hx)
theorem GS.apart{ts:List Int}{es:List (Int×Int)}{gs:List (List Int)}{hs:List Int}(h:GS ts es gs hs){i j:Nat}{g g':List Int}{c:Int}(e1:gs[i]?=some g)(e2:gs[j]?=some g')(h1:c∈g)(h2:c∈g'):i=j:=by
 have li:=(zh.mp e1).1;have lj:=(zh.mp e2).1;rw[h.len]at li lj;have c1:=h.cls i g _ e1 (zD li);have c2:=h.cls j g' _ e2 (zD lj);have r1:=(c1.mem c).mp h1;have r2:=(c2.mem c).mp h2;have a1:=c1.low _ ((c1.mem _).mpr (r1.trans r2.symm));have a2:=c2.low _ ((c2.mem _).mpr (r2.trans r1.symm));rcases Nat.lt_trichotomy i j with z|z|z
 ·have:=yQ.mp h.up i j li lj z;omega
 ·exact z
 ·have:=yQ.mp h.up j i lj li z;omega
theorem qaB:∀{gs:List (List Int)},(∀g∈gs,g.Nodup)->(∀(i j:Nat)g g' c,gs[i]?=some g->gs[j]?=some g'->c∈g->c∈g'->i=j)->gs.flatten.Nodup
 | [],_,_=>xO
 | g::gs,h1,h2=>by
  rw[yF,yY];refine⟨h1 g zG,qaB (λg hg=>h1 g (zH _ hg)) (λi j a b c e1 e2 m1 m2=>?_),λx hx y hy e=>?_⟩
  ·have:=h2 (i+1) (j+1) a b c e1 e2 m1 m2;omega
  ·subst e
   obtain⟨g',hg',hx'⟩:=wV.mp hy;obtain⟨j,hj,rfl⟩:=zg.mp hg';have:=h2 0 (j+1) g _ x rfl (zD hj) hx hx';omega
theorem GS.flat{ts:List Int}{es:List (Int×Int)}{gs:List (List Int)}{hs:List Int}(ok:Ok ts es)(h:GS ts es gs hs)(all:∀t∈ts,∃g∈gs,t∈g):gs.flatten.Perm ts:=by
 have nd:gs.flatten.Nodup:=qaB (λg hg=>by
  obtain⟨a,_,c⟩:=h.one hg;exact c.up.imp λ{a b} h e=>∅) λi j g g' c e1 e2 m1 m2=>h.apart e1 e2 m1 m2
 refine(w8 nd ok.nd).mpr λx=>⟨λhx=>?_,λhx=>?_⟩
 ·obtain⟨g,hg,hx⟩:=wV.mp hx
  obtain⟨a,_,c⟩:=h.one hg;exact((c.mem x).mp hx).mem ok c.inn
 ·obtain⟨g,hg,hx⟩:=all x hx
  exact wV.mpr ⟨g,hg,hx⟩
noncomputable def nmP:Nat->List (List Int)->List (Nat×List Int)
 | _,[]=>[]
 | k,g::gs=>(k,g)::nmP (k+1) gs
noncomputable def kkP(ps:List (Nat×List Int)):List Int:=ps.flatMap (·.2)
noncomputable def vvP(ps:List (Nat×List Int)):List D:=ps.flatMap λp=>p.2.map λ_=>D.int (p.1:Int)
theorem q5h:∀(k:Nat)(gs:List (List Int)),kkP (nmP k gs)=gs.flatten
 | _,[]=>rfl
 | k,g::gs=>by show g++kkP (nmP (k+1) gs)=_;rw[q5h];rfl
theorem qcb:∀ps:List (Nat×List Int),(kkP ps).length=(vvP ps).length
 | []=>rfl
 | p::ps=>by show (p.2++kkP ps).length=((p.2.map λ_=>D.int (p.1:Int))++vvP ps).length;rw[zC,zC,zB,qcb ps]
theorem qau{α:Type}(v:α):∀(g:List Int){x:Int},x∈g->Yy g (g.map λ_=>v) x=some v
 | [],_,h=>by cases h
 | y::g,x,h=>by
  show (if y=x then some v else Yy g (g.map λ_=>v) x)=some v
  by_cases z:y=x
  ·rw[vC z]
  ·rw[vG z]
   rcases zF.mp h with rfl|h
   ·exact vP rfl z
   ·exact qau v g h
theorem q91{α:Type}:∀{a:List Int}{c:List α}{b:List Int}{d:List α}{x:Int},a.length=c.length->x∈a->Yy (a++b) (c++d) x=Yy a c x
 | [],_,_,_,_,_,h=>by cases h
 | _::_,[],_,_,_,h,_=>by simp at h
 | y::a,v::c,b,d,x,hl,h=>by
  show (if y=x then some v else Yy (a++b) (c++d) x)=if y=x then some v else Yy a c x
  by_cases z:y=x
  ·rw[vC z,vC z]
  ·rw[vG z,vG z]
   rcases zF.mp h with rfl|h
   ·exact vP rfl z
   ·exact q91 ⇑hl h
theorem q7J{α:Type}:∀{a:List Int}{c:List α}{b:List Int}{d:List α}{x:Int},a.length=c.length->x∉a->Yy (a++b) (c++d) x=Yy b d x
 | [],[],_,_,_,_,_=>rfl
 | [],_::_,_,_,_,h,_=>by simp at h
 | _::_,[],_,_,_,h,_=>by simp at h
 | y::a,v::c,b,d,x,hl,h=>by
  show (if y=x then some v else Yy (a++b) (c++d) x)=_;rw[vG (λz=>h (by rw[z];exact zG))];exact q7J ⇑hl λz=>h (zH _ z)
theorem q8w:∀{gs:List (List Int)}{k:Nat},gs.flatten.Nodup->∀{j:Nat}{g:List Int}{x:Int},gs[j]?=some g->x∈g->Yy (kkP (nmP k gs)) (vvP (nmP k gs)) x=some (.int ((k+j:Nat):Int))
 | [],k,_,j,g,x,h,_=>by cases h
 | g'::gs,k,hn,j,g,x,h,hx=>by
  rw[yF,yY]at hn;show Yy (g'++kkP (nmP (k+1) gs)) ((g'.map λ_=>D.int (k:Int))++vvP (nmP (k+1) gs)) x=_;cases j with
  | zero=>cases h;rw[q91 (by rw[zB]) hx,qau _ _ hx];rfl
  | succ j=>
   have hg:gs[j]?=some g:=h;have hf:x∈gs.flatten:=wV.mpr ⟨g,z0 hg,hx⟩;rw[q7J (by rw[zB]) (λz=>hn.2.2 x z x hf rfl),q8w hn.2.1 hg hx,show k+1+j=k+(j+1) by omega]
theorem qal{α:Type}{ks:List Int}{xs:List α}{k:Int}(y:α)(h:k∉ks):X8 ks k=ks++[k]/\putA ks xs k y=xs++[y]:=by
 unfold X8 putA;rw[vG h,vG h];exact⟨rfl,rfl⟩
noncomputable def nmD(p:Nat×List Int):D:=.tup [.int (p.1:Int),gD p.2]
theorem q9Z:∀(k:Nat)(gs:List (List Int)),Wf k (gs.map gD)=(nmP k gs).map nmD
 | _,[]=>rfl
 | k,g::gs=>by show D.tup [.int (k:Int),gD g]::Wf (k+1) (gs.map gD)=_;rw[q9Z];rfl
theorem qc4(a b:List (Nat×List Int)):kkP (a++b)=kkP a++kkP b:=by unfold kkP;rw[xy]
theorem qgD(a b:List (Nat×List Int)):vvP (a++b)=vvP a++vvP b:=by unfold vvP;rw[xy]
theorem qaO{gs:List (List Int)}(nd:gs.flatten.Nodup)(fl:gs.flatten.length<64):qJ [.lst (gs.map gD)]=↥(.dic (kkP (nmP 0 gs)) (vvP (nmP 0 gs))):=by
 unfold qJ q1g;simp_arith[q9Z];have nd':(kkP (nmP 0 gs)).Nodup:=by rw[q5h];exact nd
 have fl':(kkP (nmP 0 gs)).length<64:=by rw[q5h];exact fl
 generalize nmP 0 gs=ps at nd' fl';obtain⟨ω',e,x2,x3,x4,rfl⟩:=qS (g:=gT 2 (Y7 (gN 2) (Y7 (gN 3) WM))) (b:=q0O) nmD ps
  (λpre ω=>∃x2 x3 x4,ω=[↥(.lst (gs.map gD)),some (.od (kkP pre) (vvP pre)),x2,x3,x4])
  (λpre p post ω hd ⟨x2,x3,x4,hω⟩=>by
   subst hω;refine⟨_,rfl,?_⟩;unfold q0O;obtain⟨k,g⟩:=p;rw[hd,qc4]at nd' fl';show zA8 (W9 _ _ _ [↥(.lst (gs.map gD)),some (.od (kkP pre) (vvP pre)),↥(.int (k:Int)),↥(.lst (g.map D.int)),x4]) _;simp_arith[q03];obtain⟨ω',e,y4,rfl⟩:=qS (g:=gN 4) (b:=q0R) D.int g
    (λpre' ω=>∃y4,ω=[↥(.lst (gs.map gD)),some (.od (kkP pre++pre') (vvP pre++pre'.map λ_=>D.int (k:Int))),↥(.int (k:Int)),↥(.lst (g.map D.int)),y4])
    (λpre' c post' ω hd' ⟨y4,hω⟩=>by
     subst hω;refine⟨_,rfl,?_⟩;have nd2:(kkP pre++(pre'++c::post')).Nodup:=by
      have:(kkP pre++(g++kkP post)).Nodup:=nd';rw[hd',<- zJ]at this;exact(yY.mp this).1
     have hnew:c∉kkP pre++pre':=λm=>by
      rw[<- zJ]at nd2;exact(yY.mp nd2).2.2 c m c zG rfl
     have hlen:(kkP pre++pre').length<1000000:=by
      have:(kkP pre++(g++kkP post)).length<64:=fl';rw[hd']at this;simp only[zC,zL]at this ⊢;omega
     obtain⟨p1,p2⟩:=qal (xs:=vvP pre++pre'.map λ_=>D.int (k:Int)) (D.int (k:Int)) hnew;unfold q0R;simp_arith[q2U hlen,p1,p2,zJ];exact⟨_,by rw[za];rfl⟩)
    (ω:=[↥(.lst (gs.map gD)),some (.od (kkP pre) (vvP pre)),↥(.int (k:Int)),↥(.lst (g.map D.int)),x4]) ⟨x4,by rw[zn,yP,zn]⟩
   simp_arith[e];have ek:kkP (pre++[(k,g)])=kkP pre++g:=by
    rw[qc4];show kkP pre++(g++[])=_;rw[zn]
   have ev:vvP (pre++[(k,g)])=vvP pre++g.map λ_=>D.int (k:Int):=by
    rw[qgD];show vvP pre++((g.map λ_=>D.int (k:Int))++[])=_;rw[zn]
   rw[ek,ev];exact⟨_,_,_,rfl⟩)
  (ω:=[↥(.lst (gs.map gD)),some (.od [] []),none,none,none]) ⟨none,none,none,rfl⟩
 simp_arith[e]
noncomputable def egD(e:Eg):D:=.tup [.int e.1,.int e.2.1,.int e.2.2]
theorem q8K(e:Eg):q1K [egD e]=↥(.int (Xv e)):=rfl
theorem qcc(e:Eg):zBT q1K (egD e)=Xv e:=by unfold zBT;rw[q8K]
theorem qb6(e:Eg):keyOk q1K (egD e)=true:=by unfold keyOk;rw[q8K]
theorem qbC(es:List Eg):Yz (zBT q1K) (es.map egD)=(Yz Xv es).map egD:=by
 rw[q1I,q2y λx _=>qcc x]
noncomputable def W6(f:Int->Int)(ks:List Int):List D:=ks.map λk=>.int (f k)
theorem q3S{f:Int->Int}:∀{ks:List Int}{x:Int},x∈ks->Yy ks (W6 f ks) x=some (.int (f x))
 | [],_,h=>by cases h
 | k::ks,x,h=>by
  by_cases e:k=x
  ·subst e
   show (if k=k then some (D.int (f k))else Yy ks (W6 f ks) k)=_;rw[vC rfl]
  ·show (if k=x then some (D.int (f k))else Yy ks (W6 f ks) x)=_
   rw[vG e];exact q3S ((zF.mp h).elim (λz=>vP z.symm e) id)
theorem qgW{f:Int->Int}{ks:List Int}{a b:Int}(hn:ks.Nodup)(hl:ks.length<1000):qM [.dic ks (W6 f ks),.int a,.int b]=↥(.dic ks (W6 (XQ f a b) ks)):=by
 unfold qM q0F;obtain⟨ω',e,x4,rfl⟩:=qS (g:=gN 4) (b:=q0u) D.int ks
  (λpre ω=>∃x4:Option W,ω=[↥(.dic ks (W6 f ks)),↥(.int a),↥(.int b),some (.od pre (W6 (XQ f a b) pre)),x4])
  (λpre k post ω hd ⟨x4,hω⟩=>by
   subst hω;refine⟨_,rfl,?_⟩;have hk:k∈ks:=by rw[hd];simp
   have hnk:k∉pre:=λz=>by
    rw[hd]at hn;exact(yY.mp hn).2.2 k z k (by simp) rfl
   have hp:pre.length<ks.length:=by rw[hd,zC,zL];omega
   have hv:=q3S (f:=f) hk;have hds:pre.length<1000000:=∅
   obtain⟨p1,p2⟩:=qal (xs:=W6 (XQ f a b) pre) (D.int (XQ f a b k)) hnk;have ev:W6 (XQ f a b) (pre++[k])=W6 (XQ f a b) pre++[.int (XQ f a b k)]:=by unfold W6;rw[za];rfl
   unfold q0u
   by_cases z:f k=b
   ·have z':(f k==b)=true:=by simpa using z
    have jk:XQ f a b k=a:=vC z;rw[jk]at p2 ev;simp_arith[hv,z',q2U hds,p1,p2];exact⟨_,by rw[ev]⟩
   ·have z':(f k==b)=false:=by simpa using z
    have jk:XQ f a b k=f k:=vG z;rw[jk]at p2 ev;simp_arith[hv,z',q2U hds,p1,p2];exact⟨_,by rw[ev]⟩)
  (ω:=[↥(.dic ks (W6 f ks)),↥(.int a),↥(.int b),some (.od [] []),none]) ⟨none,rfl⟩
 simp_arith[e]
noncomputable def zAh(ks:List Int)(vs:List D)(x:Int):Int:=match Yy ks vs x with
 | some (.int i)=>i
 | _=>0
theorem qaH:∀{ks:List Int}{vs:List D},ks.Nodup->ks.length=vs.length->(∀v∈vs,∃i:Int,v=.int i)->vs=W6 (zAh ks vs) ks
 | [],[],_,_,_=>rfl
 | [],_::_,_,h,_=>by simp at h
 | _::_,[],_,h,_=>by simp at h
 | k::ks,v::vs,hn,hl,hv=>by
  obtain⟨n1,n2⟩:=yN.mp hn;obtain⟨i,rfl⟩:=hv v zG;have ih:=qaH n2 ⇑hl λu hu=>hv u (zH _ hu);have e1:zAh (k::ks) (.int i::vs) k=i:=by
   unfold zAh;show (match (if k=k then some (D.int i)else Yy ks vs k)with|some (.int i)=>i|_=>0)=i;rw[vC rfl]
  have e2:∀x∈ks,zAh (k::ks) (.int i::vs) x=zAh ks vs x:=λx hx=>by
   unfold zAh;have:Yy (k::ks) (D.int i::vs) x=Yy ks vs x:=vG (λz:k=x=>by subst z;exact n1 hx);rw[this]
  show D.int i::vs=D.int (zAh (k::ks) (.int i::vs) k)::ks.map _;rw[e1]
  congr 1
  have:ks.map (λk'=>D.int (zAh (k::ks) (.int i::vs) k'))=W6 (zAh ks vs) ks:=by
   unfold W6;exact yn λx hx=>by rw[e2 x hx]
  rw[this];exact ih
theorem qf1:∀(ps:List (Nat×List Int)),∀v∈vvP ps,∃i:Int,v=.int i:=λps v hv=>by
 unfold vvP at hv;obtain⟨p,_,h⟩:=yg.mp hv;obtain⟨_,_,rfl⟩:=yB.mp h;exact⟨_,rfl⟩
theorem qe8{ts:List Int}{kn:List (Int×Int)}(ok:Ok ts kn):∃(gs:List (List Int)) (ks:List Int) (f:Int->Int),q1v [.lst (ts.map D.int),.lst (kn.map Ym)]=some (.fr (gs.map gD))/\qJ [.lst (gs.map gD)]=↥(.dic ks (W6 f ks))/\ks.Nodup/\(∀x,x∈ks↔x∈ts)/\ks.length<64/\Tells ts kn f:=by
 obtain⟨gs,hs,g1,g2,g3,g4⟩:=qbA ok;have pf:=g2.flat ok g3;have nd:gs.flatten.Nodup:=pf.nodup_iff.mpr ok.nd;have fl:gs.flatten.length<64:=by rw[pf.length_eq];exact ok.l1
 have nm:=qaO nd fl;have kk:=q5h 0 gs;have lv:=qaH (ks:=kkP (nmP 0 gs)) (vs:=vvP (nmP 0 gs)) (by rw[kk];exact nd) (qcb _) (qf1 _);refine⟨gs,kkP (nmP 0 gs),zAh (kkP (nmP 0 gs)) (vvP (nmP 0 gs)),g1,by rw[<- lv];exact nm,by rw[kk];exact nd,λx=>by rw[kk];exact pf.mem_iff,by rw[kk];exact fl,λx hx y hy=>?_⟩;obtain⟨gx,mx,hxg⟩:=g3 x hx;obtain⟨gy,my,hyg⟩:=g3 y hy;obtain⟨i,hi⟩:=y9.mp mx;obtain⟨j,hj⟩:=y9.mp my;have vx:=q8w (k:=0) nd hi hxg;have vy:=q8w (k:=0) nd hj hyg;have fx:zAh (kkP (nmP 0 gs)) (vvP (nmP 0 gs)) x=((0+i:Nat):Int):=by unfold zAh;rw[vx]
 have fy:zAh (kkP (nmP 0 gs)) (vvP (nmP 0 gs)) y=((0+j:Nat):Int):=by unfold zAh;rw[vy]
 rw[fx,fy];obtain⟨a,_,cx⟩:=g2.one mx;obtain⟨b,_,cy⟩:=g2.one my
 constructor
 ·intro e
  have:i=j:=∅
  subst this;rw[hi]at hj;cases hj;exact((cx.mem x).mp hxg).symm.trans ((cx.mem y).mp hyg)
 ·intro r
  have:y∈gx:=(cx.mem y).mpr (((cx.mem x).mp hxg).trans r);have:=g2.apart hi hj this hyg;rw[this]
theorem qcx{ts:List Int}{kn:List (Int×Int)}{es:List Eg}(ok:Ok ts kn)(he:∀e∈es,e.1∈ts/\e.2.1∈ts)(hl:es.length<64):∃f:Int->Int,Tells ts kn f/\q0L [.lst (ts.map D.int),.lst (kn.map Ym),.lst (es.map egD)]=some (.fr ((Xb f (Yz Xv es)).2.map egD)):=by
 obtain⟨gs,ks,f,g1,g2,nd,mem,lk,tl⟩:=qe8 ok;refine⟨f,tl,?_⟩;unfold q0L q5E;have sk:=qhs (m:=q1K) (ds:=es.map egD) (by rw[zB];exact hl) (λd hd=>by obtain⟨e,_,rfl⟩:=yB.mp hd;exact qb6 e);rw[qbC]at sk;have pm:=q0g (f:=Xv) (l:=es);have hS:∀e∈Yz Xv es,e.1∈ts/\e.2.1∈ts:=λe h=>he e (pm.mem_iff.mp h);have lS:(Yz Xv es).length=es.length:=pm.length_eq;generalize Yz Xv es=S at sk hS lS;simp_arith[g1,g2,sk];obtain⟨ω',e,x5,x6,x7,rfl⟩:=qS (g:=gN 5) (b:=q4P) egD S
  (λpre ω=>∃(x5 x6 x7:Option W),ω=[↥(.lst (ts.map D.int)),↥(.lst (kn.map Ym)),↥(.lst (es.map egD)),↥(.dic ks (W6 (Xb f pre).1 ks)),some (.ow ((Xb f pre).2.map egD)),x5,x6,x7])
  (λpre e post ω hd ⟨x5,x6,x7,hω⟩=>by
   subst hω;refine⟨_,rfl,?_⟩;obtain⟨m1,m2⟩:=hS e (by rw[hd];simp);have v1:=q3S (f:=(Xb f pre).1) ((mem e.1).mpr m1);have v2:=q3S (f:=(Xb f pre).1) ((mem e.2.1).mpr m2);have lp:((Xb f pre).2.map egD).length<1000000:=by
    have:=(q61 f pre).length_le;have:pre.length<=S.length:=by rw[hd,zC];omega
    rw[zB];omega
   have tw:=qgW (f:=(Xb f pre).1) (a:=(Xb f pre).1 e.1) (b:=(Xb f pre).1 e.2.1) nd ∅;have ed:egD e=.tup [.int e.1,.int e.2.1,.int e.2.2]:=rfl;unfold q4P;rw[q2u];unfold zAx
   by_cases z:(Xb f pre).1 e.1=(Xb f pre).1 e.2.1
   ·have z':((Xb f pre).1 e.1==(Xb f pre).1 e.2.1)=true:=by simpa using z
    rw[vC z];simp_arith[ed,v1,v2,z'];exact⟨_,_,_,rfl⟩
   ·have z':((Xb f pre).1 e.1==(Xb f pre).1 e.2.1)=false:=by simpa using z
    rw[vG z];simp_arith[ed,v1,v2,z',zAz lp,tw];exact⟨_,_,_,by rw[za];rfl⟩)
  (ω:=[↥(.lst (ts.map D.int)),↥(.lst (kn.map Ym)),↥(.lst (es.map egD)),↥(.dic ks (W6 f ks)),some (.ow []),none,none,none]) ⟨none,none,none,rfl⟩
 simp_arith[e]
theorem qbs{ts:List Int}{kn:List (Int×Int)}{f:Int->Int}(h:Tells ts kn f)(inn:∀e∈kn,e.1∈ts/\e.2∈ts)(es:List Eg):(∀e∈es,e.1∈ts/\e.2.1∈ts)->Tells ts (kn++(Xb f es).2.map Ws) (Xb f es).1:=by
 refine q1O (P:=λes=>(∀e∈es,e.1∈ts/\e.2.1∈ts)->Tells ts (kn++(Xb f es).2.map Ws) (Xb f es).1) (λ_=>by show Tells ts (kn++[]) f;rw[zn];exact h) (λl e ih he=>?_) es;have h1:=ih λx hx=>he x (zV _ hx);obtain⟨p1,p2⟩:=he e (by simp);rw[q2u];unfold zAx
 by_cases z:(Xb f l).1 e.1=(Xb f l).1 e.2.1
 ·rw[vC z];exact h1
 ·rw[vG z]
  show Tells ts (kn++((Xb f l).2++[e]).map Ws) _;rw[za,<- zJ];exact h1.join (λx hx=>by
   rcases zN.mp hx with m|m
   ·exact inn x m
   ·obtain⟨y,hy,rfl⟩:=yB.mp m
    exact he y (zV _ ((q61 f l).subset hy))) p1 p2
theorem q5y:∀(r:List Int)(k:Int),∀p∈k::r,Rch (Ys (k::r)) k p
 | [],k,p,hp=>by cases zS.mp hp;exact .refl
 | k1::r,k,p,hp=>by
  rcases zF.mp hp with rfl|hp
  ·exact .refl
  ·rw[q1G]
   exact(Rch.refl.step (.inl zG)).trans ((q5y r k1 p hp).mono λe he=>zH _ he)
noncomputable def egO(q:Int×Int):Eg:=(q.1,q.2,q.2-q.1)
theorem qfH(G:List (Int×Int)):(G.map egO).map Ws=G:=by rw[yb];exact List.map_id _
theorem q6i:∀{P:List Int},P.Pairwise (· < ·)->(Ys P).Nodup
 | [],_=>xO
 | [_],_=>xO
 | a::b::r,h=>by
  show ((a,b)::Ys (b::r)).Nodup;have hr:=zd.mp h;refine yN.mpr ⟨λm=>?_,q6i hr.2⟩;have:=hr.1 a (q0T m).1;omega
structure FoA (h l:Int) (bs:List (Int×Int)) (F:List Eg):Prop where
 fo:q0L [.lst ((Pz h l bs).map D.int),.lst ((Kn h l bs).map Ym),.lst (((Ys (Pz h l bs)).map egO).map egD)]=some (.fr (F.map egD))
 fs:∀e∈F,∃g∈Ys (Pz h l bs),e=egO g
 nd:F.Nodup
 len:F.length<=62
 con:∀x∈Pz h l bs,∀y∈Pz h l bs,Rch (Kn h l bs++F.map Ws) x y
theorem qhl(h l:Int)(bs:List (Int×Int)):Pz h l bs≠[]:=λz=>by
 have:h∈Pz h l bs:=(qT h).mpr (.inl rfl);rw[z]at this;cases this
theorem qdl{P:List Int}:∀p∈P,∀q∈P,Rch (Ys P) p q:=by
 cases P with
 | nil=>intro p hp;cases hp
 | cons k r=>exact λp hp q hq=>(q5y r k p hp).symm.trans (q5y r k q hq)
theorem qhu{h l:Int}{bs:List (Int×Int)}(hb:Bd h l bs):∃F,FoA h l bs F:=by
 have hP:=q9X h l bs;have hl:=qcL (h:=h) (l:=l) hb;have hn:=hb.n;have gl:=q0Z (Pz h l bs);have fl:=xA (λq=>!(Y4 h l bs q==0)) (Ys (Pz h l bs));have kl:(Kn h l bs).length<=900:=by unfold Kn;rw[zC,zC,zU];omega
 have ok:Ok (Pz h l bs) (Kn h l bs):=⟨qdJ hP,λe he=>qhz he,hl,∅⟩;have he:∀e∈(Ys (Pz h l bs)).map egO,e.1∈Pz h l bs/\e.2.1∈Pz h l bs:=λe he=>by
  obtain⟨g,hg,rfl⟩:=yB.mp he;exact q0T hg
 have el:((Ys (Pz h l bs)).map egO).length<64:=by rw[zB];omega
 obtain⟨f,tl,hf⟩:=qcx ok he el;have pm:=q0g (f:=Xv) (l:=(Ys (Pz h l bs)).map egO);have heS:∀e∈Yz Xv ((Ys (Pz h l bs)).map egO),e.1∈Pz h l bs/\e.2.1∈Pz h l bs:=λe h=>he e (pm.mem_iff.mp h);have kt:=qba ok.nd tl ok.inn _ heS;have k2:=qbs tl ok.inn _ heS;have one:∀x∈Pz h l bs,∀y∈Pz h l bs,(Xb f (Yz Xv ((Ys (Pz h l bs)).map egO))).1 x=(Xb f (Yz Xv ((Ys (Pz h l bs)).map egO))).1 y:=λx hx y hy=>by
  refine(kt.1 x hx y hy).mpr ((qdl x hx y hy).mono λe he=>?_);refine zQ _ ((pm.map Ws).mem_iff.mpr ?_);rw[qfH];exact he
 have sub:=q61 f (Yz Xv ((Ys (Pz h l bs)).map egO));have lF:=sub.length_le;have lS:(Yz Xv ((Ys (Pz h l bs)).map egO)).length=(Ys (Pz h l bs)).length:=by rw[q7R,zB]
 refine⟨(Xb f (Yz Xv ((Ys (Pz h l bs)).map egO))).2,hf,λe he=>?_,?_,∅,λx hx y hy=>(k2 x hx y hy).mp (one x hx y hy)⟩
 ·obtain⟨g,hg,e1⟩:=yB.mp (pm.mem_iff.mp (sub.subset he))
  exact⟨g,hg,e1.symm⟩
 ·refine List.Nodup.sublist sub (pm.nodup_iff.mpr ?_)
  unfold YY;rw[wO];exact(q6i hP).imp λ{a b} z e=>z (by
   have e1:a.1=b.1:=v9 (λx=>x.1) e;have e2:a.2=b.2:=v9 (λx=>x.2.1) e;exact Prod.ext e1 e2)
noncomputable def emA(h l:Int)(bs:List (Int×Int))(F:List Eg):List (Int×Int):=Wd (Y4 h l bs) (Ys (Pz h l bs))++twoA (F.map Ws)
noncomputable def arA(h l:Int)(bs:List (Int×Int))(F:List Eg):List (Int×Int):=bs++emA h l bs F
theorem qek{h l:Int}{bs:List (Int×Int)}{F:List Eg}(A:FoA h l bs F){a:Int×Int}(m:a∈emA h l bs F):∃g∈Ys (Pz h l bs),a=(g.1,g.2)\/a=(g.2,g.1):=by
 rcases zN.mp m with m|m
 ·exact qgk m
 ·obtain⟨e0,he0,m⟩:=yg.mp m
  obtain⟨e,he2,rfl⟩:=yB.mp he0;obtain⟨g,hg,rfl⟩:=A.fs e he2;rcases zF.mp m with rfl|m
  ·exact⟨g,hg,.inl rfl⟩
  ·cases zS.mp m
   exact⟨g,hg,.inr rfl⟩
theorem qgQ{h l:Int}{bs:List (Int×Int)}{F:List Eg}(hb:Bd h l bs)(x:Int):flw x (arA h l bs F++[(l,h)])=0:=by
 have hP:=q9X h l bs;have hG:=qcq (h:=h) (l:=l) hb;unfold arA emA;rw[q21,q21,q21,q8y,q8t,q27];have inP:∀b∈bs,b.1∈Pz h l bs/\b.2∈Pz h l bs:=λb hb=>⟨(qT _).mpr (.inr (.inr ⟨b,hb,.inl rfl⟩)),(qT _).mpr (.inr (.inr ⟨b,hb,.inr rfl⟩))⟩;have ih:h∈Pz h l bs:=(qT h).mpr (.inl rfl);have il:l∈Pz h l bs:=(qT l).mpr (.inr (.inl rfl));have pk:(∃g∈Ys (Pz h l bs),g.1<x/\x<=g.2/\∀c:Int×Int->Int,((Ys (Pz h l bs)).map λg=>c g*(chi x g.2-chi x g.1)).sum=c g)\/(∀p∈Pz h l bs,∀q∈Pz h l bs,chi x p=chi x q):=by
  have hne:=qhl h l bs;revert hP hne;generalize Pz h l bs=P;intro hP hne;cases P with
  | nil=>exact vP rfl hne
  | cons k r=>exact q8l x r k hP
 rcases pk with⟨g,hg,g1,g2,g3⟩|h3
 ·rw[g3 (Y4 h l bs)]
  obtain⟨t1,t2⟩:=qel (hG g hg) g1 g2;have hG1:Gap h l [(h,l)] g:=⟨(hG g hg).lt,(hG g hg).h,(hG g hg).l,λb hb=>by cases zS.mp hb;exact⟨(hG g hg).h,(hG g hg).l⟩⟩;obtain⟨u1,u2⟩:=qel hG1 g1 g2;simp only[zc,yP,yt,List.sum_nil,Int.add_zero]at u1 u2;have v:=qcm x h l;have fb:flw x bs=rts bs g-lfs bs g:=by
   rw[<- t1,<- t2];unfold flw;rw[yn λb _=>(qcm x b.1 b.2).symm];clear t1 t2 hb hP hG inP ih il hg g3 hG1 u1 u2
   induction bs with
   | nil=>rfl
   | cons b bs ih=>simp only[zc,yt,ih];omega
  rw[fb];have e0:flw x []=0:=rfl;rw[e0];unfold Y4;simp only;omega
 ·have e0:((Ys (Pz h l bs)).map λg=>Y4 h l bs g*(chi x g.2-chi x g.1)).sum=0:=by
   have:∀g∈Ys (Pz h l bs),Y4 h l bs g*(chi x g.2-chi x g.1)=0:=λg hg=>by
    rw[h3 _ (q0T hg).2 _ (q0T hg).1,YD,Int.mul_zero]
   rw[yn this];clear this
   induction Ys (Pz h l bs)with
   | nil=>rfl
   | cons g gs ih=>rw[zc,yt,ih];rfl
  have fb:flw x bs=0:=by
   unfold flw;have:∀b∈bs,chi x b.2-chi x b.1=0:=λb hb=>by rw[h3 _ (inP b hb).2 _ (inP b hb).1,YD]
   rw[yn this];clear this;generalize bs=bs'
   induction bs' with
   | nil=>rfl
   | cons g gs ih=>rw[zc,yt,ih];rfl
  have:=h3 _ ih _ il;have en:flw x []=0:=rfl;rw[e0,fb,en];simp only;omega
theorem qha{h l:Int}{bs:List (Int×Int)}{F:List Eg}(A:FoA h l bs F):∀a∈arA h l bs F++[(l,h)],a.1∈Pz h l bs:=λa ha=>by
 rcases zN.mp ha with m|m
 ·rcases zN.mp m with m|m
  ·exact(qT _).mpr (.inr (.inr ⟨a,m,.inl rfl⟩))
  ·obtain⟨g,hg,rfl|rfl⟩:=qek A m
   ·exact(q0T hg).1
   ·exact(q0T hg).2
 ·cases zS.mp m
  exact(qT l).mpr (.inr (.inl rfl))
theorem qh1{h l:Int}{bs:List (Int×Int)}{F:List Eg}(A:FoA h l bs F):∀x∈Pz h l bs,∀y∈Pz h l bs,Rch (arA h l bs F++[(l,h)]) x y:=λx hx y hy=>by
 refine Rch.inv (λz=>Rch (arA h l bs F++[(l,h)]) x z) .refl (λb c hb hbc=>?_) (A.con x hx y hy);have key:∀{u v:Int},(u,v)∈Kn h l bs++F.map Ws->Rch (arA h l bs F++[(l,h)]) u v:=λ{u v} m=>by
  have s1:∀{u v:Int},(u,v)∈arA h l bs F->Rch (arA h l bs F++[(l,h)]) u v:=λm=>Rch.refl.step (.inl (zV _ m));rcases zN.mp m with m|m
  ·unfold Kn at m
   rcases zN.mp m with m|m
   ·rcases zN.mp m with m|m
    ·exact s1 (zV _ m)
    ·cases zS.mp m
     exact Rch.refl.step (.inr (zQ _ (zS.mpr rfl)))
   ·obtain⟨m1,m2⟩:=xH.mp m
    have hc:Y4 h l bs (u,v)≠0:=by simpa using m2
    rcases qda (c:=Y4 h l bs) m1 hc with z|z
    ·exact s1 (zQ _ (zV _ z))
    ·exact(s1 (zQ _ (zV _ z))).symm
  ·exact s1 (zQ _ (zQ _ (yg.mpr ⟨_,m,zG⟩)))
 rcases hbc with m|m
 ·exact hb.trans (key m)
 ·exact hb.trans (key m).symm
theorem qeD{h l:Int}{bs:List (Int×Int)}{F:List Eg}(hb:Bd h l bs):(sts (arA h l bs F++[(l,h)])).Perm (gls (arA h l bs F++[(l,h)])):=by
 rw[List.perm_iff_count];intro v;rw[<- (q65 _ v).1,<- (q65 _ v).2];exact q9S (λx=>qgQ hb x) v
theorem q5t{h l:Int}{bs:List (Int×Int)}(q:Int×Int):-(bs.length:Int)-1<=Y4 h l bs q/\Y4 h l bs q<=bs.length+1:=by
 unfold Y4 rts lfs;have a1:=xA (λp:Int×Int=>over p.1 p.2 q) bs;have a2:=xA (λp:Int×Int=>over p.2 p.1 q) bs;have b1:=xA (λp:Int×Int=>over p.1 p.2 q) [(h,l)];have b2:=xA (λp:Int×Int=>over p.2 p.1 q) [(h,l)];simp only[zU]at b1 b2;omega
theorem q7q{c:Int×Int->Int}{n:Nat}:∀G:List (Int×Int),(∀g∈G,-(n:Int)<=c g/\c g<=n)->(Wd c G).length<=G.length*n
 | [],_=>zy _
 | g::G,h=>by
  have ih:=q7q G λx hx=>h x (zH _ hx);have hg:=h g zG;show (repA (c g) g++Wd c G).length<=_;rw[zC,zL,Nat.add_mul,Nat.one_mul];unfold repA;rw[zC,yO,yO];omega
theorem q7y:∀F:List (Int×Int),(twoA F).length=2*F.length
 | []=>rfl
 | e::F=>by
  show ([e,(e.2,e.1)]++twoA F).length=_;rw[zC,q7y F,zL];simp only[zL,yz];omega
theorem qbG{h l:Int}{bs:List (Int×Int)}{F:List Eg}(hb:Bd h l bs)(A:FoA h l bs F):(arA h l bs F).length<=8000:=by
 have hl:=qcL (h:=h) (l:=l) hb;have hn:=hb.n;have gl:=q0Z (Pz h l bs);have e1:=q7q (c:=Y4 h l bs) (n:=101) (Ys (Pz h l bs)) λg _=>by have:=q5t (h:=h) (l:=l) (bs:=bs) g;omega
 have:=A.len;unfold arA emA;rw[zC,zC,q7y,zB];omega
structure Rg (as:List (Int×Int)):Prop where
 pm:(sts as).Perm (gls as)
 hg:∀p∈as,∀q∈as,Rch as p.1 q.1
theorem qeA(as:List (Int×Int)):shp (.lst (as.map Ym))=true:=qay 2 (by decide) λd hd=>by
 obtain⟨p,_,rfl⟩:=yB.mp hd;exact⟨rfl,by show 1<=2;decide⟩
theorem q8j{as:List (Int×Int)}{s:Int}{row:List Int}(h:Wl s as=some row):q1a [.int s,.lst (as.map Ym)]=some (.fr (row.map D.int)):=by
 show ((pairsOf (as.map Ym)).bind λas=>(Wl s as).map λrow=>O.fr (row.map D.int))=_;rw[q2A,yA,h];rfl
theorem qgp{as:List (Int×Int)}{s:Int}(hl:as.length<=9000)(hg:Rg as)(hs:∃p∈as,p.1=s):∃row:List Nat,q2k [.int s,.lst (as.map Ym)]=↥(.lst ((cst row).map D.int))/\row.Perm (zb as.length)/\Wlk as s row s:=by
 have hm:=qew (as:=as) hl;rw[vU hg.pm]at hm;obtain⟨row,U,hr,R⟩:=qds (s:=s) hl hg.pm;have hrf:=q8j hr;obtain⟨p,hp,rfl⟩:=hs;have ha:row.length=as.length:=R.full λq hq=>hg.hg p hp q hq;have e1:((((cst row).length:Nat):Int)==(as.length:Int))=true:=by
  have:(cst row).length=row.length:=by unfold cst;rw[zB]
  simp only[beq_iff_eq];omega
 have hU:U=[]:=by
  have:=R.all.length_eq;rw[zC,zo]at this;exact yo ∅
 refine⟨row,?_,by have:=R.all;rw[hU,yE]at this;exact this,R.walk⟩;unfold q2k q5v;simp -implicitDefEqProofs only[q2r,q2w,q3s,q4O,q4b,q2X,e_wd,q4a,e_wz,q4e,q3p,q4j,q3o,q6d,q4H,q4s,q6C,q6W,q6S,q4v,q70,q2N,q3k,q6m,q6q,q6e,q6s,q3e,q2L,q03,q33,q2V,q6f,q6c,q34,q2Q,e_if,q4z,q42,q6r,q3a,q3q,q4K,q2J,q6h,zAz,q6U,q2W,q2e,q38,q2R,q6K,e_fs,q68,e_ag,e_gn,e_gt,e_gc,e_g0,q6a,q3r,q3g,e_c,e_e,e_ed,e_d,q36,q39,e_v,q3t,q3l,q37,e_op,e_o2,q4S,e_cl,q3b,q2Y,e_ac,e_ca,e_an,q6n,q6H,q6M,e_bl,q6b,e_sl,e_po,e_pa,e_ap,q6I,q4f,q4g,q6Q,q1F,q1E,q1H,e_t,e_tr,q4J,e_ta,q6P,q6p,e_to,q6V,q4G,e_tn,q4d,q3h,q2c,q4y,e_va,q6o,q6E,e_vo,q4U,q4T,q4m,q64,q4A,zAF,q6w,e_ng,q2K,q2T,q3c,q2i,q32,q4Y,q4u,q2Z,q45,q4I,q4Z,q49,q2P,q47,q6B,q72,q6O,at0,at1,at2,q0d,q0Y,zAr,entry,yA,yd,zL,yz,zB,zc,yP,xu,yE,z8,yw,xk,xl,yX,yj,wX,wY,wu,wv,ww,wZ,wb,wc,wd,we,wf,wg,wj,wE,↓reduceIte,wC,wk,xg,xo,xi,wK,wB,wx,xb,wN,yq,beq_self_eq_true,zv,qh7,qcX,qd2,qhc,qhy,qff,qex,qhC,qdL,qeJ,e_xc,qhw,e_xi,qf5,e_xd,qhB,qf6,qfq,hm,hrf,e1]
theorem Wlk.split{as:List (Int×Int)}:∀{r q:List Nat}{a c:Int},Wlk as a (r++q) c->∃b,Wlk as a r b/\Wlk as b q c
 | [],_,a,_,h=>⟨a,.nil _,h⟩
 | n::r,q,a,c,h=>by
  cases h with
  | cons e t=>
   obtain⟨b,h1,h2⟩:=t.split;exact⟨b,.cons e h1,h2⟩
theorem q5z{s:Int}:∀{P:List Int},s∈P->∃i,zAi s P=some i/\P[i]?=some s
 | a::r,h=>by
  unfold zAi
  by_cases z:a=s
  ·exact⟨0,vC z,by rw[z];rfl⟩
  ·obtain⟨i,h1,h2⟩:=q5z ((zF.mp h).resolve_left λe=>z e.symm)
   exact⟨i+1,by rw[vG z,h1];rfl,h2⟩
theorem qgY{f g:FD}{ω:WSt}:fIdx f g ω=(f ω).bind λd=>(g ω).bind λc=>idxD d c:=rfl
theorem qdG{α:Type}{xs:List α}{k:Int}(h:0<=k):cutD xs none (some k)=xs.take k.toNat:=by
 unfold cutD;have e:HT.sIx xs.length xs.length (some k)=min k.toNat xs.length:=by
  have:=HT.q7m xs.length xs.length k.toNat;rw[show ((k.toNat:Nat):Int)=k by omega]at this;exact this
 rw[HT.q5B,e,Nat.sub_zero,ZC,List.take_eq_take_iff];omega
theorem qe2{α:Type}{xs:List α}{k:Int}(h:0<=k):cutD xs (some k) none=xs.drop k.toNat:=by
 unfold cutD;have e:HT.sIx xs.length 0 (some k)=min k.toNat xs.length:=by
  have:=HT.q7m xs.length 0 k.toNat;rw[show ((k.toNat:Nat):Int)=k by omega]at this;exact this
 rw[HT.q5B,e,yl (by rw[yI];omega)];rcases YA k.toNat xs.length with z|z
 ·rw[wo z]
 ·rw[Nat.min_eq_right z,ZR,List.drop_of_length_le z]
theorem q7f{α:Type}(d:α):∀n:Nat,(zj n [d]).flatten=zj n d
 | 0=>rfl
 | n+1=>by rw[z8,yF,q7f d n,z8];rfl
theorem qdY(c:Int×Int->Int)(G:List (Int×Int))(q:Int×Int):Wd c (G++[q])=Wd c G++repA (c q) q:=by
 unfold Wd;rw[xy,Zd]
theorem qge{h l:Int}{bs:List (Int×Int)}(hb:Bd h l bs):q0c [.int h,.int l,.lst (bs.map Yp)]=some (.fr ((Wd (Y4 h l bs) (Ys (Pz h l bs))).map Yp)):=by
 unfold q0c q1l;have hg:=q5a (h:=h) (l:=l) hb;have hk:=q9b (h:=h) (l:=l) hb;have hL:=qbH (h:=h) (l:=l) hb;have hn:=hb.n;rw[show Y5 (plc h l bs)=Pz h l bs from rfl]at hg hk;generalize Ys (Pz h l bs)=L at hg hk hL ⊢;simp_arith[hg,hk,q5K];obtain⟨ω',e,x4,x5,x6,rfl⟩:=qS (g:=gT 2 (Y7 (gN 4) (Y7 (gN 5) WM))) (b:=q1e) (λq=>D.tup [Yp q,.int (Y4 h l bs q)]) L
  (λpre ω=>∃x4 x5 x6:Option W,ω=[↥(.int h),↥(.int l),↥(.lst (bs.map Yp)),some (.ow ((Wd (Y4 h l bs) pre).map Yp)),x4,x5,x6])
  (λpre q post ω hd ⟨x4,x5,x6,hω⟩=>by
   subst hω;refine⟨_,rfl,?_⟩;have la:=q5t (h:=h) (l:=l) (bs:=bs) q;have el:=q7q (c:=Y4 h l bs) (n:=101) pre λg _=>by have:=q5t (h:=h) (l:=l) (bs:=bs) g;omega
   have pl:pre.length<=L.length:=by rw[hd,zC];omega
   have ba:bAbs [.int (Y4 h l bs q)]=↥(.int (zB6 (Y4 h l bs q))):=rfl;unfold q1e;rw[show Yp q=D.tup [.int q.1,.int q.2]from rfl];simp only[qdY];generalize Y4 h l bs q=c at *;have ab:0<=zB6 c/\zB6 c<=101:=by unfold zB6;split <;> omega
   by_cases hc:0<c
   ·have hr:=λd:D=>qcj (ds:=[d]) ab.1 ∅ (show [d].length<=1000 by simp)
    have e1:(zB6 c).toNat=c.toNat:=by unfold zB6;rw[vG ∅]
    have hl2:((Wd (Y4 h l bs) pre).map Yp).length+(zj c.toNat (D.tup [.int q.1,.int q.2])).length<=1000000:=by
     rw[zB,yO];omega
    have ea:(Wd (Y4 h l bs) pre).map Yp++zj c.toNat (D.tup [.int q.1,.int q.2])=(Wd (Y4 h l bs) pre++repA c q).map Yp:=by
     unfold repA;rw[show (-c).toNat=0 by omega,yw,zn,za,wG];rfl
    simp_arith[hc,decide_true,ba,hr,q7f,e1,q2e hl2,ea];exact⟨_,_,_,rfl⟩
   ·have hr:=λd:D=>qcj (ds:=[d]) ab.1 ∅ (show [d].length<=1000 by simp)
    have e1:(zB6 c).toNat=(-c).toNat:=by unfold zB6;split <;> omega
    have hl2:((Wd (Y4 h l bs) pre).map Yp).length+(zj (-c).toNat (D.tup [.int q.2,.int q.1])).length<=1000000:=by
     rw[zB,yO];omega
    have ea:(Wd (Y4 h l bs) pre).map Yp++zj (-c).toNat (D.tup [.int q.2,.int q.1])=(Wd (Y4 h l bs) pre++repA c q).map Yp:=by
     unfold repA;rw[show c.toNat=0 by omega,yw,yE,za,wG];rfl
    simp_arith[hc,decide_false,ba,hr,q7f,e1,q2e hl2,ea];exact⟨_,_,_,rfl⟩)
  (ω:=[↥(.int h),↥(.int l),↥(.lst (bs.map Yp)),some (.ow []),none,none,none]) ⟨none,none,none,rfl⟩
 simp_arith[e]
theorem qdg(F:List (Int×Int))(e:Int×Int):twoA (F++[e])=twoA F++[e,(e.2,e.1)]:=by
 unfold twoA;rw[xy,Zd]
theorem qgX{h l:Int}{bs:List (Int×Int)}{F:List Eg}(hb:Bd h l bs)(A:FoA h l bs F):q0m [.int h,.int l,.lst (bs.map Yp)]=some (.fr ((twoA (F.map Ws)).map Yp)):=by
 unfold q0m q1R;have hK:=qdu (h:=h) (l:=l) hb;have hS:=q8u (h:=h) (l:=l) hb;have hE:=qdE (h:=h) (l:=l) hb;rw[show (Ys (Pz h l bs)).map edD=((Ys (Pz h l bs)).map egO).map egD by rw[yb];rfl]at hE;have fo:=A.fo;have fl:=A.len;have fo':q0L [.lst ((Y5 (plc h l bs)).map D.int),.lst ((bs++[(h,l)]++(Ys (Y5 (plc h l bs))).filter λq=>!(Y4 h l bs q==0)).map Yp),.lst (((Ys (Pz h l bs)).map egO).map egD)]=some (.fr (F.map egD)):=fo;simp_arith[hS,hK,hE,fo'];obtain⟨ω',e,x5,rfl⟩:=qS (g:=gN 5) (b:=q1q) egD F
  (λpre ω=>∃x5:Option W,ω=[↥(.int h),↥(.int l),↥(.lst (bs.map Yp)),some (.ow ((twoA (pre.map Ws)).map Yp)),↥(.lst ((Y5 (plc h l bs)).map D.int)),x5])
  (λpre q post ω hd ⟨x5,hω⟩=>by
   subst hω;refine⟨_,rfl,?_⟩;have pl:pre.length<=F.length:=by rw[hd,zC];omega
   have tl:=q7y (pre.map Ws);rw[zB]at tl;have l1:((twoA (pre.map Ws)).map Yp).length<1000000:=by rw[zB];omega
   have l2:((twoA (pre.map Ws)).map Yp++[D.tup [.int q.1,.int q.2.1]]).length<1000000:=by rw[zC,zB,zU];omega
   have ea:(twoA (pre.map Ws)).map Yp++[D.tup [.int q.1,.int q.2.1]]++[D.tup [.int q.2.1,.int q.1]]=(twoA ((pre++[q]).map Ws)).map Yp:=by
    rw[za,zc,yP,qdg,za,zJ];rfl
   unfold q1q;rw[show egD q=D.tup [.int q.1,.int q.2.1,.int q.2.2]from rfl];simp_arith[zAz l1,zAz l2,ea];exact⟨_,rfl⟩)
  (ω:=[↥(.int h),↥(.int l),↥(.lst (bs.map Yp)),some (.ow []),↥(.lst ((Y5 (plc h l bs)).map D.int)),none]) ⟨none,rfl⟩
 simp_arith[e]
theorem qaG{as x:List (Int×Int)}{n:Nat}(h:n<as.length):Y6 (as++x) n=Y6 as n/\Y9 (as++x) n=Y9 as n:=by
 unfold Y6 Y9;rw[zT,zT,ze h];exact⟨rfl,rfl⟩
theorem Wlk.low{as x:List (Int×Int)}:∀{r:List Nat}{a b:Int},Wlk (as++x) a r b->(∀n∈r,n<as.length)->Wlk as a r b
 | [],_,_,h,_=>by cases h;exact .nil _
 | n::r,a,b,h,hl=>by
  cases h with
  | cons e t=>
   have sa:=qaG (x:=x) (hl n zG);rw[sa.1]at e;rw[sa.2]at t;exact .cons e (t.low λk hk=>hl k (zH _ hk))
theorem qfz{row:List Nat}{j n:Nat}(h:(cst row)[j]?=some (n:Int)):row[j]?=some n:=by
 unfold cst at h;rw[zY]at h;cases e:row[j]? with
 | none=>rw[e]at h;cases h
 | some m=>
  rw[e]at h;have:(m:Int)=n:=zx h;rw[show m=n by omega]
theorem qg6{as:List (Int×Int)}{h l:Int}(hl:as.length<=8900)(hg:Rg (as++[(l,h)])):∃q:List Nat,qY [.int h,.int l,.lst (as.map Ym)]=some (.fr ((cst q).map D.int))/\q.Perm (zb as.length)/\Wlk as h q l:=by
 have hs:∃p∈as++[(l,h)],p.1=h:=by
  have m:h∈gls (as++[(l,h)]):=yB.mpr ⟨(l,h),by simp,rfl⟩;obtain⟨p,hp,e⟩:=yB.mp (hg.pm.mem_iff.mpr m);exact⟨p,hp,e⟩
 have hn:(as++[(l,h)]).length=as.length+1:=by rw[zC,zU]
 obtain⟨row,hr,hp,hw⟩:=qgp (s:=h) ∅ hg hs;rw[hn]at hp;have mn:(as.length:Int)∈cst row:=yB.mpr ⟨as.length,hp.mem_iff.mpr (yK.mpr (ye _)),rfl⟩;obtain⟨j,j1,j2⟩:=q5z mn;have j3:=qfz j2;obtain⟨jl,j4⟩:=zh.mp j3;have er:row=row.take j++as.length::row.drop (j+1):=by
  rw[<- j4,List.getElem_cons_drop,z7]
 have pm:(row.drop (j+1)++row.take j).Perm (zb as.length):=by
  have p1:(as.length::(row.drop (j+1)++row.take j)).Perm row:=by
   have:(row.take j++as.length::row.drop (j+1)).Perm (as.length::(row.drop (j+1)++row.take j)):=ZP.trans (List.Perm.cons _ yh);rw[<- er]at this;exact this.symm
  have p2:(zb (as.length+1)).Perm (as.length::zb as.length):=by
   rw[YQ];exact yh
  exact((p1.trans hp).trans p2).cons_inv
 have lt:∀n∈row.drop (j+1)++row.take j,n<as.length:=λn hn=>yK.mp (pm.mem_iff.mp hn);refine⟨row.drop (j+1)++row.take j,?_,pm,?_⟩
 ·unfold qY q1Q
  have ad:WB (.lst (as.map Ym)) (.lst [.tup [.int l,.int h]])=some (.fr ((as++[(l,h)]).map Ym)):=by
   rw[q23 (by rw[zB,zU];omega),za];rfl
  have ix:idxD (.lst ((cst row).map D.int)) (.int (as.length:Int))=↥(.int (j:Int)):=by
   show (intsOf ((cst row).map D.int)).bind _=_;rw[q0h,yA,j1];rfl
  have cl:(cst row).length=as.length+1:=by unfold cst;rw[zB,hp.length_eq,zo]
  have c1:=qe2 (xs:=(cst row).map D.int) (k:=(j:Int)+1) ∅;have c2:=qdG (xs:=(cst row).map D.int) (k:=(j:Int)) ∅;have a2:WB (.lst (((cst row).map D.int).drop ((j:Int)+1).toNat)) (.lst (((cst row).map D.int).take (j:Int).toNat))=some (.fr ((cst (row.drop (j+1)++row.take j)).map D.int)):=by
   rw[q23 (by rw[yI,zf,zB];omega),show ((j:Int)+1).toNat=j+1 by omega,show (j:Int).toNat=j by omega];unfold cst;rw[za,za,ZM,ZM,Zw,Zw]
  simp_arith[ad,hr,qgY,ix,qeo,c1,c2,a2]
 ·rw[er]at hw
  obtain⟨b,w1,w2⟩:=hw.split;cases w2 with
  | cons e t=>
   have s1:Y6 (as++[(l,h)]) as.length=l/\Y9 (as++[(l,h)]) as.length=h:=by
    unfold Y6 Y9;rw[zT,zX (zK _),wt];exact⟨rfl,rfl⟩
   rw[s1.1]at e;rw[s1.2]at t;subst e;exact(t.app w1).low lt
noncomputable def mvN(B:Nat)(as:List (Int×Int))(n:Nat):D:=if n<B then .tup [.str "box", .int (n:Int),.int (Y6 as n),.int (Y9 as n)]else .tup [.str "go", .int (Y6 as n),.int (Y9 as n)]
theorem qfA{h l:Int}{bs:List (Int×Int)}{F:List Eg}(hb:Bd h l bs)(A:FoA h l bs F):∃q:List Nat,q3j [.int h,.int l,.lst (bs.map Yp)]=some (.fr (q.map (mvN bs.length (arA h l bs F))))/\q.Perm (zb (arA h l bs F).length)/\Wlk (arA h l bs F) h q l:=by
 have al:=qbG hb A;have hn:=hb.n;have st:=qha A;obtain⟨q,q1,q2,q3⟩:=qg6 (as:=arA h l bs F) (h:=h) (l:=l) ∅ ⟨qeD hb,λp hp r hr=>qh1 A _ (st p hp) _ (st r hr)⟩;refine⟨q,?_,q2,q3⟩;unfold q3j q99;have h1:=qge (h:=h) (l:=l) hb;have h2:=qgX hb A;have e1:WB (.lst ((Wd (Y4 h l bs) (Ys (Pz h l bs))).map Yp)) (.lst ((twoA (F.map Ws)).map Yp))=some (.fr ((emA h l bs F).map Yp)):=by
  rw[q23,<- za];rfl;unfold arA emA at al;rw[zC,zC]at al;rw[zB,zB];omega
 have e2:WB (.lst (bs.map Yp)) (.lst ((emA h l bs F).map Yp))=some (.fr ((arA h l bs F).map Yp)):=by
  rw[q23,<- za];rfl;unfold arA at al;rw[zC]at al;rw[zB,zB];omega
 have q1':qY [.int h,.int l,.lst ((arA h l bs F).map Yp)]=some (.fr ((cst q).map D.int)):=q1;have hq:((cst q).map D.int).length<=1000000:=by
  unfold cst;rw[zB,zB,q2.length_eq,zo];omega
 have cm:=q0D (i:=0) (f:=q7i) (λn:Nat=>D.int (n:Int)) (mvN bs.length (arA h l bs F)) q (ω:=[none,↥(.lst (bs.map Yp)),↥(.lst ((arA h l bs F).map Yp))]) (λn hn=>by
  have hlt:n<(arA h l bs F).length:=yK.mp (q2.mem_iff.mp hn);have hi:atI ((arA h l bs F).map Yp) (n:Int)=some (.tup [.int (Y6 (arA h l bs F) n),.int (Y9 (arA h l bs F) n)]):=by
   rw[q0I ∅ (by rw[zB];omega)];have:(((arA h l bs F).map Yp)[((n:Int)).toNat]'(by rw[zB];omega))=Yp (arA h l bs F)[n]:=by
    rw[xt];simp
   rw[this];unfold Yp Y6 Y9;rw[zT,zD hlt];rfl
  unfold q7i q1f q2a mvN
  by_cases z:n<bs.length
  ·have z':decide ((n:Int)<(bs.length:Int))=true:=by simpa using z
   simp_arith[hi,z',z]
  ·have z':decide ((n:Int)<(bs.length:Int))=false:=by simpa using z
   simp_arith[hi,z',z])
 have cq:(cst q).map D.int=q.map λn:Nat=>D.int (n:Int):=by unfold cst;rw[yb];rfl
 rw[cq]at q1' hq;simp_arith[h1,h2,e1,e2,q1',zAF hq,inW,zAv,cm]
theorem q8h:shp (.str "go")=true:=⋯
theorem q8i:shp (.str "box")=true:=⋯
theorem qhm:oEq false (.str "go") (.str "go")=some (.sh (.bl true)):=q3v q8h
theorem qgB:oEq true (.str "go") (.str "go")=some (.sh (.bl false)):=q5Q q8h
theorem qee:oEq false (.str "box") (.str "box")=some (.sh (.bl true)):=q3v q8i
theorem qcs:oEq true (.str "box") (.str "box")=some (.sh (.bl false)):=q5Q q8i
theorem qgN:oEq false (.str "box") (.str "go")=some (.sh (.bl false)):=by
 unfold oEq;rw[q8h,q8i,show eqD (.str "box") (.str "go")=false by decide +kernel];rfl
theorem qbE:oEq false (.str "go") (.str "box")=some (.sh (.bl false)):=by
 unfold oEq;rw[q8h,q8i,show eqD (.str "go") (.str "box")=false by decide +kernel];rfl
theorem q6l{B:Nat}{as:List (Int×Int)}{n:Nat}(h:¬n<B):mvN B as n=.tup [.str "go", .int (Y6 as n),.int (Y9 as n)]:=vG h
theorem q4i{B:Nat}{as:List (Int×Int)}{n:Nat}(h:n<B):mvN B as n=.tup [.str "box", .int (n:Int),.int (Y6 as n),.int (Y9 as n)]:=vC h
theorem wh_i(i:Int):qu [.int i]=↥(.bl true):=rfl
theorem qhg(i:Int):q18 [.int i]=↥(.bl true):=rfl
theorem qbF{h l:Int}{bs:List (Int×Int)}{F:List Eg}{n:Nat}(hn:n<bs.length):atI (bs.map Yp) (n:Int)=some (.tup [.int (Y6 (arA h l bs F) n),.int (Y9 (arA h l bs F) n)]):=by
 have e:=qaG (as:=bs) (x:=emA h l bs F) hn;rw[show Y6 (arA h l bs F) n=Y6 bs n from e.1,show Y9 (arA h l bs F) n=Y9 bs n from e.2,q0I ∅ (by rw[zB];omega)];have:((bs.map Yp)[((n:Int)).toNat]'(by rw[zB];omega))=Yp bs[n]:=by
  rw[xt];simp
 rw[this];unfold Yp Y6 Y9;rw[zT,zD hn];rfl
theorem qei{h l:Int}{bs:List (Int×Int)}{F:List Eg}(hb:Bd h l bs)(A:FoA h l bs F){n:Nat}(h1:¬n<bs.length)(h2:n<(arA h l bs F).length):Y6 (arA h l bs F) n≠Y9 (arA h l bs F) n:=by
 have m:(arA h l bs F).getD n (0,0)∈emA h l bs F:=by
  unfold arA at h2 ⊢;rw[zC]at h2;rw[zT,zX ∅,zD ∅];exact yW _
 obtain⟨g,hg,z⟩:=qek A m;have:=(qcq hb g hg).lt;unfold Y6 Y9;rcases z with z|z <;> rw[z] <;> dsimp only <;> omega
theorem qbx(a b:Int):oEq false (.tup [.int a,.int b]) (.tup [.int a,.int b])=↥(.bl true):=q3v rfl
theorem qeM{h l:Int}{bs:List (Int×Int)}{F:List Eg}(hb:Bd h l bs)(A:FoA h l bs F){n:Nat}(h2:n<(arA h l bs F).length):q1C [mvN bs.length (arA h l bs F) n,.lst (bs.map Yp)]=↥(.bl true):=by
 unfold q1C q4N
 by_cases z:n<bs.length
 ·rw[q4i z]
  have hi:=qbF (h:=h) (l:=l) (F:=F) z;generalize Y6 (arA h l bs F) n=a at hi;generalize Y9 (arA h l bs F) n=b at hi;have g1:q1h [.tup [.str "box", .int (n:Int),.int a,.int b]]=some (.sh (.bl false)):=by
   unfold q1h q59;simp_arith[show (((0+1+1+1+1:Nat):Int)==3)=false from rfl]
  have s1:oSl (.tup [.str "box", .int (n:Int),.int a,.int b]) (some 1) none=some (.sh (.tup [.int (n:Int),.int a,.int b])):=rfl;have s2:oSl (.tup [.str "box", .int (n:Int),.int a,.int b]) (some 2) none=some (.sh (.tup [.int a,.int b])):=rfl;have cf:qQ [.tup [.str "box", .int (n:Int),.int a,.int b],.lst (bs.map Yp)]=some (.sh (.bl true)):=by
   unfold qQ q0Q;have cm:Xc (gN 0) Xk q1V [.int (n:Int),.int a,.int b] [none]=some [.bl true,.bl true,.bl true]:=rfl;have d1:decide (0<=(n:Int))=true:=by simp
   have d2:decide ((n:Int)<(bs.length:Int))=true:=by simpa using z
   simp_arith[qcs,show (((0+1+1+1+1:Nat):Int)==4)=true from rfl,s1,zAF (show [D.int (n:Int),.int a,.int b].length<=1000000 by simp),inW,zAv,cm,show zCW [.lst [.bl true,.bl true,.bl true]]=↥(.bl true)from rfl,d1,d2]
  have ic:q16 [.tup [.str "box", .int (n:Int),.int a,.int b],.lst (bs.map Yp)]=some (.sh (.bl true)):=by
   unfold q16 q3J;simp_arith[cf,s2,hi,qbx]
  simp_arith[g1,ic]
 ·rw[q6l z]
  have ne:=qei hb A z h2;generalize Y6 (arA h l bs F) n=a at ne;generalize Y9 (arA h l bs F) n=b at ne;have g1:q1h [.tup [.str "go", .int a,.int b]]=some (.sh (.bl true)):=by
   unfold q1h q59;have n1:(a==b)=false:=by simpa using ne
   simp_arith[qgB,show (((0+1+1+1:Nat):Int)==3)=true from rfl,wh_i,n1]
  simp_arith[g1]
theorem qa3(B:Nat)(as:List (Int×Int))(n:Nat):∃ds,mvN B as n=.tup ds/\atI ds (-2)=some (.int (Y6 as n))/\atI ds (-1)=some (.int (Y9 as n)):=by
 by_cases z:n<B
 ·exact⟨_,q4i z,rfl,rfl⟩
 ·exact⟨_,q6l z,rfl,rfl⟩
theorem q8S{as:List (Int×Int)}{B:Nat}{x0 x1 x2:Option W}:∀(row:List Nat)(here fin:Int)(x4:Option W),Wlk as here row fin ->
  ∃y4,zAJ (gN 4) q3x (row.map (mvN B as)) [x0,x1,x2,↥(.int here),x4]=some (.nx,[x0,x1,x2,↥(.int fin),y4])
 | [],here,fin,x4,h=>by cases h;exact⟨x4,rfl⟩
 | n::row,here,fin,x4,h=>by
  cases h with
  | cons e t=>
   obtain⟨y4,ih⟩:=q8S (as:=as) (B:=B) (x0:=x0) (x1:=x1) (x2:=x2) row (Y9 as n) fin ↥(mvN B as n) t;refine⟨y4,?_⟩;obtain⟨ds,e1,e2,e3⟩:=qa3 B as n;have eb:q3x [x0,x1,x2,↥(.int here),↥(mvN B as n)]=some (.nx,[x0,x1,x2,↥(.int (Y9 as n)),↥(mvN B as n)]):=by
    unfold q3x;have eh:(Y6 as n==here)=true:=by simpa using e
    rw[e1];simp_arith[e2,e3,eh]
   show YL (some [x0,x1,x2,↥(.int here),↥(mvN B as n)]) _=_;rw[yA,eb];exact ih
theorem qcY{as:List (Int×Int)}{B:Nat}{h l:Int}{row:List Nat}(w:Wlk as h row l):q31 [.int h,.int l,.lst (row.map (mvN B as))]=↥(.bl true):=by
 unfold q31 q7c;obtain⟨y4,e⟩:=q8S (B:=B) (x0:=↥(.int h)) (x1:=↥(.int l)) (x2:=↥(.lst (row.map (mvN B as)))) row h l none w;simp_arith[e]
theorem qaX(B e:Nat):(zb (B+e)).filter (λn=>decide (n<B))=zb B:=by
 rw[List.range_add,w9,Zl];have e1:((zb B).filter λn=>decide (n<B))=zb B:=by
  rw[wq];intro n hn;simpa using yK.mp hn
 have e2:((zb e).filter ((λn=>decide (n<B)) ∘ λx=>B+x))=[]:=by
  rw[Zb];intro n hn;simp
 rw[e1,e2,yP,zn]
theorem qaZ{h l:Int}{bs:List (Int×Int)}{F:List Eg}(hb:Bd h l bs)(A:FoA h l bs F){q:List Nat}(q2:q.Perm (zb (arA h l bs F).length))(q3:Wlk (arA h l bs F) h q l):
  q0V [.int h,.int l,.lst (bs.map Yp),.lst (q.map (mvN bs.length (arA h l bs F)))]=↥(.bl true):=by
 have hn:=hb.n;unfold q0V q4h;have ck:=q97 (h:=h) (l:=l) (bs:=bs) ∅;have hql:q.length<=8000:=by rw[q2.length_eq,zo];exact qbG hb A
 have hl3:(q.map (mvN bs.length (arA h l bs F))).length<=1000000:=by rw[zB];omega
 have cA:=q0D (i:=0) (f:=q3P) (mvN bs.length (arA h l bs F)) (λ_=>D.bl true) q (ω:=[none,↥(.lst (bs.map Yp))]) (λn hn=>by
  have:=qeM hb A (yK.mp (q2.mem_iff.mp hn));unfold q3P;simp_arith -implicitDefEqProofs [this])
 have bA:=qbW (λ_:Nat=>true) q;have bA':zCW [.lst (q.map λ_=>D.bl true)]=↥(.bl true):=by
  show (allB _).map _=_;rw[bA,show (q.all λ_=>true)=true by rw[xL];exact λ_ _=>rfl];rfl
 have cC:=q6g (i:=0) (c:=q3N) (f:=q3w) (λn=>decide (n<bs.length)) (mvN bs.length (arA h l bs F)) (λn:Nat=>D.int (n:Int)) q (ω:=[none]) (λn _=>by
  unfold q3N q3w
  by_cases z:n<bs.length
  ·rw[q4i z,vU z]
   simp_arith -implicitDefEqProofs [qee];exact⟨trivial,λ_=>trivial⟩
  ·rw[q6l z,vS z]
   simp_arith -implicitDefEqProofs [qbE];exact⟨trivial,λy=>by cases y⟩)
 have pf:(q.filter λn=>decide (n<bs.length)).Perm (zb bs.length):=by
  have:=q2.filter λn=>decide (n<bs.length);unfold arA at this;rw[zC,qaX]at this;exact this
 have ec:((q.filter λn=>decide (n<bs.length)).map λn:Nat=>D.int (n:Int))=(cst (q.filter λn=>decide (n<bs.length))).map D.int:=by unfold cst;rw[yb];rfl
 rw[ec]at cC;have hrng:zAS [.int (bs.length:Int)]=some (.fr ((WU 0 bs.length).map D.int)):=by
  rw[qa7 ⟨∅,∅⟩,yi]
 have hsort:=q2w (ns:=cst (q.filter λn=>decide (n<bs.length))) (by unfold cst;rw[zB,pf.length_eq,zo];omega);have hpq:Yu (cst (q.filter λn=>decide (n<bs.length)))=WU 0 bs.length:=by
  refine q0C q0i ?_ (qq.trans ?_)
  ·unfold WU
   rw[wO];exact wI.imp λh=>∅
  ·have:WU 0 bs.length=cst (zb bs.length):=by
    unfold WU cst;exact yn λk _=>∅
   rw[this];exact pf.map _
 rw[hpq]at hsort;have ld:=qcY (B:=bs.length) q3;have es:=q3v (q5M (WU 0 bs.length));simp_arith -implicitDefEqProofs [ck,zAF hl3,inW,zAv,cA,bA',cC,hsort,hrng,es,ld]
theorem q8X{x0 x1 x2 x3:Option W}(is:List Int):∃y3,zAJ (gN 3) q0s (is.map D.int) [x0,x1,x2,x3]=some (.nx,[x0,x1,x2,y3]):=by
 obtain⟨ω',e,y3,rfl⟩:=qS (g:=gN 3) (b:=q0s) D.int is (λ_ ω=>∃y3,ω=[x0,x1,x2,y3]) (λpre i post ω hd ⟨y3,hω⟩=>by
  subst hω;refine⟨_,rfl,?_⟩;unfold q0s;simp_arith[qhg];exact⟨_,rfl⟩) (ω:=[x0,x1,x2,x3]) ⟨x3,rfl⟩
 exact⟨y3,e⟩
theorem qe4{h l:Int}{bs:List (Int×Int)}{F:List Eg}(hb:Bd h l bs)(A:FoA h l bs F){n:Nat}{here:Int}(h2:n<(arA h l bs F).length)(hs:Y6 (arA h l bs F) n=here):q09 [.lst (bs.map Yp),.int here,mvN bs.length (arA h l bs F) n]=↥(.bl true):=by
 unfold q09 q1r
 by_cases z:n<bs.length
 ·rw[q4i z]
  have hi:=qbF (h:=h) (l:=l) (F:=F) z;rw[hs]at hi ⊢;generalize Y9 (arA h l bs F) n=b at hi;have s1:oSl (.tup [.str "box", .int (n:Int),.int here,.int b]) (some 1) none=some (.sh (.tup [.int (n:Int),.int here,.int b])):=rfl;obtain⟨y3,e⟩:=q8X (x0:=some (.sh (.lst (bs.map Yp)))) (x1:=some (.sh (.int here))) (x2:=some (.sh (.tup [.str "box", .int (n:Int),.int here,.int b]))) (x3:=none) [(n:Int),here,b];have d1:decide ((n:Int)<0)=false:=by simp
  have d2:decide ((bs.length:Int)<=(n:Int))=false:=by simp;omega
  have at3:atI [D.str "box", .int (n:Int),.int here,.int b] 3=some (.int b):=rfl;simp only[zc,yP]at e;simp_arith[show decide (((0+1+1+1+1:Nat):Int)<3)=false from rfl,s1,e,qgN,qcs,show (((0+1+1+1+1:Nat):Int)==4)=true from rfl,d1,d2,hi,at3,qbx]
 ·rw[q6l z]
  have ne:=qei hb A z h2;rw[hs]at ne ⊢;generalize Y9 (arA h l bs F) n=b at ne;have s1:oSl (.tup [.str "go", .int here,.int b]) (some 1) none=some (.sh (.tup [.int here,.int b])):=rfl;obtain⟨y3,e⟩:=q8X (x0:=some (.sh (.lst (bs.map Yp)))) (x1:=some (.sh (.int here))) (x2:=some (.sh (.tup [.str "go", .int here,.int b]))) (x3:=none) [here,b];have n1:(b==here)=false:=by simpa using λy=>ne y.symm
  simp only[zc,yP]at e;simp_arith[show decide (((0+1+1+1:Nat):Int)<3)=false from rfl,s1,e,qhm,show (((0+1+1+1:Nat):Int)==3)=true from rfl,n1]
theorem qcr{x:Int}:∀{L:List Int}{j:Nat},L.Nodup->L[j]?=some x->∀y,y∈L.eraseIdx j↔(y∈L/\y≠x)
 | [],_,_,h,_=>by cases h
 | a::L,0,nd,h,y=>by
  have e:a=x:=zx h;subst e;have nd':=yN.mp nd;show y∈L↔_
  constructor
  ·intro m;exact⟨zH _ m,λz=>nd'.1 (z▸m)⟩
  ·rintro⟨m,z⟩;exact(zF.mp m).resolve_left z
 | a::L,j+1,nd,h,y=>by
  have nd':=yN.mp nd;have ih:=qcr nd'.2 (show L[j]?=some x from h) y;have hx:x∈L:=z0 (show L[j]?=some x from h);show y∈a::L.eraseIdx j↔_;rw[zF,zF,ih]
  constructor
  ·rintro(rfl|⟨m,z⟩)
   ·exact⟨.inl rfl,λz=>nd'.1 (z▸hx)⟩
   ·exact⟨.inr m,z⟩
  ·rintro⟨rfl|m,z⟩
   ·exact .inl rfl
   ·exact .inr ⟨m,z⟩
theorem q74{h l:Int}{bs:List (Int×Int)}{F:List Eg}(hb:Bd h l bs)(A:FoA h l bs F){x0 x1 x3:Option W}:∀(row:List Nat)(here fin:Int)(L:List Int)(x6:Option W),Wlk (arA h l bs F) here row fin->row.Nodup->(∀n∈row,n<(arA h l bs F).length)->L.Nodup->(∀n∈row,n<bs.length->(n:Int)∈L) ->
  ∃(L':List Int) (y6:Option W),zAJ (gN 6) qL (row.map (mvN bs.length (arA h l bs F))) [x0,x1,↥(.lst (bs.map Yp)),x3,↥(.int here),some (.ow (L.map D.int)),x6]=some (.nx,[x0,x1,↥(.lst (bs.map Yp)),x3,↥(.int fin),some (.ow (L'.map D.int)),y6])/\∀y∈L',y∈L/\∀n∈row,n<bs.length->y≠(n:Int)
 | [],here,fin,L,x6,w,_,_,_,_=>by cases w;exact⟨L,x6,rfl,λy hy=>⟨hy,λn hn=>by cases hn⟩⟩
 | n::row,here,fin,L,x6,w,nd,lt,ndL,inn=>by
  cases w with
  | cons e t=>
   have nd':=yN.mp nd;have lm:=qe4 hb A (lt n zG) e;obtain⟨ds,e1,_,e3⟩:=qa3 bs.length (arA h l bs F) n
   by_cases z:n<bs.length
   ·obtain⟨j,j1,j2⟩:=q5z (inn n zG z)
    have em:=qcr ndL j2;have ndL':(L.eraseIdx j).Nodup:=ndL.sublist (List.eraseIdx_sublist L j);have kn:∀k∈row,(k:Int)≠(n:Int):=λk hk y=>nd'.1 (by rw[<- show k=n by omega];exact hk);obtain⟨L',y6,ih,ih2⟩:=q74 hb A (x0:=x0) (x1:=x1) (x3:=x3) row (Y9 (arA h l bs F) n) fin (L.eraseIdx j) ↥(mvN bs.length (arA h l bs F) n) t nd'.2 (λk hk=>lt k (zH _ hk)) ndL' (λk hk hkb=>(em k).mpr ⟨inn k (zH _ hk) hkb,kn k hk⟩);refine⟨L',y6,?_,λy hy=>?_⟩
    ·have rm:=λω=>qg0 (i:=5) (ω:=ω) j1
     have ni:oIn true (.int (n:Int)) (.lst (L.map D.int))=↥(.bl false):=by
      rw[qeP,vU (inn n zG z)];rfl
     have eb:qL [x0,x1,↥(.lst (bs.map Yp)),x3,↥(.int here),some (.ow (L.map D.int)),↥(mvN bs.length (arA h l bs F) n)]=some (.nx,[x0,x1,↥(.lst (bs.map Yp)),x3,↥(.int (Y9 (arA h l bs F) n)),some (.ow ((L.eraseIdx j).map D.int)),↥(mvN bs.length (arA h l bs F) n)]):=by
      unfold qL;rw[q4i z]at lm ⊢;have a1:atI [D.str "box", .int (n:Int),.int (Y6 (arA h l bs F) n),.int (Y9 (arA h l bs F) n)] (-1)=some (.int (Y9 (arA h l bs F) n)):=rfl;simp_arith[lm,qee,ni,rm,a1]
     show YL (some [x0,x1,↥(.lst (bs.map Yp)),x3,↥(.int here),some (.ow (L.map D.int)),↥(mvN bs.length (arA h l bs F) n)]) _=_;rw[yA,eb];exact ih
    ·obtain⟨a1,a2⟩:=ih2 y hy
     obtain⟨b1,b2⟩:=(em y).mp a1;refine⟨b1,λk hk hkb=>?_⟩;rcases zF.mp hk with rfl|hk
     ·exact b2
     ·exact a2 k hk hkb
   ·obtain⟨L',y6,ih,ih2⟩:=q74 hb A (x0:=x0) (x1:=x1) (x3:=x3) row (Y9 (arA h l bs F) n) fin L ↥(mvN bs.length (arA h l bs F) n) t nd'.2 (λk hk=>lt k (zH _ hk)) ndL (λk hk=>inn k (zH _ hk))
    refine⟨L',y6,?_,λy hy=>?_⟩
    ·have eb:qL [x0,x1,↥(.lst (bs.map Yp)),x3,↥(.int here),some (.ow (L.map D.int)),↥(mvN bs.length (arA h l bs F) n)]=some (.nx,[x0,x1,↥(.lst (bs.map Yp)),x3,↥(.int (Y9 (arA h l bs F) n)),some (.ow (L.map D.int)),↥(mvN bs.length (arA h l bs F) n)]):=by
      unfold qL;rw[q6l z]at lm ⊢;have a1:atI [D.str "go", .int (Y6 (arA h l bs F) n),.int (Y9 (arA h l bs F) n)] (-1)=some (.int (Y9 (arA h l bs F) n)):=rfl;simp_arith[lm,qbE,a1]
     show YL (some [x0,x1,↥(.lst (bs.map Yp)),x3,↥(.int here),some (.ow (L.map D.int)),↥(mvN bs.length (arA h l bs F) n)]) _=_;rw[yA,eb];exact ih
    ·obtain⟨a1,a2⟩:=ih2 y hy
     refine⟨a1,λk hk hkb=>?_⟩;rcases zF.mp hk with rfl|hk
     ·exact vP hkb z
     ·exact a2 k hk hkb
theorem qd5{h l:Int}{bs:List (Int×Int)}{F:List Eg}(hb:Bd h l bs)(A:FoA h l bs F){q:List Nat}(q2:q.Perm (zb (arA h l bs F).length))(q3:Wlk (arA h l bs F) h q l):
  qP [.int h,.int l,.lst (bs.map Yp),.lst (q.map (mvN bs.length (arA h l bs F)))]=↥(.bl true):=by
 have hn:=hb.n;unfold qP q1t;have hrng:zAS [.int (bs.length:Int)]=some (.fr ((WU 0 bs.length).map D.int)):=by
  rw[qa7 ⟨∅,∅⟩,yi]
 have mr:∀y,y∈WU 0 bs.length↔∃n:Nat,n<bs.length/\y=(n:Int):=λy=>by
  unfold WU;rw[yB]
  constructor
  ·rintro⟨n,hn,rfl⟩;exact⟨n,yK.mp hn,∅⟩
  ·rintro⟨n,hn,rfl⟩;exact⟨n,yK.mpr hn,∅⟩
 have nr:(WU 0 bs.length).Nodup:=by
  unfold WU YY;rw[wO];exact wU.imp λz e=>z ∅
 obtain⟨L',y6,e,he⟩:=q74 hb A (x0:=↥(.int h)) (x1:=↥(.int l)) (x3:=↥(.lst (q.map (mvN bs.length (arA h l bs F))))) q h l (WU 0 bs.length) none q3 (q2.nodup_iff.mpr wU) (λn hn=>yK.mp (q2.mem_iff.mp hn)) nr λn _ hnb=>(mr _).mpr ⟨n,hnb,rfl⟩;have hL:L'=[]:=by
  cases L' with
  | nil=>rfl
  | cons y L'=>
   exfalso;obtain⟨a1,a2⟩:=he y zG;obtain⟨n,hnb,rfl⟩:=(mr y).mp a1;refine a2 n (q2.mem_iff.mpr (yK.mpr ?_)) hnb rfl;unfold arA;rw[zC];omega
 subst hL;have en:oEq false (.lst []) (.lst [])=↥(.bl true):=rfl;simp_arith -implicitDefEqProofs [hrng,e,en]
theorem qbY{l m:List Int}:∀(_:l.Nodup)(_:∀x∈l,x∈m),l.length<=m.length:=by
 induction l generalizing m with
 | nil=>intro _ _;exact zy _
 | cons a l ih=>
  intro nd h;have nd':=yN.mp nd;have ha:=h a zG;have:=ih (m:=m.erase a) nd'.2 λx hx=>(Zq (λ(e:x=a)=>nd'.1 (by rw[<- e];exact hx))).mpr (h x (zH _ hx));rw[ZO ha]at this;have:=Zc ha;rw[zL];omega
noncomputable def pl24:List Int:=(zb 12).flatMap λj:Nat=>[7*(j:Int),7*(j:Int)+1]
theorem in24{a b:Int}(ha:0<=a/\a<12)(hb:b=0\/b=1):a*7+b∈pl24:=by
 unfold pl24;refine yg.mpr ⟨a.toNat,yK.mpr ∅,?_⟩;rw[show ((a.toNat:Nat):Int)=a by omega];rcases hb with rfl|rfl
 ·exact zF.mpr (.inl ∅)
 ·exact zH _ (zS.mpr ∅)
theorem qeq{h l:Int}{bs:List (Int×Int)}(hn:bs.length<=100)(m:List Int)(hm:m.length<=60)(hb:∀b∈bs,b.1∈m/\b.2∈m):Bd h l bs:=by
 refine⟨hn,?_⟩;have:(Y5 (plc h l bs)).length<=(h::l::m).length:=qbY ((q0A (ns:=plc h l bs)).imp λh=>∅) λx hx=>by
  have hx:=q1J.mp hx;unfold plc flat at hx;simp only[zF,yg,zi,or_false]at hx ⊢;rcases hx with e|e|⟨b,hbm,e|e⟩
  ·exact .inl e
  ·exact .inr (.inl e)
  ·exact .inr (.inr (e▸(hb b hbm).1))
  ·exact .inr (.inr (e▸(hb b hbm).2))
 rw[zL,zL]at this;omega
theorem qa6{ns:List Int}{h l cell:Int}{bs:List (Int×Int)}{x5:Option W}(hb:Bd h l bs):outM (zBz (some (.nx,[↥(.scr ns),↥(.int h),↥(.int l),↥(.lst (bs.map Yp)),↥(.int cell),x5,none,none])) (Yx (XF 6 (eOf (dOf (Xj zAu (Yg (vOf (Yi 3)) Yq)))))
  (Yx (XF 7 (eOf (dOf (Yr q3j (Yg (dOf (Yi 1)) (Yg (dOf (Yi 2)) (Yg (dOf (Yi 6)) Yq)))))))
  (Yx (sIf (W7 (tOf (Yn (oEq true) (vOf (Yi 6)) (vOf (Yi 3)))) (XZ (WY (vOf (Yr qP (Yg (dOf (Yi 1)) (Yg (dOf (Yi 2)) (Yg (dOf (Yi 3)) (Yg (dOf (Yi 7)) Yq))))))))) (Y8 (eOf (fC (.bl false)))) Xq)
  (Y8 (Yn (oIs false) (vOf (Yr q0V (Yg (dOf (Yi 1)) (Yg (dOf (Yi 2)) (Yg (dOf (Yi 3)) (Yg (dOf (Yi 7)) Yq)))))) (fC (.bl true))))))))=↥(.bl true):=by
 obtain⟨F,A⟩:=qhu hb;obtain⟨q,q1,q2,q3⟩:=qfA hb A;have t1:=qd5 hb A q2 q3;have t2:=qaZ hb A q2 q3;have ne:=q5Q (show shp (.lst (bs.map Yp))=true from qeA bs);simp_arith -implicitDefEqProofs [zAu,q1,ne,t1,t2]
theorem qea(ns:List Int)(hl:ns.length<=63):q5g [.scr ns]=↥(.bl true):=by
 obtain⟨h,l,bs,he,hb14⟩:=errand (ns:=ns) (most:=14) (by decide) (by decide);have hc:=q7v (ns:=ns) (k:=23) (by decide);generalize ns.getD (23:Int).toNat 0=cell at hc;unfold q5g qbe
 by_cases z:cell%8=5
 ·have z':(cell%8==5)=true:=by simpa using z
  have hr:rg1I (some [.int (60+cell/8%11)])=some (upTo 0 (60+cell/8%11).toNat):=qef ⟨∅,∅⟩;have hl':(upTo 0 (60+cell/8%11).toNat).length<=1000000:=by rw[q8q];omega
  have cm:Xc (gN 0) Xk q6T (upTo 0 (60+cell/8%11).toNat) [none,↥(.int (1+cell/8%11)),↥(.int cell)]=some (((zb (60+cell/8%11).toNat).map λk:Nat=>(((k:Int)*(1+cell/8%11)%12*7,((k:Int)+cell/88)%12*7+(k:Int)%2):Int×Int)).map Yp):=by
   unfold Hk.upTo;rw[yb];refine q0D (i:=0) (f:=q6T) (λk:Nat=>D.int (0+(k:Int))) _ (zb (60+cell/8%11).toNat) λk hk=>?_;have hk:=yK.mp hk;unfold q6T;have m1:zA6 (.int (k:Int)) (.int (1+cell/8%11))=↥(.int ((k:Int)*(1+cell/8%11))):=q95 ∅ ∅;have m2:∀x:Int,zA6 (.int x) (.int 7)=↥(.int (x*7)):=λx=>q9p (by decide) (by decide);have o12:∀x:Int,oMod (.int x) (.int 12)=↥(.int (x%12)):=λx=>q0d (by decide);have o2:∀x:Int,oMod (.int x) (.int 2)=↥(.int (x%2)):=λx=>q0d (by decide);have o88:∀x:Int,oDiv (.int x) (.int 88)=↥(.int (x/88)):=λx=>q0Y (by decide) (by decide);simp_arith -implicitDefEqProofs [Int.zero_add,m1,m2,o12,o2,o88];rfl
  have bl:((zb (60+cell/8%11).toNat).map λk:Nat=>(((k:Int)*(1+cell/8%11)%12*7,((k:Int)+cell/88)%12*7+(k:Int)%2):Int×Int)).length<=100:=by rw[zB,zo];omega
  have bm:∀b∈((zb (60+cell/8%11).toNat).map λk:Nat=>(((k:Int)*(1+cell/8%11)%12*7,((k:Int)+cell/88)%12*7+(k:Int)%2):Int×Int)),b.1∈pl24/\b.2∈pl24:=λb hb=>by
   obtain⟨k,_,rfl⟩:=yB.mp hb
   dsimp only
   generalize (k:Int)*(1+cell/8%11)=u;refine⟨?_,in24 ∅ ∅⟩;have:=in24 (a:=u%12) (b:=0) ∅ (.inl rfl);rw[Int.add_zero]at this;exact this
  generalize ((zb (60+cell/8%11).toNat).map λk:Nat=>(((k:Int)*(1+cell/8%11)%12*7,((k:Int)+cell/88)%12*7+(k:Int)%2):Int×Int))=cs at cm bl bm;have o8:∀x:Int,oMod (.int x) (.int 8)=↥(.int (x%8)):=λx=>q0d (by decide);have o11:∀x:Int,oMod (.int x) (.int 11)=↥(.int (x%11)):=λx=>q0d (by decide);have d8:∀x:Int,oDiv (.int x) (.int 8)=↥(.int (x/8)):=λx=>q0Y (by decide) (by decide);simp_arith -implicitDefEqProofs [he,hc,o8,o11,d8,z',hr,zAF hl',inW,zAv,cm];have ra:=qa6 (ns:=ns) (cell:=cell) (x5:=↥(.int (1+cell/8%11))) (qeq (h:=h) (l:=l) bl pl24 ⋯ bm);simp -implicitDefEqProofs only[q2r,q2w,q3s,q4O,q4b,q2X,e_wd,q4a,e_wz,q4e,q3p,q4j,q3o,q6d,q4H,q4s,q6C,q6W,q6S,q4v,q70,q2N,q3k,q6m,q6q,q6e,q6s,q3e,q2L,q03,q33,q2V,q6f,q6c,q34,q2Q,e_if,q4z,q42,q6r,q3a,q3q,q4K,q2J,q6h,zAz,q6U,q2W,q2e,q38,q2R,q6K,e_fs,q68,e_ag,e_gn,e_gt,e_gc,e_g0,q6a,q3r,q3g,e_c,e_e,e_ed,e_d,q36,q39,e_v,q3t,q3l,q37,e_op,e_o2,q4S,e_cl,q3b,q2Y,e_ac,e_ca,e_an,q6n,q6H,q6M,e_bl,q6b,e_sl,e_po,e_pa,e_ap,q6I,q4f,q4g,q6Q,q1F,q1E,q1H,e_t,e_tr,q4J,e_ta,q6P,q6p,e_to,q6V,q4G,e_tn,q4d,q3h,q2c,q4y,e_va,q6o,q6E,e_vo,q4U,q4T,q4m,q64,q4A,zAF,q6w,e_ng,q2K,q2T,q3c,q2i,q32,q4Y,q4u,q2Z,q45,q4I,q4Z,q49,q2P,q47,q6B,q72,q6O,at0,at1,at2,q0d,q0Y,zAr,entry,yA,yd,zL,yz,zB,zc,yP,xu,yE,z8,yw,xk,xl,yX,yj,wX,wY,wu,wv,ww,wZ,wb,wc,wd,we,wf,wg,wj,wE,↓reduceIte,wC,wk,xg,xo,xi,wK,wB,wx,xb,wN,yq,beq_self_eq_true,zv]at ra;exact ra
 ·have z':(cell%8==5)=false:=by simpa using z
  have o8:∀x:Int,oMod (.int x) (.int 8)=↥(.int (x%8)):=λx=>q0d (by decide);simp_arith -implicitDefEqProofs [he,hc,o8,z'];have fl:(flat bs).length<=60:=by rw[q5J];omega
  have ra:=qa6 (ns:=ns) (cell:=cell) (x5:=none) (qeq (h:=h) (l:=l) (bs:=bs) ∅ (flat bs) fl λb hb=>⟨yg.mpr ⟨b,hb,by simp⟩,yg.mpr ⟨b,hb,by simp⟩⟩);simp -implicitDefEqProofs only[q2r,q2w,q3s,q4O,q4b,q2X,e_wd,q4a,e_wz,q4e,q3p,q4j,q3o,q6d,q4H,q4s,q6C,q6W,q6S,q4v,q70,q2N,q3k,q6m,q6q,q6e,q6s,q3e,q2L,q03,q33,q2V,q6f,q6c,q34,q2Q,e_if,q4z,q42,q6r,q3a,q3q,q4K,q2J,q6h,zAz,q6U,q2W,q2e,q38,q2R,q6K,e_fs,q68,e_ag,e_gn,e_gt,e_gc,e_g0,q6a,q3r,q3g,e_c,e_e,e_ed,e_d,q36,q39,e_v,q3t,q3l,q37,e_op,e_o2,q4S,e_cl,q3b,q2Y,e_ac,e_ca,e_an,q6n,q6H,q6M,e_bl,q6b,e_sl,e_po,e_pa,e_ap,q6I,q4f,q4g,q6Q,q1F,q1E,q1H,e_t,e_tr,q4J,e_ta,q6P,q6p,e_to,q6V,q4G,e_tn,q4d,q3h,q2c,q4y,e_va,q6o,q6E,e_vo,q4U,q4T,q4m,q64,q4A,zAF,q6w,e_ng,q2K,q2T,q3c,q2i,q32,q4Y,q4u,q2Z,q45,q4I,q4Z,q49,q2P,q47,q6B,q72,q6O,at0,at1,at2,q0d,q0Y,zAr,entry,yA,yd,zL,yz,zB,zc,yP,xu,yE,z8,yw,xk,xl,yX,yj,wX,wY,wu,wv,ww,wZ,wb,wc,wd,we,wf,wg,wj,wE,↓reduceIte,wC,wk,xg,xo,xi,wK,wB,wx,xb,wN,yq,beq_self_eq_true,zv]at ra;exact ra
theorem qgZ{l:Zg}{w:vZ}{K:zA}{h:vj}{mg:Str->Option vB}{fa:vJ}(X:K.In h)(G:h.Ns vY mg)(hfa:mg "law" = some (.ref fa)){f0:vJ}{f1:vJ}{f2:vJ}{f3:vJ}{f4:vJ}{f5:vJ}{f6:vJ}{f7:vJ}{f8:vJ}{f9:vJ}{f10:vJ}{f11:vJ}{f12:vJ}{f13:vJ}{f14:vJ}{f15:vJ}{f16:vJ}{f17:vJ}{f18:vJ}{f19:vJ}{f20:vJ}{f21:vJ}{f22:vJ}{f23:vJ}{f24:vJ}{f25:vJ}{f26:vJ}{f27:vJ}{f28:vJ}{f29:vJ}{f30:vJ}{f31:vJ}{f32:vJ}{f33:vJ}{f34:vJ}{f35:vJ}{f36:vJ}{f37:vJ}{f38:vJ}{f39:vJ}{f40:vJ}(D0:Fd K "is_whole" q3F f0)(D1:Fd K "is_box" q5S f1)(D2:Fd K "is_errand" q2G f2)(D3:Fd K "check_errand" q1n f3)(D4:Fd K "stops" q7o f4)(D5:Fd K "gaps" q90 f5)(D6:Fd K "gap_edges" q2z f6)(D7:Fd K "leads_over" q2q f7)(D8:Fd K "crossed" q4Q f8)(D9:Fd K "lack" q8v f9)(D10:Fd K "lacks" q7j f10)(D11:Fd K "neighbours" q28 f11)(D12:Fd K "group_of" q3L f12)(D13:Fd K "groups" q63 f13)(D14:Fd K "knots" q76 f14)(D15:Fd K "cost" q8R f15)(D16:Fd K "group_numbers" q19 f16)(D17:Fd K "with_two_joined" q0G f17)(D18:Fd K "forest" q5A f18)(D19:Fd K "numbers_by_start" q01 f19)(D20:Fd K "as_many_begin_as_end" q06 f20)(D21:Fd K "round_from" q0x f21)(D22:Fd K "row_of" q5P f22)(D23:Fd K "row_between" q1P f23)(D24:Fd K "is_go" q7e f24)(D25:Fd K "has_carry_form" q0M f25)(D26:Fd K "is_carry" q3R f26)(D27:Fd K "is_move" q4l f27)(D28:Fd K "leads" q78 f28)(D29:Fd K "is_tour" q4V f29)(D30:Fd K "lacking_arcs" q1i f30)(D31:Fd K "forest_arcs" q1U f31)(D32:Fd K "move_along" q2o f32)(D33:Fd K "tour" q8G f33)(D34:Fd K "_law_cell_at" q1z f34)(D35:Fd K "_law_whole" q2f f35)(D36:Fd K "_law_place" q2n f36)(D37:Fd K "_law_errand" q1T f37)(D38:Fd K "_law_is_move" q1y f38)(D39:Fd K "_law_is_tour" q1o f39)(D40:Fd K "law" q5d f40)(z_isinstance:yS K vY "isinstance" = some none)(z_bool:yS K vY "bool" = some none)(z_int:yS K vY "int" = some none)(z_len:yS K vY "len" = some none)(z_tuple:yS K vY "tuple" = some none)(z_list:yS K vY "list" = some none)(z_all:yS K vY "all" = some none)(z_sorted:yS K vY "sorted" = some none)(z_set:yS K vY "set" = some none)(z_zip:yS K vY "zip" = some none)(z_enumerate:yS K vY "enumerate" = some none)(z_reversed:yS K vY "reversed" = some none)(z_range:yS K vY "range" = some none)(z_abs:yS K vY "abs" = some none)(z_str:yS K vY "str" = some none)(i_int:IsT K .int)(i_bool:IsT K .bl)(i_tuple:IsT K .tup)(i_list:IsT K .lst)(i_str:IsT K .str): ∃fd:vQ,(∀(s:vF)(v:vB),sG s fd ⟨[v],[]⟩ [("script", v)])/\∀base:vj,K.In base->base.Ns vY mg->FnOk l.prog w K mg base CX0 11 fa fd ["script"] (spD K 1 q5g):=by
 have e:=hfa.symm.trans (ZL X G D40.1);cases e;obtain⟨d0,F0⟩:=D0.2;obtain⟨d1,F1⟩:=D1.2;obtain⟨d2,F2⟩:=D2.2;obtain⟨d3,F3⟩:=D3.2;obtain⟨d4,F4⟩:=D4.2;obtain⟨d5,F5⟩:=D5.2;obtain⟨d6,F6⟩:=D6.2;obtain⟨d7,F7⟩:=D7.2;obtain⟨d8,F8⟩:=D8.2;obtain⟨d9,F9⟩:=D9.2;obtain⟨d10,F10⟩:=D10.2;obtain⟨d11,F11⟩:=D11.2;obtain⟨d12,F12⟩:=D12.2;obtain⟨d13,F13⟩:=D13.2;obtain⟨d14,F14⟩:=D14.2;obtain⟨d15,F15⟩:=D15.2;obtain⟨d16,F16⟩:=D16.2;obtain⟨d17,F17⟩:=D17.2;obtain⟨d18,F18⟩:=D18.2;obtain⟨d19,F19⟩:=D19.2;obtain⟨d20,F20⟩:=D20.2;obtain⟨d21,F21⟩:=D21.2;obtain⟨d22,F22⟩:=D22.2;obtain⟨d23,F23⟩:=D23.2;obtain⟨d24,F24⟩:=D24.2;obtain⟨d25,F25⟩:=D25.2;obtain⟨d26,F26⟩:=D26.2;obtain⟨d27,F27⟩:=D27.2;obtain⟨d28,F28⟩:=D28.2;obtain⟨d29,F29⟩:=D29.2;obtain⟨d30,F30⟩:=D30.2;obtain⟨d31,F31⟩:=D31.2;obtain⟨d32,F32⟩:=D32.2;obtain⟨d33,F33⟩:=D33.2;obtain⟨d34,F34⟩:=D34.2;obtain⟨d35,F35⟩:=D35.2;obtain⟨d36,F36⟩:=D36.2;obtain⟨d37,F37⟩:=D37.2;obtain⟨d38,F38⟩:=D38.2;obtain⟨d39,F39⟩:=D39.2;obtain⟨_,F40⟩:=D40.2;obtain⟨_,_,kV,dc,pm,an,cd,ct,_,rfl,_,_⟩:=F40.ex;have y_isinstance:=yC X G z_isinstance;have y_bool:=yC X G z_bool;have y_int:=yC X G z_int;have y_len:=yC X G z_len;have y_tuple:=yC X G z_tuple;have y_list:=yC X G z_list;have y_all:=yC X G z_all;have y_sorted:=yC X G z_sorted;have y_set:=yC X G z_set;have y_zip:=yC X G z_zip;have y_enumerate:=yC X G z_enumerate;have y_reversed:=yC X G z_reversed;have y_range:=yC X G z_range;have y_abs:=yC X G z_abs;have y_str:=yC X G z_str;refine⟨xW "law" "law" (Xy q5d) (Xd q5d) (Yk q5d) .none kV dc pm an cd ct,λs v=>.of_eq rfl,λbase _ _=>?_⟩;have C0:=ql l.prog w base X G D0 F0 (q9V F0 y_isinstance y_bool y_int i_int i_bool) λ_ _ _ _ _ _ us hl=>match us,hl with|[_],_=>rfl
 have C1:=ql l.prog w base X G D1 F1 (qcI F1 C0 y_len y_isinstance y_tuple i_tuple) λ_ _ _ _ _ _ us hl=>match us,hl with|[_],_=>rfl
 have C2:=ql l.prog w base X G D2 F2 (q8N F2 C0 C1 y_isinstance y_list y_all i_list) λ_ _ _ _ _ _ us hl=>match us,hl with|[_,_,_],_=>rfl
 have C3:=ql l.prog w base X G D3 F3 (q6z F3 C2) λ_ _ _ _ _ _ us hl=>match us,hl with|[_,_,_],_=>rfl
 have C4:=ql l.prog w base X G D4 F4 (qd8 F4 C3 y_sorted y_set) λ_ _ _ _ _ _ us hl=>match us,hl with|[_,_,_],_=>rfl
 have C5:=ql l.prog w base X G D5 F5 (qfv F5 C4 y_list y_zip) λ_ _ _ _ _ _ us hl=>match us,hl with|[_,_,_],_=>rfl
 have C6:=ql l.prog w base X G D6 F6 (q8I F6 C5) λ_ _ _ _ _ _ us hl=>match us,hl with|[_,_,_],_=>rfl
 have C7:=ql l.prog w base X G D7 F7 (q8a F7) λ_ _ _ _ _ _ us hl=>match us,hl with|[_,_,_],_=>rfl
 have C8:=ql l.prog w base X G D8 F8 (qbd F8 C7 y_len) λ_ _ _ _ _ _ us hl=>match us,hl with|[_,_],_=>rfl
 have C9:=ql l.prog w base X G D9 F9 (qeT F9 C8) λ_ _ _ _ _ _ us hl=>match us,hl with|[_,_,_,_],_=>rfl
 have C10:=ql l.prog w base X G D10 F10 (qcU F10 C5 C9) λ_ _ _ _ _ _ us hl=>match us,hl with|[_,_,_],_=>rfl
 have C11:=ql l.prog w base X G D11 F11 (q89 F11) λ_ _ _ _ _ _ us hl=>match us,hl with|[_,_],_=>rfl
 have C12:=ql l.prog w base X G D12 F12 (q9Q F12 y_sorted) λ_ _ _ _ _ _ us hl=>match us,hl with|[_,_],_=>rfl
 have C13:=ql l.prog w base X G D13 F13 (qcn F13 C11 C12 y_sorted) λ_ _ _ _ _ _ us hl=>match us,hl with|[_,_],_=>rfl
 have C14:=ql l.prog w base X G D14 F14 (qdK F14 C10 C5 y_zip y_list) λ_ _ _ _ _ _ us hl=>match us,hl with|[_,_,_],_=>rfl
 have C15:=ql l.prog w base X G D15 F15 (qfJ F15) λ_ _ _ _ _ _ us hl=>match us,hl with|[_],_=>rfl
 have C16:=ql l.prog w base X G D16 F16 (q5V F16 y_enumerate) λ_ _ _ _ _ _ us hl=>match us,hl with|[_],_=>rfl
 have C17:=ql l.prog w base X G D17 F17 (q4x F17) λ_ _ _ _ _ _ us hl=>match us,hl with|[_,_,_],_=>rfl
 have C18:=ql l.prog w base X G D18 F18 (qbX F18 C16 C13 C15 C17 y_sorted) λ_ _ _ _ _ _ us hl=>match us,hl with|[_,_,_],_=>rfl
 have C19:=q3Y (P:=l.prog) (w:=w) (mg:=mg) (base:=base) F19 y_enumerate;have C20:=ql l.prog w base X G D20 F20 (q2s F20 y_sorted) λ_ _ _ _ _ _ us hl=>match us,hl with|[_],_=>rfl
 have C21:=ql l.prog w base X G D21 F21 (q8b F21 C19 (ZL X G D19.1) F19.kp (F19.binds (ps:=["arcs"]) λ_ _ _ _ _ _ us hl=>match us,hl with|[_],_=>rfl) y_list y_reversed) λ_ _ _ _ _ _ us hl=>match us,hl with|[_,_],_=>rfl
 have C22:=ql l.prog w base X G D22 F22 (qcG F22 C20 C21 y_len) λ_ _ _ _ _ _ us hl=>match us,hl with|[_,_],_=>rfl
 have C23:=ql l.prog w base X G D23 F23 (q75 F23 C22 y_len) λ_ _ _ _ _ _ us hl=>match us,hl with|[_,_,_],_=>rfl
 have C24:=ql l.prog w base X G D24 F24 (qdT F24 C0 y_len y_isinstance y_tuple i_tuple) λ_ _ _ _ _ _ us hl=>match us,hl with|[_],_=>rfl
 have C25:=ql l.prog w base X G D25 F25 (q5l F25 C0 y_len y_isinstance y_tuple y_all i_tuple) λ_ _ _ _ _ _ us hl=>match us,hl with|[_,_],_=>rfl
 have C26:=ql l.prog w base X G D26 F26 (q9z F26 C25) λ_ _ _ _ _ _ us hl=>match us,hl with|[_,_],_=>rfl
 have C27:=ql l.prog w base X G D27 F27 (qbh F27 C26 C24) λ_ _ _ _ _ _ us hl=>match us,hl with|[_,_],_=>rfl
 have C28:=ql l.prog w base X G D28 F28 (qd7 F28) λ_ _ _ _ _ _ us hl=>match us,hl with|[_,_,_],_=>rfl
 have C29:=ql l.prog w base X G D29 F29 (qbj F29 C3 C27 C28 y_all y_isinstance y_list y_sorted y_len y_range i_list) λ_ _ _ _ _ _ us hl=>match us,hl with|[_,_,_,_],_=>rfl
 have C30:=ql l.prog w base X G D30 F30 (q6R F30 C10 C5 y_zip y_abs) λ_ _ _ _ _ _ us hl=>match us,hl with|[_,_,_],_=>rfl
 have C31:=ql l.prog w base X G D31 F31 (q7n F31 C4 C18 C6 C14) λ_ _ _ _ _ _ us hl=>match us,hl with|[_,_,_],_=>rfl
 have C32:=ql l.prog w base X G D32 F32 (q8d F32 y_len) λ_ _ _ _ _ _ us hl=>match us,hl with|[_,_,_],_=>rfl
 have C33:=ql l.prog w base X G D33 F33 (qfc F33 C30 C31 C23 C32) λ_ _ _ _ _ _ us hl=>match us,hl with|[_,_,_],_=>rfl
 have C34:=ql l.prog w base X G D34 F34 (q6u F34 y_len) λ_ _ _ _ _ _ us hl=>match us,hl with|[_,_],_=>rfl
 have C35:=ql l.prog w base X G D35 F35 (q8e F35 y_isinstance y_bool y_int i_int i_bool) λ_ _ _ _ _ _ us hl=>match us,hl with|[_],_=>rfl
 have C36:=ql l.prog w base X G D36 F36 (q88 F36) λ_ _ _ _ _ _ us hl=>match us,hl with|[_],_=>rfl
 have C37:=ql l.prog w base X G D37 F37 (q7g F37 C34 C36 y_range y_len) λ_ _ _ _ _ _ us hl=>match us,hl with|[_,_],_=>rfl
 have C38:=ql l.prog w base X G D38 F38 (q6D F38 C35 y_isinstance y_str y_len y_tuple i_str i_tuple) λ_ _ _ _ _ _ us hl=>match us,hl with|[_,_,_],_=>rfl
 have C39:=ql l.prog w base X G D39 F39 (q6t F39 C38 y_isinstance y_list y_len y_range i_list) λ_ _ _ _ _ _ us hl=>match us,hl with|[_,_,_,_],_=>rfl
 exact qfW F40 C37 C34 C33 C39 C29 y_range y_list
theorem walk{l:Zg}{q:vW}{loose:List Str}{XP:(Str->Option vB)->vj->Prop}{YP:vZ->vj->Prop}{d:DefRec}{K:Params->zA}(hn:l.most=some 63)(hdf:d.params.defaults=[])(hY:∀(w:vZ)(h:vj),YP w h->(K w.params).In h)(F:∀(w:vZ)(mg:Str->Option vB)(fa:vJ)(h:vj),(K w.params).In h->h.Ns vY mg->mg d.name=some (.ref fa) ->
   ∃fd:vQ,(∀(s:vF)(u:vB),sG s fd ⟨[u],[]⟩ [("script", u)])/\∀base:vj,(K w.params).In base->base.Ns vY mg->FnOk l.prog w (K w.params) mg base CX0 11 fa fd ["script"] (spD (K w.params) 1 q5g)) :
  YZ q loose XP YP l.row.toRowW d [] (λf vs=>PySem.call f vs) :=
 L2.qaw (n:=63) (k:=11) (x := "script") (CX:=λ_=>CX0) (sp:=λw=>spD (K w.params) 1 q5g) hn (by decide) hdf ⟨rfl,by decide,by decide⟩ hY F
  (λ_ H a ns hl _ hS=>⟨H,[.scr ns],.sh (.bl true),qea ns hl,rfl,Y0.refl _,⟨.ref a,[],rfl,⟨a,rfl,hS⟩,rfl⟩,λ_ _ _ _ y=>y⟩) λ_ _ _ _ _ z=>z
end Kx
namespace PySem.W.Fast
def tw5580851382549713553:=0
def tw1171410019365804954:=0
def tw14103787007670197054:=0
def tw12166532722281770681:=0
def tw11620722397917648751:=0
def tw7016496818452948008:=0
def tw62294665203184451:=0
def tw16098851616256883827:=0
def tw12122013149787749203:=0
def tw13839234100512960820:=0
def tw12054016522762403333:=0
def tw10250777866099169209:=0
def tw8812470150736820628:=0
def tw4703495102849928258:=0
def tw13770131389907424924:=0
def tw4585306631802514491:=0
def tw14732919536982108962:=0
def tw12337912014850547174:=0
def tw11478246418386071421:=0
def tw17396306113052108092:=0
def tw1849708435714455651:=0
def tw10001009540670153962:=0
def tw17471571670053166125:=0
def tw11158081424912045676:=0
def tw10505009510797791136:=0
def tw7077329368865624925:=0
def tw10643448679941347033:=0
def tw196691301193188621:=0
def tw18163651818133273318:=0
def tw14548452118940325289:=0
def tw121024464607299760:=0
def tw14108146025774895669:=0
def tw12111033764543631401:=0
def tw3228625427775190806:=0
def tw5381391608916455949:=0
def tw1051188851873050850:=0
def tw9909934594713122618:=0
def tw9583512579384501804:=0
def tw8483702658993535029:=0
def tw9159282435711796908:=0
def tw13072181870472510626:=0
def tw1697480325106491152:=0
def tw1705066709155563569:=0
def tw1488840898184745833:=0
def tw13136782133695991713:=0
def tw13965749640831654731:=0
def tw4812547631770289275:=0
def tw11284196588346228887:=0
def tw11570281608519389756:=0
def tw1171790220696304065:=0
def tw5310243160693203304:=0
def tw9819171113885379829:=0
def tw13063209640289435191:=0
def tw5061886766726764424:=0
def tw606607470716276132:=0
def tw5735769453738649970:=0
def tw15742620038317763108:=0
def tw17709998101402836295:=0
def tw2803087907617070972:=0
def tw12006434540595742016:=0
def tw526198462736019959:=0
def tw12526635480997346203:=0
def tw12511230020404676195:=0
def tw5356000784877722735:=0
def tw9232280347291995894:=0
def tw13837246762825276818:=0
def tw13311881617012698513:=0
def tw16125844314459794998:=0
def tw17828836343932132056:=0
def tw9934149110414995646:=0
def tw15363974684894741133:=0
def tw915794119198950658:=0
def tw2894752722188802207:=0
def tw17220348956199648773:=0
def tw1857850089545715371:=0
def tw14129265784190089728:=0
def tw13808577229948662031:=0
def tw12412506525264439019:=0
def tw17072609272396558023:=0
def tw13093563784911186446:=0
def tw7141701160605284146:=0
def tw13896265279123847700:=0
def tw9508730481758194798:=0
def tw16633423067197696380:=0
def tw3271418127166438384:=0
def tw10724302793894159352:=0
def tw5775955038053144465:=0
def tw9277901545686667383:=0
def tw8846912529630698290:=0
def tw161433817955834890:=0
def tw5796952830072843082:=0
def tw780646404589574000:=0
def tw6114648730443580923:=0
def tw898363446883714491:=0
def tw16699804028801165413:=0
def tw6222913597760092559:=0
def tw2084207991562854416:=0
def tw6898139892401816086:=0
def tw12162741164411378890:=0
def tw17148984179931035954:=0
def tw15919189488164682108:=0
def tw5298633708324890115:=0
def tw12752755956362260644:=0
def tw10233066644021935787:=0
def tw1415525239944293630:=0
def tw11745665738631814346:=0
def tw7497258169898108468:=0
def tw5657002849554078564:=0
def tw17133462594814337395:=0
def tw12969746706652054447:=0
def tw2808295716664321779:=0
def tw10695106677801388320:=0
def tw13911404717923592157:=0
def tw6980747699109919676:=0
def tw7418120940704779770:=0
def tw2134054276750094995:=0
def tw9733068247600379291:=0
def tw9731215691341718416:=0
def tw7650152474219468311:=0
def tw12915306557262565533:=0
def tw645082798840701131:=0
def tw10913161279085508493:=0
def tw14270590559310522260:=0
def tw3739860787336848012:=0
def tw6320679193591632924:=0
def tw15271092475410389206:=0
def tw10611683958923902649:=0
def tw8141537708000841033:=0
def tw14609521064418724138:=0
def tw9502449004867183213:=0
def tw10185000759677681148:=0
def tw13632054658200879521:=0
def tw2137268579877277867:=0
def tw588982690554828610:=0
def tw15987508698520882588:=0
def tw9900705467983975636:=0
def tw17293705286048671225:=0
def tw7573852348953998867:=0
def tw1334954230706322667:=0
def tw6274541622420009896:=0
def tw7882110767001295479:=0
def tw14796198314136777763:=0
def tw16660430585318502534:=0
def tw2949071491197776994:=0
def tw13812277464017097151:=0
def tw2989434358251059451:=0
def tw14535365984391635137:=0
def tw15729765141975793374:=0
def tw296293443218463347:=0
def tw11433481656069535479:=0
def tw3529905630685715158:=0
def tw11775772488535452369:=0
def tw13416389737009751526:=0
def tw4833302677020981079:=0
def tw4110473656038341447:=0
def tw9015218853858525194:=0
def tw567218274626592188:=0
def tw13352751490469092276:=0
def tw12915935554419204882:=0
def tw14711217648543274137:=0
def tw13932869663136732669:=0
def tw15172135414307963299:=0
def tw16185255390862096385:=0
def tw1225452971612755435:=0
def tw13967092179507722234:=0
def tw7477796441207847296:=0
def tw12884509549289742434:=0
def tw14009593881670945146:=0
def tw3999085405959526764:=0
def tw15878160159861118432:=0
def tw12292598879756016410:=0
def tw525877027862946294:=0
def tw7094723001354545991:=0
def tw17783056869759526595:=0
def tw356045693592958960:=0
def tw4037901635658906735:=0
def tw3332334219603283068:=0
def tw5829708235237298940:=0
def tw7178169529773601813:=0
def tw18241757725550211393:=0
def tw414453336794511011:=0
def tw3607202594868945322:=0
def tw14498336236358606579:=0
def tw12850149627780325621:=0
def tw8040715259458801433:=0
def tw6238973411457328768:=0
def tw11634755190071110280:=0
def tw4101869653428340455:=0
def tw6975713234717920515:=0
def tw8037387235730593242:=0
def tw18274133510657889:=0
def tw2456433645049265096:=0
def tw5617773820634084121:=0
def tw14072972711197229478:=0
def tw394554088854734582:=0
def tw10388334450216682593:=0
def tw14691189514441020405:=0
def tw18153222388979797651:=0
def tw12326276082173887739:=0
def tw10824681976671836201:=0
def tw16488023051041359787:=0
def tw16648912757837851617:=0
def tw15361629790731241021:=0
def tw7991568694290723986:=0
def tw2764531873557237738:=0
def tw12176295648214388735:=0
def tw9201198362650999690:=0
def tw9262528422942906101:=0
def tw15252648948885665607:=0
def tw3622262737952207652:=0
def tw8633221277425432762:=0
def tw17706832150803887290:=0
def tw5971501132460942562:=0
def tw3746900005422729206:=0
def tw8721745332283876347:=0
def tw17321014267801871493:=0
def tw13955072689327464637:=0
def tw5717004630870913424:=0
def tw15913949933787603127:=0
def tw6854219903254458946:=0
def tw8354501771994695938:=0
def tw7768293576006117279:=0
def tw16720254067273773495:=0
def tw13642943239566026209:=0
def tw17500323216363637097:=0
def tw7478973133873446166:=0
def tw7183648141333908904:=0
def tw1146564959328650124:=0
def tw579895999562116012:=0
def tw4623712665006132284:=0
def tw3583990921045411539:=0
def tw1472348932950930723:=0
def tw16515961308770420732:=0
def tw18213514987417791087:=0
def tw13597143302727393273:=0
def tw4603226679874653607:=0
def tw10572652231252636465:=0
def tw2748301556999084583:=0
def tw8086148974402848289:=0
def tw14842162499831524343:=0
def tw365604911697149423:=0
def tw5834338072448080408:=0
def tw11976734832600089616:=0
def tw5733221618553358036:=0
def tw6481903172177229366:=0
def tw8927740312117035563:=0
def tw6220814993971542394:=0
def tw5813753852690817415:=0
def tw8746683942208119581:=0
def tw10370541244885795591:=0
def tw11661258723417647934:=0
def tw16216566643522734152:=0
def tw12743414466325013759:=0
def tw16927001474907220779:=0
def tw17585408401646741058:=0
def tw1757361682008080151:=0
def tw4828192056895034952:=0
def tw18330658549165327688:=0
def tw16189208161169215:=0
def tw5490155546807164147:=0
def tw2832874936761530077:=0
def tw1723816784536430081:=0
def tw3211814522704391298:=0
def tw5733911224883107860:=0
def tw13051227748697565664:=0
def tw8801451918538109049:=0
def tw2713800245886447532:=0
def tw313362499422051811:=0
def tw5287465404004774273:=0
def tw17879208630714677723:=0
def tw13926193295317375694:=0
def tw8406777929941343810:=0
def tw5253055564179221452:=0
def tw2237221883311934862:=0
def tw8285434882938646843:=0
def tw7572313881410810750:=0
def tw944929491539362728:=0
def tw15622172435756992613:=0
def tw1019996612497537389:=0
def tw17114963870047008785:=0
def tw18311670307372353920:=0
def tw10697493170919173048:=0
def tw3546849976853288304:=0
def tw3003813449415710232:=0
def tw259496091538168950:=0
def tw9893896199028501788:=0
def tw3383995885324506882:=0
def tw11460671490197983414:=0
def tw15936981754183402101:=0
end PySem.W.Fast
open PySem PySem.W PyProof.Rows
set_option maxRecDepth 100000 in
set_option maxHeartbeats 0 in
theorem PySem.Challenge.cw_hookrail_k34_the_told_tour_holds : PySem.Challenge.rw_hookrail_k34_the_told_tour.Holds := by
 w_on;o_law;k_head;(case hw=>w_witness2)
 k_fill
 refine Kx.walk (l:=PySem.Challenge.rw_hookrail_k34_the_told_tour) rfl rfl (λw h Y=>YS Y) ?F
 case F =>
  intro w mg fa h KX G hmg;refine' Kx.qgZ KX G hmg ?D0 ?D1 ?D2 ?D3 ?D4 ?D5 ?D6 ?D7 ?D8 ?D9 ?D10 ?D11 ?D12 ?D13 ?D14 ?D15 ?D16 ?D17 ?D18 ?D19 ?D20 ?D21 ?D22 ?D23 ?D24 ?D25 ?D26 ?D27 ?D28 ?D29 ?D30 ?D31 ?D32 ?D33 ?D34 ?D35 ?D36 ?D37 ?D38 ?D39 ?D40 ?z_isinstance ?z_bool ?z_int ?z_len ?z_tuple ?z_list ?z_all ?z_sorted ?z_set ?z_zip ?z_enumerate ?z_reversed ?z_range ?z_abs ?z_str ?i_int ?i_bool ?i_tuple ?i_list ?i_str
  (case D0|D1|D2|D3|D4|D5|D6|D7|D8|D9|D10|D11|D12|D13|D14|D15|D16|D17|D18|D19|D20|D21|D22|D23|D24|D25|D26|D27|D28|D29|D30|D31|D32|D33|D34|D35|D36|D37|D38|D39|D40=>(refine' Hk.qhp ?a ?l ?c ?k;(case a=>k_is);(case l=>k_is);(case c=>k_is);(case k=>k_is)))
  (case z_isinstance|z_bool|z_int|z_len|z_tuple|z_list|z_all|z_sorted|z_set|z_zip|z_enumerate|z_reversed|z_range|z_abs|z_str=>k_is)
  (case i_int=>intro t ht;cases t <;> first|(exact absurd rfl ht)|rfl|k_is)
  (case i_bool=>intro t ht;cases t <;> first|(exact absurd rfl ht)|rfl|k_is)
  (case i_tuple=>intro t ht;cases t <;> first|(exact absurd rfl ht)|rfl|k_is)
  (case i_list=>intro t ht;cases t <;> first|(exact absurd rfl ht)|rfl|k_is)
  (case i_str=>intro t ht;cases t <;> first|(exact absurd rfl ht)|rfl|k_is)
#print axioms PySem.Challenge.cw_hookrail_k34_the_told_tour_holds
