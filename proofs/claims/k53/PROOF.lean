import PyProof.Rows.All
import Wide.All
import OpenK.AllK
import Wide.FinOn
import Lean
import PyProof.EqAt
import PyProof.EqKinds
import PyProof.TupleCall
import PySem.SetOps
import KE.KDictSum
import KE.KDictList
import PyProof.ZipIter
import KE.KFind
import PyProof.MaxThree
import PyProof.Rows.IntMath
import PyProof.EnumMake
import PyProof.Rows.EnumRows
import KE.KDictLaws
import PyProof.DictWalks
import PyProof.Rows.SortRuns
import KE.KSortKey
import PyProof.Rows.SortRuns
import PyProof.Rows.SortShell
import PySem.Challenge.RW_hookrail_k53_a_yard_tour_walked
open Array renaming length_toList→zQ,getElem?_toList→zo,toList_append→yD,getElem?_eq_getElem→yG,getElem?_eq_none→yx,toList_extract→xY,toList_reverse→xp,perm_iff_toList_perm→xq,toList_eraseIdxIfInBounds→wP,toArray_toList→wY,getElem?_eq_some_iff→wo,toList_setIfInBounds→wp,toList_push→wv,getElem?_push→Ze,forIn_toList→Zw,toList→Yk
open Array.Perm renaming refl→YY
open Bool renaming and_eq_true→zU,false_ne_true→zy,false_eq_true→ya,and_eq_true_iff→xF,and_false→xm,and_true→xz,false_and→wJ,or_false→wU,false_or→ww,true_and→wy,true_or→ZK,or_true→ZL,not_false→Zb,not_true→Zs,not_eq_true'→YD,or_eq_true→YU
open Int renaming le_refl→yI,toNat_natCast→yO,le_trans→yW,le_of_lt→xD,toNat_of_nonneg→xw,natCast_add→wB,reducePow→wX,reduceToNat→ZT,reduceSub→Zl,reduceAdd→Zm,reduceMul→Zn,reduceMod→Zo,reduceDiv→Zp,reduceNeg→Zq,reduceBEq→Zr,lt_trans→YA,reduceLT→YF,reduceLE→YG,add_zero→YJ,le_antisymm→YW,not_lt→Yd
open List renaming length_map→zB,length_append→zC,getElem?_eq_getElem→zD,length_cons→zE,mem_cons→zF,mem_cons_of_mem→zG,mem_cons_self→zI,getElem?_set_ne→zJ,getD_eq_getElem?_getD→zK,append_assoc→zN,size_toArray→zP,mem_append→zT,pairwise_append→zV,mem_append_right→zW,getElem?_map→zX,map_cons→zY,pairwise_cons→zZ,mem_append_left→za,mem_singleton→zb,map_append→zc,getElem?_eq_none→zd,replicate→ze,getElem?_append_right→zf,not_mem_nil→zg,getElem?_eq_some_iff→zh,range→zk,append_nil→zn,countP_cons→zr,getElem?_append_left→zt,length_replicate→zw,length_singleton→zx,length_range→zz,length_take→z0,mem_map→yA,length_set→yC,mem_iff_getElem→yF,replicate_succ→yH,filter_cons→yK,mem_of_getElem?→yN,flatten_cons→yP,nil_append→yQ,take_append_drop→yS,length_nil→yT,getElem?_set_self→yU,sum_cons→yV,length_drop→yX,take_of_length_le→yZ,filter_append→yb,mem_reverse→ye,map_map→yg,getElem?_replicate→yh,all_eq_true→yk,eq_nil_of_length_eq_zero→ym,countP_le_length→yn,all_cons→yp,getElem_map→yu,cons_append→yv,map_nil→yw,pairwise_iff_getElem→y0,perm_append_comm→xA,getElem_mem→xB,lookup_cons→xC,mem_range→xE,mem_of_mem_drop→xG,getElem_take→xI,getElem?_cons_zero→xJ,ext_getElem?→xK,mem_filter→xL,nodup_cons→xM,getElem?_range→xN,countP_eq_zero→xO,set_cons_succ→xT,set_cons_zero→xU,drop_eq_getElem_cons→xV,getElem_drop→xZ,mem_of_mem_take→xa,filterMap_cons→xb,reverse_append→xf,length→xg,find?_cons→xh,countP_replicate→xk,nodup_append→xl,reverse_reverse→xo,getElem?_eq_none_iff→xr,getLast?_eq_none_iff→xt,extract_eq_take_drop→xu,replicate_zero→xv,getElem?_take_of_lt→xx,any_cons→xy,forIn_cons→wA,countP_map→wC,filter_nil→wD,zip_cons_cons→wF,getElem?_cons_succ→wH,all_map→wL,flatMap_cons→wN,filter_eq_nil_iff→wO,getElem_inj→wR,take_length→wS,nodup_range→wT,countP_eq_length_filter→wZ,dropLast_concat_getLast→wb,filter_eq_self→wd,length_eraseIdx_of_lt→wk,forIn_nil→wm,getElem?_take_eq_none→wq,take_sublist→wu,take_append_getElem→wx,eq_of_mem_replicate→wz,drop_length→w9,filter_cons_of_pos→ZA,filter_cons_of_neg→ZB,zipIdx_cons→ZC,length_eq_zero_iff→ZD,foldl→ZG,pairwise_lt_range→ZI,range_succ_eq_map→ZJ,drop_of_length_le→ZM,flatMap_singleton→ZN,getElem_cons_drop→ZO,of_mem_zip→ZQ,countP_nil→ZU,dropLast_eq_take→ZV,nodup_nil→ZY,take_take→ZZ,drop_zero→Za,mem_of_getLast?→Zc,length_pos_iff→Zf,countP_pos_iff→Zg,flatMap_append→Zh,map_drop→Zi,mem_filterMap→Zt,filterMap_map→Zu,countP_append→Zx,map_replicate→Zy,getElem_range→Zz,length_range'→Z0,any_eq_false→Z1,reverse_cons→Z4,drop_sublist→Z5,take_add_one→Z8,set_set→Z9,foldl_append→YC,countP_congr→YH,filter_congr→YI,mem_range'_1→YK,perm_middle→YN,map_reverse→YO,mem_flatMap→YQ,any_eq_true→YR,range'→YS,foldl_cons→YT,sum_append→YV,zipIdx_nil→YX,filter_map→YZ,drop_drop→Ye,drop_take→Yf,take_left→Yg,count→Yh,map_take→Yj
open List.Pairwise renaming nil→xH,sublist→wQ
open List.Perm renaming append_left→yL,append_right→yy,trans→yz,refl→xR
open List.cons renaming injEq→xi
open Nat renaming le_refl→zM,ne_of_lt→zi,lt_of_lt_of_le→zu,lt_or_ge→yB,zero_le→yE,le_trans→yJ,lt_succ_of_lt→yR,lt_succ_self→yY,le_of_lt→yf,zero_add→yr,lt_irrefl→xP,add_sub_cancel→xS,le_succ→xn,not_lt_zero→x8,ne_of_gt→wI,le_succ_of_le→wM,add_assoc→wW,add_one_ne_zero→we,zero_ne_add_one→wf,sub_self→wg,add_sub_cancel_left→w8,reduceEqDiff→ZE,add_comm→ZH,min_eq_left→ZS,reduceSub→Zj,reduceAdd→Zk,lt_of_le_of_lt→Zv,lt_trans→Z6,reduceLT→YE
open Option renaming bind_some→z9,isSome_iff_exists→yo,map_some→yq,bind_eq_some_iff→wG,map_eq_some_iff→wK,isSome_map→YB,getD_none→YM,map→Yc,none→Yl
open Option.some renaming inj→zj
open PySem.Heap renaming get?_push_of_some→zH,lt_size→zO,get?_push_size→zS,size_push→yc,get?_update_other→yj,SameBut→xW,get?_update_self→xj,get?_some_iff→wE
open PySem.Heap.IsSliceOf renaming new→Yn
open PySem.Heap.SameBut renaming update→Zd,refl→Z7
open PySem.W renaming Frag→zA,mg_none_of→zv,nsIn→yM,kia_one→yi,keepIn→xQ,fnOf→xX,mg_of→wV,codeIn→wj,methodObj→wt,cellsFrom_some→ZF,instObj→ZP,OpenLaw→ZR,lookIn→ZW,kitOne→ZX,kitx_list→Z2,kitx_dict→Z3,plainGet→YL,findIn→Ya,kIn_of→Yb,WalkO→Yi
open PyProof.Rows renaming wpS_bind→vM,wpS_pure→vO,Keyed→vT,arrOf→vU,pendingOf→va,SortSt→vm,wpS_forRange→vo,oneType'→v7,wpS_mono→uF,IntsAre→uH,failedOf→uQ,seqObj→uV,wpS_modify→ur,AllBare→tE,wpS_get→tG,wpS_lift→tP,subscriptTail_builtinR→tT,envOfC→tV,args_list_sort→tX,subscriptTail→t4,args_tuple_getitem→sC,plain_sorted→sG,entry_sorted→sH,args_sorted1→sI,kind_sorted→sO,minRun'→sV
open PySem renaming wpAny_bind→vA,Value→vB,Shared→vG,wpAny_pure→vH,Addr→vJ,starEach→vL,wpAny→vN,FuncData→vP,Program→vQ,Expr→vW,mainGlobals→vY,World→vZ,Around→vb,wpAny_ite_split→vc,wpAny_call_entry→ve,bootBuiltins→vf,wpAny_setField_rec→vg,wpAny_holding→vh,wpAny_newObj_type→vi,Heap→vn,sizeLine_eq→vp,wpAny_mono→vq,wpAny_field→vt,Stmt→vx,wpAny_setState_of→vy,foldedSetIterable→vz,swapsWith→v3,backTo→v4,behindInMarks→v5,wpAny_seqItems→v6,rawInt→v8,wpAny_nextOf_list_item→v9,builtinLookup_eq_fast→uB,compareOp→uC,wpAny_rule→uD,wpAny_isInstance→uE,wpAny_truthy_bool→uG,pyNext→uI,wpAny_attempt→uJ,sysModules→uK,assignEach→uL,IsPair→uM,wpAny_passesOwn→uN,attributeBase→uO,binaryOp→uP,wpAny_Call_Name_kw→uR,NameKind→uS,codeAny_builtin→uT,typeLookup_type→uU,wpAny_nextOf_list_end→uW,Keyword→uX,isSubtype_stop→uY,intItems→uZ,scanBound→ua,cLine→ub,plainId_quiet→uc,tupleKind_room_in1→ud,sliceBounds→ue,keywordEach→uf,wpAny_pyIter_list→ug,codeAny→uh,codeAny_mono→ui,wpAny_typeOf→uj,isSubtype_type→uk,Scope→um,pickOrder→uo,wpAny_updateSeq_pair→ut,wpAny_execs_nil→uu,letOwnedTupleGo→uv,wpAny_specialOf→uw,wpAny_updateSeq→ux,intKind→uy,getItem→uz,setNext→u5,call_meets→u6,wpAny_fieldsOf→u7,firstArgMember→u8,wpAny_newTuple→u9,ZipApart→tD,wpAny_pyIter_slot→tF,wpAny_newList→tH,wpAny_comprehension_free→tI,wpAny_onRaise→tJ,tupleKind→tK,PassesOwn→tL,backToKw→tM,wpAny_askSetting→tN,numAt→tO,IsPart→tQ,typeLookup→tS,wpAny_isTrue_Compare1→tU,codeAny_extend_loopS→tW,wpAny_letGo→tY,intItems_at→tZ,callerA→tf,valueAt→tj,wpAny_standAt→tq,swapsWithSole→tt,swappedStores→tu,pyIter→t6,wpAny_pyIter_tuple→t7,Result→t9,BindsTo→sD,slotArgs→sF,call_meetsIn→sJ,Paired→sK,CmpOp→sL,seqIndex_of→sM,wpAny_of_eq→sN,loadIfAlive→sP,atKey→sQ,hashInt→sS,setItem→sT,standAt→sU,GenState→sW,isTrue→sZ,argsOk→sf,raiseNew→si,numAt_eq→sn
noncomputable def vC:=@if_pos
noncomputable def vF:=@if_neg
noncomputable def vK:=@absurd
noncomputable def vS:=@decide_eq_true
noncomputable def vX:=@decide_eq_false
noncomputable def uA:=@congrArg
local macro_rules|`(∅)=>`(by omega)
local macro_rules|`(⋯)=>`(by decide +kernel)
local macro_rules|`(↥$x)=>`(some (.sh $x))
local macro_rules|`(⇑$x)=>`(by simpa using $x)
local macro_rules|`(tactic|omega)=>`(tactic|lia)
set_option Elab.async false
set_option linter.all false
set_option maxRecDepth 100000
namespace L2
open PySem PySem.Spec PyProof.Rows
abbrev Key:=Sum Int Str
noncomputable def zA8:Key->vB->Bool
 | .inl k,v=>Value.isInt k v
 | .inr x,v=>Value.isStrOf x v
noncomputable def keyH(w:vZ):Key->Int
 | .inl k=>sS k
 | .inr x=>hashStr w x
def qH:∀{k:Key}{v:vB},zA8 k v=true->(∃i t,k=Sum.inl i/\v=Value.int i t)\/(∃x t,k=Sum.inr x/\v=Value.str x t)
 | .inl i,v,h=>by
  obtain⟨t,e⟩:=Value.isInt_shape (k:=i) (v:=v) h;exact .inl ⟨i,t,rfl,e⟩
 | .inr x,v,h=>by
  obtain⟨t,e⟩:=Value.isStrOf_shape (x:=x) (v:=v) h;exact .inr ⟨x,t,rfl,e⟩
def qbZ(i:Int)(t:Tok):zA8 (.inl i) (.int i t)=true:=by simp[zA8,Value.isInt]
def qch(x:Str)(t:Tok):zA8 (.inr x) (.str x t)=true:=by simp[zA8,Value.isStrOf]
def qh2(a b:Int):decide ((Sum.inl a:Key)=Sum.inl b)=(a==b):=by
 by_cases e:a=b
 ·subst e;simp
 ·have h:¬(Sum.inl a:Key)=Sum.inl b:=λq=>e (Sum.inl.inj q)
  rw[vX h];exact(beq_eq_false_iff_ne.mpr e).symm
def qgs(a b:Str):decide ((Sum.inr a:Key)=Sum.inr b)=decide (a=b):=by
 by_cases e:a=b
 ·subst e;simp
 ·have h:¬(Sum.inr a:Key)=Sum.inr b:=λq=>e (Sum.inr.inj q)
  rw[vX h,vX e]
def qhk(a:Int)(b:Str):decide ((Sum.inl a:Key)=Sum.inr b)=false:=vX (λq=>nomatch q)
def qh3(a:Str)(b:Int):decide ((Sum.inr a:Key)=Sum.inl b)=false:=vX (λq=>nomatch q)
noncomputable def Y5(prog:vQ)(w:vZ):PySem.KeyKind prog w Key where
 is:=zA8
 hash:=keyH w
 inj:=λv a b ha hb=>by
  rcases qH ha with⟨i,t,rfl,rfl⟩|⟨x,t,rfl,rfl⟩
  ·rcases qH hb with⟨j,u,rfl,e⟩|⟨y,u,rfl,e⟩
   ·injection e with e1 _;rw[e1]
   ·exact nomatch e
  ·rcases qH hb with⟨j,u,rfl,e⟩|⟨y,u,rfl,e⟩
   ·exact nomatch e
   ·injection e with e1 _;rw[e1]
 byValue:=λk v h=>by
  rcases qH h with⟨i,t,rfl,rfl⟩|⟨x,t,rfl,rfl⟩ <;> rfl
 pyHash:=λhv h=>by
  rcases qH hv with⟨i,t,rfl,rfl⟩|⟨x,t,rfl,rfl⟩
  ·exact wpAny_pyHash_int h
  ·exact wpAny_pyHash_str h
 eqBool:=λhu hv h=>by
  rcases qH hu with⟨i,t,rfl,rfl⟩|⟨x,t,rfl,rfl⟩
  ·rcases qH hv with⟨j,u,rfl,rfl⟩|⟨y,u,rfl,rfl⟩
   ·rw[qh2]at h;exact wpAny_eqBool_int h
   ·rw[qhk]at h;exact SeqAt.EqAt.int_str i t y u _ _ _ _ h
  ·rcases qH hv with⟨j,u,rfl,rfl⟩|⟨y,u,rfl,rfl⟩
   ·rw[qh3]at h;exact SeqAt.EqAt.str_int x t j u _ _ _ _ h
   ·rw[qgs]at h;exact wpAny_eqBool_str h
 «strs»:=λk x t v h=>by
  rcases qH h with⟨i,u,rfl,e⟩|⟨y,u,rfl,e⟩
  ·exact nomatch e
  ·injection e with e1 _
   subst e1;cases v <;> rfl
def q9t(prog:vQ)(w:vZ)(i:Int)(t:Tok):(Y5 prog w).is (.inl i) (.int i t)=true:=qbZ i t
def q9v(prog:vQ)(w:vZ)(x:Str)(t:Tok):(Y5 prog w).is (.inr x) (.str x t)=true:=qch x t
inductive V where
 | non|bl (b:Bool)|int (i:Int)|str (x:Str)|byt (b:Array UInt8)|flt (b:UInt64)|ref (a:vJ)|ty (n:String)
 deriving DecidableEq
def RelV:V->vB->Prop
 | .non,u=>u=Value.none
 | .bl b,u=>u=Value.bool b
 | .int i,u=>∃t,u=Value.int i t
 | .str x,u=>∃t,u=Value.str x t
 | .byt b,u=>∃t,u=Value.bytes b t
 | .flt b,u=>∃t,u=Value.float b t
 | .ref a,u=>u=Value.ref a
 | .ty n,u=>u=Value.type n
abbrev XB:List V->List vB->Prop:=sK RelV
theorem XB.length{xs:List V}{us:List vB}(r:XB xs us):xs.length=us.length:=Paired.length r
theorem XB.get:∀{xs:List V}{us:List vB}{i:Nat}{x:V},XB xs us->xs[i]?=some x->∃u,us[i]?=some u/\RelV x u
 | _,_,_,_,.nil,e=>by simp at e
 | _,_,0,_,.cons r _,e=>by simp at e;subst e;exact⟨_,rfl,r⟩
 | _,_,i+1,x,.cons _ t,e=>by
  obtain⟨u,h1,h2⟩:=XB.get (i:=i) (x:=x) t ⇑e;exact⟨u,by simpa using h1,h2⟩
theorem XB.set{x:V}{u:vB}(r:RelV x u):∀{xs:List V}{us:List vB}(i:Nat),XB xs us->XB (xs.set i x) (us.set i u)
 | _,_,_,.nil=>.nil
 | _,_,0,.cons _ t=>.cons r t
 | _,_,i+1,.cons q t=>.cons q (XB.set r i t)
theorem XB.append:∀{xs ys:List V}{us ws:List vB},XB xs us->XB ys ws->XB (xs++ys) (us++ws)
 | _,_,_,_,.nil,s=>s
 | _,_,_,_,.cons r t,s=>.cons r (XB.append t s)
theorem XB.take:∀{xs:List V}{us:List vB}(n:Nat),XB xs us->XB (xs.take n) (us.take n)
 | _,_,0,_=>.nil
 | _,_,_+1,.nil=>.nil
 | _,_,n+1,.cons r t=>.cons r (XB.take n t)
theorem XB.drop:∀{xs:List V}{us:List vB}(n:Nat),XB xs us->XB (xs.drop n) (us.drop n)
 | _,_,0,r=>r
 | _,_,_+1,.nil=>.nil
 | _,_,n+1,.cons _ t=>XB.drop n t
def zBF:Option V->Option vB->Prop
 | some v,some u=>RelV v u
 | none,none=>True
 | _,_=>False
def KV{κ:Type}:List (κ×V)->List (κ×vB)->Prop:=sK λ(p:κ×V) (q:κ×vB)=>p.1=q.1/\RelV p.2 q.2
noncomputable def kV:Key->V
 | .inl i=>.int i
 | .inr x=>.str x
inductive HO where
 
 | lst (xs:List V)
 
 | tup (xs:List V)
 
 | dK (kvs:List (Key×V))|dT (kvs:List (List Key×V))
 
 | set (S:Int->Bool) (n:Nat)
 
 | ins (C dx:vJ) (fs:List (Str×V))
 
 | own (x:vJ)
 
 | xd (fs:List (Str×V))
 
 | met (f x:vJ)
 
 | rng (lo hi:Int)
 
 | frz (o:Obj) (u:HO)
 
 | tbl (ps:Array vB)
 
 | ext (φ:vn->Prop)
abbrev Hp:=vJ->Option HO
noncomputable def upd(H:Hp)(a:vJ)(o:HO):Hp:=λb=>if b=a then some o else H b
def qe{H:Hp}{a:vJ}{o:HO}:upd H a o a=some o:=by unfold upd;rw[vC rfl]
def qd{H:Hp}{a b:vJ}{o:HO}(h:b≠a):upd H a o b=H b:=by unfold upd;rw[vF h]
def qhH{H:Hp}{a b:vJ}{o u:HO}(h:H a=some o)(h':H b=some u)(d:o≠u):a≠b:=by
 intro e;subst e;rw[h]at h';exact d (zj h')
def q0v{H:Hp}{a b:vJ}{o:HO}(h:H a=some o)(h':H b=none):a≠b:=by
 intro e;subst e;rw[h]at h';cases h'
section
variable(P:vQ)(w:vZ)
def XF(H:Hp)(h:vn)(a:vJ):HO->Prop
 | .lst xs=>xs.length<=sizeLine/\∃(its:List vB) (n:Nat),XB xs its/\h.get? a=some { cls:=.type "list", data:=.seq its.toArray n }
 | .tup xs=>xs.length<=sizeLine/\∃its:List vB,XB xs its/\IsTup h a its.toArray
 | .dK kvs=>kvs.length<=sizeLine/\(a==uK)=false/\∃vs,KV kvs vs/\h.DictOf (Y5 P w) a vs
 | .dT kvs=>kvs.length<=sizeLine/\(a==uK)=false/\∃xs:List (List Key×vJ×vB),
   sK (λ(p:List Key×V) (q:List Key×vJ×vB)=>p.1=q.1/\H q.2.1=some (.tup (p.1.map kV))/\RelV p.2 q.2.2) kvs xs /\
   ∃o es ep,h.get? a=some o/\o.ExactDict/\o.data=.dict es ep/\es.toList=xs.map (entryOfKey (tK (Y5 P w)))/\(xs.map (·.1)).Nodup
 | .set S n=>h.SetOf (uy P w) a S n
 | .ins C dx fs=>H dx=some (.own a)/\fs.length<=1000/\dx≠a/\h.get? a=some (ZP C dx) /\
   ∃mA,h.Ns1 dx mA/\(∀f,zBF (fs.lookup f) (mA f))/\PySem.Within mA (fs.map (·.1))
 | .own _=>∃o,h.get? a=some o
 | .xd fs=>∃mA,h.Ns1 a mA/\∀f,zBF (fs.lookup f) (mA f)
 | .rng lo hi=>∃t u v,h.get? a=some { cls:=.type "range", data:=.fields #[.int lo t,.int hi u,.int 1 v] }
 | .frz o u=>h.get? a=some o/\XF H h a u
 | .tbl ps=>h.get? a=some { cls:=.none,data:=.fields ps }
 | .met f x=>h.get? a=some (wt (.ref f) (.ref x))
 | .ext φ=>φ h/\(∃o,h.get? a=some o)/\∀h1 h2:vn,φ h1->(∀o,h1.get? a=some o->h2.get? a=some o)->φ h2
def HOk(H:Hp)(h:vn):Prop:=∀a o,H a=some o->XF P w H h a o
end
section
variable{P:vQ}{w:vZ}{H H':Hp}{h h':vn}{a:vJ}{o:HO}
theorem XF.lt(x:XF P w H h a o):a<h.objs.size:=by
 cases o with
 | lst xs=>obtain⟨_,_,_,_,e⟩:=x;exact zO e
 | tup xs=>obtain⟨_,_,_,p⟩:=x;exact p.lt
 | dK kvs=>obtain⟨_,_,_,_,o,_,_,e,_⟩:=x;exact zO e
 | dT kvs=>obtain⟨_,_,_,_,o,_,_,e,_⟩:=x;exact zO e
 | set S n=>obtain⟨o,_,_,_,e,_⟩:=x;exact zO e
 | ins C dx fs=>obtain⟨_,_,_,e,_⟩:=x;exact zO e
 | own y=>obtain⟨_,e⟩:=x;exact zO e
 | xd fs=>obtain⟨_,⟨_,_,_,e,_⟩,_⟩:=x;exact zO e
 | rng lo hi=>obtain⟨_,_,_,e⟩:=x;exact zO e
 | frz ob u=>obtain⟨e,_⟩:=x;exact zO e
 | tbl ps=>exact zO (show h.get? a=some _ from x)
 | met f y=>exact zO (show h.get? a=some _ from x)
 | ext φ=>obtain⟨_,⟨_,e⟩,_⟩:=x;exact zO e
theorem Paired.mapP{α β:Type}{F G:α->β->Prop}:∀{l₁:List α}{l₂:List β},sK F l₁ l₂->(∀a b,F a b->G a b)->sK G l₁ l₂
 | _,_,.nil,_=>.nil
 | _,_,.cons r t,f=>.cons (f _ _ r) (Paired.mapP t f)
def XF.stay(x:XF P w H h a o)(k:∀b u,(b=a\/H b=some (.own a))->h.get? b=some u->h'.get? b=some u)(ho:∀b,H b=some (.own a)->H' b=some (.own a))(ht:∀b xs,H b=some (.tup xs)->H' b=some (.tup xs)):XF P w H' h' a o:=by
 induction o with
 | lst xs=>obtain⟨z,its,n,r,e⟩:=x;exact⟨z,its,n,r,k _ _ (.inl rfl) e⟩
 | tup xs=>obtain⟨z,its,r,ob,e,c⟩:=x;exact⟨z,its,r,ob,k _ _ (.inl rfl) e,c⟩
 | dK kvs=>obtain⟨z,y,vs,r,ob,es,ep,e,c⟩:=x;exact⟨z,y,vs,r,ob,es,ep,k _ _ (.inl rfl) e,c⟩
 | dT kvs=>
  obtain⟨z,y,xs,r,ob,es,ep,e,c⟩:=x;exact⟨z,y,xs,Paired.mapP r λp q z=>⟨z.1,ht _ _ z.2.1,z.2.2⟩,ob,es,ep,k _ _ (.inl rfl) e,c⟩
 | set S n=>obtain⟨ob,es,ep,t,e,c⟩:=x;exact⟨ob,es,ep,t,k _ _ (.inl rfl) e,c⟩
 | ins C dx fs=>
  obtain⟨d,z,ne,e,mA,⟨od,es,ep,e2,c⟩,r⟩:=x;exact⟨ho _ d,z,ne,k _ _ (.inl rfl) e,mA,⟨od,es,ep,k _ _ (.inr d) e2,c⟩,r⟩
 | own y=>obtain⟨ob,e⟩:=x;exact⟨ob,k _ _ (.inl rfl) e⟩
 | xd fs=>obtain⟨mA,⟨od,es,ep,e,c⟩,r⟩:=x;exact⟨mA,⟨od,es,ep,k _ _ (.inl rfl) e,c⟩,r⟩
 | rng lo hi=>obtain⟨t,u,v,e⟩:=x;exact⟨t,u,v,k _ _ (.inl rfl) e⟩
 | frz ob u ih=>obtain⟨e,q⟩:=x;exact⟨k _ _ (.inl rfl) e,ih q⟩
 | tbl ps=>
  have e:h.get? a=some { cls:=.none,data:=.fields ps }:=x;show h'.get? a=some { cls:=.none,data:=.fields ps };exact k a _ (.inl rfl) e
 | met f y=>
  have e:h.get? a=some (wt (.ref f) (.ref y)):=x;show h'.get? a=some (wt (.ref f) (.ref y));exact k a _ (.inl rfl) e
 | ext φ=>obtain⟨p,⟨o,e⟩,st⟩:=x;exact⟨st _ _ p λo q=>k _ _ (.inl rfl) q,⟨o,k _ _ (.inl rfl) e⟩,st⟩
theorem HOk.lt(x:HOk P w H h)(e:H a=some o):a<h.objs.size:=(x a o e).lt
def HOk.fresh(x:HOk P w H h)(e:h.objs.size<=a):H a=none:=by
 cases q:H a with
 | none=>rfl
 | some u=>exact vK (zu (x.lt q) e) (xP _)
def HOk.kept(x:HOk P w H h)(k:∀b u,h.get? b=some u->h'.get? b=some u):HOk P w H h':=λa o e=>
 (x a o e).stay (λb u _ q=>k b u q) (λ_ q=>q) λ_ _ q=>q
def HOk.laid(x:HOk P w H h)(k:∀b u,h.get? b=some u->h'.get? b=some u)(hp:h.objs.size<=a)(new:XF P w (upd H a o) h' a o):HOk P w (upd H a o) h':=λb u e=>by
 have hn:=x.fresh hp
 by_cases hb:b=a
 ·subst hb;rw[qe]at e;cases e;exact new
 ·rw[qd hb]at e
  exact(x b u e).stay (λc v _ q=>k c v q) (λc q=>by rw[qd (q0v q hn)];exact q) λc xs q=>by rw[qd (q0v q hn)];exact q
end
def Rd(H:Hp)(a:vJ)(u:HO):Prop:=H a=some u\/∃o,H a=some (.frz o u)
def Rd.ok{P:vQ}{w:vZ}{H:Hp}{h:vn}{a:vJ}{u:HO}(r:Rd H a u)(x:HOk P w H h):XF P w H h a u:=by
 rcases r with r|⟨o,r⟩
 ·exact x a u r
 ·obtain⟨_,q⟩:=x a _ r
  exact q
def Mut:Option HO->Prop
 | some (.lst _)=>True
 | some (.dK _)=>True
 | some (.dT _)=>True
 | some (.set _ _)=>True
 | some (.ins _ _ _)=>True
 | some (.ext _)=>True
 | _=>False
section
variable{P:vQ}{w:vZ}{H:Hp}{h h':vn}{x e:vJ}{o':HO}
def HOk.write(ok:HOk P w H h)(mu:Mut (H x))(he:e=x\/H e=some (.own x))(k:∀b u,b≠e->h.get? b=some u->h'.get? b=some u)(heo:∃u,h'.get? e=some u)(new:XF P w (upd H x o') h' x o'):HOk P w (upd H x o') h':=λb u q=>by
 have nown:∀c y,H c=some (.own y)->c≠x:=λc y r z=>by subst z;rw[r]at mu;exact mu
 have ntup:∀c xs,H c=some (.tup xs)->c≠x:=λc xs r z=>by subst z;rw[r]at mu;exact mu
 by_cases hb:b=x
 ·subst hb;rw[qe]at q;cases q;exact new
 ·rw[qd hb]at q
  by_cases hbe:b=e
  ·have q':H b=some (.own x):=by
    rcases he with z|z
    ·exact vK (hbe.trans z) hb
    ·rw[hbe];exact z
   rw[q]at q';cases q';obtain⟨v,hv⟩:=heo;exact⟨v,by rw[hbe];exact hv⟩
  ·refine(ok b u q).stay (λc v hc r=>k c v ?_ r) (λc r=>by rw[qd (nown c b r)];exact r) λc xs r=>by rw[qd (ntup c xs r)];exact r
   rcases hc with rfl|hc
   ·exact hbe
   ·rintro rfl
    rcases he with z|z
    ·exact nown c b hc z
    ·rw[hc]at z;cases z;exact hb rfl
end
structure Un (fs ex:List vJ) (H H':Hp) (h h':vn):Prop where
 keep:∀b o,h.get? b=some o->H b=none->b∉fs->b∉ex->h'.get? b=some o
 slot:∀b o,h.get? b=some o->H b=none->b∈fs->b∉ex->∃sl,h'.get? b=some { o with slots:=sl }
 free:∀b o,h.get? b=some o->H b=none->b∉ex->H' b=none
 there:∀b o,h.get? b=some o->b∉ex->∃o',h'.get? b=some o'
 tups:∀b xs,H b=some (.tup xs)->H' b=some (.tup xs)
 frzs:∀b o u,H b=some (.frz o u)->H' b=some (.frz o u)
 tbls:∀b ps,H b=some (.tbl ps)->∃more,H' b=some (.tbl (ps++more))
section
variable{fs fs' ex ex':List vJ}{H H1 H2:Hp}{h h1 h2 h':vn}{a x e:vJ}{o:HO}
def Un.any(u:Un fs ex H H1 h h1){b:vJ}{ob:Obj}(q:h.get? b=some ob)(n:H b=none)(hx:b∉ex):∃sl,h1.get? b=some { ob with slots:=sl }:=by
 by_cases hb:b∈fs
 ·exact u.slot b ob q n hb hx
 ·exact⟨ob.slots,u.keep b ob q n hb hx⟩
def Un.kept(k:∀b u,h.get? b=some u->h'.get? b=some u):Un fs ex H H h h' :=
 ⟨λb ob q _ _ _=>k b ob q,λb ob q _ _ _=>⟨ob.slots,k b ob q⟩,λ_ _ _ n _=>n,λb ob q _=>⟨ob,k b ob q⟩,λ_ _ q=>q,λ_ _ _ q=>q,λ_ ps q=>⟨#[],by rw[q];simp⟩⟩
def Un.refl:Un fs ex H H h h:=Un.kept λ_ _ q=>q
def Un.laid(k:∀b u,h.get? b=some u->h'.get? b=some u)(hp:h.objs.size<=a)(hn:H a=none):Un fs ex H (upd H a o) h h' where
 keep:=λb u q _ _ _=>k b u q
 slot:=λb u q _ _ _=>⟨u.slots,k b u q⟩
 free:=λb u q n _=>by rw[qd (zi (zu (zO q) hp))];exact n
 there:=λb u q _=>⟨u,k b u q⟩
 tups:=λb xs q=>by rw[qd (q0v q hn)];exact q
 frzs:=λb u xs q=>by rw[qd (q0v q hn)];exact q
 tbls:=λb ps q=>⟨#[],by rw[qd (q0v q hn),q];simp⟩
def Un.write(mu:Mut (H x))(he:e=x\/H e=some (.own x))(k:∀b u,b≠e->h.get? b=some u->h'.get? b=some u)(heo:∃u,h'.get? e=some u):Un fs ex H (upd H x o) h h':=by
 have hx:∀b,H b=none->b≠x:=λb n z=>by subst z;rw[n]at mu;exact mu
 have hb:∀b,H b=none->b≠e:=λb n z=>by
  subst z;rcases he with r|r
  ·exact hx b n r
  ·rw[n]at r;cases r
 have hm:∀b u,H b=some u->¬Mut (some u)->b≠x:=λb u q nm z=>by subst z;rw[q]at mu;exact nm mu
 refine⟨λb u q n _ _=>k b u (hb b n) q,λb u q n _ _=>⟨u.slots,k b u (hb b n) q⟩,λb u q n _=>by rw[qd (hx b n)];exact n,λb u q _=>?_,
  λb xs q=>by rw[qd (hm b _ q λz=>z)];exact q,λb u xs q=>by rw[qd (hm b _ q λz=>z)];exact q,λb ps q=>⟨#[],by rw[qd (hm b _ q λz=>z),q];simp⟩⟩
 by_cases hbe:b=e
 ·subst hbe;exact heo
 ·exact⟨u,k b u hbe q⟩
end
noncomputable def trk(h:vn)(H:Hp):List vJ:=(zk h.objs.size).filter λa=>(H a).isSome
noncomputable def zB3(h:vn)(H:Hp):vn:=PySem.W.hideAll h (trk h H)
def qdp(h:vn)(H:Hp):(zB3 h H).objs.size=h.objs.size:=PySem.W.hideAll_size _ _
def qdN{h:vn}{H:Hp}{b:vJ}{o:Obj}(e:h.get? b=some o)(n:H b=none):(zB3 h H).get? b=some o :=
 PySem.W.hideAll_get _ e λhm=>by
  have q:(H b).isSome=true:=(xL.mp hm).2;rw[n]at q;simp at q
def qfS{h:vn}{H:Hp}{b:vJ}{o:Obj}(e:(zB3 h H).get? b=some o):h.get? b=some o/\H b=none:=by
 have e':h.get? b=some o:=PySem.W.of_hideAll (trk h H) e;refine⟨e',?_⟩;cases q:H b with
 | none=>rfl
 | some x=>
  have hm:b∈trk h H:=xL.mpr ⟨xE.mpr (zO e'),by simp[q]⟩;have z:(zB3 h H).get? b=none:=PySem.W.hideAll_none (trk h H) hm;rw[z]at e;cases e
noncomputable def zCo(g h:vn)(L:vJ):List (vJ×Obj):=(zk h.objs.size).filterMap λa=>if a=L\/(g.get? a).isSome=true then none else (h.get? a).map λo=>(a,o)
noncomputable def rest(g h:vn)(L d:vJ):List (vJ×Obj):=(zCo g h L).filter λp=>decide (p.1≠d)
structure Mod (K:zA) (mg:Str->Option vB) (base:vn):Prop where
 kin:K.In base
 glob:base.Ns vY mg
 blt:∃mb,base.Ns builtinsNs mb/\∀x:Str,x ≠ "__name__" -> mb x=vf x
 nolimit:base.NoLimit
structure Cx where
 prog:vQ
 w:vZ
 K:zA
 mg:Str->Option vB
 base:vn
 A:vb
 N:List Str
 s₀:vG
 H₀:Hp
 env:Env
 outer:List Env
 stack:List Env
 ex:List vJ
 fn:Str->Bool
 calm:Bool
 pn:List (vJ×Obj)
 xe:vB->vG->Prop
def frs(l:List Env):List vJ:=l.filterMap (·.frame)
noncomputable abbrev Cx.fs(X:Cx):List vJ:=frs X.outer
def Vis(sc:um)(x:Str):Prop:=sc.names.lookup x=some .local\/sc.names.lookup x=some .cell\/sc.names.lookup x=some .free
def Loc(sc:um)(x:Str):Prop:=sc.names.lookup x=some .local\/sc.names.lookup x=some .cell
def Look(env:Env)(h:vn)(m:Str->Option vB)(x:Str)(u:vB):Prop :=
 (env.kindOf x=some .local/\m x=some u)\/((env.kindOf x=some .cell\/env.kindOf x=some .free)/\∃c,env.cells.lookup x=some c/\h.IsCell c (some u))
structure Cx.Ok (X:Cx):Prop where
 mod:Mod X.K X.mg X.base
 kind:X.env.scope.kind=.function
 glob:X.env.globals=vY
 blt:X.env.builtins=builtinsNs
 above:X.s₀.heap.objs.size<=X.env.locals
 inj:∀x y c,X.env.cells.lookup x=some c->X.env.cells.lookup y=some c->x=y
 has:∀x,(X.env.kindOf x=some .cell\/X.env.kindOf x=some .free)->∃c,X.env.cells.lookup x=some c
 cab:∀x c,X.fn x=true->X.env.cells.lookup x=some c->X.s₀.heap.objs.size<=c
 hd:X.calm=true->X.A.handled=none
 frames:X.A.frames=some X.stack
 stk:X.stack=X.outer\/(X.stack=X.env::X.outer/\X.env.frame=some X.env.locals)
 exf:∀b∈X.ex,b≠X.env.locals/\∀x c,X.env.cells.lookup x=some c->c≠b
 bs:∀b o,X.base.get? b=some o->X.s₀.heap.get? b=some o/\X.H₀ b=none
 bsz:X.base.objs.size<=X.s₀.heap.objs.size
 noex:∀b o,X.base.get? b=some o->b∉X.ex
 exfs:∀b∈X.ex,b∉X.fs
 funs:X.s₀.heap.FunFrames X.base X.outer
 frf:∀b∈X.fs,X.H₀ b=none
structure Inv (X:Cx) (pins:List (vJ×Obj)) (σ:List (Option V)) (H:Hp) (s:vG):Prop where
 ok:X.Ok
 os:s.os=X.s₀.os
 bare:tE s.gens
 base:Un X.fs X.ex X.H₀ H X.s₀.heap s.heap
 loc:∃m,s.heap.Ns X.env.locals m/\∀(i:Nat)(x:Str)(v:V),X.N[i]?=some x->σ[i]?=some (some v)->Vis X.env.scope x->∃u,RelV v u/\Look X.env s.heap m x u
 cell:∀x c,X.env.cells.lookup x=some c->∃v,s.heap.IsCell c v
 free:H X.env.locals=none
 freeC:∀x c,X.env.cells.lookup x=some c->H c=none
 pin:∀p∈X.pn++pins,s.heap.get? p.1=some p.2/\H p.1=none/\p.1≠X.env.locals/\p.1∉X.fs/\∀v,p.2.data≠.cell v
 hok:HOk X.prog X.w H s.heap
 len:σ.length=X.N.length
section
variable{X:Cx}{pins:List (vJ×Obj)}{σ:List (Option V)}{H H':Hp}{s:vG}{h':vn}
def Cx.Ok.nofr(ok:X.Ok){b:vJ}{o:Obj}(e:X.base.get? b=some o):b∉X.fs:=λhb=>by
 have:=(ok.funs.mem hb).1;rw[e]at this;cases this
theorem Inv.bs(I:Inv X pins σ H s):∀b o,X.base.get? b=some o->s.heap.get? b=some o/\H b=none:=λb o e=>
 ⟨I.base.keep b o (I.ok.bs b o e).1 (I.ok.bs b o e).2 (I.ok.nofr e) (I.ok.noex b o e),I.base.free b o (I.ok.bs b o e).1 (I.ok.bs b o e).2 (I.ok.noex b o e)⟩
def Inv.bk(I:Inv X pins σ H s):∀b o,X.base.get? b=some o->s.heap.get? b=some o:=λb o e=>(I.bs b o e).1
theorem Inv.mod(I:Inv X pins σ H s):Mod X.K X.mg X.base:=I.ok.mod
def Inv.kIn(I:Inv X pins σ H s):X.K.In s.heap:=I.ok.mod.kin.keeps I.bk
theorem Inv.lt(I:Inv X pins σ H s):X.env.locals<s.heap.objs.size:=let ⟨_,hn,_⟩:=I.loc;hn.lt
def Inv.sz(I:Inv X pins σ H s):X.s₀.heap.objs.size<=s.heap.objs.size:=yJ I.ok.above (yf I.lt)
def Inv.nofs(I:Inv X pins σ H s){a:vJ}(h:s.heap.objs.size<=a):a∉X.fs:=λhb=>by
 obtain⟨_,o,ho,_⟩:=I.ok.funs.mem hb;exact vK (zu (zO ho) (yJ I.sz h)) (xP _)
def Inv.cne(I:Inv X pins σ H s):∀x c,X.env.cells.lookup x=some c->c≠X.env.locals:=λx c e z=>by
 obtain⟨v,o,ho,hd⟩:=I.cell x c e;obtain⟨m,⟨o',es,ep,ho',hd',_⟩,_⟩:=I.loc;rw[z,ho']at ho;cases ho;rw[hd']at hd;cases hd
theorem Inv.funs(I:Inv X pins σ H s):s.heap.FunFrames X.base X.outer:=by
 have all:∀(l:List Env),(∀b∈frs l,b∈X.fs)->X.s₀.heap.FunFrames X.base l->s.heap.FunFrames X.base l:=by
  intro l
  induction l with
  | nil=>intro _ _;trivial
  | cons env r ih=>
   intro hs hl;obtain⟨hk,⟨L,o,hf,hn,ho,hd⟩,hr⟩:=hl;have hL:L∈X.fs:=hs L (by unfold frs;rw[xb,hf];exact zI);obtain⟨sl,e⟩:=I.base.slot L o ho (I.ok.frf L hL) hL λz=>I.ok.exfs L z hL;exact⟨hk,⟨L,_,hf,hn,e,hd⟩,ih (λb hb=>hs b (by unfold frs;rw[xb,hf];exact zG _ hb)) hr⟩
 exact all X.outer (λ_ hb=>hb) I.ok.funs
theorem Inv.stack(I:Inv X pins σ H s):s.heap.FunFrames X.base X.stack:=by
 rcases I.ok.stk with e|⟨e,hf⟩
 ·rw[e];exact I.funs
 ·rw[e]
  obtain⟨m,hn,_⟩:=I.loc;refine .cons (by rw[I.ok.kind];decide) hf hn ?_ I.funs;exact Heap.get?_none_of_le (yJ I.ok.bsz I.ok.above)
def Inv.stkSub(I:Inv X pins σ H s):∀b∈frs X.stack,b∈X.env.locals::X.fs:=λb hb=>by
 rcases I.ok.stk with e|⟨e,hf⟩
 ·rw[e]at hb;exact zG _ hb
 ·rw[e]at hb
  unfold frs at hb;rw[xb,hf]at hb;exact hb
def Inv.stkFree(I:Inv X pins σ H s):∀b∈frs X.stack,H b=none:=λb hb=>by
 rcases zF.mp (I.stkSub b hb)with e|hb
 ·rw[e];exact I.free
 ·obtain⟨_,o,ho,_⟩:=I.ok.funs.mem hb
  exact I.base.free b o ho (I.ok.frf b hb) λz=>I.ok.exfs b z hb
def Inv.step{g':Array sW}{t':Nat}{d':Drawn}{ch:List vJ}(I:Inv X pins σ H s)(hch:∀b∈ch,(b∈X.ex\/X.s₀.heap.objs.size<=b)/\b≠X.env.locals/\(∀x c,X.env.cells.lookup x=some c->c≠b)/\∀p∈X.pn++pins,p.1≠b)(keep:∀b o,b≠X.env.locals->b∉X.fs->b∉ch->s.heap.get? b=some o->H b=none->h'.get? b=some o)(slot:∀b o,b≠X.env.locals->b∈X.fs->b∉ch->s.heap.get? b=some o->H b=none->∃sl,h'.get? b=some { o with slots:=sl })(free:∀b o,b∉ch->s.heap.get? b=some o->H b=none->H' b=none)(there:∀b o,b∉ch->s.heap.get? b=some o->∃o',h'.get? b=some o')(tups:∀b xs,H b=some (.tup xs)->H' b=some (.tup xs))(frzs:∀b o u,H b=some (.frz o u)->H' b=some (.frz o u))(tbls:∀b ps,H b=some (.tbl ps)->∃more,H' b=some (.tbl (ps++more)))(ns:∀m,s.heap.Ns X.env.locals m->h'.Ns X.env.locals m)(hok:HOk X.prog X.w H' h')(hg:tE g'):
  Inv X pins σ H' { s with heap:=h',gens:=g',drawn:=d',toks:=t' }:=by
 have neL:∀b o,X.s₀.heap.get? b=some o->b≠X.env.locals:=λb o e=>zi (zu (zO e) I.ok.above);have neC:∀b o,X.s₀.heap.get? b=some o->b∉X.ex->b∉ch:=λb o e hx hb=>by
  rcases (hch b hb).1 with z|z
  ·exact hx z
  ·exact vK (zu (zO e) z) (xP _)
 have cellK:∀x c,X.env.cells.lookup x=some c->∀v,s.heap.IsCell c v->h'.IsCell c v:=λx c e v ⟨o,ho,hd⟩=>by
  have nch:c∉ch:=λz=>(hch c z).2.2.1 x c e rfl
  by_cases hc:c∈X.fs
  ·obtain⟨sl,q⟩:=slot c o (I.cne x c e) hc nch ho (I.freeC x c e)
   exact⟨_,q,hd⟩
  ·exact⟨o,keep c o (I.cne x c e) hc nch ho (I.freeC x c e),hd⟩
 refine⟨I.ok,I.os,hg,⟨λb o e n hb hx=>?_,λb o e n hb hx=>?_,λb o e n hx=>?_,λb o e hx=>?_,λb xs e=>tups b xs (I.base.tups b xs e),λb o xs e=>frzs b o xs (I.base.frzs b o xs e),λb ps e=>?_⟩,?_,λx c e=>?_,?_,λx c e=>?_,λp hp=>?_,hok,I.len⟩
 ·exact keep b o (neL b o e) hb (neC b o e hx) (I.base.keep b o e n hb hx) (I.base.free b o e n hx)
 ·obtain⟨sl,e1⟩:=I.base.slot b o e n hb hx
  obtain⟨sl',e2⟩:=slot b _ (neL b o e) hb (neC b o e hx) e1 (I.base.free b o e n hx);exact⟨sl',e2⟩
 ·obtain⟨o',e1⟩:=I.base.there b o e hx
  exact free b o' (neC b o e hx) e1 (I.base.free b o e n hx)
 ·obtain⟨o',e1⟩:=I.base.there b o e hx
  exact there b o' (neC b o e hx) e1
 ·obtain⟨m1,e1⟩:=I.base.tbls b ps e
  obtain⟨m2,e2⟩:=tbls b _ e1;exact⟨m1++m2,by rw[e2,Array.append_assoc]⟩
 ·obtain⟨m,hn,hl⟩:=I.loc
  refine⟨m,ns m hn,λi x v e1 e2 e3=>?_⟩;obtain⟨u,r,l⟩:=hl i x v e1 e2 e3;refine⟨u,r,?_⟩;rcases l with l|⟨k,c,e,z⟩
  ·exact .inl l
  ·exact .inr ⟨k,c,e,cellK x c e _ z⟩
 ·obtain⟨v,z⟩:=I.cell x c e
  exact⟨v,cellK x c e v z⟩
 ·obtain⟨m,⟨o,_,_,ho,_⟩,_⟩:=I.loc
  exact free _ o (λz=>(hch _ z).2.1 rfl) ho I.free
 ·obtain⟨v,o,ho,hd⟩:=I.cell x c e
  exact free c o (λz=>(hch c z).2.2.1 x c e rfl) ho (I.freeC x c e)
 ·obtain⟨e,n,ne,nf,d⟩:=I.pin p hp
  have nch:p.1∉ch:=λz=>(hch p.1 z).2.2.2 p hp rfl;exact⟨keep p.1 p.2 ne nf nch e n,free p.1 p.2 nch e n,ne,nf,d⟩
def Inv.un{t':Nat}(I:Inv X pins σ H s)(u:Un X.fs [] H H' s.heap h')(hok:HOk X.prog X.w H' h'):Inv X pins σ H' { s with heap:=h',toks:=t' }:=by
 obtain⟨m,⟨o,es,ep,ho,r⟩,_⟩:=id I.loc;obtain⟨sl,hL⟩:=u.any ho I.free (by simp);exact I.step (g':=s.gens) (d':=s.drawn) (ch:=[]) (λ_ z=>nomatch z) (λb o _ hb _ e n=>u.keep b o e n hb (by simp)) (λb o _ hb _ e n=>u.slot b o e n hb (by simp)) (λb o _ e n=>u.free b o e n (by simp)) (λb o _ e=>u.there b o e (by simp)) u.tups u.frzs u.tbls (λm' hm=>by
  obtain⟨o',es',ep',ho',r'⟩:=hm;rw[ho]at ho';cases ho';exact⟨_,es',ep',hL,r'⟩) hok I.bare
def Inv.call{g':Array sW}{t':Nat}{d':Drawn}{ch:List vJ}(I:Inv X pins σ H s)(u:Un (frs X.stack) ch H H' s.heap h')(hok:HOk X.prog X.w H' h')(hg:tE g')(hch:∀b∈ch,(b∈X.ex\/X.s₀.heap.objs.size<=b)/\b≠X.env.locals/\(∀x c,X.env.cells.lookup x=some c->c≠b)/\∀p∈X.pn++pins,p.1≠b):
  Inv X pins σ H' { s with heap:=h',gens:=g',drawn:=d',toks:=t' }:=by
 obtain⟨m,⟨o,es,ep,ho,r⟩,_⟩:=id I.loc;obtain⟨sl,hL⟩:=u.any ho I.free λz=>(hch _ z).2.1 rfl;exact I.step (ch:=ch) hch (λb o hL hb hc e n=>u.keep b o e n (λz=>(zF.mp (I.stkSub b z)).elim hL hb) hc) (λb o _ _ hc e n=>u.any e n hc) (λb o hc e n=>u.free b o e n hc) (λb o hc e=>u.there b o e hc) u.tups u.frzs u.tbls (λm' hm=>by
  obtain⟨o',es',ep',ho',r'⟩:=hm;rw[ho]at ho';cases ho';exact⟨_,es',ep',hL,r'⟩) hok hg
def Inv.turned{t':Nat}{it:vJ}(I:Inv X pins σ H s)(k:∀b o,b≠it->s.heap.get? b=some o->h'.get? b=some o)(hn:H it=none)(hL:it≠X.env.locals)(h1:it∈X.ex\/X.s₀.heap.objs.size<=it)(h2:∀x c,X.env.cells.lookup x=some c->c≠it)(h3:∀p∈X.pn++pins,p.1≠it):Inv X pins σ H { s with heap:=h',toks:=t' }:=by
 have nit:∀b u,H b=some u->b≠it:=λb u e z=>by rw[z,hn]at e;cases e
 refine I.step (g':=s.gens) (d':=s.drawn) (ch:=[it]) (λb hb=>?_) (λb o _ _ hc e _=>k b o (λz=>hc (by simp[z])) e) (λb o _ _ hc e _=>⟨o.slots,k b o (λz=>hc (by simp[z])) e⟩) (λ_ _ _ _ n=>n)
  (λb o hc e=>⟨o,k b o (λz=>hc (by simp[z])) e⟩) (λ_ _ e=>e) (λ_ _ _ e=>e) (λb ps e=>⟨#[],by rw[e];simp⟩) (λm hm=>?_) (λb u e=>?_) I.bare
 ·have e:b=it:=by simpa using hb
  subst e;exact⟨h1,hL,h2,h3⟩
 ·obtain⟨o,es,ep,ho,r⟩:=hm
  exact⟨o,es,ep,k _ o (Ne.symm hL) ho,r⟩
 ·refine(I.hok b u e).stay (λc v hc q=>k c v ?_ q) (λ_ q=>q) λ_ _ q=>q
  rcases hc with z|z
  ·rw[z];exact nit b u e
  ·exact nit c _ z
def Inv.tok(I:Inv X pins σ H s)(t:Nat):Inv X pins σ H { s with toks:=t }:=I.un (h':=s.heap) (t':=t) Un.refl I.hok
theorem Inv.kept{t':Nat}(I:Inv X pins σ H s)(k:∀b u,s.heap.get? b=some u->h'.get? b=some u):Inv X pins σ H { s with heap:=h',toks:=t' }:=I.un (Un.kept k) (I.hok.kept k)
theorem Inv.laid{a:vJ}{o:HO}{t':Nat}(I:Inv X pins σ H s)(k:∀b u,s.heap.get? b=some u->h'.get? b=some u)(hp:s.heap.objs.size<=a)(new:XF X.prog X.w (upd H a o) h' a o):
  Inv X pins σ (upd H a o) { s with heap:=h',toks:=t' }:=I.un (Un.laid k hp (I.hok.fresh hp)) (I.hok.laid k hp new)
theorem Inv.write{x e:vJ}{o:HO}{t':Nat}(I:Inv X pins σ H s)(mu:Mut (H x))(he:e=x\/H e=some (.own x))(k:∀b u,b≠e->s.heap.get? b=some u->h'.get? b=some u)(heo:∃u,h'.get? e=some u)(new:XF X.prog X.w (upd H x o) h' x o):Inv X pins σ (upd H x o) { s with heap:=h',toks:=t' }:=I.un (Un.write mu he k heo) (I.hok.write mu he k heo new)
def Inv.pins_of{pins':List (vJ×Obj)}(I:Inv X pins σ H s)(h:∀p∈pins',s.heap.get? p.1=some p.2/\H p.1=none/\p.1≠X.env.locals/\p.1∉X.fs/\∀v,p.2.data≠.cell v):Inv X pins' σ H s :=
 ⟨I.ok,I.os,I.bare,I.base,I.loc,I.cell,I.free,I.freeC,λp hp=>(zT.mp hp).elim (λz=>I.pin p (za _ z)) (h p),I.hok,I.len⟩
def q8g{N:List Str}(hN:N.Nodup){i j:Nat}{x:Str}(a:N[i]?=some x)(b:N[j]?=some x):i=j:=by
 obtain⟨h1,e1⟩:=zh.mp a;obtain⟨h2,e2⟩:=zh.mp b;exact(wR hN).mp (e1.trans e2.symm)
def q7l{M:Model}{A:vb}{E:vB->vG->Prop}{i:Nat}{x:Str}{v:V}{u:vB}{Q:Unit->vG->Prop}(I:Inv X pins σ H s)(hN:X.N.Nodup)(hi:X.N[i]?=some x)(hx:Loc X.env.scope x)(r:RelV v u)(h:∀s',Inv X pins (σ.set i (some v)) H s'->(∃a,xW a s.heap s'.heap/\(a=X.env.locals\/X.env.cells.lookup x=some a))->Q () s')(hf:X.fn x=true\/X.env.scope.names.lookup x=some .local:=by first|exact .inl rfl|exact .inr rfl|assumption):vN M A (storeName X.env x u) Q E s:=by
 obtain⟨m,hn,hl⟩:=id I.loc;have hcls:(X.env.scope.kind == .class || (X.env.scope.kind == .module&&X.env.locals != X.env.globals))=false:=by rw[I.ok.kind];rfl
 have hiσ:i<σ.length:=by rw[I.len];exact(zh.mp hi).1
 have cne:=I.cne;have tracked:∀{a:vJ}{h':vn},(∃o,s.heap.get? a=some o/\H a=none)->xW a s.heap h'->HOk X.prog X.w H h':=λ{a h'} ha hs b ob e=>by
  obtain⟨_,_,hfree⟩:=ha;refine(I.hok b ob e).stay (λc w' hc q=>(hs.2 c ?_).trans q) (λ_ q=>q) λ_ _ q=>q;rintro rfl;rcases hc with rfl|hc
  ·rw[hfree]at e;cases e
  ·rw[hfree]at hc;cases hc
 rcases hx with hk|hk
 ·refine wpAny_storeName_local hk hn (λh' hn' hs=>?_) hcls
  obtain⟨oL,_,_,hoL,_⟩:=id hn;refine h _ ⟨I.ok,I.os,I.bare,⟨λb o e n hb hx=>?_,λb o e n hb hx=>?_,I.base.free,λb o e hx=>?_,I.base.tups,I.base.frzs,I.base.tbls⟩,⟨_,hn',λj y v' e1 e2 e3=>?_⟩,λy c e=>?_,I.free,I.freeC,λp hp=>?_,tracked ⟨oL,hoL,I.free⟩ hs,by simpa using I.len⟩ ⟨_,hs,.inl rfl⟩
  ·exact(hs.2 b (zi (zu (zO e) I.ok.above))).trans (I.base.keep b o e n hb hx)
  ·obtain⟨sl,e1⟩:=I.base.slot b o e n hb hx
   exact⟨sl,(hs.2 b (zi (zu (zO e) I.ok.above))).trans e1⟩
  ·obtain⟨o',e1⟩:=I.base.there b o e hx
   exact⟨o',(hs.2 b (zi (zu (zO e) I.ok.above))).trans e1⟩
  ·by_cases hj:j=i
   ·subst hj
    rw[hi]at e1;cases e1;rw[yU hiσ]at e2;cases e2;exact⟨u,r,.inl ⟨hk,by simp⟩⟩
   ·rw[zJ (Ne.symm hj)]at e2
    obtain⟨u',r',q⟩:=hl j y v' e1 e2 e3;refine⟨u',r',?_⟩;rcases q with⟨k,e⟩|⟨k,c,e,z⟩
    ·refine .inl ⟨k,?_⟩
     have:y≠x:=λe=>hj (q8g hN e1 (e▸hi));simp[this,e]
    ·exact .inr ⟨k,c,e,z.sameBut hs (cne y c e)⟩
  ·obtain⟨w',z⟩:=I.cell y c e
   exact⟨w',z.sameBut hs (cne y c e)⟩
  ·obtain⟨e,n,ne,nf,d⟩:=I.pin p hp
   exact⟨(hs.2 p.1 ne).trans e,n,ne,nf,d⟩
 ·have hfn:X.fn x=true:=by
   rcases hf with z|z
   ·exact z
   ·rw[z]at hk;cases hk
  obtain⟨c,hc⟩:=I.ok.has x (.inl hk);obtain⟨w',z⟩:=I.cell x c hc;refine wpAny_storeName_cell I.ok.kind hk hc z (λh' hc' hs=>?_);obtain⟨oc,hoc,hocd⟩:=id z;refine h { s with heap:=h' } ⟨I.ok,I.os,I.bare,⟨λb o e n hb hx=>?_,λb o e n hb hx=>?_,I.base.free,λb o e hx=>?_,I.base.tups,I.base.frzs,I.base.tbls⟩,⟨m,hn.sameBut hs (Ne.symm (cne x c hc)),λj y v' e1 e2 e3=>?_⟩,λy c' e=>?_,I.free,I.freeC,λp hp=>?_,tracked ⟨oc,hoc,I.freeC x c hc⟩ hs,by simpa using I.len⟩ ⟨c,hs,.inr hc⟩
  ·exact(hs.2 b (zi (zu (zO e) (I.ok.cab x c hfn hc)))).trans (I.base.keep b o e n hb hx)
  ·obtain⟨sl,e1⟩:=I.base.slot b o e n hb hx
   exact⟨sl,(hs.2 b (zi (zu (zO e) (I.ok.cab x c hfn hc)))).trans e1⟩
  ·obtain⟨o',e1⟩:=I.base.there b o e hx
   exact⟨o',(hs.2 b (zi (zu (zO e) (I.ok.cab x c hfn hc)))).trans e1⟩
  ·by_cases hj:j=i
   ·subst hj
    rw[hi]at e1;cases e1;rw[yU hiσ]at e2;cases e2;exact⟨u,r,.inr ⟨.inl hk,c,hc,hc'⟩⟩
   ·rw[zJ (Ne.symm hj)]at e2
    obtain⟨u',r',q⟩:=hl j y v' e1 e2 e3;refine⟨u',r',?_⟩;rcases q with q|⟨k,c',e,z'⟩
    ·exact .inl q
    ·refine .inr ⟨k,c',e,z'.sameBut hs ?_⟩
     rintro rfl;exact hj (q8g hN e1 (I.ok.inj _ _ _ e hc▸hi))
  ·by_cases hcc:c'=c
   ·subst hcc;exact⟨_,hc'⟩
   ·obtain⟨w2,z2⟩:=I.cell y c' e
    exact⟨w2,z2.sameBut hs hcc⟩
  ·obtain⟨e,n,ne,nf,d⟩:=I.pin p hp
   refine⟨(hs.2 p.1 ?_).trans e,n,ne,nf,d⟩;intro q;rw[q,hoc]at e;have q':oc=p.2:=zj e;exact d w' (by rw[<- q'];exact hocd)
def q8C{M:Model}{A:vb}{E:vB->vG->Prop}{i:Nat}{x:Str}{v:V}{u:vB}{Q:Unit->vG->Prop}(I:Inv X pins σ H s)(hN:X.N.Nodup)(hi:X.N[i]?=some x)(hx:Loc X.env.scope x)(r:RelV v u)(h:∀s',Inv X pins (σ.set i (some v)) H s'->Q () s')(hf:X.fn x=true\/X.env.scope.names.lookup x=some .local:=by first|exact .inl rfl|exact .inr rfl|assumption):vN M A (storeName X.env x u) Q E s :=
 q7l I hN hi hx r (λs' I' _=>h s' I') hf
def Inv.call'{s':vG}{ch:List vJ}(I:Inv X pins σ H s)(ho:s'.os=s.os)(u:Un (frs X.stack) ch H H' s.heap s'.heap)(hok:HOk X.prog X.w H' s'.heap)(hg:tE s'.gens)(hch:∀b∈ch,(b∈X.ex\/X.s₀.heap.objs.size<=b)/\b≠X.env.locals/\(∀x c,X.env.cells.lookup x=some c->c≠b)/\∀p∈X.pn++pins,p.1≠b):Inv X pins σ H' s':=by
 obtain⟨h',g',d',t',o'⟩:=s';have e:o'=s.os:=ho;subst e;exact I.call (g':=g') (t':=t') (d':=d') u hok hg hch
end
abbrev XK:=vB->Option vJ->Hp->Prop
abbrev St:=List (Option V)
abbrev VK:=V->Hp->Prop
abbrev TE:=St->Hp->VK->Prop
abbrev TT:=St->Hp->(Bool->Hp->Prop)->Prop
abbrev TA:=St->Hp->(List V->Hp->Prop)->Prop
structure Ends where
 nx:St->Hp->Prop
 rt:VK
 bk:St->Hp->Prop:=λ_ _=>False
 ct:St->Hp->Prop:=λ_ _=>False
abbrev TS:=Ends->St->Hp->Prop
def EP(X:Cx)(pins:List (vJ×Obj))(σ:St)(Q:VK)(u:vB)(s':vG):Prop:=∃v H',Inv X pins σ H' s'/\RelV v u/\Q v H'
def TP(X:Cx)(pins:List (vJ×Obj))(σ:St)(Q:Bool->Hp->Prop)(b:Bool)(s':vG):Prop:=∃H',Inv X pins σ H' s'/\Q b H'
def AP(X:Cx)(pins:List (vJ×Obj))(σ:St)(Q:List V->Hp->Prop)(us:List vB)(s':vG):Prop:=∃vs H',Inv X pins σ H' s'/\XB vs us/\Q vs H'
def SP(X:Cx)(pins:List (vJ×Obj))(D:Ends)(f:Flow)(s':vG):Prop :=
 match f with
 | .next=>∃σ' H',Inv X pins σ' H' s'/\D.nx σ' H'
 | .brk=>∃σ' H',Inv X pins σ' H' s'/\D.bk σ' H'
 | .cont=>∃σ' H',Inv X pins σ' H' s'/\D.ct σ' H'
 | .ret u=>∃v σ' H',Inv X pins σ' H' s'/\RelV v u/\D.rt v H'
def PE(X:Cx)(e:vW)(t:TE):Prop :=
 ∀(pins:List (vJ×Obj))(s:vG)(σ:St)(H:Hp)(Q:VK),Inv X pins σ H s->t σ H Q->vN (model X.prog X.w) X.A (eval e X.env) (EP X pins σ Q) X.xe s
def PT(X:Cx)(e:vW)(t:TT):Prop :=
 ∀(pins:List (vJ×Obj))(s:vG)(σ:St)(H:Hp)(Q:Bool->Hp->Prop),Inv X pins σ H s->t σ H Q->vN (model X.prog X.w) X.A (sZ e X.env (eval e X.env)) (TP X pins σ Q) X.xe s
def PW(X:Cx)(e:vW)(t:TT):Prop :=
 ∀(whole:Sem vB)(pins:List (vJ×Obj))(s:vG)(σ:St)(H:Hp)(Q:Bool->Hp->Prop),Inv X pins σ H s->t σ H Q->vN (model X.prog X.w) X.A (sZ e X.env whole) (TP X pins σ Q) X.xe s
def PW.pt{X:Cx}{e:vW}{t:TT}(h:PW X e t):PT X e t:=h _
def PA(X:Cx)(es:List vW)(t:TA):Prop :=
 ∀(pos:Pos)(pins:List (vJ×Obj))(s:vG)(σ:St)(H:Hp)(Q:List V->Hp->Prop),Inv X pins σ H s->t σ H Q->vN (model X.prog X.w) X.A (spliced (v4 pos (vL es X.env))) (AP X pins σ Q) X.xe s
def PS(X:Cx)(st:vx)(t:TS):Prop :=
 ∀(pins:List (vJ×Obj))(s:vG)(σ:St)(H:Hp)(D:Ends),Inv X pins σ H s->t D σ H->vN (model X.prog X.w) X.A (exec st X.env) (SP X pins D) X.xe s
def PSs(X:Cx)(st:List vx)(t:TS):Prop :=
 ∀(pins:List (vJ×Obj))(s:vG)(σ:St)(H:Hp)(D:Ends),Inv X pins σ H s->t D σ H->vN (model X.prog X.w) X.A (execs st X.env) (SP X pins D) X.xe s
def thn{α:Type}{t:Sem α}{Q Q':α->vG->Prop}{M:Model}{A:vb}{E:vB->vG->Prop}{s:vG}(h:vN M A t Q E s)(hQ:∀a s,Q a s->Q' a s):vN M A t Q' E s:=vq h hQ λ_ _ x=>x
section
variable{X:Cx}
noncomputable def Xg(i:Nat):TE:=λσ H Q=>∃v,σ[i]?=some (some v)/\Q v H
noncomputable def tC(v:V):TE:=λ_ H Q=>Q v H
def qh5{i:Nat}{x:Str}{pos:Pos}(hN:X.N[i]?=some x)(hv:Vis X.env.scope x)(hd:(x==("__debug__" : Str))=false:=by decide)(hcd:(x==("__classdict__" : Str))=false:=by decide):PE X (.Name x pos) (Xg i):=by
 intro pins s σ H Q I h;obtain⟨v,e,h⟩:=h;obtain⟨m,hn,hl⟩:=I.loc;obtain⟨u,r,l⟩:=hl i x v hN e hv;have fin:EP X pins σ Q u s:=⟨v,H,I,r,h⟩;rcases l with⟨hk,hm⟩|⟨hk,c,hc,hcell⟩
 ·exact wpAny_Name (wpAny_loadName_local I.ok.kind hk hn hm fin) hd
 ·rcases hk with hk|hk
  ·exact wpAny_Name (wpAny_loadName_cell I.ok.kind hk hc hcell fin) hd
  ·exact wpAny_Name (wpAny_loadName_free I.ok.kind hk hc hcell fin hcd) hd
def qhh{i j pos}:PE X (.Constant (.int i) j pos) (tC (.int i)):=λ_ _ _ H _ I h=>wpAny_Constant_int ⟨.int i,H,I.tok _,⟨_,rfl⟩,h⟩
def qhG{b j pos}:PE X (.Constant (.bool b) j pos) (tC (.bl b)):=λ_ _ _ H _ I h=>Constant_bool ⟨.bl b,H,I,rfl,h⟩
def qgd{j pos}:PE X (.Constant .none j pos) (tC .non):=λ_ _ _ H _ I h=>Constant_none ⟨.non,H,I,rfl,h⟩
def qgz{x j pos}:PE X (.Constant (.str x) j pos) (tC (.str x)):=λ_ _ _ H _ I h=>Calls.Constant_str ⟨.str x,H,I.tok _,⟨_,rfl⟩,h⟩
def Gl(X:Cx)(x:Str):Prop:=X.env.kindOf x=some .globalImplicit
def qfl{E:vB->vG->Prop}{pins:List (vJ×Obj)}{s:vG}{σ:St}{H:Hp}{x:Str}{u:vB}{pos:Pos}{Q:vB->vG->Prop}(I:Inv X pins σ H s)(hg:Gl X x)(hm:X.mg x=some u)(h:Q u s)(hd:(x==("__debug__" : Str))=false:=by decide):vN (model X.prog X.w) X.A (eval (.Name x pos) X.env) Q E s :=
 Calls.Name_function_global I.ok.kind hg (Calls.loadGlobal_global (by rw[I.ok.glob];exact I.mod.glob.keeps I.bk) hm h) hd
def q1M{E:vB->vG->Prop}{pins:List (vJ×Obj)}{s:vG}{σ:St}{H:Hp}{x:Str}{u:vB}{pos:Pos}{Q:vB->vG->Prop}(I:Inv X pins σ H s)(hg:Gl X x)(hm:X.mg x=none)(hv:vf x=some u)(h:Q u s)(hn:x ≠ "__name__" := by decide)(hd:(x==("__debug__" : Str))=false:=by decide):vN (model X.prog X.w) X.A (eval (.Name x pos) X.env) Q E s:=by
 obtain⟨mb,h1,h2⟩:=I.mod.blt;exact Calls.Name_function_global I.ok.kind hg (Calls.loadGlobal_builtin (by rw[I.ok.glob];exact I.mod.glob.keeps I.bk) hm (by rw[I.ok.blt];exact h1.keeps I.bk) ((h2 x hn).trans hv) h) hd
def qfb{x:Str}{v:V}{u:vB}{pos:Pos}(hg:Gl X x)(hm:X.mg x=none)(hv:vf x=some u)(r:RelV v u)(hn:x ≠ "__name__" := by decide)(hd:(x==("__debug__" : Str))=false:=by decide):PE X (.Name x pos) (tC v) :=
 λ_ _ _ H _ I h=>q1M I hg hm hv ⟨v,H,I,r,h⟩ hn hd
variable{a b:vW}{ta tb:TE}{pos:Pos}
def PC(X:Cx)(op:sL)(a b:vW)(t:TE):Prop :=
 ∀(pins:List (vJ×Obj))(s:vG)(σ:St)(H:Hp)(Q:VK),Inv X pins σ H s->t σ H Q ->
  vN (model X.prog X.w) X.A (eval a X.env) (λv s₁=>vN (model X.prog X.w) X.A (eval b X.env) (λu s₂=>vN (model X.prog X.w) X.A (uC op v u) (EP X pins σ Q) X.xe s₂) X.xe s₁) X.xe s
def zB7(b:vW){op:sL}(h:op≠.In)(h2:op≠.NotIn):v5 op b=false:=by
 have e1:(op==CmpOp.In)=false:=by cases op <;> first|rfl|exact vK rfl h
 have e2:(op==CmpOp.NotIn)=false:=by cases op <;> first|rfl|exact vK rfl h2
 cases b <;> simp[v5,e1,e2]
def tB(t:TE):TT:=λσ H Q=>t σ H λx H1=>∃c,x=.bl c/\Q c H1
def qgG{op:sL}{t:TE}(h:PC X op a b t)(h1:v5 op b=false:=by first|exact zB7 _ (by decide) (by decide)|rfl):PT X (.Compare a [op] [b] pos) (tB t):=by
 intro pins s σ H Q I hw;refine tU (thn (h pins s σ H _ I hw) λv s1 h1=>thn h1 λu s2 h2=>thn h2 λc s3 ⟨x,H1,I1,r1,q1⟩=>?_) h1;obtain⟨d,rfl,q⟩:=q1;cases r1;exact uG ⟨H1,I1,q⟩
variable{tA tB':TT}{rest:List vW}
noncomputable def tAnd(t u:TT):TT:=λσ H Q=>t σ H λc H1=>if c=true then u σ H1 Q else Q false H1
noncomputable def tOr(t u:TT):TT:=λσ H Q=>t σ H λc H1=>if c=true then Q true H1 else u σ H1 Q
def tNot(t:TT):TT:=λσ H Q=>t σ H λc H1=>Q (!c) H1
def qfF(ha:PT X a tA):PW X (.BoolOp .And [a] pos) tA:=by
 intro wh pins s σ H Q I h;refine isTrue_and (thn (ha pins s σ H Q I h) λc s1 e=>?_);cases c with
 | true=>exact isTrue_and_nil e
 | false=>exact e
def qdz(ha:PT X a tA):PW X (.BoolOp .Or [a] pos) tA:=by
 intro wh pins s σ H Q I h;refine isTrue_or (thn (ha pins s σ H Q I h) λc s1 e=>?_);cases c with
 | false=>exact isTrue_or_nil e
 | true=>exact e
def qgC(ha:PT X a tA)(hb:PW X (.BoolOp .And (b::rest) pos) tB'):PW X (.BoolOp .And (a::b::rest) pos) (tAnd tA tB'):=by
 intro wh pins s σ H Q I h;refine isTrue_and (thn (ha pins s σ H _ I h) λc s1 ⟨H1,I1,q1⟩=>?_);cases c with
 | true=>exact hb wh pins s1 σ H1 Q I1 q1
 | false=>exact⟨H1,I1,q1⟩
def qeF(ha:PT X a tA)(hb:PW X (.BoolOp .Or (b::rest) pos) tB'):PW X (.BoolOp .Or (a::b::rest) pos) (tOr tA tB'):=by
 intro wh pins s σ H Q I h;refine isTrue_or (thn (ha pins s σ H _ I h) λc s1 ⟨H1,I1,q1⟩=>?_);cases c with
 | true=>exact⟨H1,I1,q1⟩
 | false=>exact hb wh pins s1 σ H1 Q I1 q1
def qgZ(ha:PT X a tA):PT X (.UnaryOp .Not a pos) (tNot tA):=by
 intro pins s σ H Q I h;exact isTrue_not (ha pins s σ H (λc H1=>Q (!c) H1) I h)
noncomputable def tAndV(ta tb:TE):TE:=λσ H Q=>ta σ H λx H1=>∃c,x=.bl c/\if c=true then tb σ H1 Q else Q (.bl false) H1
noncomputable def tOrV(ta tb:TE):TE:=λσ H Q=>ta σ H λx H1=>∃c,x=.bl c/\if c=true then Q (.bl true) H1 else tb σ H1 Q
def tNotV(ta:TE):TE:=λσ H Q=>ta σ H λx H1=>∃c,x=.bl c/\Q (.bl (!c)) H1
def qgq{op}{t:TE}(h:PE X a t):PE X (.BoolOp op [a] pos) t:=λpins s σ H Q I hw=>BoolOp_one (h pins s σ H Q I hw)
def qgT(ha:PE X a ta)(hb:PE X (.BoolOp .And (b::rest) pos) tb):PE X (.BoolOp .And (a::b::rest) pos) (tAndV ta tb):=by
 intro pins s σ H Q I h;refine BoolOp_and (thn (ha pins s σ H _ I h) λv s1 ⟨x,H1,I1,r1,q1⟩=>?_);obtain⟨c,rfl,q1⟩:=q1;cases r1;refine uG ?_;cases c with
 | true=>exact hb pins s1 σ H1 Q I1 q1
 | false=>exact⟨.bl false,H1,I1,rfl,q1⟩
def qhz(ha:PE X a ta)(hb:PE X (.BoolOp .Or (b::rest) pos) tb):PE X (.BoolOp .Or (a::b::rest) pos) (tOrV ta tb):=by
 intro pins s σ H Q I h;refine BoolOp_or (thn (ha pins s σ H _ I h) λv s1 ⟨x,H1,I1,r1,q1⟩=>?_);obtain⟨c,rfl,q1⟩:=q1;cases r1;refine uG ?_;cases c with
 | false=>exact hb pins s1 σ H1 Q I1 q1
 | true=>exact⟨.bl true,H1,I1,rfl,q1⟩
def qgP(ha:PE X a ta):PE X (.UnaryOp .Not a pos) (tNotV ta):=by
 intro pins s σ H Q I h;refine UnaryOp_ (thn (ha pins s σ H _ I h) λv s1 ⟨x,H1,I1,r1,q1⟩=>?_);obtain⟨c,rfl,q1⟩:=q1;cases r1;exact not_of (uG ⟨.bl (!c),H1,I1,rfl,q1⟩)
end
def SqL(K:zA)(H:Hp)(a:vJ)(xs:List V):Prop :=
 Rd H a (.lst xs) \/
  ∃(o:Obj) (its:Array vB) (n:Nat),K.lookup a=some o/\o.cls=.type "list" /\ o.dict=none/\o.data=.seq its n/\its.size<=sizeLine/\XB xs its.toList
def SqT(K:zA)(H:Hp)(a:vJ)(xs:List V):Prop :=
 Rd H a (.tup xs) \/
  ∃(o:Obj) (its:Array vB) (n:Nat),K.lookup a=some o/\o.cls=.type "tuple" /\ o.data=.seq its n/\its.size<=sizeLine/\XB xs its.toList
noncomputable def absV:vB->Option V
 | .none=>some .non
 | .bool b=>some (.bl b)
 | .int i _=>some (.int i)
 | .str x _=>some (.str x)
 | .bytes b _=>some (.byt b)
 | .float b _=>some (.flt b)
 | .ref a=>some (.ref a)
 | .type n=>some (.ty n)
 | _=>none
def RelV.abs{x:V}{u:vB}(r:RelV x u):absV u=some x:=by
 cases x with
 | non=>cases r;rfl
 | bl _=>cases r;rfl
 | int _=>obtain⟨t,rfl⟩:=r;rfl
 | str _=>obtain⟨t,rfl⟩:=r;rfl
 | byt _=>obtain⟨t,rfl⟩:=r;rfl
 | flt _=>obtain⟨t,rfl⟩:=r;rfl
 | ref _=>cases r;rfl
 | ty _=>cases r;rfl
def RelV.inj{x y:V}{u:vB}(r:RelV x u)(q:RelV y u):x=y:=zj (r.abs.symm.trans q.abs)
theorem XB.inj:∀{xs ys:List V}{us:List vB},XB xs us->XB ys us->xs=ys
 | _,_,_,.nil,.nil=>rfl
 | _,_,_,.cons r t,.cons r' t'=>by rw[r.inj r',XB.inj t t']
section
variable{X:Cx}{pins:List (vJ×Obj)}{σ:St}{H:Hp}{s:vG}{a:vJ}{xs ys:List V}
def SqL.of{K:zA}(h:H a=some (.lst xs)):SqL K H a xs:=.inl (.inl h)
def SqT.of{K:zA}(h:H a=some (.tup xs)):SqT K H a xs:=.inl (.inl h)
def Inv.list(I:Inv X pins σ H s)(h:SqL X.K H a xs):∃its:List vB,XB xs its/\PlainL s.heap a its.toArray/\xs.length<=sizeLine:=by
 rcases h with h|⟨o,its,n,hk,hc,hd,hs,hz,r⟩
 ·obtain⟨z,its,n,r,e⟩:=h.ok I.hok
  exact⟨its,r,⟨_,n,e,rfl,rfl,rfl⟩,z⟩
 ·refine⟨its.toList,r,⟨o,n,I.kIn a o hk,hc,hd,by simpa using hs⟩,?_⟩
  have e:=r.length;simp only[zQ]at e;omega
def Inv.tuple(I:Inv X pins σ H s)(h:SqT X.K H a xs):∃its:List vB,XB xs its/\IsTup s.heap a its.toArray/\xs.length<=sizeLine:=by
 rcases h with h|⟨o,its,n,hk,hc,hs,hz,r⟩
 ·obtain⟨z,its,r,p⟩:=h.ok I.hok
  exact⟨its,r,p,z⟩
 ·refine⟨its.toList,r,⟨o,I.kIn a o hk,hc,n,by simpa using hs⟩,?_⟩
  have e:=r.length;simp only[zQ]at e;omega
def Inv.list_inj(I:Inv X pins σ H s)(h:SqL X.K H a xs)(h':SqL X.K H a ys):xs=ys:=by
 obtain⟨its,r,⟨o,n,e,_,_,d⟩,_⟩:=I.list h;obtain⟨its',r',⟨o',n',e',_,_,d'⟩,_⟩:=I.list h';rw[e]at e';cases e';rw[d]at d';injection d' with d1 _;have:its=its':=by simpa using uA Yk d1
 subst this;exact r.inj r'
def Inv.tuple_inj(I:Inv X pins σ H s)(h:SqT X.K H a xs)(h':SqT X.K H a ys):xs=ys:=by
 obtain⟨its,r,⟨o,e,_,n,d⟩,_⟩:=I.tuple h;obtain⟨its',r',⟨o',e',_,n',d'⟩,_⟩:=I.tuple h';rw[e]at e';cases e';rw[d]at d';injection d' with d1 _;have:its=its':=by simpa using uA Yk d1
 subst this;exact r.inj r'
end
abbrev Cx.wish(X:Cx)(E:vB->vG->Prop):Cx:={ X with xe:=E }
noncomputable abbrev Cx.nox(X:Cx):Cx:=X.wish λ_ _=>False
theorem Cx.Ok.wish{X:Cx}(ok:X.Ok)(E:vB->vG->Prop):(X.wish E).Ok :=
 ⟨ok.mod,ok.kind,ok.glob,ok.blt,ok.above,ok.inj,ok.has,ok.cab,ok.hd,ok.frames,ok.stk,ok.exf,ok.bs,ok.bsz,ok.noex,ok.exfs,ok.funs,ok.frf⟩
def Cx.Ok.unwish{X:Cx}{E:vB->vG->Prop}(ok:(X.wish E).Ok):X.Ok :=
 ⟨ok.mod,ok.kind,ok.glob,ok.blt,ok.above,ok.inj,ok.has,ok.cab,ok.hd,ok.frames,ok.stk,ok.exf,ok.bs,ok.bsz,ok.noex,ok.exfs,ok.funs,ok.frf⟩
section
variable{X:Cx}{pins:List (vJ×Obj)}{σ:St}{H:Hp}{s:vG}{E:vB->vG->Prop}
theorem Inv.wish(I:Inv X pins σ H s)(E:vB->vG->Prop):Inv (X.wish E) pins σ H s:=⟨I.ok.wish E,I.os,I.bare,I.base,I.loc,I.cell,I.free,I.freeC,I.pin,I.hok,I.len⟩
theorem Inv.unwish(I:Inv (X.wish E) pins σ H s):Inv X pins σ H s:=⟨I.ok.unwish,I.os,I.bare,I.base,I.loc,I.cell,I.free,I.freeC,I.pin,I.hok,I.len⟩
theorem SP.unwish{D:Ends}{f:Flow}{s':vG}(h:SP (X.wish E) pins D f s'):SP X pins D f s':=by
 cases f with
 | next=>obtain⟨σ',H',I,q⟩:=h;exact⟨σ',H',I.unwish,q⟩
 | brk=>obtain⟨σ',H',I,q⟩:=h;exact⟨σ',H',I.unwish,q⟩
 | cont=>obtain⟨σ',H',I,q⟩:=h;exact⟨σ',H',I.unwish,q⟩
 | ret u=>obtain⟨v,σ',H',I,r,q⟩:=h;exact⟨v,σ',H',I.unwish,r,q⟩
theorem PSs.nox{st:List vx}{t:TS}(h:PSs X.nox st t):PSs X st t:=λpins s σ H D I hw=>
 vq (h pins s σ H D (I.wish _) hw) (λ_ _ q=>q.unwish) λ_ _ z=>False.elim z
end
section
variable{X:Cx}{st:vx}{rest:List vx}{t u:TS}{e:vW}{te:TE}{pos:Pos}
def tNext:TS:=λD σ H=>D.nx σ H
def zBJ(t u:TS):TS:=λD σ H=>t { D with nx:=u D } σ H
def qfI:PSs X [] tNext:=λ_ _ σ H _ I h=>uu ⟨σ,H,I,h⟩
def qC(h1:PS X st t)(h2:PSs X rest u):PSs X (st::rest) (zBJ t u):=by
 intro pins s σ H D I h;refine wpAny_execs_cons (thn (h1 pins s σ H { D with nx:=u D } I h) λf s1 q=>?_);cases f with
 | next=>
  obtain⟨σ',H',I',q⟩:=q;exact h2 pins s1 σ' H' D I' q
 | ret v=>exact q
 | brk=>exact q
 | cont=>exact q
def q0E(h1:PS X st t):PSs X [st] t:=by
 intro pins s σ H D I h;refine wpAny_execs_cons (thn (h1 pins s σ H D I h) λf s1 q=>?_);cases f with
 | next=>exact uu q
 | ret v=>exact q
 | brk=>exact q
 | cont=>exact q
def Inv.quiet{pins:List (vJ×Obj)}{σ:St}{H:Hp}{s:vG}(I:Inv X pins σ H s):interactive X.env=false:=by simp[interactive,I.ok.kind]
def zBX(te:TE):TS:=λD σ H=>te σ H λ_ H1=>D.nx σ H1
def q1r(he:PE X e te)(hs:v3 e none pos.line X.env=pure false:=by rfl):PS X (.Expr e pos) (zBX te):=by
 intro pins s σ H D I h;exact wpAny_Expr_any (thn (he pins s σ H _ I h) λv s1 ⟨x,H1,I1,r1,q1⟩=>⟨σ,H1,I1,q1⟩) I.quiet hs
def tRet(te:TE):TS:=λD σ H=>te σ H D.rt
def q49(he:PE X e te):PS X (.Return (some e) pos) (tRet te):=by
 intro pins s σ H D I h;exact wpAny_Return_some (thn (he pins s σ H _ I h) λv s1 ⟨x,H1,I1,r1,q1⟩=>⟨x,σ,H1,I1,r1,q1⟩)
noncomputable def tIfS(c:TT)(t u:TS):TS:=λD σ H=>c σ H λb H1=>if b=true then t D σ H1 else u D σ H1
def qeL{c:vW}{a b:List vx}{tc:TT}(hc:PT X c tc)(ha:PSs X a t)(hb:PSs X b u):PS X (.If c a b pos) (tIfS tc t u):=by
 intro pins s σ H D I h;refine wpAny_If (thn (hc pins s σ H _ I h) λd s1 ⟨H1,I1,q1⟩=>?_);cases d with
 | true=>exact ha pins s1 σ H1 D I1 q1
 | false=>exact hb pins s1 σ H1 D I1 q1
def tNever:TS:=λ_ _ _=>False
def qe8:PS X st tNever:=λ_ _ _ _ _ _ h=>h.elim
end
abbrev TG:=V->St->Hp->(St->Hp->Prop)->Prop
abbrev TGs:=List V->St->Hp->(St->Hp->Prop)->Prop
def PG(X:Cx)(target:vW)(t:TG):Prop :=
 ∀(pins:List (vJ×Obj))(s:vG)(σ:St)(H:Hp)(v:V)(u:vB)(Q:St->Hp->Prop),Inv X pins σ H s->RelV v u->t v σ H Q ->
  vN (model X.prog X.w) X.A (assign target X.env u) (λ_ s'=>∃σ' H',Inv X pins σ' H' s'/\Q σ' H') X.xe s
def PGs(X:Cx)(ts:List vW)(t:TGs):Prop :=
 ∀(pins:List (vJ×Obj))(s:vG)(σ:St)(H:Hp)(vs:List V)(us:List vB)(Q:St->Hp->Prop),Inv X pins σ H s->XB vs us->t vs σ H Q ->
  vN (model X.prog X.w) X.A (assignInOrder ((uL ts X.env).map (·.2)) us) (λ_ s'=>∃σ' H',Inv X pins σ' H' s'/\Q σ' H') X.xe s
abbrev TSet:=V->V->V->Hp->(Hp->Prop)->Prop
def PSet(X:Cx)(t:TSet):Prop :=
 ∀(pins:List (vJ×Obj))(s:vG)(σ:St)(H:Hp)(o i v:V)(ov iv u:vB)(Q:Hp->Prop),Inv X pins σ H s->RelV o ov->RelV i iv->RelV v u->t o i v H Q ->
  vN (model X.prog X.w) X.A (sT ov iv u) (λ_ s'=>∃H',Inv X pins σ H' s'/\Q H') X.xe s
section
variable{X:Cx}{pos:Pos}
noncomputable def WF(i:Nat):TG:=λv σ H Q=>Q (σ.set i (some v)) H
def q3o{i:Nat}{x:Str}(hN:X.N.Nodup)(hi:X.N[i]?=some x)(hx:Loc X.env.scope x)(hf:X.fn x=true\/X.env.scope.names.lookup x=some .local:=by first|exact .inl rfl|exact .inr rfl|assumption):PG X (.Name x pos) (WF i):=by
 intro pins s σ H v u Q I r h;exact wpAny_assign_Name (q8C I hN hi hx r (λs' I'=>⟨_,H,I',h⟩) hf)
def gNil:TGs:=λvs σ H Q=>vs=[]/\Q σ H
noncomputable def gCons(t:TG)(u:TGs):TGs:=λvs σ H Q=>∃v r,vs=v::r/\t v σ H λσ' H'=>u r σ' H' Q
def q9U:PGs X [] gNil:=by
 intro pins s σ H vs us Q I r h;obtain⟨e,h⟩:=h;subst e;cases r;exact assignInOrder_nil ⟨σ,H,I,h⟩
def q5f{e:vW}{es:List vW}{t:TG}{u:TGs}(h1:PG X e t)(h2:PGs X es u)(hs:(uL (e::es) X.env).map (·.2)=assign e X.env::(uL es X.env).map (·.2):=by rfl):PGs X (e::es) (gCons t u):=by
 intro pins s σ H vs us Q I r h;obtain⟨v,vr,e1,h⟩:=h;subst e1;cases r with
 | cons r rr=>
  rw[hs];refine assignInOrder_cons (thn (h1 pins s σ H _ _ _ I r h) λ_ s1 ⟨σ1,H1,I1,q1⟩=>?_);exact h2 pins s1 σ1 H1 _ _ Q I1 rr q1
noncomputable def gTup(K:zA)(n:Nat)(t:TGs):TG:=λv σ H Q=>∃a xs,v=.ref a/\SqT K H a xs/\xs.length=n/\t xs σ H Q
def qc1{es:List vW}{k:Nat}{t:TGs}{n:Nat}(hc:X.calm=true)(h:PGs X es t)(hn:(uL es X.env).length=n:=by rfl)(hst:(uL es X.env).findIdx? (·.1)=none:=by rfl):PG X (.Tuple es k pos) (gTup X.K n t):=by
 intro pins s σ H v u Q I r hw;obtain⟨a,xs,e1,hq,hl,hw⟩:=hw;subst e1;cases r;obtain⟨its,rv,ht,hz⟩:=I.tuple hq;refine assign_Tuple_tuple (I.ok.hd hc) ht (by simp[hn,<- hl,rv.length]) hst λh' hx=>?_;have I1:Inv X pins σ H { s with heap:=h' }:=I.kept (t':=s.toks) λb o e=>hx b o (zi (zO e)) e;exact h pins _ σ H xs _ Q I1 ⇑rv hw
noncomputable def gSub(to ti:TE)(t:TSet):TG:=λv σ H Q=>to σ H λo H1=>ti σ H1 λi H2=>t o i v H2 λH3=>Q σ H3
def qcD{o i:vW}{to ti:TE}{t:TSet}(ho:PE X o to)(hi:PE X i ti)(hs:PSet X t)(ha:∀v,assign (.Subscript o i pos) X.env v=(do
   let ov <- holding [v] (eval o X.env)
   let iv <- holding [v,ov] (eval i X.env)
   sU pos
   holding [v,ov,iv] (sT ov iv v)
   release [v,ov,iv] []):=by intro _;rfl):PG X (.Subscript o i pos) (gSub to ti t):=by
 intro pins s σ H v u Q I r h;rw[ha];refine vA (vh (thn (ho pins s σ H _ I h) λov s1 ⟨x,H1,I1,r1,q1⟩=>?_));refine vA (vh (thn (hi pins s1 σ H1 _ I1 q1) λiv s2 ⟨y,H2,I2,r2,q2⟩=>?_));refine vA (tq (vA (vh (thn (hs pins s2 σ H2 x y v ov iv u _ I2 r1 r2 r q2) λ_ s3 ⟨H3,I3,q3⟩=>?_))));exact wpAny_release ⟨σ,H3,I3,q3⟩
def zA0(te:TE)(g:TG):TS:=λD σ H=>te σ H λx H1=>g x σ H1 D.nx
def qcZ{tg e:vW}{te:TE}{g:TG}(he:PE X e te)(hg:PG X tg g)(hs:tt [tg] e pos.line X.env=pure false:=by rfl)(hw:tu [tg] e X.env=pure none:=by rfl)(h1:(uL [tg] X.env).map (·.2)=[assign tg X.env]:=by rfl):PS X (.Assign [tg] e pos) (zA0 te g):=by
 intro pins s σ H D I h;refine wpAny_Assign_stores (thn (he pins s σ H _ I h) λv s1 ⟨x,H1,I1,r1,q1⟩=>?_) hs hw;rw[h1];exact thn (hg pins s1 σ H1 x v _ I1 r1 q1) λ_ s2 q=>q
def q0b{i:Nat}{x:Str}{e:vW}{te:TE}{pos':Pos}(hN:X.N.Nodup)(hi:X.N[i]?=some x)(hx:Loc X.env.scope x)(he:PE X e te)(hs:v3 e (some (.Name x pos')) pos.line X.env=pure false:=by rfl)(hf:X.fn x=true\/X.env.scope.names.lookup x=some .local:=by first|exact .inl rfl|exact .inr rfl|assumption):
  PS X (.Assign [.Name x pos'] e pos) (zA0 te (WF i)):=by
 intro pins s σ H D I h;refine wpAny_Assign_Name (thn (he pins s σ H _ I h) λv s1 ⟨y,H1,I1,r1,q1⟩=>?_) hs;exact q8C I1 hN hi hx r1 (λs2 I2=>⟨_,H1,I2,q1⟩) hf
end
section
variable{X:Cx}{pos:Pos}
noncomputable def zBl(c:TT)(tb:TS):TS:=λD σ H=>∃W:Nat->St->Hp->Prop,(∃m,W m σ H)/\∀m σ H,W m σ H ->
 c σ H λb H1=>if b=true then ∃N:St->Hp->Prop,(∀σ' H',N σ' H'->∃m',m'<m/\W m' σ' H')/\tb { D with nx:=N,ct:=N,bk:=D.nx } σ H1 else D.nx σ H1
def q91{c:vW}{body:List vx}{tc:TT}{tb:TS}(hp:tL (model X.prog X.w) X.A X.env X.xe)(hc:PT X c tc)(hb:PSs X body tb):PS X (.While c body [] pos) (zBl tc tb):=by
 intro pins s σ H D I h;obtain⟨W,⟨m0,w0⟩,turn⟩:=h;refine wpAny_While (codeAny_whileLoop (λn s'=>∃σ' H',Inv X pins σ' H' s'/\W n σ' H') ?_ m0 ⟨σ,H,I,w0⟩);rintro n s1 ⟨σ1,H1,I1,w1⟩;refine uN hp (thn (hc pins s1 σ1 H1 _ I1 (turn n σ1 H1 w1)) λb s2 ⟨H2,I2,q2⟩=>?_);cases b with
 | true=>
  obtain⟨N,hN,q2⟩:=q2;rw[vC rfl];refine uN hp (thn (hb pins s2 σ1 H2 _ I2 q2) λf s3 q3=>?_);cases f with
  | next=>
   obtain⟨σ3,H3,I3,n3⟩:=q3;obtain⟨m',hm,w3⟩:=hN σ3 H3 n3;exact⟨m',hm,σ3,H3,I3,w3⟩
  | cont=>
   obtain⟨σ3,H3,I3,n3⟩:=q3;obtain⟨m',hm,w3⟩:=hN σ3 H3 n3;exact⟨m',hm,σ3,H3,I3,w3⟩
  | brk=>exact q3
  | ret v=>exact q3
 | false=>
  rw[vF zy];exact uu ⟨σ1,H2,I2,q2⟩
end
structure It where
 go:Nat->Hp->Prop
 yld:Nat->Hp->V->Hp->Prop
 stop:Nat->Hp->Prop
def zBe(X:Cx)(pins:List (vJ×Obj))(H:Hp)(b:vJ):Prop :=
 H b=none/\b≠X.env.locals/\b∉X.fs/\(b∈X.ex\/X.s₀.heap.objs.size<=b)/\(∀x c,X.env.cells.lookup x=some c->c≠b)/\∀p∈X.pn++pins,p.1≠b
def Inv.fpOk{X:Cx}{pins:List (vJ×Obj)}{σ:St}{H H':Hp}{s:vG}{b:vJ}(I:Inv X pins σ H s)(hb:s.heap.objs.size<=b)(hn:H' b=none):zBe X pins H' b:=by
 refine⟨hn,wI (zu I.lt hb),I.nofs hb,.inr (yJ I.sz hb),λx c e z=>?_,λp hp z=>?_⟩
 ·obtain⟨v,q⟩:=I.cell x c e
  exact vK (zu q.lt (by rw[z];exact hb)) (xP _)
 ·exact vK (zu (zO (I.pin p hp).1) (by rw[z];exact hb)) (xP _)
structure Turn (P:vQ) (w:vZ) (K:zA) (tg:vW) (J:It) (fp:List vJ) (it:vJ) (tn:Nat->vn->Prop):Prop where
 mem:it∈fp
 obj:∀i h,tn i h->∀b∈fp,∃o,h.get? b=some o/\∀v,o.data≠.cell v
 keep:∀i h h',tn i h->(∀b∈fp,∀o,h.get? b=some o->h'.get? b=some o)->tn i h'
 item:∀(X:Cx),X.prog=P->X.w=w->X.K=K->X.calm=true->∀(i:Nat)(pins:List (vJ×Obj))(s:vG)(σ:St)(H:Hp)(E:vB->vG->Prop),Inv X pins σ H s->(∀b∈fp,zBe X pins H b)->tn i s.heap->J.go i H ->
  vN (model P w) X.A (uI (.ref it)) (λr s1=>∃u,r=some u /\
   vN (model P w) X.A (uv tg (.ref it) u) (λ_ s2=>∃x H',Inv X pins σ H' s2/\RelV x u/\J.yld i H x H'/\tn (i+1) s2.heap/\∀b∈fp,H' b=none) E s1) E s
 done:∀(X:Cx),X.prog=P->X.w=w->X.K=K->X.calm=true->∀(i:Nat)(pins:List (vJ×Obj))(s:vG)(σ:St)(H:Hp)(E:vB->vG->Prop),Inv X pins σ H s->(∀b∈fp,zBe X pins H b)->tn i s.heap->J.stop i H ->
  vN (model P w) X.A (uI (.ref it)) (λr s1=>r=none/\Inv X pins σ H s1) E s
 self:∀(A:vb)(i:Nat)(s:vG)(Q:vB->vG->Prop)(E:vB->vG->Prop),tn i s.heap->Q (.ref it) s->vN (model P w) A (t6 (.ref it)) Q E s
abbrev TI:=St->Hp->(It->Hp->Prop)->Prop
def PIE(X:Cx)(pins:List (vJ×Obj))(σ:St)(tg:vW)(R:It->Hp->Prop)(itv:vB)(s2:vG):Prop :=
 ∃(it:vJ) (fp:List vJ) (tn:Nat->vn->Prop) (J:It) (H':Hp),itv=.ref it/\Inv X pins σ H' s2/\Turn X.prog X.w X.K tg J fp it tn/\tn 0 s2.heap/\(∀b∈fp,zBe X pins H' b)/\R J H'
def PI(X:Cx)(tg iter:vW)(wi:TI):Prop :=
 ∀(pins:List (vJ×Obj))(s:vG)(σ:St)(H:Hp)(R:It->Hp->Prop),Inv X pins σ H s->wi σ H R ->
  vN (model X.prog X.w) X.A (eval iter X.env) (λv s1=>vN (model X.prog X.w) X.A (t6 v) (PIE X pins σ tg R) X.xe s1) X.xe s
def qby{M:Model}{A:vb}{E:vB->vG->Prop}{s:vG}{tg:vW}{it:vJ}{u:vB}{o:Obj}{n:String}{vs:Array vB}{Q:Unit->vG->Prop}(ho:s.heap.get? it=some o)(hc:o.cls=.type n)(hd:o.data=.fields vs)(hn:["enumerate", "zip", "dict_itemiterator", "dict_reverseitemiterator", "odict_iterator", "itertools.zip_longest", "itertools.pairwise"].contains n=false)(hQ:Q () s):vN M A (uv tg (.ref it) u) Q E s:=by
 unfold uv;cases tg <;> first
  | exact vH hQ
  | (cases u <;> first
    | exact vH hQ
    | (refine vA (wpAny_load ho ?_)
       rw[hc,hd];show vN M A (if (["enumerate", "zip", "dict_itemiterator", "dict_reverseitemiterator", "odict_iterator", "itertools.zip_longest", "itertools.pairwise"].contains n&&vs[0]?==some (v8 _))=true then _ else _) Q E s;rw[vF (by intro h;rw[hn,wJ]at h;cases h)];exact vH hQ))
noncomputable def Itl(K:zA)(a:vJ):It :=
 ⟨λi H=>∃xs x,SqL K H a xs/\xs[i]?=some x,λi H x H'=>H'=H/\∀xs,SqL K H a xs->xs[i]?=some x,λi H=>∃xs,SqL K H a xs/\xs.length<=i⟩
noncomputable def Itt(K:zA)(a:vJ):It :=
 ⟨λi H=>∃xs x,SqT K H a xs/\xs[i]?=some x,λi H x H'=>H'=H/\∀xs,SqT K H a xs->xs[i]?=some x,λi H=>∃xs,SqT K H a xs/\xs.length<=i⟩
noncomputable def Itr(lo:Int)(n:Nat):It:=⟨λi _=>i<n,λi H x H'=>H'=H/\x=.int (lo+i),λi _=>n<=i⟩
def qdv{P:vQ}{w:vZ}{K:zA}{tg:vW}(a it:vJ):Turn P w K tg (Itl K a) [it] it (λi h=>h.IsListIter it a i) where
 mem:=by simp
 obj:=λi h st b hb=>by
  have e:b=it:=by simpa using hb
  subst e;obtain⟨o,e,c,d⟩:=st;exact⟨o,e,λv z=>by rw[d]at z;cases z⟩
 keep:=λi h h' st k=>st.at λo e=>k it (by simp) o e
 item:=by
  intro X hP hw hK hc i pins s σ H E I hf st hg;subst hP hw hK;obtain⟨xs,x,hq,hx⟩:=hg;obtain⟨its,rv,p,hz⟩:=I.list hq;obtain⟨u,hu,ru⟩:=rv.get hx;obtain⟨f0,f1,f2,f3,f4,f5⟩:=hf it (by simp);refine wpAny_pyNext_list_item st p.isList (x:=u) ⇑hu λh' st' sb=>?_;have I1:Inv X pins σ H { s with heap:=h' }:=I.turned (t':=s.toks) (λb o hb e=>(sb.2 b hb).trans e) f0 f1 f3 f4 f5;obtain⟨o,e,c,d⟩:=id st';exact⟨u,rfl,qby (s:={ s with heap:=h' }) e c d (by decide) ⟨x,H,I1,ru,⟨rfl,λys hy=>by rw[I.list_inj hy hq];exact hx⟩,st',λb hb=>(hf b hb).1⟩⟩
 done:=by
  intro X hP hw hK hc i pins s σ H E I hf st hg;subst hP hw hK;obtain⟨xs,hq,hx⟩:=hg;obtain⟨its,rv,p,hz⟩:=I.list hq;obtain⟨f0,f1,f2,f3,f4,f5⟩:=hf it (by simp);have hl:=rv.length;exact wpAny_pyNext_list_end (I.ok.hd hc) st p.isList (by simp;omega) λh' eb=>⟨rfl,I.turned (t':=s.toks) (λb o hb e=>eb b o hb e) f0 f1 f3 f4 f5⟩
 self:=λ_ _ _ _ _ st h=>wpAny_pyIter_listiter st h
def qbk{P:vQ}{w:vZ}{K:zA}{tg:vW}(a it:vJ):Turn P w K tg (Itt K a) [it] it (λi h=>h.IsTupleIter it a i) where
 mem:=by simp
 obj:=λi h st b hb=>by
  have e:b=it:=by simpa using hb
  subst e;obtain⟨o,e,c,d⟩:=st;exact⟨o,e,λv z=>by rw[d]at z;cases z⟩
 keep:=λi h h' st k=>st.at λo e=>k it (by simp) o e
 item:=by
  intro X hP hw hK hc i pins s σ H E I hf st hg;subst hP hw hK;obtain⟨xs,x,hq,hx⟩:=hg;obtain⟨its,rv,p,hz⟩:=I.tuple hq;obtain⟨u,hu,ru⟩:=rv.get hx;obtain⟨f0,f1,f2,f3,f4,f5⟩:=hf it (by simp);refine wpAny_pyNext_tuple_item st (show s.heap.IsTuple a its.toArray from p) (x:=u) ⇑hu λh' st' sb=>?_;have I1:Inv X pins σ H { s with heap:=h' }:=I.turned (t':=s.toks) (λb o hb e=>(sb.2 b hb).trans e) f0 f1 f3 f4 f5;obtain⟨o,e,c,d⟩:=id st';exact⟨u,rfl,qby (s:={ s with heap:=h' }) e c d (by decide) ⟨x,H,I1,ru,⟨rfl,λys hy=>by rw[I.tuple_inj hy hq];exact hx⟩,st',λb hb=>(hf b hb).1⟩⟩
 done:=by
  intro X hP hw hK hc i pins s σ H E I hf st hg;subst hP hw hK;obtain⟨xs,hq,hx⟩:=hg;obtain⟨its,rv,p,hz⟩:=I.tuple hq;obtain⟨f0,f1,f2,f3,f4,f5⟩:=hf it (by simp);have hl:=rv.length;exact wpAny_pyNext_tuple_end (I.ok.hd hc) st (show s.heap.IsTuple a its.toArray from p) (by simp;omega) λh' eb=>⟨rfl,I.turned (t':=s.toks) (λb o hb e=>eb b o hb e) f0 f1 f3 f4 f5⟩
 self:=λ_ _ _ _ _ st h=>wpAny_pyIter_tupleiter st h
def qbN{P:vQ}{w:vZ}{K:zA}{tg:vW}(it:vJ)(lo:Int)(n:Nat):Turn P w K tg (Itr lo n) [it] it (λi h=>IsRangeIter h it (lo+(i:Nat)*1) ((n:Int)-(i:Nat)) 1) where
 mem:=by simp
 obj:=λi h st b hb=>by
  have e:b=it:=by simpa using hb
  subst e;exact⟨_,st,λv z=>by
   have z':Data.fields _=Data.cell v:=z;cases z'⟩
 keep:=λi h h' st k=>k it (by simp) _ st
 item:=by
  intro X hP hw hK hc i pins s σ H E I hf st hg;subst hP hw hK;obtain⟨f0,f1,f2,f3,f4,f5⟩:=hf it (by simp);have W:=Walks.range (prog:=X.prog) (w:=X.w) (I.ok.hd hc) it lo 1 n;refine W.item i s _ _ hg st λv h' tk hv st' kk=>?_;obtain⟨t,rfl⟩:=hv;have I1:Inv X pins σ H { s with heap:=h',toks:=tk }:=I.turned (λb o hb e=>kk b o (by simpa using hb) e) f0 f1 f3 f4 f5;refine⟨_,rfl,qby (s:={ s with heap:=h',toks:=tk }) (n := "range_iterator") st' rfl rfl (by decide) ⟨.int (lo+i),H,I1,⟨t,?_⟩,⟨rfl,rfl⟩,st',λb hb=>(hf b hb).1⟩⟩;rw[Int.mul_one]
 done:=by
  intro X hP hw hK hc i pins s σ H E I hf st hg;subst hP hw hK;obtain⟨f0,f1,f2,f3,f4,f5⟩:=hf it (by simp);exact wpAny_pyNext_range_end (I.ok.hd hc) st (by have:n<=i:=hg;omega) λh' eb=>⟨rfl,I.turned (t':=s.toks) (λb o hb e=>eb b o hb e) f0 f1 f3 f4 f5⟩
 self:=λ_ _ _ _ _ st h=>wpAny_pyIter_rangeiter st h
section
variable{X:Cx}{tg:vW}
noncomputable def iList(K:zA)(tl:TE):TI:=λσ H R=>tl σ H λx H1=>∃a,x=.ref a/\(∃xs,SqL K H1 a xs)/\R (Itl K a) H1
noncomputable def iTup(K:zA)(tl:TE):TI:=λσ H R=>tl σ H λx H1=>∃a,x=.ref a/\(∃xs,SqT K H1 a xs)/\R (Itt K a) H1
def q6D{l:vW}{tl:TE}(hl:PE X l tl):PI X tg l (iList X.K tl):=by
 intro pins s σ H R I h;refine thn (hl pins s σ H _ I h) λv s1 ⟨x,H1,I1,r1,q1⟩=>?_;obtain⟨a,e,⟨xs,hq⟩,q⟩:=q1;subst e;cases r1;obtain⟨its,rv,p,hz⟩:=I1.list hq;refine ug p.isList ?_;refine⟨s1.heap.objs.size,[s1.heap.objs.size],_,_,H1,rfl,I1.kept (t':=s1.toks) λb o e=>zH _ e,qdv a _,⟨_,zS _ rfl,rfl,rfl⟩,λb hb=>?_,q⟩;have e:b=s1.heap.objs.size:=by simpa using hb
 subst e;exact I1.fpOk (zM _) (I1.hok.fresh (zM _))
def qge{l:vW}{tl:TE}(hl:PE X l tl):PI X tg l (iTup X.K tl):=by
 intro pins s σ H R I h;refine thn (hl pins s σ H _ I h) λv s1 ⟨x,H1,I1,r1,q1⟩=>?_;obtain⟨a,e,⟨xs,hq⟩,q⟩:=q1;subst e;cases r1;obtain⟨its,rv,p,hz⟩:=I1.tuple hq;refine t7 (show s1.heap.IsTuple a its.toArray from p) ?_;refine⟨s1.heap.objs.size,[s1.heap.objs.size],_,_,H1,rfl,I1.kept (t':=s1.toks) λb o e=>zH _ e,qbk a _,⟨_,zS _ rfl,rfl,rfl⟩,λb hb=>?_,q⟩;have e:b=s1.heap.objs.size:=by simpa using hb
 subst e;exact I1.fpOk (zM _) (I1.hok.fresh (zM _))
def q8a{pins:List (vJ×Obj)}{σ:St}{H:Hp}{s:vG}{R:It->Hp->Prop}{E:vB->vG->Prop}{lo hi:Int}{t u v:Tok}{tk:Nat}(I:Inv X pins σ H s)(h1:-(2^62)<=lo)(h2:lo<2^62)(h3:-(2^62)<=hi)(h4:hi<2^62)(q:R (Itr lo (hi-lo).toNat) H):vN (model X.prog X.w) X.A (t6 (.ref s.heap.objs.size)) (PIE X pins σ tg R) E { s with heap:=s.heap.push { cls:=.type "range", data:=.fields #[.int lo t,.int hi u,.int 1 v] },toks:=tk }:=by
 refine wpAny_pyIter_range (IsRange.new ..) (small_one h1 h2 h3 h4) ?_;have I1:Inv X pins σ H { s with heap:=s.heap.push { cls:=.type "range", data:=.fields #[.int lo t,.int hi u,.int 1 v] },toks:=tk }:=I.kept λb o e=>zH _ e;refine⟨(s.heap.push { cls:=.type "range", data:=.fields #[.int lo t,.int hi u,.int 1 v] }).objs.size,[(s.heap.push { cls:=.type "range", data:=.fields #[.int lo t,.int hi u,.int 1 v] }).objs.size],_,_,H,rfl,
  I1.kept (t':=tk) λb o e=>zH _ e,qbN _ lo (hi-lo).toNat,?_,λb hb=>?_,q⟩
 ·have e1:lo+((0:Nat):Int)*1=lo:=by simp
  have e2:(((hi-lo).toNat:Nat):Int)-((0:Nat):Int)=Builtin.Range.rangeSize lo hi 1:=by rw[rangeSize_one];split <;> omega
  show IsRangeIter _ _ (lo+((0:Nat):Int)*1) ((((hi-lo).toNat:Nat):Int)-((0:Nat):Int)) 1;rw[e1,e2];exact zS _ rfl
 ·have e:b=(s.heap.push { cls:=.type "range", data:=.fields #[.int lo t,.int hi u,.int 1 v] }).objs.size:=by simpa using hb
  subst e;exact I1.fpOk (zM _) (I1.hok.fresh (zM _))
noncomputable def iRng1(ta:TA):TI:=λσ H R=>ta σ H λvs H1=>∃j:Int,vs=[.int j]/\-(2^62)<=j/\j<2^62/\R (Itr 0 j.toNat) H1
noncomputable def iRng2(ta:TA):TI:=λσ H R=>ta σ H λvs H1=>∃i j:Int,vs=[.int i,.int j]/\(-(2^62)<=i/\i<2^62/\-(2^62)<=j/\j<2^62)/\R (Itr i (j-i).toNat) H1
def qcK{a:vW}{ta:TA}{p pos:Pos}(hg:Gl X "range")(hm:X.mg "range" = none)(ha:PA X [a] ta)(hs:vL [a] X.env=[(false,eval a X.env)]:=by rfl):PI X tg (.Call (.Name "range" p) [a] [] pos) (iRng1 ta):=by
 intro pins s σ H R I h;refine Call_ (q1M I hg hm boot_range (PyProof.Rows.callWith_type1 (thn (ha pos pins s σ H _ I h) λus s1 ⟨vs,H1,I1,r1,q1⟩=>?_) hs rfl));obtain⟨j,e,q1,q2,q⟩:=q1;subst e;cases r1 with
 | cons r rr=>
  cases rr;obtain⟨t,rfl⟩:=r;exact call_range_1 (q8a I1 ∅ ∅ q1 q2 ⇑q)
def qdq{a b:vW}{ta:TA}{p pos:Pos}(hg:Gl X "range")(hm:X.mg "range" = none)(ha:PA X [a,b] ta)(hs:vL [a,b] X.env=[(false,eval a X.env),(false,eval b X.env)]:=by rfl)(hs2:vL [b] X.env=[(false,eval b X.env)]:=by rfl):
  PI X tg (.Call (.Name "range" p) [a,b] [] pos) (iRng2 ta):=by
 intro pins s σ H R I h;refine Call_ (q1M I hg hm boot_range (PyProof.Rows.callWith_type1 (thn (ha pos pins s σ H _ I h) λus s1 ⟨vs,H1,I1,r1,q1⟩=>?_) (by rw[hs,hs2]) (by rw[hs2];rfl)));obtain⟨i,j,e,⟨q1,q2,q3,q4⟩,q⟩:=q1;subst e;cases r1 with
 | cons r rr=>
  cases rr with
  | cons r' rr=>
   cases rr;obtain⟨t,rfl⟩:=r;obtain⟨t',rfl⟩:=r';exact call_range_2 (q8a I1 q1 q2 q3 q4 q)
noncomputable def tFor(wi:TI)(g:TG)(tb:TS):TS:=λD σ H=>wi σ H λJ H1=>∃W:Nat->Nat->St->Hp->Prop,(∃m,W 0 m σ H1)/\∀i m σ H,W i m σ H ->
 (J.stop i H/\D.nx σ H)\/(J.go i H/\∃N:St->Hp->Prop,(∀σ' H',N σ' H'->∃m',m'<m/\W (i+1) m' σ' H')/\∀x H',J.yld i H x H'->g x σ H' λσ2 H2=>tb { D with nx:=N,ct:=N,bk:=D.nx } σ2 H2)
noncomputable def zAW(fp:List vJ)(h:vn):List (vJ×Obj):=fp.filterMap λb=>(h.get? b).map λo=>(b,o)
def q2j{fp:List vJ}{h:vn}{b:vJ}{o:Obj}(hb:b∈fp)(e:h.get? b=some o):(b,o)∈zAW fp h:=Zt.mpr ⟨b,hb,by rw[e];rfl⟩
def qcR{fp:List vJ}{h:vn}{p:vJ×Obj}(hp:p∈zAW fp h):p.1∈fp/\h.get? p.1=some p.2:=by
 obtain⟨b,hb,e⟩:=Zt.mp hp;cases q:h.get? b with
 | none=>rw[q]at e;cases e
 | some o=>
  rw[q]at e;have e':(b,o)=p:=zj e;subst e';exact⟨hb,q⟩
def Inv.pinned{pins:List (vJ×Obj)}{σ:St}{H:Hp}{s:vG}{fp:List vJ}(I:Inv X pins σ H s)(hf:∀b∈fp,zBe X pins H b)(ho:∀b∈fp,∃o,s.heap.get? b=some o/\∀v,o.data≠.cell v):Inv X (pins++zAW fp s.heap) σ H s :=
 I.pins_of λp hp=>(zT.mp hp).elim (λz=>I.pin p (zW _ z)) λz=>by
  obtain⟨hb,e⟩:=qcR z;obtain⟨f0,f1,f2,_⟩:=hf p.1 hb;obtain⟨o,e',d⟩:=ho p.1 hb;rw[e]at e';cases e';exact⟨e,f0,f1,f2,d⟩
def Inv.unpinned{pins pl:List (vJ×Obj)}{σ:St}{H:Hp}{s:vG}(I:Inv X (pins++pl) σ H s):Inv X pins σ H s:=I.pins_of λp hp=>I.pin p (zW _ (za _ hp))
def q5z{iter:vW}{body:List vx}{wi:TI}{g:TG}{tb:TS}{pos:Pos}(hp:tL (model X.prog X.w) X.A X.env X.xe)(hc:X.calm=true)(hi:PI X tg iter wi)(hg:PG X tg g)(hb:PSs X body tb)(hs:∀x,vz iter X.env x=pure x:=by intro _;rfl):PS X (.For tg iter body [] pos) (tFor wi g tb):=by
 intro pins s σ H D I h;refine wpAny_For (thn (hi pins s σ H _ I h) λv s1 h1=>thn h1 λitv s2 h2=>?_) hs;obtain⟨it,fp,tn,J,H2,e,I2,T,st2,f2,W,⟨m0,w0⟩,turn⟩:=h2;subst e;have stat:∀{H':Hp},(∀b∈fp,H' b=none)->∀b∈fp,zBe X pins H' b:=λhn b hb=>⟨hn b hb,(f2 b hb).2⟩;refine codeAny_forLoop_any (λn s'=>∃i σ' H',Inv X pins σ' H' s'/\tn i s'.heap/\(∀b∈fp,H' b=none)/\W i n σ' H') ?_ m0 ⟨0,σ,H2,I2,st2,λb hb=>(f2 b hb).1,w0⟩;rintro n s3 ⟨i,σ3,H3,I3,st3,fr3,w3⟩;rcases turn i n σ3 H3 w3 with⟨stop,qn⟩|⟨go,N,hN,step⟩
 ·refine uN hp (thn (T.done X rfl rfl rfl hc i pins s3 σ3 H3 X.xe I3 (stat fr3) st3 stop) λr s4 ⟨hr,I4⟩=>?_)
  subst hr;exact uu ⟨σ3,H3,I4,qn⟩
 ·refine uN hp (thn (T.item X rfl rfl rfl hc i pins s3 σ3 H3 X.xe I3 (stat fr3) st3 go) λr s4 ⟨u,hr,h4⟩=>?_)
  subst hr;refine uN hp (thn h4 λ_ s5 ⟨x,H5,I5,r5,y5,st5,fr5⟩=>?_);have I5':=I5.pinned (stat fr5) (T.obj _ _ st5);refine uN hp (thn (hg _ s5 σ3 H5 x u _ I5' r5 (step x H5 y5)) λ_ s6 ⟨σ6,H6,I6,q6⟩=>?_);refine uN hp (thn (hb _ s6 σ6 H6 _ I6 q6) λf s7 q7=>?_);have again:∀{σ7:St}{H7:Hp},Inv X (pins++zAW fp s5.heap) σ7 H7 s7->N σ7 H7->∃m,m<n/\∃i σ' H',Inv X pins σ' H' s7/\tn i s7.heap/\(∀b∈fp,H' b=none)/\W i m σ' H':=λ{σ7 H7} I7 n7=>by
   obtain⟨m',hm,w7⟩:=hN σ7 H7 n7;refine⟨m',hm,i+1,σ7,H7,I7.unpinned,T.keep _ _ _ st5 λb hb o e=>(I7.pin (b,o) (zW _ (zW _ (q2j hb e)))).1,λb hb=>?_,w7⟩;obtain⟨o,e,d⟩:=T.obj _ _ st5 b hb;exact(I7.pin (b,o) (zW _ (zW _ (q2j hb e)))).2.1
  cases f with
  | next=>obtain⟨σ7,H7,I7,n7⟩:=q7;exact again I7 n7
  | cont=>obtain⟨σ7,H7,I7,n7⟩:=q7;exact again I7 n7
  | brk=>obtain⟨σ7,H7,I7,q7⟩:=q7;exact⟨σ7,H7,I7.unpinned,q7⟩
  | ret v=>obtain⟨x7,σ7,H7,I7,r7,q7⟩:=q7;exact⟨x7,σ7,H7,I7.unpinned,r7,q7⟩
end
abbrev R2:=V->V->Hp->VK->Prop
def OpR(X:Cx)(f:vB->vB->Sem vB)(r:R2):Prop :=
 ∀(pins:List (vJ×Obj))(s:vG)(σ:St)(H:Hp)(x y:V)(v u:vB)(Q:VK),Inv X pins σ H s->RelV x v->RelV y u->r x y H Q ->
  vN (model X.prog X.w) X.A (f v u) (EP X pins σ Q) X.xe s
def UnR(X:Cx)(f:vB->Sem vB)(r:V->Hp->VK->Prop):Prop :=
 ∀(pins:List (vJ×Obj))(s:vG)(σ:St)(H:Hp)(x:V)(v:vB)(Q:VK),Inv X pins σ H s->RelV x v->r x H Q ->
  vN (model X.prog X.w) X.A (f v) (EP X pins σ Q) X.xe s
def X6(X:Cx)(f:vB)(r:List V->Hp->VK->Prop):Prop :=
 ∀(pins:List (vJ×Obj))(s:vG)(σ:St)(H:Hp)(xs:List V)(us:List vB)(Q:VK),Inv X pins σ H s->XB xs us->r xs H Q ->
  vN (model X.prog X.w) X.A (call f us) (EP X pins σ Q) X.xe s
def TruR(X:Cx)(r:V->Hp->(Bool->Hp->Prop)->Prop):Prop :=
 ∀(pins:List (vJ×Obj))(s:vG)(σ:St)(H:Hp)(x:V)(v:vB)(Q:Bool->Hp->Prop),Inv X pins σ H s->RelV x v->r x H Q ->
  vN (model X.prog X.w) X.A (truthy v) (TP X pins σ Q) X.xe s
noncomputable def tOp(r:R2)(ta tb:TE):TE:=λσ H Q=>ta σ H λx H1=>tb σ H1 λy H2=>r x y H2 Q
noncomputable def tUn(r:V->Hp->VK->Prop)(ta:TE):TE:=λσ H Q=>ta σ H λx H1=>r x H1 Q
noncomputable def rI(C:Int->Int->Prop)(g:Int->Int->V):R2:=λx y H Q=>∃i j,x=.int i/\y=.int j/\C i j/\Q (g i j) H
def rI0(g:Int->Int->V):R2:=λx y H Q=>∃i j,x=.int i/\y=.int j/\Q (g i j) H
def rU(g:Int->V):V->Hp->VK->Prop:=λx H Q=>∃i,x=.int i/\Q (g i) H
section
variable{X:Cx}{a b c:vW}{ta tb tc:TE}{pos:Pos}
def binT(ha:PE X a ta)(hb:PE X b tb){pins:List (vJ×Obj)}{s:vG}{σ:St}{H:Hp}{R:V->V->Hp->Prop}(I:Inv X pins σ H s)(h:ta σ H λx H1=>tb σ H1 λy H2=>R x y H2){Q:vB->vG->Prop}{f:vB->vB->Sem vB}(hf:∀v u s2 x y H2,Inv X pins σ H2 s2->RelV x v->RelV y u->R x y H2->vN (model X.prog X.w) X.A (f v u) Q X.xe s2):
  vN (model X.prog X.w) X.A (eval a X.env) (λv s₁=>vN (model X.prog X.w) X.A (eval b X.env) (λu s₂=>vN (model X.prog X.w) X.A (f v u) Q X.xe s₂) X.xe s₁) X.xe s:=by
 refine thn (ha pins s σ H _ I h) λv s1 ⟨x,H1,I1,r1,q1⟩=>?_;refine thn (hb pins s1 σ H1 _ I1 q1) λu s2 ⟨y,H2,I2,r2,q2⟩=>?_;exact hf v u s2 x y H2 I2 r1 r2 q2
def qhy{op:Operator}{r:R2}(ho:OpR X (uP op) r)(ha:PE X a ta)(hb:PE X b tb):PE X (.BinOp a op b pos) (tOp r ta tb):=by
 intro pins s σ H Q I h;exact wpAny_BinOp (binT ha hb I h λv u s2 x y H2 I2 rx ry q=>ho pins s2 σ H2 x y v u Q I2 rx ry q)
def qhw{op:UnaryOp}{r:V->Hp->VK->Prop}(ho:UnR X (unaryOp op) r)(ha:PE X a ta):PE X (.UnaryOp op a pos) (tUn r ta):=by
 intro pins s σ H Q I h;exact UnaryOp_ (thn (ha pins s σ H _ I h) λv s1 ⟨x,H1,I1,r1,q1⟩=>ho pins s1 σ H1 x v Q I1 r1 q1)
def opI{f:vB->vB->Sem vB}{C:Int->Int->Prop}{g:Int->Int->Int}(rule:∀(i j:Int)(t u:Tok)(s:vG)(Q:vB->vG->Prop)(E:vB->vG->Prop),C i j->Q (.int (g i j) s.toks) { s with toks:=s.toks+1 }->vN (model X.prog X.w) X.A (f (.int i t) (.int j u)) Q E s):
  OpR X f (rI C λi j=>.int (g i j)):=by
 intro pins s σ H x y v u Q I rx ry h;obtain⟨i,j,rfl,rfl,hc,q⟩:=h;obtain⟨t,rfl⟩:=rx;obtain⟨t',rfl⟩:=ry;exact rule i j t t' s _ _ hc ⟨.int (g i j),H,I.tok _,⟨_,rfl⟩,q⟩
def opI0{f:vB->vB->Sem vB}{g:Int->Int->Int}(rule:∀(i j:Int)(t u:Tok)(s:vG)(Q:vB->vG->Prop)(E:vB->vG->Prop),Q (.int (g i j) s.toks) { s with toks:=s.toks+1 }->vN (model X.prog X.w) X.A (f (.int i t) (.int j u)) Q E s):
  OpR X f (rI0 λi j=>.int (g i j)):=by
 intro pins s σ H x y v u Q I rx ry h;obtain⟨i,j,rfl,rfl,q⟩:=h;obtain⟨t,rfl⟩:=rx;obtain⟨t',rfl⟩:=ry;exact rule i j t t' s _ _ ⟨.int (g i j),H,I.tok _,⟨_,rfl⟩,q⟩
def opB0{f:vB->vB->Sem vB}{g:Int->Int->Bool}(rule:∀(i j:Int)(t u:Tok)(s:vG)(Q:vB->vG->Prop)(E:vB->vG->Prop),Q (.bool (g i j)) s->vN (model X.prog X.w) X.A (f (.int i t) (.int j u)) Q E s):
  OpR X f (rI0 λi j=>.bl (g i j)):=by
 intro pins s σ H x y v u Q I rx ry h;obtain⟨i,j,rfl,rfl,q⟩:=h;obtain⟨t,rfl⟩:=rx;obtain⟨t',rfl⟩:=ry;exact rule i j t t' s _ _ ⟨.bl (g i j),H,I,rfl,q⟩
def CDiv(i j:Int):Prop:=0<j/\j<1073741824
def CPow(i j:Int):Prop:=0<=j/\j<=1000000/\i.natAbs<2^64
def CMul(i j:Int):Prop:=(-(2^64)<i/\i<2^64)\/(-(2^64)<j/\j<2^64)
def CMul.ok{i j:Int}(h:CMul i j):IntMulOk i j:=by
 rcases h with⟨h1,h2⟩|⟨h1,h2⟩
 ·exact .of_left (intBits_le_64 h1 h2)
 ·exact .of_right (intBits_le_64 h1 h2)
def qgh:OpR X (uP .Add) (rI0 λi j=>.int (i+j)):=opI0 λ_ _ _ _ _ _ _ q=>add_int q
def qgo:OpR X (uP .Sub) (rI0 λi j=>.int (i-j)):=opI0 λ_ _ _ _ _ _ _ q=>sub_int q
def qhb:OpR X (uP .Mult) (rI CMul λi j=>.int (i*j)):=opI λ_ _ _ _ _ _ _ hc q=>mul_int q hc.ok
def qeZ:OpR X (uP .FloorDiv) (rI CDiv λi j=>.int (i/j)):=opI λi j _ _ _ _ _ hc q=>by
 have h1:(0:Int)<j:=hc.1;have h2:j<1073741824:=hc.2;exact floordiv_int ∅ (by rw[Int.fdiv_eq_ediv_of_nonneg i ∅];exact q) (.inl (PyProof.noPylong_small ∅))
def qgy:OpR X (uP .Mod) (rI (λ_ j=>0<j) λi j=>.int (i%j)):=opI λi j _ _ _ _ _ hc q=>by
 have h1:(0:Int)<j:=hc;exact mod_int' ∅ (by rw[Int.fmod_eq_emod_of_nonneg i ∅];exact q)
def qhd:OpR X (uP .Pow) (rI CPow λi j=>.int (i^j.toNat)):=opI λ_ _ _ _ _ _ _ hc q=>pow_int_small hc.1 hc.2.1 hc.2.2 q
def unI{f:vB->Sem vB}{g:Int->Int}(rule:∀(i:Int)(t:Tok)(s:vG)(Q:vB->vG->Prop)(E:vB->vG->Prop),Q (.int (g i) s.toks) { s with toks:=s.toks+1 }->vN (model X.prog X.w) X.A (f (.int i t)) Q E s):
  UnR X f (rU λi=>.int (g i)):=by
 intro pins s σ H x v Q I rx h;obtain⟨i,rfl,q⟩:=h;obtain⟨t,rfl⟩:=rx;exact rule i t s _ _ ⟨.int (g i),H,I.tok _,⟨_,rfl⟩,q⟩
def qgX:UnR X (unaryOp .USub) (rU λi=>.int (-i)):=unI λ_ _ _ _ _ q=>neg_int q
end
section
variable{X:Cx}{a b c:vW}{ta tb tc:TE}{pos:Pos}
def qgc{pins:List (vJ×Obj)}{σ:St}{H:Hp}{s:vG}{Q:VK}{k k':Bool}(I:Inv X pins σ H s)(q:Q (.bl k) H)(e:k=k'):EP X pins σ Q (.bool k') s:=by
 subst e;exact⟨.bl k,H,I,rfl,q⟩
def qeB:OpR X (uC .Lt) (rI0 λi j=>.bl (decide (i<j))):=opB0 λ_ _ _ _ _ _ _ q=>lt_int q
def qeQ:OpR X (uC .LtE) (rI0 λi j=>.bl (decide (i<=j))):=opB0 λ_ _ _ _ _ _ _ q=>le_int q
def qhv:OpR X (uC .Gt) (rI0 λi j=>.bl (decide (j<i))):=opB0 λ_ _ _ _ _ _ _ q=>gt_int q
def qeJ:OpR X (uC .GtE) (rI0 λi j=>.bl (decide (j<=i))):=opB0 λ_ _ _ _ _ _ _ q=>ge_int q
def qgM:OpR X (uC .Is) (λx y H Q=>y=.non/\Q (.bl (decide (x=.non))) H):=by
 intro pins s σ H x y v u Q I rx ry h;obtain⟨rfl,q⟩:=h;cases ry;refine is_none_gen (qgc I q ?_);cases x <;> first
  | (cases rx;rfl)
  | (obtain⟨t,rfl⟩:=rx;rfl)
def OpR.or{f:vB->vB->Sem vB}{r r':R2}(h:OpR X f r)(h':OpR X f r'):OpR X f (λx y H Q=>r x y H Q\/r' x y H Q):=by
 intro pins s σ H x y v u Q I rx ry q;rcases q with q|q
 ·exact h pins s σ H x y v u Q I rx ry q
 ·exact h' pins s σ H x y v u Q I rx ry q
def Xv(b:vW){op:sL}(h:op≠.In:=by decide)(h2:op≠.NotIn:=by decide):v5 op b=false:=by
 have e1:(op==CmpOp.In)=false:=by cases op <;> first|rfl|exact vK rfl h
 have e2:(op==CmpOp.NotIn)=false:=by cases op <;> first|rfl|exact vK rfl h2
 cases b <;> simp[v5,e1,e2]
def qg8{op:sL}{r:R2}(ho:OpR X (uC op) r)(ha:PE X a ta)(hb:PE X b tb)(hm:v5 op b=false):PE X (.Compare a [op] [b] pos) (tOp r ta tb):=by
 intro pins s σ H Q I h;exact wpAny_Compare1 (binT ha hb I h λv u s2 x y H2 I2 rx ry q=>ho pins s2 σ H2 x y v u Q I2 rx ry q) hm
def tTest(t:TE):TT:=λσ H Q=>t σ H λx H'=>∃k,x=.bl k/\Q k H'
def qf2{op:sL}{r:R2}(ho:OpR X (uC op) r)(ha:PE X a ta)(hb:PE X b tb)(hm:v5 op b=false):PT X (.Compare a [op] [b] pos) (tTest (tOp r ta tb)):=by
 intro pins s σ H Q I h;refine tU (thn (ha pins s σ H _ I h) λv s1 ⟨x,H1,I1,r1,q1⟩=>thn (hb pins s1 σ H1 _ I1 q1) λu s2 ⟨y,H2,I2,r2,q2⟩=>
  thn (ho pins s2 σ H2 x y v u _ I2 r1 r2 q2) λc s3 ⟨z,H3,I3,r3,k,e,q3⟩=>?_) hm
 subst e;cases r3;exact uG ⟨H3,I3,q3⟩
def TruV(K:zA)(x:V)(H:Hp)(k:Bool):Prop :=
 match x with
 | .non=>k=false
 | .bl b=>k=b
 | .int i=>k=(i != 0)
 | .str y=>y.length<=sizeLine/\k=((y.length:Int) != 0)
 | .byt y=>y.size<=sizeLine/\k=((y.size:Int) != 0)
 | .ref p=>(∃xs,SqL K H p xs/\k=!xs.isEmpty)\/(∃xs,SqT K H p xs/\k=!xs.isEmpty)\/∃kvs,H p=some (.dK kvs)/\k=!kvs.isEmpty
 | _=>False
def qbl{κ:Type}{kvs:List (κ×V)}{vs:List (κ×vB)}(r:KV kvs vs):(!vs.isEmpty)=!kvs.isEmpty:=by
 cases r <;> rfl
def q63{xs:List V}{its:List vB}(r:XB xs its):(!its.toArray.isEmpty)=!xs.isEmpty:=by
 cases r <;> simp
def zAC:(sizeLine:Nat)<2^63:=by rw[vp];decide
def qhl:TruR X (λx H Q=>∃k,TruV X.K x H k/\Q k H):=by
 intro pins s σ H x v Q I rx h;obtain⟨k,e,q⟩:=h;have hl:=zAC;have hs:sizeLine=16777216:=vp;cases x with
 | non=>
  cases rx;have e':k=false:=e;subst e';exact truthy_none ⟨H,I,q⟩
 | bl b=>
  cases rx;have e':k=b:=e;subst e';exact uG ⟨H,I,q⟩
 | int i=>
  obtain⟨t,rfl⟩:=rx;have e':k=(i != 0):=e;subst e';exact PySem.P.truthy_int ⟨H,I,q⟩
 | str y=>
  obtain⟨t,rfl⟩:=rx;obtain⟨hy,e'⟩:y.length<=sizeLine/\k=((y.length:Int) != 0):=e;subst e';exact PySem.P.truthy_str ∅ ⟨H,I.tok _,q⟩
 | byt y=>
  obtain⟨t,rfl⟩:=rx;obtain⟨hy,e'⟩:y.size<=sizeLine/\k=((y.size:Int) != 0):=e;subst e';exact PySem.W.truthy_bytes ∅ ⟨H,I.tok _,q⟩
 | ref p=>
  cases rx;have e':(∃xs,SqL X.K H p xs/\k=!xs.isEmpty)\/(∃xs,SqT X.K H p xs/\k=!xs.isEmpty)\/∃kvs,H p=some (.dK kvs)/\k=!kvs.isEmpty:=e;rcases e' with⟨xs,hx,e'⟩|⟨xs,hx,e'⟩|⟨kvs,hx,e'⟩
  ·subst e'
   obtain⟨its,r,pl,hz⟩:=I.list hx;have hlen:=r.length;exact wpAny_truthy_list pl.isList (by simp only[zP];omega) ⟨H,I.tok _,by rw[q63 r];exact q⟩
  ·subst e'
   obtain⟨its,r,pl,hz⟩:=I.tuple hx;have hlen:=r.length;exact truthy_tuple pl (by simp only[zP];omega) ⟨H,I.tok _,by rw[q63 r];exact q⟩
  ·subst e'
   obtain⟨hz,hS,vs,r,m⟩:kvs.length<=sizeLine/\(p==uK)=false/\∃vs,KV kvs vs/\s.heap.DictOf (Y5 X.prog X.w) p vs:=I.hok p _ hx;have hlen:kvs.length=vs.length:=Paired.length r;exact wpAny_truthy_dict hS m ∅ ⟨H,I.tok _,by rw[qbl r];exact q⟩
 | _=>exact(show False from e).elim
def q3K(ha:PE X a ta)(he:∀whole,sZ a X.env whole=(do let v <- whole;sU a.pos;holding [v] (truthy v))):
  PT X a (λσ H Q=>ta σ H λx H'=>∃k,TruV X.K x H' k/\Q k H'):=by
 intro pins s σ H Q I h;exact isTrue_plain (thn (ha pins s σ H _ I h) λv s1 ⟨x,H1,I1,r1,q1⟩=>qhl pins s1 σ H1 x v Q I1 r1 q1) (he _)
def vals1{x:V}{us:List vB}(r:XB [x] us):∃u,us=[u]/\RelV x u:=by
 cases r with
 | cons r1 r2=>cases r2;exact⟨_,rfl,r1⟩
def vals2{x y:V}{us:List vB}(r:XB [x,y] us):∃u w',us=[u,w']/\RelV x u/\RelV y w':=by
 cases r with
 | cons r1 r2=>
  cases r2 with
  | cons r3 r4=>cases r4;exact⟨_,_,rfl,r1,r3⟩
def qe7:X6 X (.builtin "abs") (λxs H Q=>∃i,xs=[.int i]/\Q (.int (if i<0 then -i else i)) H):=by
 intro pins s σ H xs us Q I r h;obtain⟨i,rfl,q⟩:=h;obtain⟨u,rfl,t,rfl⟩:=vals1 r;exact call_abs_int λu tk=>⟨.int (if i<0 then -i else i),H,I.tok _,⟨_,rfl⟩,q⟩
def qc9(hc:X.calm=true):X6 X (.builtin "max") (λxs H Q=>∃i j,xs=[.int i,.int j]/\Q (.int (if j>i then j else i)) H):=by
 intro pins s σ H xs us Q I r h;obtain⟨i,j,rfl,q⟩:=h;obtain⟨u,w',rfl,⟨t,rfl⟩,⟨t',rfl⟩⟩:=vals2 r;refine max_two_ints (I.ok.hd hc) λh' tk k=>⟨_,H,I.kept k,?_,q⟩
 by_cases hj:j>i
 ·rw[vC hj,vC hj];exact⟨_,rfl⟩
 ·rw[vF hj,vF hj];exact⟨_,rfl⟩
end
structure ObjM (h:vn) (x dx C:vJ) (mA:Str->Option vB):Prop where
 obj:h.get? x=some (ZP C dx)
 ns:h.Ns1 dx mA
 ne:dx≠x
def qco{h:vn}{dx:vJ}{mA:Str->Option vB}(n:h.Ns1 dx mA):∃od,h.get? dx=some od/\∀name,ZW name od=some (mA name):=by
 obtain⟨o,es,ep,ho,hd,hk,_,hm⟩:=n;refine⟨o,ho,λname=>?_⟩;have e:=hm name;unfold nsFind findBy at e;rw[<- Array.find?_toList]at e;unfold ZW;rw[hd]
 dsimp only
 split
 ·rename_i y q
  rw[q]at e;exact uA some e
 ·rename_i q
  rw[q]at e;have a:es.toList.any (·.refKey)=false:=by
   rw[Z1];intro y hy;obtain⟨z,t,hkey⟩:=hk y (Array.mem_toList_iff.mp hy);simp[DictEntry.refKey,hkey]
  have a':¬es.toList.any (·.refKey)=true:=by rw[a];exact zy
  rw[vF a'];exact uA some e
def ObjM.look{h:vn}{x dx C:vJ}{mA:Str->Option vB}(I:ObjM h x dx C mA):∃od,PySem.W.InstAt h x (ZP C dx) C (some od)/\∀name,ZW name od=some (mA name) :=
 let ⟨od,ho,hl⟩:=qco I.ns
 ⟨od,⟨I.obj,rfl,rfl,ho⟩,hl⟩
section
variable{prog:vQ}{w:vZ}{A:vb}{E:vB->vG->Prop}{s:vG}{K:zA}{x dx C f:vJ}{mA:Str->Option vB}{name:Str}{v:vB}
end
def zBF.some_of{v:V}{o:Option vB}(r:zBF (some v) o):∃u,o=some u/\RelV v u:=by
 cases o with
 | none=>exact(show False from r).elim
 | some u=>exact⟨u,rfl,r⟩
section
variable{P:vQ}{w:vZ}{H H':Hp}{h h':vn}{a C dx:vJ}{fs fs':List (Str×V)}
def qfi(hok:HOk P w H h)(e:H a=some (.ins C dx fs)):∃mA,ObjM h a dx C mA/\(∀f,zBF (fs.lookup f) (mA f))/\PySem.Within mA (fs.map (·.1))/\fs.length<=1000/\H dx=some (.own a):=by
 obtain⟨d,z,ne,ob,mA,n,r,q⟩:=(show XF P w H h a (.ins C dx fs)from hok a _ e);exact⟨mA,⟨ob,n,ne⟩,r,q,z,d⟩
end
structure Cls (K:zA) (C:vJ):Prop where
 pg:YL K C Str.empty=true
 hd:PySem.W.hasDictIn K C=true
 po:PySem.W.plainOver K C=true
 sa:Ya K (.ref C) "__setattr__" = some (some (.builtin "object.__setattr__"))
def Cls.get{K:zA}{C:vJ}(c:Cls K C)(f:Str):YL K C f=true:=c.pg
section
variable{X:Cx}{pins:List (vJ×Obj)}{σ:St}{H:Hp}{s:vG}{a C dx:vJ}{fs:List (Str×V)}{f:Str}{v:V}{A:vb}{E:vB->vG->Prop}
end
section
variable{X:Cx}{o e value:vW}{f:Str}{pos pos' tpos:Pos}{ta tv:TE}
end
section
variable{X:Cx}{pins:List (vJ×Obj)}{σ:St}{H:Hp}{s:vG}{A:vb}{E:vB->vG->Prop}{Q:vB->vG->Prop}{c:vB}{b:Bool}
inductive TyOf (K:zA) (H:Hp):V->vB->Prop where
 | non:TyOf K H .non (.type "NoneType")
 | bl (x:Bool):TyOf K H (.bl x) (.type "bool")
 | int (i:Int):TyOf K H (.int i) (.type "int")
 | str (x:Str):TyOf K H (.str x) (.type "str")
 | flt (x:UInt64):TyOf K H (.flt x) (.type "float")
 | lst {a:vJ} {xs:List V} (e:H a=some (.lst xs)):TyOf K H (.ref a) (.type "list")
 | frz {a:vJ} {o:Obj} {xs:List V} (e:H a=some (.frz o (.lst xs))):TyOf K H (.ref a) (.type "list")
 | tup {a:vJ} {xs:List V} (e:H a=some (.tup xs)):TyOf K H (.ref a) (.type "tuple")
 | dK {a:vJ} {kvs:List (Key×V)} (e:H a=some (.dK kvs)):TyOf K H (.ref a) (.type "dict")
 | dT {a:vJ} {kvs:List (List Key×V)} (e:H a=some (.dT kvs)):TyOf K H (.ref a) (.type "dict")
 | ins {a C dx:vJ} {fs:List (Str×V)} (e:H a=some (.ins C dx fs)) (cl:Cls K C) (ha:Ya K (.ref C) "__class__" = some (some (.builtin "object.__class__")))
   (hn:PySem.W.specialIn K (.builtin "object.__class__") "__get__" = some (some (.builtin "getset_descriptor.__get__"))) (htk:PySem.W.takesIn K (.builtin "object.__class__")=some true)
   (hm:PySem.W.mroIn K C (.type "object")=some true):TyOf K H (.ref a) (.ref C)
def qcN{x:V}{u t:vB}(I:Inv X pins σ H s)(rx:RelV x u)(ty:TyOf X.K H x t)(e:ZX X.K t c=some b)(h:∀tk,Q (.bool b) { s with toks:=tk }):
  vN (model X.prog X.w) A (call (.builtin "isinstance") [u,c]) Q E s:=by
 cases ty with
 | non=>cases (show u=Value.none from rx);exact yi PySem.W.kitx_none I.kIn True.intro e (λz=>nomatch z) h
 | bl y=>cases (show u=Value.bool y from rx);exact yi PySem.W.kitx_bool I.kIn True.intro e (λz=>nomatch z) h
 | int i=>obtain⟨t,q⟩:=(show ∃t,u=Value.int i t from rx);cases q;exact yi PySem.W.kitx_int I.kIn True.intro e (λz=>nomatch z) h
 | str y=>obtain⟨t,q⟩:=(show ∃t,u=Value.str y t from rx);cases q;exact yi PySem.W.kitx_str I.kIn True.intro e (λz=>nomatch z) h
 | flt y=>obtain⟨t,q⟩:=(show ∃t,u=Value.float y t from rx);cases q;exact yi PySem.W.kitx_float I.kIn True.intro e (λz=>nomatch z) h
 | @lst a xs ea=>
  cases (show u=Value.ref a from rx);obtain⟨_,_,n,_,h1⟩:=(show XF X.prog X.w H s.heap a (.lst xs)from I.hok a _ ea);exact yi Z2 I.kIn ⟨_,h1,rfl⟩ e (λz=>nomatch z) h
 | @frz a ob xs ea=>
  cases (show u=Value.ref a from rx);obtain⟨_,_,_,n,_,h1⟩:=(show XF X.prog X.w H s.heap a (.frz ob (.lst xs))from I.hok a _ ea);exact yi Z2 I.kIn ⟨_,h1,rfl⟩ e (λz=>nomatch z) h
 | @tup a xs ea=>
  cases (show u=Value.ref a from rx);obtain⟨_,_,_,p⟩:=(show XF X.prog X.w H s.heap a (.tup xs)from I.hok a _ ea);obtain⟨o,h1,h2,_⟩:=p;exact yi PySem.W.kitx_tuple I.kIn ⟨o,h1,h2⟩ e (λz=>nomatch z) h
 | @dK a kvs ea=>
  cases (show u=Value.ref a from rx);obtain⟨_,_,vs,_,p⟩:=(show XF X.prog X.w H s.heap a (.dK kvs)from I.hok a _ ea);obtain⟨o,es,ep,h1,h2,_⟩:=p;exact yi Z3 I.kIn ⟨o,h1,h2.1⟩ e (λz=>nomatch z) h
 | @dT a kvs ea=>
  cases (show u=Value.ref a from rx);obtain⟨_,_,xs,_,o,es,ep,h1,h2,_⟩:=(show XF X.prog X.w H s.heap a (.dT kvs)from I.hok a _ ea);exact yi Z3 I.kIn ⟨o,h1,h2.1⟩ e (λz=>nomatch z) h
 | @ins a C dx fs ea cl ha hn htk hm=>
  cases (show u=Value.ref a from rx);obtain⟨mA,O,_⟩:=qfi I.hok ea;obtain⟨od,J,_⟩:=O.look;exact yi (PySem.W.kitx_own (cl.get _) cl.hd ha hn htk hm) I.kIn J e (λz=>nomatch z) h
end
structure Room (k:Nat) (A:vb):Prop where
 hd:A.handled=none
 dp:A.depth+3*k+5<recursionLimit
 un:A.units+16*k+200<ub
def Room.mono{j k:Nat}{A:vb}(r:Room k A)(h:j<=k):Room j A:=⟨r.hd,by have:=r.dp;omega,by have:=r.un;omega⟩
theorem Room.deeper{k:Nat}{A:vb}(r:Room (k+1) A)(env:Env):Room k (A.deeper env) :=
 ⟨r.hd,by have:=r.dp;show A.depth+1+3*k+5<_;omega,by have:=r.un;show A.units+3+16*k+200<_;omega⟩
theorem Room.depth{k:Nat}{A:vb}(r:Room k A):A.depth<recursionLimit:=by have:=r.dp;omega
theorem Room.units{k:Nat}{A:vb}(r:Room k A):A.units+64<ub:=by have:=r.un;omega
def zAw:TA:=λ_ H Q=>Q [] H
noncomputable def zAG(ta:TE)(tr:TA):TA:=λσ H Q=>ta σ H λx H1=>tr σ H1 λxs H2=>Q (x::xs) H2
section
variable{X:Cx}{e:vW}{es:List vW}{te:TE}{t:TA}{pos:Pos}
def qz:PA X [] zAw:=λ_ _ _ _ H Q I h=>Calls.spliced_nil ⟨[],H,I,.nil,h⟩
def qA(ha:PE X e te)(hr:PA X es t)(hs:vL (e::es) X.env=(false,eval e X.env)::vL es X.env:=by rfl):PA X (e::es) (zAG te t):=by
 intro pos pins s σ H Q I h;rw[hs];show vN _ _ (spliced ((false,eval e X.env)::v4 pos (vL es X.env))) _ _ s;refine Calls.spliced_cons (thn (ha pins s σ H _ I h) λu s1 ⟨x,H1,I1,r1,q1⟩=>?_);exact thn (hr pos pins s1 σ H1 _ I1 q1) λus s2 ⟨xs,H2,I2,r2,q2⟩=>⟨x::xs,H2,I2,.cons r1 r2,q2⟩
noncomputable def tTup(t:TA):TE:=λσ H Q=>t σ H λxs H1=>xs.length<=sizeLine/\∀p,H1 p=none->Q (.ref p) (upd H1 p (.tup xs))
noncomputable def zCx(t:TA):TE:=λσ H Q=>t σ H λxs H1=>xs.length<=sizeLine/\∀p,H1 p=none->Q (.ref p) (upd H1 p (.lst xs))
def qgI{x1}(h:PA X es t):PE X (.Tuple es x1 pos) (tTup t):=by
 intro pins s σ H Q I hq;refine wpAny_Tuple_spliced (thn (h pos pins s σ H _ I hq) λus s1 ⟨xs,H1,I1,r,z,q⟩=>⟨by rw[<- r.length];exact z,?_⟩);have hf:H1 s1.heap.objs.size=none:=I1.hok.fresh (zM _);refine⟨.ref s1.heap.objs.size,upd H1 s1.heap.objs.size (.tup xs),I1.laid (t':=s1.toks) (λb u e=>zH _ e) (zM _) ?_,rfl,q _ hf⟩;exact⟨z,us,r,⟨_,zS _ rfl,rfl,_,rfl⟩⟩
def q2J(h:PA X es t):PE X (.List es pos) (zCx t):=by
 intro pins s σ H Q I hq;refine wpAny_List_spliced (thn (h pos pins s σ H _ I hq) λus s1 ⟨xs,H1,I1,r,z,q⟩=>⟨by rw[<- r.length];exact z,?_⟩);have hf:H1 s1.heap.objs.size=none:=I1.hok.fresh (zM _);refine⟨.ref s1.heap.objs.size,upd H1 s1.heap.objs.size (.lst xs),I1.laid (t':=s1.toks) (λb u e=>zH _ e) (zM _) ?_,rfl,q _ hf⟩;exact⟨z,us,0,r,zS _ rfl⟩
end
abbrev Sp:=List V->Hp->VK->XK->Prop
abbrev CXT:=List Env->Hp->vG->XK->vB->vG->Prop
structure Env0 (P:vQ) (w:vZ) (K:zA) (mg:Str->Option vB) (base:vn) (A:vb) (outer:List Env) (s:vG) (H:Hp):Prop where
 frames:A.frames=some outer
 mod:Mod K mg base
 bs:∀b o,base.get? b=some o->s.heap.get? b=some o/\H b=none
 bsz:base.objs.size<=s.heap.objs.size
 funs:s.heap.FunFrames base outer
 frf:∀b∈frs outer,H b=none
 hok:HOk P w H s.heap
 bare:tE s.gens
def CE(outer:List Env)(P:vQ)(w:vZ)(H:Hp)(s:vG)(Q:VK)(u:vB)(s':vG):Prop :=
 ∃v H',s'.os=s.os/\tE s'.gens/\Un (frs outer) [] H H' s.heap s'.heap/\HOk P w H' s'.heap/\RelV v u/\Q v H'
def CR(CX:CXT)(outer:List Env)(P:vQ)(w:vZ)(H:Hp)(s:vG)(Q:VK)(E:XK)(r:t9)(s':vG):Prop :=
 match r with
 | .ok (.ret u)=>CE outer P w H s Q u s'
 | .ok _=>False
 | .error e=>CX outer H s E e s'
structure FnOk (P:vQ) (w:vZ) (K:zA) (mg:Str->Option vB) (base:vn) (CX:CXT) (k:Nat) (f:vJ) (fd:vP) (ps:List Str) (sp:Sp):Prop where
 len:∀vs H Q E,sp vs H Q E->vs.length=ps.length
 run:∀(A:vb)(outer:List Env)(s:vG)(H:Hp)(args:Args)(us:List vB)(vs:List V)(Q:VK)(E:XK),Room k A->Env0 P w K mg base A outer s H->sD s fd args (ps.zip us)->XB vs us->sp vs H Q E ->
  uh (model P w) A (.call (.ref f) args) (CR CX outer P w H s Q E) s
section
variable{X:Cx}{pins:List (vJ×Obj)}{σ:St}{H:Hp}{s s':vG}
def Inv.env0(I:Inv X pins σ H s):Env0 X.prog X.w X.K X.mg X.base X.A X.stack s H :=
 ⟨I.ok.frames,I.ok.mod,I.bs,yJ I.ok.bsz I.sz,I.stack,I.stkFree,I.hok,I.bare⟩
def Inv.after{Q:VK}{u:vB}(I:Inv X pins σ H s)(h:CE X.stack X.prog X.w H s Q u s'):EP X pins σ Q u s':=by
 obtain⟨v,H',os,bare,un,hok,r,q⟩:=h;obtain⟨hh,g,d,t,os'⟩:=s';obtain rfl:os'=s.os:=os;exact⟨v,H',I.call (h':=hh) (g':=g) (d':=d) (t':=t) (ch:=[]) un hok bare (λb z=>vK z (by simp)),r,q⟩
end
noncomputable def zCY(sp:Sp)(dvs:List V)(E:XK)(t:TA):TE:=λσ H Q=>t σ H λvs H1=>sp (vs++dvs) H1 Q E
def Binds(K:zA)(fd:vP)(ps:List Str)(ds:List vB):Prop :=
 ∀(s:vG)(us:List vB),K.In s.heap->(us++ds).length=ps.length->sD s fd ⟨us,[]⟩ (ps.zip (us++ds))
def Binds.all{K:zA}{fd:vP}{ps:List Str}(h:∀us:List vB,us.length=ps.length->bindArgs fd ⟨us,[]⟩=pure (ps.zip us)):Binds K fd ps []:=λs us _ hl=>by
 rw[zn]at hl ⊢;exact .of_eq (h us hl)
def zAv(CX:CXT)(X:Cx)(E:XK):Prop:=∀(pins:List (vJ×Obj))(σ:St)(H:Hp)(s:vG)(e:vB)(s':vG),Inv X pins σ H s->CX X.stack H s E e s'->X.xe e s'
section
variable{X:Cx}{CX:CXT}{k:Nat}{f C:vJ}{fd:vP}{ps:List Str}{sp:Sp}{dvs:List V}{ds:List vB}{E:XK}{x m:Str}{p pos apos:Pos}{e o:vW}{es:List vW}{ta:TE}{t:TA}
def qgB{pins:List (vJ×Obj)}{σ:St}{H:Hp}{s:vG}{Q:VK}{us:List vB}{vs:List V}(F:FnOk X.prog X.w X.K X.mg X.base CX k f fd ps sp)(hr:Room k X.A)(hb:Binds X.K fd ps ds)(hd:XB dvs ds)(hx:zAv CX X E)(I:Inv X pins σ H s)(r:XB vs us)(h:sp (vs++dvs) H Q E):vN (model X.prog X.w) X.A (call (.ref f) us) (EP X pins σ Q) X.xe s:=by
 have r2:XB (vs++dvs) (us++ds):=r.append hd;have hl:(us++ds).length=ps.length:=by rw[<- r2.length];exact F.len _ _ _ _ h
 refine wpAny_call (ui (F.run X.A X.stack s H ⟨us,[]⟩ (us++ds) (vs++dvs) Q E hr I.env0 (hb s us I.kIn hl) r2 h) λr s' hq=>?_);cases r with
 | error e=>exact hx pins σ H s e s' I hq
 | ok fl=>
  cases fl with
  | ret u=>exact I.after hq
  | next=>exact False.elim hq
  | brk=>exact False.elim hq
  | cont=>exact False.elim hq
def q6a(F:FnOk X.prog X.w X.K X.mg X.base CX k f fd ps sp)(hr:Room k X.A)(hg:Gl X x)(hm:X.mg x=some (.ref f))(hk:xQ X.K (.ref f)=true)(hb:Binds X.K fd ps ds)(hd:XB dvs ds)(hx:zAv CX X E)(ha:PA X (e::es) t)(hdb:(x==("__debug__" : Str))=false:=by decide)(he:vL (e::es) X.env=(false,eval e X.env)::vL es X.env:=by rfl)(hpl:(v4 pos (vL es X.env)).any (·.1)=false:=by rfl):
  PE X (.Call (.Name x p) (e::es) [] pos) (zCY sp dvs E t):=by
 intro pins s σ H Q I h;refine uR (qfl I hg hm ?_ hdb);refine PySem.W.callWith_K (h₀:=X.base) I.ok.mod.kin hk (thn (ha pos pins s σ H _ I h) λus s1 ⟨vs,H1,I1,r,q⟩=>⟨I1.kIn,?_⟩) he hpl;exact qgB F hr hb hd hx I1 r q
end
section
variable{X:Cx}{CX:CXT}{k:Nat}{f C:vJ}{fd:vP}{ps ks:List Str}{sp:Sp}{E:XK}{x m:Str}{p pos apos kpos:Pos}{e o:vW}{es:List vW}{kws:List uX}{te ta:TE}{t tk:TA}{nm:Option Str}
variable{g:List vB->List vB->List vB}{gV:List V->List V->List V}
end
structure FnScope (N P:List Str) (sc:um):Prop where
 kind:sc.kind=.function
 co:sc.isCoroutine=false
 gen:sc.isGenerator=false
 nd:N.Nodup
 pre:N.take P.length=P
 par:∀x∈P,sc.names.lookup x=some .local\/sc.names.lookup x=some .cell
 nofree:∀y∈sc.names,y.2≠.free
theorem q73{kindOf:Str->Option uS}{x:Str}:∀{binds:List (Str×vB)}{m:Str->Option vB},(∀v,(x,v)∉binds)->bindL kindOf binds m x=m x
 | [],_,_=>rfl
 | (n,v)::r,m,h=>by
  unfold bindL;rw[q73 λw hw=>h w (zG _ hw)]
  split
  ·have:x≠n:=by rintro rfl;exact h v zI
   simp[this]
  ·rfl
theorem q7q{kindOf:Str->Option uS}{x:Str}:∀{binds:List (Str×vB)}{m:Str->Option vB},(∀v,(x,v)∉binds)->bindC kindOf binds m x=m x
 | [],_,_=>rfl
 | (n,v)::r,m,h=>by
  unfold bindC;rw[q7q λw hw=>h w (zG _ hw)]
  split
  ·rfl
  ·have:x≠n:=by rintro rfl;exact h v zI
   simp[this]
theorem q7d{kindOf:Str->Option uS}{x:Str}{v:vB}:∀{P:List Str}{vs:List vB}{i:Nat}{m:Str->Option vB},P.Nodup->P[i]?=some x->vs[i]?=some v->kindOf x=some .local ->
  bindL kindOf (P.zip vs) m x=some v
 | [],_,_,_,_,h,_,_=>by simp at h
 | _::_,[],_,_,_,_,h,_=>by simp at h
 | p::P,w::vs,0,m,nd,h1,h2,hk=>by
  simp at h1 h2;subst h1;subst h2;show bindL kindOf ((p,w)::P.zip vs) m p=_;unfold bindL;rw[q73 λv hv=>(xM.mp nd).1 (ZQ hv).1,vC hk];simp
 | p::P,w::vs,i+1,m,nd,h1,h2,hk=>by
  show bindL kindOf ((p,w)::P.zip vs) m x=_;unfold bindL;exact q7d (i:=i) (xM.mp nd).2 ⇑h1 ⇑h2 hk
theorem q7r{kindOf:Str->Option uS}{x:Str}{v:vB}:∀{P:List Str}{vs:List vB}{i:Nat}{m:Str->Option vB},P.Nodup->P[i]?=some x->vs[i]?=some v->kindOf x≠some .local ->
  bindC kindOf (P.zip vs) m x=some v
 | [],_,_,_,_,h,_,_=>by simp at h
 | _::_,[],_,_,_,_,h,_=>by simp at h
 | p::P,w::vs,0,m,nd,h1,h2,hk=>by
  simp at h1 h2;subst h1;subst h2;show bindC kindOf ((p,w)::P.zip vs) m p=_;unfold bindC;rw[q7q λv hv=>(xM.mp nd).1 (ZQ hv).1,vF hk];simp
 | p::P,w::vs,i+1,m,nd,h1,h2,hk=>by
  show bindC kindOf ((p,w)::P.zip vs) m x=_;unfold bindC;exact q7r (i:=i) (xM.mp nd).2 ⇑h1 ⇑h2 hk
noncomputable def start(N:List Str)(vs:List V):St:=vs.map some++ze (N.length-vs.length) none
noncomputable def zBS(CX:CXT)(P:vQ)(w:vZ)(K:zA)(mg:Str->Option vB)(base:vn)(N:List Str)(qual:Str)(scope:um)(f:vJ)(cd:vB)(A:vb)(outer:List Env)(s:vG)(H:Hp)(E:XK):Cx where
 prog:=P
 w:=w
 K:=K
 mg:=mg
 base:=base
 A:=A.deeper (tV qual scope s.heap.objs.size f cd)
 N:=N
 s₀:=s
 H₀:=H
 env:=tV qual scope s.heap.objs.size f cd
 outer:=outer
 stack:=tV qual scope s.heap.objs.size f cd::outer
 ex:=[]
 calm:=true
 fn:=λ_=>true
 pn:=[]
 xe:=λe s'=>vN (model P w) (A.deeper (tV qual scope s.heap.objs.size f cd)) (leaving (tV qual scope s.heap.objs.size f cd) e) (λ_ s''=>CX outer H s E e s'') (λe' s''=>CX outer H s E e' s'') s'
def q7P{sc:um}{n:Nat}{x:Str}(h:sc.names.lookup x=some .cell):∃c,(cellsFrom n sc.names []).lookup x=some c:=by
 have q:=ZF sc.names n [] (.inl h);exact yo.mp q
def qcu{CX:CXT}{P:vQ}{w:vZ}{K:zA}{mg:Str->Option vB}{base:vn}{N ps:List Str}{qual:Str}{scope:um}{f:vJ}{cd:vB}{A:vb}{outer:List Env}{s s1:vG}{H:Hp}{E:XK}{us:List vB}{vs:List V}(S:FnScope N ps scope)(hd:A.handled=none)(e0:Env0 P w K mg base A outer s H)(hl:vs.length=ps.length)(r:XB vs us)(x:InCallC s s.heap.objs.size (bindL (tV qual scope s.heap.objs.size f cd).kindOf (ps.zip us) λ_=>none) (cellsFrom (s.heap.objs.size+1) scope.names []) (bindC (tV qual scope s.heap.objs.size f cd).kindOf (ps.zip us) λ_=>none) s1):
  Inv (zBS CX P w K mg base N qual scope f cd A outer s H E) [] (start N vs) H s1:=by
 have hpl:ps.length<=N.length:=by have:=uA xg S.pre;rw[z0]at this;omega
 obtain⟨h1,tk,rfl,hk⟩:=x.done;have noA:∀b:vJ,b∉(zBS CX P w K mg base N qual scope f cd A outer s H E).ex:=λb z=>vK (show b∈([]:List vJ)from z) (by simp);refine⟨⟨e0.mod,S.kind,rfl,rfl,zM _,λy z c h1 h2=>?_,λy hy=>?_,λy c _ h=>?_,λ_=>hd,Around.frames_deeper e0.frames,.inr ⟨rfl,rfl⟩,λb z=>vK z (noA b),e0.bs,e0.bsz,λb _ _=>noA b,λb z=>vK z (noA b),e0.funs,e0.frf⟩,
  rfl,e0.bare,Un.kept hk,⟨_,x.toInCall.ns,λi y v h1 h2 h3=>?_⟩,λy c h=>⟨_,x.cell y c h⟩,e0.hok.fresh (zM _),λy c h=>?_,λp hp=>vK (show p∈([]:List (vJ×Obj))from hp) (by simp),e0.hok.kept hk,?_⟩
 ·exact name_of_addr x.apart (PySem.mem_of_lookup h1) (PySem.mem_of_lookup h2)
 ·have hy:scope.names.lookup y=some .cell\/scope.names.lookup y=some .free:=hy
  rcases hy with hy|hy
  ·exact q7P hy
  ·exact vK rfl (S.nofree _ (PySem.mem_of_lookup hy))
 ·exact yf (x.above y c (PySem.mem_of_lookup h))
 ·have hi:i<vs.length:=by
   unfold start at h2
   by_cases hi:i<vs.length
   ·exact hi
   ·rw[zf ⇑hi]at h2
    rw[yh]at h2
    split at h2 <;> cases h2
  have ha:vs[i]?=some v:=by
   unfold start at h2;rw[zt ⇑hi,zX]at h2;cases e:vs[i]? with
   | none=>rw[e]at h2;cases h2
   | some a=>rw[e]at h2;cases h2;rfl
  obtain⟨u,hu,rv⟩:=r.get ha;have hp:ps[i]?=some y:=by
   rw[<- S.pre,xx ∅];exact h1
  have ndP:ps.Nodup:=by rw[<- S.pre];exact S.nd.sublist (wu _ _)
  refine⟨u,rv,?_⟩;rcases S.par y (yN hp)with k|k
  ·exact .inl ⟨k,q7d ndP hp hu k⟩
  ·obtain⟨c,e⟩:=q7P (n:=s.heap.objs.size+1) k
   refine .inr ⟨.inl k,c,e,?_⟩;have q:=x.cell y c e;rw[q7r ndP hp hu (by show scope.names.lookup y≠_;rw[k];decide)]at q;exact q
 ·exact e0.hok.fresh (yf (x.above y c (PySem.mem_of_lookup h)))
 ·unfold start
  show _=N.length;rw[zC,zB,zw];omega
def qhm{CX:CXT}{P:vQ}{w:vZ}{K:zA}{mg:Str->Option vB}{base:vn}{k:Nat}{f:vJ}{name qual:Str}{params:Arguments}{body:List vx}{scope:um}{dV kV doc pm cdv ct oc:vB}{an od:Option vJ}{osl:Array (Option vB)}{N ps:List Str}{sp:Sp}(lk:K.lookup f=some ⟨oc,od,.func (xX name qual params body scope dV kV doc pm an cdv ct),osl⟩)(hcd:wj K cdv qual=true)(S:FnScope N ps scope)(len:∀vs H Q E,sp vs H Q E->vs.length=ps.length)(hbody:∀(A:vb)(outer:List Env)(s:vG)(H:Hp)(vs:List V)(Q:VK)(E:XK),Room k (A.deeper (tV qual scope s.heap.objs.size f cdv))->sp vs H Q E ->
   ∃t,PSs (zBS CX P w K mg base N qual scope f cdv A outer s H E) body t/\t { nx:=λ_ H'=>Q .non H',rt:=Q } (start N vs) H) :
  FnOk P w K mg base CX (k+1) f (xX name qual params body scope dV kV doc pm an cdv ct) ps sp:=by
 refine⟨len,λA outer s H args us vs Q E hr e0 hb r hsp=>?_⟩;have hl:=len _ _ _ _ hsp;have KX:K.In s.heap:=e0.mod.kin.keeps λb o e=>(e0.bs b o e).1;have lim:s.heap.NoLimit:=e0.mod.nolimit.keeps λb o e=>(e0.bs b o e).1;have hkind:∀y∈ps.zip us,scope.names.lookup y.1=some .local\/(scope.names.lookup y.1=some .cell/\((cellsFrom (s.heap.objs.size+1) scope.names []).lookup y.1).isSome=true):=λ⟨n,v⟩ hy=>by
  rcases S.par n (ZQ hy).1 with q|q
  ·exact .inl q
  ·exact .inr ⟨q,ZF _ _ _ (.inl q)⟩
 refine codeAny_call_function hr.depth (KX _ _ lk) rfl S.co S.gen rfl (PySem.W.codeRec_of KX hcd) (hb _ _ _ _ ?_);refine wpAny_newFunctionEnv_cells S.kind hkind λenv he s1 x=>?_;subst he;refine⟨lim.keeps x.toInCall.keep,codeAny_func ?_⟩;obtain⟨t,ht,hq⟩:=hbody A outer s H vs Q E (hr.deeper _) hsp;have I:Inv (zBS CX P w K mg base N qual scope f cdv A outer s H E) [] (start N vs) H s1:=qcu S hr.hd e0 hl r x;refine vq (ht [] s1 (start N vs) H _ I hq) (λfl s' hs=>?_) λe s' hs=>hs;have fin:∀{σ':St}{H':Hp}{v:V}{u:vB},Inv (zBS CX P w K mg base N qual scope f cdv A outer s H E) [] σ' H' s'->RelV v u->Q v H'->CE outer P w H s Q u s' :=
  λ{σ' H' v u} J rv q=>⟨v,H',J.os,J.bare,J.base,J.hok,rv,q⟩
 cases fl with
 | ret u=>
  obtain⟨v,σ',H',J,rv,q⟩:=hs;exact fin J rv q
 | next=>
  obtain⟨σ',H',J,q⟩:=hs;exact fin (v:=V.non) (u:=Value.none) J rfl q
 | brk=>
  obtain⟨_,_,_,q⟩:=hs;exact False.elim q
 | cont=>
  obtain⟨_,_,_,q⟩:=hs;exact False.elim q
section
variable{X:Cx}{x:Str}{p pos:Pos}{e:vW}{es:List vW}{t:TA}{id T:String}{r:List V->Hp->VK->Prop}
noncomputable def tCB(r:List V->Hp->VK->Prop)(t:TA):TE:=λσ H Q=>t σ H λvs H1=>r vs H1 Q
def q2L(hc:X6 X (.builtin id) r)(hg:Gl X x)(hm:X.mg x=none)(hv:vf x=some (.builtin id))(ha:PA X (e::es) t)(hn:x ≠ "__name__" := by decide)(hdb:(x==("__debug__" : Str))=false:=by decide)(he:vL (e::es) X.env=(false,eval e X.env)::vL es X.env:=by rfl)(hpl:(v4 pos (vL es X.env)).any (·.1)=false:=by rfl):PE X (.Call (.Name x p) (e::es) [] pos) (tCB r t):=by
 intro pins s σ H Q I h;refine uR (q1M I hg hm hv ?_ hn hdb);exact PyProof.Rows.callWith_builtin1 (thn (ha pos pins s σ H _ I h) λus s1 ⟨vs,H1,I1,r1,q1⟩=>hc pins s1 σ H1 vs us Q I1 r1 q1) he hpl
def q7n(hc:X6 X (.type T) r)(hg:Gl X x)(hm:X.mg x=none)(hv:vf x=some (.type T))(ha:PA X (e::es) t)(hn:x ≠ "__name__" := by decide)(hdb:(x==("__debug__" : Str))=false:=by decide)(he:vL (e::es) X.env=(false,eval e X.env)::vL es X.env:=by rfl)(hpl:(v4 pos (vL es X.env)).any (·.1)=false:=by rfl):PE X (.Call (.Name x p) (e::es) [] pos) (tCB r t):=by
 intro pins s σ H Q I h;refine uR (q1M I hg hm hv ?_ hn hdb);exact PyProof.Rows.callWith_type1 (thn (ha pos pins s σ H _ I h) λus s1 ⟨vs,H1,I1,r1,q1⟩=>hc pins s1 σ H1 vs us Q I1 r1 q1) he hpl
end
end L2
namespace HT
open PySem PyProof.Rows
section
open PySem.SeqAt
open PySem.AutoSeq1 (wpAny_loadPart')
open PySem.MeetsSeq PySem.MeetsSeq2 PySem.MeetsSeq3
end
section
variable{prog:vQ}{w:vZ}{A:vb}{E:vB->vG->Prop}{s:vG}
def qeY{t b:vJ}{vs ws:List vB}{Q:vB->vG->Prop}(ht:IsTup s.heap t vs.toArray)(hb:IsTup s.heap b ws.toArray)(hv:vs≠[])(h1:ws=[]->Q (.ref t) s)(h2:ws≠[]->Q (.ref s.heap.objs.size) { s with heap:=s.heap.push { cls:=.type "tuple", data:=.seq (vs++ws).toArray } })(hsz:vs.length+ws.length<=sizeLine):vN (model prog w) A (uP .Add (.ref t) (.ref b)) Q E s:=by
 obtain⟨⟨cls,dd,data,sl⟩,ho,hc,n,hd⟩:=id ht;obtain⟨⟨cls2,dd2,data2,sl2⟩,ho2,hc2,n2,hd2⟩:=id hb;simp only at hc hd hc2 hd2;subst hc hd hc2 hd2;have e:vs.toArray++ws.toArray=(vs++ws).toArray:=by simp
 by_cases hw:ws=[]
 ·exact concat_meets ⟨_,ho,rfl⟩ ⟨_,ho2,rfl⟩ noFill_tuple_add seq_tuple_add PySem.F.slot_tuple_add PySem.F.entry_tuple_add (PySem.F.args_tuple_add_2 _ _)
   (tuple_addW1 t b vs.toArray ws.toArray n n2 dd dd2 sl sl2 ⇑hv (by simp[hw])) ⟨ho,ho2,h1 hw⟩
 ·refine concat_meets ⟨_,ho,rfl⟩ ⟨_,ho2,rfl⟩ noFill_tuple_add seq_tuple_add PySem.F.slot_tuple_add PySem.F.entry_tuple_add (PySem.F.args_tuple_add_2 _ _)
   (tuple_addW2 t b vs.toArray ws.toArray n n2 dd dd2 sl sl2 ⇑hv ⇑hw (by rw[zP,zP];exact hsz)) ⟨ho,ho2,?_⟩
  rw[e];exact h2 hw
noncomputable def sIx(n d:Nat):Option Int->Nat
 | none=>d
 | some v=>if v<0 then (v+(n:Int)).toNat else min v.toNat n
def q57(n d:Nat):sIx n d none=d:=rfl
def q3q(n d k:Nat):sIx n d (some (k:Int))=min k n:=by
 show (if (k:Int)<0 then ((k:Int)+(n:Int)).toNat else min (k:Int).toNat n)=min k n;rw[vF ∅,yO]
def qgw(n d:Nat)(hd:d<=n)(o:Option Int):sIx n d o<=n:=by
 cases o with
 | none=>exact hd
 | some v=>
  show (if v<0 then (v+(n:Int)).toNat else min v.toNat n)<=n
  by_cases hv:v<0
  ·rw[vC hv];omega
  ·rw[vF hv];exact Nat.min_le_right _ _
def qa0(v:Int)(n d:Nat):(if v<0 then max (v+(n:Int)) 0 else min v (n:Int))=((sIx n d (some v):Nat):Int):=by
 show (if v<0 then max (v+(n:Int)) 0 else min v (n:Int))=(((if v<0 then (v+(n:Int)).toNat else min v.toNat n):Nat):Int)
 by_cases hv:v<0
 ·simp only[vC hv];omega
 ·simp only[vF hv];omega
def qb0(lo hi:Option Int)(n:Nat):Builtin.Slice.sliceAdjust lo hi 1 (n:Int)=(((sIx n 0 lo:Nat):Int),((sIx n n hi:Nat):Int)):=by
 have h1:¬((1:Int)<0):=∅
 unfold Builtin.Slice.sliceAdjust;simp only[h1,if_false];refine Prod.ext ?_ ?_
 ·cases lo with
  | none=>rfl
  | some v=>exact qa0 v n 0
 ·cases hi with
  | none=>rfl
  | some v=>exact qa0 v n n
def qaG(i j:Nat):Builtin.Slice.slicePlaces (i:Int) (j:Int) 1=j-i:=by
 unfold Builtin.Slice.slicePlaces;have h1:(1:Int)>0:=∅
 simp only[h1,if_true,Int.ediv_one]
 split <;> omega
def q5Q{v:vB}{o:Option Int}{Q:Option Int->vG->Prop}(p:tQ v o)(h:Q o s):vN (model prog w) A (Builtin.Slice.slicePartIndex v) Q E s:=by
 cases p with
 | none=>exact slicePart_none h
 | int i t=>exact slicePart_int h
def q2x{sl:vJ}{vl vu:vB}{lo hi:Option Int}{n:Nat}{Q:Int×Int×Nat->vG->Prop}(hs:s.heap.IsSliceOf sl vl vu .none)(pl:tQ vl lo)(pu:tQ vu hi)(h:Q (((sIx n 0 lo:Nat):Int),1,sIx n n hi-sIx n 0 lo) s):vN (model prog w) A (Builtin.Slice.sliceApplied (.ref sl) (pure (n:Int))) Q E s:=by
 obtain⟨os,hos,hcs,hds⟩:=id hs;unfold Builtin.Slice.sliceApplied Builtin.Slice.sliceFields;refine vA (vA (vt hos hds (x:=vl) rfl (vA (vt hos hds (x:=vu) rfl (vA (vt hos hds (x:=.none) rfl (vH ?_)))))));refine vA (slicePart_none ?_);show vN _ _ (if ((1:Int)==0)=true then _ else _) _ _ s;rw[vF (by decide)];refine vA (q5Q pl (vA (q5Q pu (vA (vH ?_)))));show vN _ _ (match Builtin.Slice.sliceAdjust lo hi 1 (n:Int)with|(lo,hi)=>pure (lo,(1:Int),Builtin.Slice.slicePlaces lo hi 1)) _ _ s;rw[qb0 lo hi n];show vN _ _ (pure (((sIx n 0 lo:Nat):Int),(1:Int),Builtin.Slice.slicePlaces ((sIx n 0 lo:Nat):Int) ((sIx n n hi:Nat):Int) 1)) _ _ s;rw[qaG];exact vH h
def qdT(xs:Array vB)(i k:Nat):((zk k).filterMap λ(m:Nat)=>xs[((i:Int)+(m:Int)*1).toNat]?).toArray=((xs.toList.drop i).take k).toArray:=by
 have e:(λ(m:Nat)=>xs[((i:Int)+(m:Int)*1).toNat]?)=λm=>xs[i+m]?:=by
  funext m
  have:((i:Int)+(m:Int)*1).toNat=i+m:=∅
  rw[this]
 rw[e];have:=pick_run xs i k;rw[Zu]at this;have e2:((λx=>xs[x]?) ∘ λx=>i+x)=λm=>xs[i+m]?:=rfl;rw[e2]at this;rw[this]
def q4X{t sl:vJ}{items:Array vB}{vl vu:vB}{lo hi:Option Int}{Q:vB->vG->Prop}(ht:IsTup s.heap t items)(hs:s.heap.IsSliceOf sl vl vu .none)(pl:tQ vl lo)(pu:tQ vu hi)(hw:¬(sIx items.size 0 lo=0/\sIx items.size items.size hi=items.size))(h:Q (.ref s.heap.objs.size) { s with heap:=s.heap.push { cls:=.type "tuple", data:=.seq ((items.toList.drop (sIx items.size 0 lo)).take (sIx items.size items.size hi-sIx items.size 0 lo)).toArray } })(hsz:items.size<=sizeLine):vN (model prog w) A (uz (.ref t) (.ref sl)) Q E s:=by
 have htake:sizeOk (.seq ((items.toList.drop (sIx items.size 0 lo)).take (sIx items.size items.size hi-sIx items.size 0 lo)).toArray):=by
  show ((items.toList.drop (sIx items.size 0 lo)).take (sIx items.size items.size hi-sIx items.size 0 lo)).toArray.size<=sizeLine;rw[zP,z0,yX,zQ];omega
 have hj:sIx items.size items.size hi<=items.size:=qgw _ _ (zM _) hi;obtain⟨os,hos,hcs,hds⟩:=id hs;have hTs:s.TypeIs (.ref sl) "slice" := ⟨os,hos,hcs⟩;unfold uz
 try with_reducible refine vh ?_
 first|refine vA (vH ?_)|skip
 refine vA (wpAny_sequenceKey ht.typeIs (by decide) ?_);refine vA (wpAny_callSpecial?_slot (name:=Str.ofString "__getitem__") ht.typeIs PyProof.Rows.slot_tuple_getitem
  (ve PyProof.Rows.slot_tuple_getitem ht.typeIs entry_tuple_getitem ?_ (sC _ _)))
 show vN _ _ (Builtin.Tuple.tupleItemsOf (.ref t) >>= _) _ _ s;refine vA (tupleItemsOf_ ht ?_);refine vA (uj hTs ?_);rw[vC (by decide)];refine vA (q2x hs pl pu ?_);have hno:¬((((sIx items.size 0 lo:Nat):Int)==0&&(1:Int)==1&&(sIx items.size items.size hi-sIx items.size 0 lo)==items.size)=true):=by
  intro q;rw[zU,zU]at q;have q1:((sIx items.size 0 lo:Nat):Int)=0:=eq_of_beq q.1.1;have q2:sIx items.size items.size hi-sIx items.size 0 lo=items.size:=eq_of_beq q.2;exact hw ⟨∅,∅⟩
 show vN _ _ (if (((sIx items.size 0 lo:Nat):Int)==0&&(1:Int)==1&&(sIx items.size items.size hi-sIx items.size 0 lo)==items.size)=true then _ else _) _ _ s;rw[vF hno,qdT]
 first
  | exact vA (m:=Builtin.Tuple.tupleExact _) (vi (vH ⟨_,rfl,vH h⟩) htake)
  | exact vA (m:=Builtin.Tuple.tupleExact _) (vi (vA (vH (vH ⟨_,rfl,vH h⟩))) htake)
  | exact vA (vA (m:=Builtin.Tuple.tupleExact _) (vi (vH (vH ⟨_,rfl,vH h⟩)) htake))
  | exact vA (vA (m:=Builtin.Tuple.tupleExact _) (vi (vH ⟨_,rfl,vH h⟩) htake))
end
end HT
namespace L2
open PySem PySem.Spec PyProof.Rows
abbrev TO:=St->Hp->(Option Int->Hp->Prop)->Prop
def PO(X:Cx)(e:Option vW)(t:TO):Prop :=
 ∀(pins:List (vJ×Obj))(s:vG)(σ:St)(H:Hp)(Q:Option Int->Hp->Prop),Inv X pins σ H s->t σ H Q ->
  vN (model X.prog X.w) X.A (evalPart e X.env) (λu s'=>∃o H',Inv X pins σ H' s'/\tQ u o/\Q o H') X.xe s
def zCs:TO:=λ_ H Q=>Q none H
def tPart(t:TE):TO:=λσ H Q=>t σ H λx H1=>∃i,x=.int i/\Q (some i) H1
def q1H{ns:List Int}:∀{us:List vB},XB (ns.map V.int) us->uH us ns:=by
 induction ns with
 | nil=>intro us r;rw[yw]at r;cases r;exact .nil
 | cons n ns ih=>
  intro us r;rw[zY]at r;cases r with
  | cons r1 r2=>
   obtain⟨t,e⟩:=r1;subst e;exact .cons n t (ih r2)
section
variable{X:Cx}{e:vW}{te:TE}{lo hi:Option vW}{tl th:TO}{pos p2:Pos}
def qeT:PO X none zCs:=by
 intro pins s σ H Q I h;rw[evalPart_none];exact vH ⟨none,H,I,.none,h⟩
def qg9(h:PE X e te):PO X (some e) (tPart te):=by
 intro pins s σ H Q I hw;rw[evalPart_some];refine thn (h pins s σ H _ I hw) λu s1 ⟨x,H1,I1,r1,q1⟩=>?_;obtain⟨i,rfl,q⟩:=q1;obtain⟨t,rfl⟩:=r1;exact⟨some i,H1,I1,.int i t,q⟩
def SlR(X:Cx)(r:V->Option Int->Option Int->Hp->VK->Prop):Prop :=
 ∀(pins:List (vJ×Obj))(s:vG)(σ:St)(H:Hp)(x:V)(v vl vu:vB)(lo hi:Option Int)(sl:vJ)(Q:VK),Inv X pins σ H s->RelV x v->s.heap.IsSliceOf sl vl vu .none->tQ vl lo->tQ vu hi->r x lo hi H Q ->
  ∃T id,tS (.type T) "__getitem__" = pure (some (.builtin id))/\s.TypeIs v T/\vN (model X.prog X.w) X.A (uz v (.ref sl)) (EP X pins σ Q) X.xe s
def SlR.or{r r':V->Option Int->Option Int->Hp->VK->Prop}(h:SlR X r)(h':SlR X r'):SlR X (λx lo hi H Q=>r x lo hi H Q\/r' x lo hi H Q):=by
 intro pins s σ H x v vl vu lo hi sl Q I rx hs pl pu q;rcases q with q|q
 ·exact h pins s σ H x v vl vu lo hi sl Q I rx hs pl pu q
 ·exact h' pins s σ H x v vl vu lo hi sl Q I rx hs pl pu q
noncomputable def tSl(r:V->Option Int->Option Int->Hp->VK->Prop)(te:TE)(tl th:TO):TE:=λσ H Q=>te σ H λx H1=>tl σ H1 λl H2=>th σ H2 λu H3=>r x l u H3 Q
def qdV{r:V->Option Int->Option Int->Hp->VK->Prop}(hr:SlR X r)(he:PE X e te)(hl:PO X lo tl)(hu:PO X hi th):PE X (.Subscript e (.Slice lo hi none p2) pos) (tSl r te tl th):=by
 intro pins s σ H Q I h;refine Subscript_ (thn (he pins s σ H _ I h) λv s1 ⟨x,H1,I1,r1,q1⟩=>?_);refine wpAny_Slice (thn (hl pins s1 σ H1 _ I1 q1) λvl s2 ⟨l,H2,I2,pl,q2⟩=>thn (hu pins s2 σ H2 _ I2 q2) λvu s3 ⟨u,H3,I3,pu,q3⟩=>?_);rw[evalPart_none];refine vH ?_;have I4:Inv X pins σ H3 { s3 with heap:=s3.heap.push { cls:=.type "slice", data:=.fields #[vl,vu,.none] } }:=I3.kept (t':=s3.toks) λb ob q=>zH _ q;obtain⟨T,id,hT,ht,hg⟩:=hr pins { s3 with heap:=s3.heap.push { cls:=.type "slice", data:=.fields #[vl,vu,.none] } } σ H3 x v vl vu l u s3.heap.objs.size Q I4 r1 (Yn ..) pl pu q3;show vN (model X.prog X.w) X.A (t4 e (.Slice lo hi none p2) v (.ref s3.heap.objs.size)) (EP X pins σ Q) X.xe { s3 with heap:=s3.heap.push { cls:=.type "slice", data:=.fields #[vl,vu,.none] } };exact tail_any (ops:=[.ref s3.heap.objs.size,v]) ht hT hg (by with_unfolding_all rfl)
noncomputable def zBp(xs:List V)(lo hi:Option Int):List V:=(xs.drop (HT.sIx xs.length 0 lo)).take (HT.sIx xs.length xs.length hi-HT.sIx xs.length 0 lo)
def q4Y(xs:List V)(lo hi:Option Int):(zBp xs lo hi).length<=xs.length:=by
 unfold zBp;rw[z0,yX];omega
def rSlT(K:zA):V->Option Int->Option Int->Hp->VK->Prop:=λx lo hi H Q=>∃a xs,x=.ref a/\SqT K H a xs /\
 ¬(HT.sIx xs.length 0 lo=0/\HT.sIx xs.length xs.length hi=xs.length)/\∀p,H p=none->Q (.ref p) (upd H p (.tup (zBp xs lo hi)))
def qh9:SlR X (rSlT X.K):=by
 intro pins s σ H x v vl vu lo hi sl Q I rx hs pl pu h;obtain⟨a,xs,rfl,hx,hw,q⟩:=h;cases rx;obtain⟨its,r,ht,hz⟩:=I.tuple hx;have hlen:its.toArray.size=xs.length:=by rw[zP];exact r.length.symm
 refine⟨"tuple", _,PyProof.Rows.slot_tuple_getitem.lookup,ht.typeIs,?_⟩;refine HT.q4X ht hs pl pu (by rw[hlen];exact hw) ?_ (by rw[hlen];exact hz);rw[hlen];refine⟨.ref s.heap.objs.size,_,I.laid (t':=s.toks) (o:=.tup (zBp xs lo hi)) (λb ob q=>zH _ q) (zM _) ?_,rfl,q _ (I.hok.fresh (zM _))⟩;exact⟨yJ (q4Y xs lo hi) hz,_,(r.drop (HT.sIx xs.length 0 lo)).take (HT.sIx xs.length xs.length hi-HT.sIx xs.length 0 lo),IsTup.new _ _⟩
noncomputable def rCatT(K:zA):R2:=λx y H Q=>∃a b xs ys,x=.ref a/\y=.ref b/\SqT K H a xs/\SqT K H b ys/\xs≠[]/\xs.length+ys.length<=sizeLine /\
 (ys=[]->Q (.ref a) H)/\(ys≠[]->∀p,H p=none->Q (.ref p) (upd H p (.tup (xs++ys))))
def XB.nil_iff{xs:List V}{us:List vB}(r:XB xs us):us=[]↔xs=[]:=by
 cases r with
 | nil=>simp
 | cons _ _=>simp
def qfq:OpR X (uP .Add) (rCatT X.K):=by
 intro pins s σ H x y v u Q I rx ry h;obtain⟨a,b,xs,ys,rfl,rfl,ha,hb,hx,hz,q1,q2⟩:=h;cases rx;cases ry;obtain⟨its,r1,p1,_⟩:=I.tuple ha;obtain⟨its2,r2,p2,_⟩:=I.tuple hb;refine HT.qeY p1 p2 (λz=>hx (r1.nil_iff.mp z)) (λz=>⟨.ref a,H,I,rfl,q1 (r2.nil_iff.mp z)⟩) (λz=>?_) (by rw[<- r1.length,<- r2.length];exact hz);refine⟨.ref s.heap.objs.size,_,I.laid (t':=s.toks) (o:=.tup (xs++ys)) (λb ob q=>zH _ q) (zM _) ?_,rfl,q2 (λw=>z (r2.nil_iff.mpr w)) _ (I.hok.fresh (zM _))⟩;exact⟨by rw[zC];exact hz,_,r1.append r2,IsTup.new _ _⟩
end
noncomputable def ixN(n:Nat)(i:Int):Option Nat:=if 0<=i then (if i<n then some i.toNat else none)else if -(n:Int)<=i then some (i+n).toNat else none
noncomputable def atI{α:Type}(xs:List α)(i:Int):Option α:=(ixN xs.length i).bind λj=>xs[j]?
def q9H{n:Nat}{i:Int}{j:Nat}(h:ixN n i=some j):seqIndex? i n=some j/\j<n/\-(n:Int)<=i/\i<n:=by
 unfold ixN at h
 by_cases h0:0<=i
 ·rw[vC h0]at h
  by_cases h1:i<n
  ·rw[vC h1]at h
   have e:i.toNat=j:=zj h;exact⟨by rw[sM h0 h1,e],∅,∅,h1⟩
  ·rw[vF h1]at h;cases h
 ·rw[vF h0]at h
  by_cases h1:-(n:Int)<=i
  ·rw[vC h1]at h
   have e:(i+n).toNat=j:=zj h;exact⟨by rw[seqIndex_neg ∅ h1,e],∅,h1,∅⟩
  ·rw[vF h1]at h;cases h
def q6U{α:Type}{xs:List α}{i:Int}{v:α}(h:atI xs i=some v):∃j,seqIndex? i xs.length=some j/\xs[j]?=some v/\j<xs.length/\-(xs.length:Int)<=i/\i<xs.length:=by
 unfold atI at h;cases e:ixN xs.length i with
 | none=>rw[e]at h;cases h
 | some j=>
  rw[e]at h;obtain⟨h1,h2,h3,h4⟩:=q9H e;exact⟨j,h1,h,h2,h3,h4⟩
def zAk(b:vW):Prop:=∀o i,subscripted b false o i=operate [o,i] (uz o i)
def IxR(X:Cx)(r:R2):Prop :=
 ∀(value slice:vW)(pins:List (vJ×Obj))(s:vG)(σ:St)(H:Hp)(x y:V)(v u:vB)(Q:VK),Inv X pins σ H s->RelV x v->RelV y u->r x y H Q ->
  subscripted slice false v u=operate [v,u] (uz v u)->vN (model X.prog X.w) X.A (t4 value slice v u) (EP X pins σ Q) X.xe s
def MtR(X:Cx)(id:String)(r:V->List V->Hp->VK->Prop):Prop :=
 ∀(pins:List (vJ×Obj))(s:vG)(σ:St)(H:Hp)(x:V)(xs:List V)(v:vB)(us:List vB)(Q:VK),Inv X pins σ H s->RelV x v->XB xs us->r x xs H Q ->
  vN (model X.prog X.w) X.A (call (.builtin id) (v::us)) (EP X pins σ Q) X.xe s
section
variable{X:Cx}{a b:vW}{ta tb:TE}{pos:Pos}
def IxR.or{r r':R2}(h:IxR X r)(h':IxR X r'):IxR X (λx y H Q=>r x y H Q\/r' x y H Q):=by
 intro value slice pins s σ H x y v u Q I rx ry q hs;rcases q with q|q
 ·exact h value slice pins s σ H x y v u Q I rx ry q hs
 ·exact h' value slice pins s σ H x y v u Q I rx ry q hs
def qhI{r:R2}(hr:IxR X r)(ha:PE X a ta)(hb:PE X b tb)(hs:zAk b):PE X (.Subscript a b pos) (tOp r ta tb):=by
 intro pins s σ H Q I h;exact Subscript_ (binT ha hb I h λv u s2 x y H2 I2 rx ry q=>hr a b pins s2 σ H2 x y v u Q I2 rx ry q (hs _ _))
noncomputable def rIxL(K:zA):R2:=λx y H Q=>∃p xs i v,x=.ref p/\y=.int i/\SqL K H p xs/\atI xs i=some v/\Q v H
noncomputable def rIxT(K:zA):R2:=λx y H Q=>∃p xs i v,x=.ref p/\y=.int i/\SqT K H p xs/\atI xs i=some v/\Q v H
noncomputable def rIxS:R2:=λx y H Q=>∃z i c,x=.str z/\y=.int i/\z.length<=sizeLine/\atI z.cps.toList i=some c/\Q (.str ⟨#[c]⟩) H
def qg7:IxR X (rIxL X.K):=by
 intro value slice pins s σ H x y v u Q I rx ry h hs;obtain⟨p,xs,i,z,rfl,rfl,hq,he,q⟩:=h;cases rx;obtain⟨t,rfl⟩:=ry;obtain⟨its,r,pl,hz⟩:=I.list hq;obtain⟨j,h1,h2,h3,h4,h5⟩:=q6U he;obtain⟨w,ew,rw'⟩:=r.get h2;have hl:=r.length;have hn:=zAC;have fin:EP X pins σ Q w s:=⟨z,H,I,rw',q⟩
 by_cases h0:0<=i
 ·have hj:i.toNat=j:=by
   rw[sM h0 h5]at h1;exact zj h1
  exact item_listR pl.isList h0 ∅ (by rw[hj];simpa using ew) fin hs
 ·have hj:(i+(its.toArray.size:Int)).toNat=j:=by
   rw[seqIndex_neg ∅ h4]at h1;rw[zP,<- hl];exact zj h1
  exact tT (x:=w) pl.isList.typeIs slot_list_getitem.lookup
   (wpAny_getItem_list_neg (Q:=λr s'=>r=w/\EP X pins σ Q r s') pl.isList ∅ (by rw[zP] <;> omega) ∅ (by rw[hj];simpa using ew) ⟨rfl,fin⟩) hs
def qgN:IxR X (rIxT X.K):=by
 intro value slice pins s σ H x y v u Q I rx ry h hs;obtain⟨p,xs,i,z,rfl,rfl,hq,he,q⟩:=h;cases rx;obtain⟨t,rfl⟩:=ry;obtain⟨its,r,pl,hz⟩:=I.tuple hq;obtain⟨j,h1,h2,h3,h4,h5⟩:=q6U he;obtain⟨w,ew,rw'⟩:=r.get h2;have hl:=r.length;have hn:=zAC;have fin:EP X pins σ Q w s:=⟨z,H,I,rw',q⟩;exact tT (x:=w) pl.typeIs slot_tuple_getitem.lookup
  (getItem_tuple (j:=j) (Q:=λr s'=>r=w/\EP X pins σ Q r s') pl ∅ ∅ (by rw[zP,<- hl];exact h1) ⇑ew ⟨rfl,fin⟩) hs
def qgm:IxR X rIxS:=by
 intro value slice pins s σ H x y v u Q I rx ry h hs;obtain⟨z,i,c,rfl,rfl,hz,he,q⟩:=h;obtain⟨t,rfl⟩:=rx;obtain⟨t',rfl⟩:=ry;obtain⟨j,h1,h2,h3,h4,h5⟩:=q6U he;have hl:z.cps.toList.length=z.length:=by simp[Str.length]
 rw[hl]at h1 h4 h5;have hn:=zAC;exact tail_any (typeIs_str s z t) slot_str_getitem.lookup (getItem_str (c:=c) (by
  have e1:decide (i < -(2^63:Int))=false:=vX ∅;have e2:decide (i>=2^63)=false:=vX ∅;rw[e1,e2,wU]) (by rw[h1];simpa using h2) ⟨.str ⟨#[c]⟩,H,I.tok _,⟨_,rfl⟩,q⟩) hs
noncomputable def rIx(K:zA):R2:=λx y H Q=>rIxL K x y H Q\/rIxT K x y H Q\/rIxS x y H Q
def qgu:IxR X (rIx X.K):=qg7.or (qgN.or qgm)
def qb6(its:List vB)(n j:Nat)(u:vB):Obj.mapSeq (·.setIfInBounds j u) { cls:=.type "list", data:=.seq its.toArray n }={ cls:=.type "list", data:=.seq (its.set j u).toArray n }:=by
 simp[Obj.mapSeq]
theorem Inv.lst{pins:List (vJ×Obj)}{σ:St}{H:Hp}{s:vG}{p:vJ}{xs:List V}(I:Inv X pins σ H s)(h:H p=some (.lst xs)):
  ∃(its:List vB) (n:Nat),XB xs its/\s.heap.get? p=some { cls:=.type "list", data:=.seq its.toArray n }/\xs.length<=sizeLine:=by
 obtain⟨z,its,n,r,e⟩:=I.hok p _ h;exact⟨its,n,r,e,z⟩
def Inv.lstUpd{pins:List (vJ×Obj)}{σ:St}{H:Hp}{s:vG}{p:vJ}{xs ys:List V}{its its':List vB}{n n':Nat}{f:Obj->Obj}(I:Inv X pins σ H s)(h:H p=some (.lst xs))(ho:s.heap.get? p=some { cls:=.type "list", data:=.seq its.toArray n })(hf:f { cls:=.type "list", data:=.seq its.toArray n }={ cls:=.type "list", data:=.seq its'.toArray n' })(r:XB ys its')(hz:ys.length<=sizeLine)(t:Nat):
  Inv X pins σ (upd H p (.lst ys)) { s with heap:=s.heap.update p f,toks:=t }:=by
 have e:(s.heap.update p f).get? p=some { cls:=.type "list", data:=.seq its'.toArray n' }:=by
  rw[xj f ho (by rw[hf] <;> rfl),hf]
 refine I.write (x:=p) (e:=p) (by rw[h];trivial) (.inl rfl) (λb u hb q=>(yj _ _ (Ne.symm hb)).trans q) ⟨_,e⟩ ?_;exact⟨hz,its',n',r,e⟩
def rSetL:V->V->V->Hp->(Hp->Prop)->Prop:=λo i v H Q=>∃p xs k j,o=.ref p/\i=.int k/\H p=some (.lst xs)/\ixN xs.length k=some j/\Q (upd H p (.lst (xs.set j v)))
def q8F:PSet X rSetL:=by
 intro pins s σ H o i v ov iv u Q I ro ri rv h;obtain⟨p,xs,k,j,rfl,rfl,hp,hj,q⟩:=h;cases ro;obtain⟨t,rfl⟩:=ri;obtain⟨its,n,r,ho,hz⟩:=I.lst hp;obtain⟨h1,h2,h3,h4⟩:=q9H hj;have hl:=r.length;have hn:=zAC;have I':Inv X pins σ (upd H p (.lst (xs.set j v))) { s with heap:=s.heap.update p (Obj.mapSeq (·.setIfInBounds j u)) } :=
  I.lstUpd hp ho (qb6 its n j u) (r.set rv j) (by rw[yC];exact hz) s.toks
 by_cases h0:0<=k
 ·have hk:k.toNat=j:=by
   rw[sM h0 h4]at h1;exact zj h1
  exact PySem.W.ki_setAt ho h0 ∅ (by rw[zP,<- hl];exact h4) (by rw[hk];exact⟨_,I',q⟩)
 ·have hk:(k+(its.toArray.size:Int)).toNat=j:=by
   rw[seqIndex_neg ∅ h3]at h1;rw[zP,<- hl];exact zj h1
  exact PySem.W.ki_setBack ho ∅ (by rw[zP,<- hl];exact h3) ∅ (by rw[hk];exact⟨_,I',q⟩)
def q81(lo hi:Option Int)(n:Nat):(ue lo hi none n).1=((HT.sIx n 0 lo:Nat):Int)/\(ue lo hi none n).2.1=((HT.sIx n n hi:Nat):Int)/\(ue lo hi none n).2.2=1:=by
 refine⟨?_,?_,rfl⟩
 ·cases lo with
  | none=>simp[ue,HT.sIx]
  | some i=>
   simp only[ue,HT.sIx,YM,show (1:Int)>0 by decide,if_true]
   by_cases h:i<0
   ·simp only[h,if_true] <;> omega
   ·simp only[h,if_false] <;> omega
 ·cases hi with
  | none=>simp[ue,HT.sIx]
  | some i=>
   simp only[ue,HT.sIx,YM,show (1:Int)>0 by decide,if_true]
   by_cases h:i<0
   ·simp only[h,if_true] <;> omega
   ·simp only[h,if_false] <;> omega
def q7y(its:List vB)(lo hi:Option Int):slicePick its.toArray lo hi none=((its.drop (HT.sIx its.length 0 lo)).take (HT.sIx its.length its.length hi-HT.sIx its.length 0 lo)).toArray:=by
 obtain⟨h1,h2,h3⟩:=q81 lo hi its.toArray.size;unfold slicePick;rw[h1,h2,h3];simp only[sliceRange_one,pick_run,zP] <;> rfl
def rSlL(K:zA):V->Option Int->Option Int->Hp->VK->Prop:=λx lo hi H Q=>∃a xs,x=.ref a/\SqL K H a xs/\∀p,H p=none->Q (.ref p) (upd H p (.lst (zBp xs lo hi)))
def qfC:SlR X (rSlL X.K):=by
 intro pins s σ H x v vl vu lo hi sl Q I rx hs pl pu h;obtain⟨a,xs,rfl,hx,q⟩:=h;cases rx;obtain⟨its,r,ht,hz⟩:=I.list hx;have hlen:=r.length;refine⟨"list", _,slot_list_getitem.lookup,ht.isList.typeIs,?_⟩;refine wpAny_getItem_list_slice ht.isList hs pl pu .none (by simp) ?_ (by rw[zP] <;> omega);rw[q7y,<- hlen];refine⟨.ref s.heap.objs.size,_,I.laid (t':=s.toks) (o:=.lst (zBp xs lo hi)) (λb ob q=>zH _ q) (zM _) ?_,rfl,q _ (I.hok.fresh (zM _))⟩;exact⟨yJ (q4Y xs lo hi) hz,_,0,(r.drop (HT.sIx xs.length 0 lo)).take (HT.sIx xs.length xs.length hi-HT.sIx xs.length 0 lo),zS _ rfl⟩
noncomputable def Wz:V->Bool
 | .non=>true
 | .bl _=>true
 | .int _=>true
 | .str _=>true
 | _=>false
noncomputable def eqV:V->V->Bool
 | .non,.non=>true
 | .bl a,.bl b=>a==b
 | .bl a,.int b=>(if a then 1 else 0)==b
 | .int a,.bl b=>a==(if b then 1 else 0)
 | .int a,.int b=>a==b
 | .str a,.str b=>a==b
 | _,_=>false
def qh7{A:vb}{s:vG}{y x:V}{u v:vB}(ry:RelV y u)(rx:RelV x v)(fy:Wz y=true)(fx:Wz x=true):SeqAt.EqAt A s u v (eqV y x):=by
 cases y with
 | non=>
  cases ry;cases x with
  | non=>cases rx;exact SeqAt.EqAt.same _
  | bl b=>cases rx;exact SeqAt.EqAt.none_bool b
  | int b=>obtain⟨t,rfl⟩:=rx;exact SeqAt.EqAt.none_int b t
  | str b=>obtain⟨t,rfl⟩:=rx;exact SeqAt.EqAt.none_str b t
  | _=>exact vK (show false=true from fx) zy
 | bl a=>
  cases ry;cases x with
  | non=>cases rx;exact SeqAt.EqAt.bool_none a
  | bl b=>cases rx;exact SeqAt.EqAt.bool_bool a b
  | int b=>obtain⟨t,rfl⟩:=rx;exact SeqAt.EqAt.bool_int a b t
  | str b=>obtain⟨t,rfl⟩:=rx;exact SeqAt.EqAt.bool_str a b t
  | _=>exact vK (show false=true from fx) zy
 | int a=>
  obtain⟨t',rfl⟩:=ry;cases x with
  | non=>cases rx;exact SeqAt.EqAt.int_none a t'
  | bl b=>cases rx;exact SeqAt.EqAt.int_bool a t' b
  | int b=>obtain⟨t,rfl⟩:=rx;exact SeqAt.EqAt.int_int a t' b t
  | str b=>obtain⟨t,rfl⟩:=rx;exact SeqAt.EqAt.int_str a t' b t
  | _=>exact vK (show false=true from fx) zy
 | str a=>
  obtain⟨t',rfl⟩:=ry;cases x with
  | non=>cases rx;exact SeqAt.EqAt.str_none a t'
  | bl b=>cases rx;exact SeqAt.EqAt.str_bool a t' b
  | int b=>obtain⟨t,rfl⟩:=rx;exact SeqAt.EqAt.str_int a t' b t
  | str b=>obtain⟨t,rfl⟩:=rx;exact SeqAt.EqAt.str_str a t' b t
  | _=>exact vK (show false=true from fx) zy
 | _=>exact vK (show false=true from fy) zy
noncomputable def eqU(x:V)(u:vB):Bool:=match u with
 | .none=>eqV .non x
 | .bool b=>eqV (.bl b) x
 | .int i _=>eqV (.int i) x
 | .str z _=>eqV (.str z) x
 | _=>false
def qcT{x y:V}{u:vB}(r:RelV y u)(f:Wz y=true):eqU x u=eqV y x:=by
 cases y with
 | non=>cases r;rfl
 | bl b=>cases r;rfl
 | int i=>obtain⟨t,rfl⟩:=r;rfl
 | str z=>obtain⟨t,rfl⟩:=r;rfl
 | _=>exact vK (show false=true from f) zy
theorem q3w{x:V}:∀{xs:List V}{us:List vB},XB xs us->xs.all Wz=true->us.any (eqU x)=xs.any λy=>eqV y x
 | _,_,.nil,_=>rfl
 | y::xs,u::us,.cons r t,f=>by
  rw[yp,zU]at f;rw[xy,xy,qcT r f.1,q3w t f.2]
theorem q2w{A:vb}{s:vG}{x:V}{v:vB}(rx:RelV x v)(fx:Wz x=true):∀{xs:List V}{us:List vB},XB xs us->xs.all Wz=true->∀u∈us,SeqAt.EqAt A s u v (eqU x u)
 | _,_,.nil,_=>λu hu=>by cases hu
 | y::xs,u::us,.cons r t,f=>λu' hu=>by
  rw[yp,zU]at f;rcases zF.mp hu with rfl|hu
  ·rw[qcT r f.1];exact qh7 r rx f.1 fx
  ·exact q2w rx fx t f.2 u' hu
noncomputable def inV(x:V)(xs:List V):Bool:=xs.any λy=>eqV y x
noncomputable def rIn(K:zA)(neg:Bool):R2:=λx y H Q=>∃p xs,y=.ref p/\(SqL K H p xs\/SqT K H p xs)/\Wz x=true/\xs.all Wz=true/\Q (.bl (if neg then !inV x xs else inV x xs)) H
def qcd:OpR X (uC .In) (rIn X.K false):=by
 intro pins s σ H x y v u Q I rx ry h;obtain⟨p,xs,rfl,hq,fx,fs,q⟩:=h;cases ry;rcases hq with hq|hq
 ·obtain⟨its,r,pl,hz⟩:=I.list hq
  refine SeqAt.in_listAt (eqU x) pl.isList (λw hw=>q2w rx fx r fs w ⇑hw) ⟨.bl _,H,I,rfl,?_⟩;rw[show its.toArray.any (eqU x)=its.any (eqU x) by simp,q3w r fs];exact q
 ·obtain⟨its,r,pl,hz⟩:=I.tuple hq
  refine SeqAt.in_tupleAt (eqU x) pl (λw hw=>q2w rx fx r fs w ⇑hw) ⟨.bl _,H,I,rfl,?_⟩;rw[show its.toArray.any (eqU x)=its.any (eqU x) by simp,q3w r fs];exact q
def q8s:OpR X (uC .NotIn) (rIn X.K true):=by
 intro pins s σ H x y v u Q I rx ry h;obtain⟨p,xs,rfl,hq,fx,fs,q⟩:=h;cases ry;rcases hq with hq|hq
 ·obtain⟨its,r,pl,hz⟩:=I.list hq
  refine SeqAt.notIn_listAt (eqU x) pl.isList (λw hw=>q2w rx fx r fs w ⇑hw) ⟨.bl _,H,I,rfl,?_⟩;rw[show its.toArray.any (eqU x)=its.any (eqU x) by simp,q3w r fs];exact q
 ·obtain⟨its,r,pl,hz⟩:=I.tuple hq
  refine SeqAt.notIn_tupleAt (eqU x) pl (λw hw=>q2w rx fx r fs w ⇑hw) ⟨.bl _,H,I,rfl,?_⟩;rw[show its.toArray.any (eqU x)=its.any (eqU x) by simp,q3w r fs];exact q
def qj:X6 X (.builtin "len") (λxs H Q=>∃p ys,xs=[.ref p]/\(SqL X.K H p ys\/SqT X.K H p ys)/\Q (.int ys.length) H):=by
 intro pins s σ H xs us Q I r h;obtain⟨p,ys,rfl,hq,q⟩:=h;obtain⟨u,rfl,rx⟩:=vals1 r;cases rx;have hn:=zAC;rcases hq with hq|hq
 ·obtain⟨its,r',pl,hz⟩:=I.list hq
  have hlen:=r'.length;exact Calls.call_len_list pl.isList (by simp only[zP] <;> omega) ⟨.int ys.length,H,I.tok _,⟨s.toks+1,by rw[zP,hlen]⟩,q⟩
 ·obtain⟨its,r',pl,hz⟩:=I.tuple hq
  have hlen:=r'.length;exact len_tuple pl (by simp only[zP] <;> omega) ⟨.int ys.length,H,I.tok _,⟨s.toks+1,by rw[zP,hlen]⟩,q⟩
def q7Y:X6 X (.type "list") (λxs H Q=>∃p ys,xs=[.ref p]/\(SqL X.K H p ys\/SqT X.K H p ys)/\∀l,H l=none->Q (.ref l) (upd H l (.lst ys))):=by
 intro pins s σ H xs us Q I r h;obtain⟨p,ys,rfl,hq,q⟩:=h;obtain⟨u,rfl,rx⟩:=vals1 r;cases rx;have fin:∀(its:List vB),XB ys its->ys.length<=sizeLine->∀(h':vn)(c':Nat),(∀b o',s.heap.get? b=some o'->h'.get? b=some o') ->
   h'.get? s.heap.objs.size=some { cls:=.type "list", dict:=none,data:=.seq its.toArray c',slots:=#[] }->EP X pins σ Q (.ref s.heap.objs.size) { s with heap:=h' }:=λits r' hz h' c' kp e=>
  ⟨.ref s.heap.objs.size,_,I.laid (t':=s.toks) kp (zM _) (show XF X.prog X.w _ h' _ (.lst ys)from ⟨hz,its,c',r',e⟩),rfl,q _ (I.hok.fresh (zM _))⟩
 rcases hq with hq|hq
 ·obtain⟨its,r',pl,hz⟩:=I.list hq
  have hlen:=r'.length;obtain⟨o,ho,hc,n,hd⟩:=pl.isList;exact call_list_seq p (.inl rfl) ho hc hd (λh' c' kp e=>fin its r' hz h' c' kp e) (by simp only[zP] <;> omega)
 ·obtain⟨its,r',pl,hz⟩:=I.tuple hq
  have hlen:=r'.length;obtain⟨o,ho,hc,n,hd⟩:=pl;exact call_list_seq p (.inr rfl) ho hc hd (λh' c' kp e=>fin its r' hz h' c' kp e) (by simp only[zP] <;> omega)
def tyV(K:zA)(T:String)(x:V)(H:Hp):Prop:=match x with
 | .str _=>T = "str"
 | .int _=>T = "int"
 | .ref p=>(T = "list" /\ ∃xs,SqL K H p xs)\/(T = "tuple" /\ ∃o,K.lookup p=some o/\o.cls=.type "tuple" /\ o.dict=none) \/
   (T = "dict" /\ ((∃kvs,H p=some (.dK kvs))\/∃kvs,H p=some (.dT kvs)))\/(T = "set" /\ ∃S n,H p=some (.set S n))
 | _=>False
def qcL{pins:List (vJ×Obj)}{σ:St}{H:Hp}{s:vG}{T:String}{x:V}{v:vB}(I:Inv X pins σ H s)(r:RelV x v)(ty:tyV X.K T x H):
  s.TypeIs v T/\∀a,v=.ref a->∃ob,s.heap.get? a=some ob/\ob.dict=none:=by
 cases x with
 | str z=>
  obtain⟨t,rfl⟩:=r;cases (show T = "str" from ty);exact⟨typeIs_str s z t,λ_ e=>nomatch e⟩
 | int i=>
  obtain⟨t,rfl⟩:=r;cases (show T = "int" from ty);exact⟨typeIs_int s i t,λ_ e=>nomatch e⟩
 | ref p=>
  cases r;rcases ty with⟨rfl,xs,hq⟩|⟨rfl,o,hk,hc,hd⟩|⟨rfl,hk⟩|⟨rfl,S,n,hk⟩
  ·obtain⟨its,_,pl,_⟩:=I.list hq
   refine⟨pl.isList.typeIs,λa e=>?_⟩;cases e;obtain⟨o,n,e,c,hd,_⟩:=pl;exact⟨o,e,hd⟩
  ·refine⟨⟨o,I.kIn p o hk,hc⟩,λa e=>?_⟩
   cases e;exact⟨o,I.kIn _ o hk,hd⟩
  ·have z:∃o,s.heap.get? p=some o/\o.ExactDict:=by
    rcases hk with⟨kvs,hk⟩|⟨kvs,hk⟩
    ·obtain⟨_,_,_,_,o,_,_,e,ex,_⟩:=I.hok p _ hk
     exact⟨o,e,ex⟩
    ·obtain⟨_,_,_,_,o,_,_,e,ex,_⟩:=I.hok p _ hk
     exact⟨o,e,ex⟩
   obtain⟨o,e,ex⟩:=z;refine⟨⟨o,e,ex.1⟩,λa e2=>?_⟩;cases e2;exact⟨o,e,ex.2.1⟩
  ·obtain⟨o,_,_,_,e,ex,_⟩:=I.hok p _ hk
   refine⟨⟨o,e,ex.1⟩,λa e2=>?_⟩;cases e2;exact⟨o,e,ex.2.1⟩
 | _=>exact False.elim ty
noncomputable def tBM0(K:zA)(T:String)(r:V->List V->Hp->VK->Prop)(to:TE):TE:=λσ H Q=>to σ H λx H1=>tyV K T x H1/\r x [] H1 Q
noncomputable def tBM(K:zA)(T:String)(r:V->List V->Hp->VK->Prop)(to:TE)(t:TA):TE:=λσ H Q=>to σ H λx H1=>tyV K T x H1/\t σ H1 λxs H2=>r x xs H2 Q
variable{o e:vW}{es:List vW}{to:TE}{t:TA}{name:Str}{apos cpos:Pos}{T id:String}{r:V->List V->Hp->VK->Prop}
def q8D(pa:PlainAttrs T)(slot:Slot T name id)(hty:typeOf (.builtin id)=pure (.type "method_descriptor"))(hm:MtR X id r)(ho:PE X o to)(hbase:uO o name X.env (eval o X.env)=eval o X.env:=by rfl)(hline:(apos.endLine==cpos.line)=true:=by rfl):PE X (.Call (.Attribute o name apos) [] [] cpos) (tBM0 X.K T r to):=by
 intro pins s σ H Q I h;refine wpAny_Call_method0_late hbase hline (thn (ho pins s σ H _ I h) λv s1 ⟨x,H1,I1,r1,ty,q1⟩=>?_);obtain⟨h1,h2⟩:=qcL I1 r1 ty;exact⟨T,id,pa,slot,hty,h1,h2,Calls.callWith_builtin rfl (PySem.evalArgs_none (hm pins s1 σ H1 x [] v [] Q I1 r1 .nil q1))⟩
def q3O(pa:PlainAttrs T)(slot:Slot T name id)(hty:typeOf (.builtin id)=pure (.type "method_descriptor"))(hm:MtR X id r)(ho:PE X o to)(ha:PA X (e::es) t)(hbase:uO o name X.env (eval o X.env)=eval o X.env:=by rfl)(hfew:((v4 cpos (vL (e::es) X.env)).all (λx=>!x.1)&&(tM cpos (uf [] X.env)).all (λx=>x.1.isSome)
   && decide ((e::es).length+([]:List uX).length+(if ([]:List uX).isEmpty then 0 else 1)<30))=true:=by rfl)
  (hline:(apos.endLine==cpos.line)=true:=by rfl) (hs:vL (e::es) X.env=(false,eval e X.env)::vL es X.env:=by rfl) (hplain:(v4 cpos (vL es X.env)).any (·.1)=false:=by rfl) :
  PE X (.Call (.Attribute o name apos) (e::es) [] cpos) (tBM X.K T r to t):=by
 intro pins s σ H Q I h;refine wpAny_Call_method_late hbase hfew hline rfl (thn (ho pins s σ H _ I h) λv s1 ⟨x,H1,I1,r1,ty,q1⟩=>?_);obtain⟨h1,h2⟩:=qcL I1 r1 ty;refine⟨T,id,pa,slot,hty,h1,h2,?_⟩;have hA:=ha cpos pins s1 σ H1 _ I1 q1;rw[hs]at hA ⊢;refine Calls.callWith_builtin (by show (false || (v4 cpos (vL es X.env)).any (·.1))=false;rw[hplain] <;> rfl) (Calls.evalArgs_plain ?_);exact thn hA λus s2 ⟨vs,H2,I2,r2,q2⟩=>hm pins s2 σ H2 x vs v us Q I2 r1 r2 q2
end
def MtM(X:Cx)(id:String)(r:V->List V->Hp->VK->Prop):Prop :=
 ∀(pins:List (vJ×Obj))(s:vG)(σ:St)(H:Hp)(x:V)(xs:List V)(v:vB)(us:List vB)(Q:VK),Inv X pins σ H s->RelV x v->XB xs us->r x xs H Q ->
  vN (model X.prog X.w) X.A (call (.builtin id) (v::us)) (EP X pins σ Q) X.xe s
theorem XB.one:∀{x:V}{us:List vB},XB [x] us->∃u,us=[u]/\RelV x u
 | _,_,.cons r .nil=>⟨_,rfl,r⟩
def XB.zero:∀{us:List vB},XB [] us->us=[]
 | _,.nil=>rfl
theorem XB.dropLast{xs:List V}{us:List vB}(h:XB xs us):XB xs.dropLast us.dropLast:=by
 induction h with
 | nil=>exact .nil
 | cons r t ih=>
  cases t with
  | nil=>exact .nil
  | cons q t'=>exact .cons r ih
theorem XB.reverse{xs:List V}{us:List vB}(h:XB xs us):XB xs.reverse us.reverse:=by
 induction h with
 | nil=>exact .nil
 | cons r t ih=>rw[Z4,Z4];exact XB.append ih (.cons r .nil)
theorem XB.rep{xs:List V}{us:List vB}(h:XB xs us):∀k:Nat,XB (ze k xs).flatten (ze k us).flatten
 | 0=>.nil
 | k+1=>by
  rw[yH,yH,yP,yP];exact XB.append h (XB.rep h k)
def qay{α:Type}(l:List α):l.eraseIdx (l.length-1)=l.dropLast:=by
 induction l with
 | nil=>rfl
 | cons a r ih=>
  cases r with
  | nil=>rfl
  | cons b r=>
   have e:(a::b::r).length-1=((b::r).length-1)+1:=by
    have h1:(a::b::r).length=r.length+2:=rfl;have h2:(b::r).length=r.length+1:=rfl;omega
   rw[e,List.eraseIdx_cons_succ,ih]
   all_goals rfl
theorem q6X(its:List vB):∀(k:Nat)(acc:List vB),
  ZG (λx1 x2=>x1++x2) acc.toArray (ze k its.toArray)=(acc++(ze k its).flatten).toArray
 | 0,acc=>by simp
 | k+1,acc=>by
  have e:acc.toArray++its.toArray=(acc++its).toArray:=by simp
  have e2:(acc++its)++(ze k its).flatten=acc++(ze (k+1) its).flatten:=by
   rw[yH,yP,zN]
  rw[<- e2,<- q6X its k (acc++its),<- e,yH,YT]
section
variable{X:Cx}{pins:List (vJ×Obj)}{σ:St}{H:Hp}{s:vG}{l b:vJ}{xs ys zs:List V}
def Inv.lset{its its':List vB}{n:Nat}{f:Array vB->Array vB}{t':Nat}(I:Inv X pins σ H s)(hH:H l=some (.lst xs))(e:s.heap.get? l=some { cls:=.type "list", data:=.seq its.toArray n })(hf:f its.toArray=its'.toArray)(hv:XB ys its')(hz:ys.length<=sizeLine):
  Inv X pins σ (upd H l (.lst ys)) { s with heap:=s.heap.update l (Obj.mapSeq f),toks:=t' }:=by
 have q:=PySem.IsL.update e f;rw[hf]at q;refine I.write (x:=l) (e:=l) (by rw[hH];exact trivial) (.inl rfl) (λb' u hb hu=>(yj s.heap (Obj.mapSeq f) (Ne.symm hb)).trans hu) ⟨_,q⟩ ?_;exact⟨hz,its',_,hv,q⟩
def Inv.lnew{its:List vB}{t':Nat}(I:Inv X pins σ H s)(hv:XB ys its)(hz:ys.length<=sizeLine):
  Inv X pins σ (upd H s.heap.objs.size (.lst ys)) { s with heap:=s.heap.push { cls:=.type "list", data:=.seq its.toArray },toks:=t' } :=
 I.laid (λ_ _ q=>zH _ q) (zM _) ⟨hz,its,0,hv,zS _ rfl⟩
theorem Inv.fresh(I:Inv X pins σ H s):H s.heap.objs.size=none:=I.hok.fresh (zM _)
def Inv.lstM(I:Inv X pins σ H s)(hH:H l=some (.lst xs)):xs.length<=sizeLine/\∃(its:List vB) (n:Nat),XB xs its/\xs.length=its.length/\s.heap.get? l=some { cls:=.type "list", data:=.seq its.toArray n }:=by
 obtain⟨z,its,n,r,e⟩:=I.hok l _ hH;exact⟨z,its,n,r,r.length,e⟩
def zAE{n:Nat}(h:n<=sizeLine):Builtin.List.listTooLong n=false:=by
 unfold Builtin.List.listTooLong;exact vX ∅
end
section
variable{X:Cx}
def WM:V->List V->Hp->VK->Prop:=λx vs H Q=>∃l xs y,x=.ref l/\vs=[y]/\H l=some (.lst xs)/\xs.length<sizeLine/\Q .non (upd H l (.lst (xs++[y])))
def q0R:MtM X "list.append" WM:=by
 intro pins s σ H x vs v us Q I rx rv h;obtain⟨l,xs,y,rfl,rfl,hH,hz,q⟩:=h;cases rx;obtain⟨u,rfl,ru⟩:=rv.one;obtain⟨z,its,n,r,hl,e⟩:=I.lstM hH;refine u6 F.slot_list_append ⟨_,e,rfl⟩ F.entry_list_append (F.args_list_append_2 _ _) (PySem.list_append l its.toArray n u (by rw[zP];omega)) ⟨e,?_⟩;refine⟨.non,_,I.lset (its':=its++[u]) hH e (by simp) (r.append (.cons ru .nil)) ?_,rfl,q⟩;rw[zC,zx];omega
def zBm:V->List V->Hp->VK->Prop:=λx vs H Q=>∃l b xs zs,x=.ref l/\vs=[.ref b]/\H l=some (.lst xs)/\H b=some (.lst zs)/\xs.length+zs.length<=sizeLine/\Q .non (upd H l (.lst (xs++zs)))
def qdf:MtM X "list.extend" zBm:=by
 intro pins s σ H x vs v us Q I rx rv h;obtain⟨l,b,xs,zs,rfl,rfl,hH,hB,hz,q⟩:=h;cases rx;obtain⟨u,rfl,ru⟩:=rv.one;cases ru;obtain⟨z,its,n,r,hl,e⟩:=I.lstM hH;obtain⟨z2,its2,n2,r2,hl2,e2⟩:=I.lstM hB;have hsz:its.toArray.size+its2.toArray.size<=sizeLine:=by rw[zP,zP];omega
 have hlong:¬(!its.toArray.isEmpty&&Builtin.List.listTooLong (its.toArray.size+its2.toArray.size))=true:=by
  rw[zAE hsz,xm];exact zy
 refine u6 F.slot_list_extend ⟨_,e,rfl⟩ F.entry_list_extend (F.args_list_extend_2 _ _)
  (AutoSeq1.list_extend_list_list_0 l its.toArray n b its2.toArray n2 hlong (by rw[zP];omega) ∅) ⟨e,e2,?_⟩
 refine⟨.non,_,I.lset (its':=its++its2) hH e (by simp) (r.append r2) ?_,rfl,q⟩;rw[zC];omega
def rPop:V->List V->Hp->VK->Prop:=λx vs H Q=>∃l xs y,x=.ref l/\vs=[]/\H l=some (.lst xs)/\xs[xs.length-1]?=some y/\Q y (upd H l (.lst xs.dropLast))
def q8z:MtM X "list.pop" rPop:=by
 intro pins s σ H x vs v us Q I rx rv h;obtain⟨l,xs,y,rfl,rfl,hH,hy,q⟩:=h;cases rx;have hus:=rv.zero;subst hus;obtain⟨z,its,n,r,hl,e⟩:=I.lstM hH;obtain⟨u,hu,ru⟩:=r.get hy;have hy':its.toArray[its.toArray.size-1]?=some u:=by
  show its.toArray[its.length-1]?=some u;rw[<- zo,<- hl];exact hu
 refine u6 F.slot_list_pop ⟨_,e,rfl⟩ F.entry_list_pop (F.args_list_pop_1 _) (MeetsSeq.list_pop_last l its.toArray n u hy' (by rw[zP];omega)) ⟨e,?_⟩;refine⟨y,_,I.lset (its':=its.dropLast) hH e ?_ r.dropLast ?_,ru,q⟩
 ·show its.toArray.eraseIdxIfInBounds (its.toArray.size-1)=its.dropLast.toArray
  rw[zP,List.eraseIdxIfInBounds_toArray,qay]
 ·rw[List.length_dropLast]
  omega
noncomputable def rCat:R2:=λx y H Q=>∃l b xs zs,x=.ref l/\y=.ref b/\H l=some (.lst xs)/\H b=some (.lst zs)/\xs.length+zs.length<=sizeLine/\∀p,H p=none->Q (.ref p) (upd H p (.lst (xs++zs)))
def qh0:OpR X (uP .Add) rCat:=by
 intro pins s σ H x y v u Q I rx ry h;obtain⟨l,b,xs,zs,rfl,rfl,hH,hB,hz,q⟩:=h;cases rx;cases ry;obtain⟨z,its,n,r,hl,e⟩:=I.lstM hH;obtain⟨z2,its2,n2,r2,hl2,e2⟩:=I.lstM hB;refine PySem.P.add_list e e2 ?_ (by rw[zP,zP];omega);have ea:its.toArray++its2.toArray=(its++its2).toArray:=by simp
 rw[ea];exact⟨.ref _,_,I.lnew (t':=s.toks) (r.append r2) (by rw[zC];omega),rfl,q _ I.fresh⟩
noncomputable def rRep:R2:=λx y H Q=>∃l k xs,x=.ref l/\y=.int k/\H l=some (.lst xs)/\-(2^63)<=k/\k<2^63/\xs.length*k.toNat<=sizeLine /\
 ∀p,H p=none->Q (.ref p) (upd H p (.lst (ze k.toNat xs).flatten))
def qg0{α:Type}(xs:List α)(k:Nat):(ze k xs).flatten.length=k*xs.length:=by
 induction k with
 | zero=>simp
 | succ k ih=>rw[yH,yP,zC,ih,Nat.succ_mul,ZH]
def qgD:OpR X (uP .Mult) rRep:=by
 intro pins s σ H x y v u Q I rx ry h;obtain⟨l,k,xs,rfl,rfl,hH,h1,h2,hz,q⟩:=h;cases rx;obtain⟨t,rfl⟩:=ry;obtain⟨z,its,n,r,hl,e⟩:=I.lstM hH;have hlen:its.toArray.size*k.toNat<=sizeLine:=by rw[zP,<- hl];exact hz
 have hcap:¬its.toArray.size*k.toNat>(2^63-1)/8:=by
  have:(sizeLine:Nat)<=(2^63-1)/8:=by decide
  omega
 have hfit:¬(!Builtin.List.listFitsIndex k)=true:=by
  rw[fitsIndex_both h1 h2];exact zy
 have hlong:¬Builtin.List.listTooLong (its.toArray.size*k.toNat)=true:=by
  rw[zAE hlen];exact zy
 have hnew:ZG (λx1 x2=>x1++x2) #[] (ze (if its.toArray.isEmpty=true then 0 else k.toNat) its.toArray)=(ze k.toNat its).flatten.toArray:=by
  have f0:∀m:Nat,ZG (λx1 x2=>x1++x2) #[] (ze m its.toArray)=(ze m its).flatten.toArray:=λm=>by
   have:=q6X its m [];rw[yQ]at this;exact this
  rw[f0];cases its with
  | nil=>simp
  | cons a r'=>rw[vF (by simp)]
 refine wpAny_binaryOp_repeat_ref (T := "list") (U := "int") (by decide) ⟨_,e,rfl⟩ (λs'=>typeIs_int s' k t) noFill_list_mul F.fills_int_mul F.slot_int_rmul repeat_list F.slot_int_index.lookup
  (u6 F.slot_int_rmul (typeIs_int s k t) F.entry_int_rmul (F.args_int_rmul_2 _ _) (int___rmul___int_list k t l its.toArray n)
   ⟨e,rfl,⟨_,e,rfl⟩,u6 F.slot_list_mul ⟨_,e,rfl⟩ F.entry_list_mul (F.args_list_mul_2 _ _) (AutoListH.list___mul___list_int_3 l its.toArray n k t hfit hcap hlong) ⟨e,?_⟩⟩)
 rw[hnew];exact⟨.ref _,_,I.lnew (t':=s.toks) (r.rep k.toNat) (by rw[qg0,Nat.mul_comm];exact hz),rfl,q _ I.fresh⟩
end
section
variable{prog:vQ}{w:vZ}{A:vb}{E:vB->vG->Prop}{s:vG}
end
section
variable{X:Cx}
end
end L2
namespace Att
open PySem PySem.W PySem.Calls PyProof.Rows
def Wo{P:Params}{h:vn}:∀(ns:List Int)(vs:List vB),WellAll P h vs (ns.map WData.int)->uH vs ns:=by
 intro ns
 induction ns with
 | nil=>
  intro vs w;rw[yw]at w;cases w;exact .nil
 | cons n ns ih=>
  intro vs w;rw[zY]at w;cases w with
  | cons a b=>
   cases a;exact .cons _ _ (ih _ b)
def zBM{l:OpenLaw}{n:Nat}(hn:l.most=some n){P:Params}{h:vn}{args:List WData}{vals:List vB}(hpre:l.row.toRowW.claim.pre args=true)(hwl:WellAll P h vals args):
  ∃a vs ns,vals=[Value.ref a]/\args=[WData.list (ns.map WData.int)]/\h.get? a=some { cls:=.type "list", data:=.seq vs.toArray }/\uH vs ns/\ns.length<=n:=by
 have hsh:WShape.hasAll [] args [.list .int]=true:=(pre_splitW hpre).1;have hc:l.pre.holds [] { args:=args }=true:=(pre_splitW hpre).2;obtain⟨d,r,rfl,h1,h2⟩:=hasAllW_cons hsh;obtain rfl:=hasAllW_nil h2;obtain⟨xs,rfl,h3⟩:=hasW_list h1;obtain⟨ns,rfl⟩:=items_int h3;have hlen:ns.length<=n:=by
  unfold OpenLaw.pre at hc;have h4:(WTm.not (.lt (.lit (.int (n:Int))) (.len (.arg 0)))).holds [] { args:=[.list (ns.map .int)] }=true:=by
   have h4:=(holds_andW hc).1;rw[hn]at h4;exact h4
  have h5:=condW_of h4 (w_not (w_lt w_lit (w_len_list (w_arg rfl))));rw[zB]at h5;refine Nat.le_of_not_lt λq=>?_;have q':(n:Int)<((ns.length:Nat):Int):=∅
  first
   | (rw[vS q']at h5;exact vK h5 (by decide))
   | (simp at h5;omega)
 cases hwl with
 | cons w1 w2=>
  cases w2;cases w1 with
  | list ho hall=>exact⟨_,_,ns,rfl,rfl,ho,Wo ns _ hall,hlen⟩
def zBO(l:OpenLaw)(args:List WData):l.row.toRowW.claim.post args (.bool true) args=true :=
 postW_of (r:=l.row.toRowW) (X:=(true==true))
  (show WShape.has [] (.bool true) .bool=true by first|rfl|decide|simp[WShape.has,WShape.arms,WShape.armsAll])
  (show (WTm.eq .res (.lit (.bool true))).value [] { args:=args,res:=some (.bool true),after:=args }=some (.bool (true==true))from w_eq_bool (w_res rfl) w_lit) rfl
def attach_call{l:OpenLaw}{n:Nat}{q:vQ}{loose:List Str}{XP:(Str->Option vB)->vn->Prop}{YP:vZ->vn->Prop}{d:DefRec}(hn:l.most=some n)(hdf:d.params.defaults=[])(call:∀(w:vZ)(s₀ s₁:vG)(mg mb:Str->Option vB)(fa:vJ)(o:Obj)(pm cd doc:vB)(a:vJ)(vs:List vB)(ns:List Int),
   Ground q loose [] XP w s₀ mg mb s₁.heap->YP w s₁.heap ->
   s₁.heap.get? fa=some o->o.data=.func (docDef d.name d.params d.body d.scope pm cd doc)->s₁.heap.CodeRec cd d.name->mg d.name=some (.ref fa) ->
   s₁.heap.get? a=some { cls:=.type "list", data:=.seq vs.toArray }->uH vs ns->ns.length<=n->s₁.gens=#[] ->
   uh (model l.prog w) tf (.call (.ref fa) ⟨[.ref a],[]⟩) (λr s'=>r=.ok (.ret (.bool true))/\OldK s₁.heap s'.heap/\s'.os=s₁.os/\tE s'.gens) s₁) :
  WalkO q loose XP YP l.row.toRowW d [] (λf vs=>PySem.call f vs):=by
 intro w s₀ s₁ mg mb G Y fa o pm cd doc dV kV ho hd hcd hD hmg hg args vals as hpre hlay hrd hwl hlo;obtain rfl:dV=.none:=Dflts.none hD hdf;obtain rfl:kV=.none:=Dflts.noKw hD;obtain⟨a,vs,ns,rfl,rfl,hobj,hints,hlen⟩:=zBM hn hpre hwl;refine enter_call (ui (call w s₀ s₁ mg mb fa o pm cd doc a vs ns G Y ho (fd_plain hd) hcd hmg hobj hints hlen hg) λr s' hq=>?_);obtain⟨rfl,h2,h3,h4⟩:=hq;exact⟨.inl ⟨.bool true,.bool true,[],rfl,λ_=>rfl,.bool true,zBO l _,λ_=>⟨xH,λ_ hm=>(nomatch hm)⟩⟩,h2,h3,h4⟩
section
variable{prog:vQ}{w:vZ}{A:vb}{E:vB->vG->Prop}{s:vG}{K:Frag}
end
end Att
namespace L2
open PySem PySem.Spec PyProof.Rows
theorem q29:∀{vs:List vB}{ns:List Int},uH vs ns->XB (ns.map V.int) vs
 | _,_,.nil=>.nil
 | _,_,.cons n t h=>.cons ⟨t,rfl⟩ (q29 h)
def Only(H:Hp):Prop:=∀b,H b=none\/∃o xs,H b=some (.frz o (.lst xs))
def qdH{P:vQ}{w:vZ}{K:zA}{mg mb:Str->Option vB}{CX:CXT}{k:Nat}{fa a:vJ}{fd:vP}{x:Str}{sp:Sp}{s₁:vG}{vs:List vB}{ns:List Int}(KX:K.In s₁.heap)(hns:s₁.heap.Ns vY mg)(hb:s₁.heap.Ns builtinsNs mb)(hbb:∀x:Str,x ≠ "__name__" -> mb x=vf x)(hlim:s₁.heap.NoLimit)(hg:s₁.gens=#[])(ha:s₁.heap.get? a=some { cls:=.type "list", data:=.seq vs.toArray })(hi:uH vs ns)(hl:ns.length<=sizeLine)(hr:Room k tf)(F:∀base:vn,K.In base->base.Ns vY mg->FnOk P w K mg base CX k fa fd [x] sp)(hbind:∀(s:vG)(u:vB),sD s fd ⟨[u],[]⟩ [(x,u)])(hsp:∀H:Hp,Only H->SqL K H a (ns.map V.int)->sp [.ref a] H (λv _=>v=.bl true) λ_ _ _=>False)(hCX:∀H e s',CX [] H s₁ (λ_ _ _=>False) e s'->False):
  uh (model P w) tf (.call (.ref fa) ⟨[.ref a],[]⟩) (λr s'=>r=.ok (.ret (.bool true))/\OldK s₁.heap s'.heap/\s'.os=s₁.os/\tE s'.gens) s₁:=by
 have rv:=q29 hi;have lenV:=hi.length;have core:∀H:Hp,Only H->SqL K H a (ns.map V.int)->HOk P w H s₁.heap->(∀b,H b≠none->b=a)->(H a≠none->K.lookup a=none) ->
   uh (model P w) tf (.call (.ref fa) ⟨[.ref a],[]⟩) (λr s'=>r=.ok (.ret (.bool true))/\OldK s₁.heap s'.heap/\s'.os=s₁.os/\tE s'.gens) s₁:=by
  intro H hO hS hok hA hK;have base_of:∀{b:vJ}{o:Obj},s₁.heap.get? b=some o->H b=none->(zB3 s₁.heap H).get? b=some o:=λe n=>qdN e n;have noA:∀{b:vJ}{o:Obj}{es:Array DictEntry}{ep:Nat},s₁.heap.get? b=some o->o.data=.dict es ep->H b=none:=λ{b o es ep} e d=>by
   cases q:H b with
   | none=>rfl
   | some u=>
    have e':b=a:=hA b (by rw[q];simp);subst e';rw[ha]at e;cases e;have d':Data.seq vs.toArray _=Data.dict es ep:=d;cases d'
  have nsK:∀{b:vJ}{m:Str->Option vB},s₁.heap.Ns b m->(zB3 s₁.heap H).Ns b m:=λ{b m} ⟨o,es,ep,e,d,r⟩=>⟨o,es,ep,base_of e (noA e d),d,r⟩;have hKb:K.In (zB3 s₁.heap H):=λb o e=>base_of (KX b o e) (by
   cases q:H b with
   | none=>rfl
   | some u=>
    have e':b=a:=hA b (by rw[q];simp);subst e';rw[hK (by rw[q];simp)]at e;cases e)
  have hM:Mod K mg (zB3 s₁.heap H):=⟨hKb,nsK hns,⟨mb,nsK hb,hbb⟩,let ⟨mc,h1,h2⟩:=hlim;⟨mc,nsK h1,h2⟩⟩;have e0:Env0 P w K mg (zB3 s₁.heap H) tf [] s₁ H:=⟨rfl,hM,λb o e=>qfS e,Nat.le_of_eq (qdp _ _),trivial,λb hb=>vK (show b∈([]:List vJ)from hb) (by simp),hok,.of_eq hg⟩;refine ui ((F _ hKb (nsK hns)).run tf [] s₁ H ⟨[.ref a],[]⟩ [.ref a] [.ref a] _ _ hr e0 (hbind s₁ (.ref a)) (.cons rfl .nil) (hsp H hO hS)) λr s' h=>?_;cases r with
  | error e=>exact(hCX H e s' h).elim
  | ok fl=>
   cases fl with
   | next=>exact False.elim h
   | brk=>exact False.elim h
   | cont=>exact False.elim h
   | ret u=>
    obtain⟨v,H',os,bare,un,hok',r',q⟩:=h;have q':v=.bl true:=q;subst q';obtain rfl:u=Value.bool true:=r';refine⟨rfl,OldK.of_keep λb o e=>?_,os,bare⟩;cases q:H b with
    | none=>exact un.keep b o e q (by intro z;exact vK (show b∈([]:List vJ)from z) (by simp)) (by simp)
    | some u=>
     rcases hO b with z|⟨ob,xs,z⟩
     ·rw[q]at z;cases z
     ·have z2:=un.frzs b ob _ z
      obtain⟨e1,_⟩:=hok b _ z;obtain⟨e2,_⟩:=hok' b _ z2;rw[e]at e1;cases e1;exact e2
 cases hk:K.lookup a with
 | some o=>
  have e:=KX a o hk;rw[ha]at e;cases e;refine core (λ_=>none) (λ_=>.inl rfl) (.inr ⟨_,vs.toArray,_,hk,rfl,rfl,rfl,by rw[zP,lenV];exact hl,by simpa using rv⟩) (λb u z=>by have z':(none:Option HO)=some u:=z;cases z') (λb z=>vK rfl z) λz=>vK rfl z
 | none=>
  refine core (λb=>if b=a then some (.frz { cls:=.type "list", data:=.seq vs.toArray } (.lst (ns.map V.int)))else none) (λb=>?_) (.inl (.inr ⟨{ cls:=.type "list", data:=.seq vs.toArray },vC rfl⟩)) (λb u z=>?_) (λb z=>?_) λ_=>hk
  ·by_cases hb:b=a
   ·exact .inr ⟨_,_,vC hb⟩
   ·exact .inl (vF hb)
  ·by_cases hb:b=a
   ·have z':=(vC hb).symm.trans z
    cases z';subst hb;exact⟨ha,by rw[zB];exact hl,vs,_,rv,ha⟩
   ·have z':=(vF hb).symm.trans z
    cases z'
  ·by_cases hb:b=a
   ·exact hb
   ·exact vK (vF hb) z
abbrev KOf{K:zA}{h:vn}(_:K.In h):zA:=K
def qam{l:ZR}{n k:Nat}{q:vQ}{loose:List Str}{XP:(Str->Option vB)->vn->Prop}{YP:vZ->vn->Prop}{d:DefRec}{K:Params->zA}{CX:vZ->CXT}{sp:vZ->Sp}{x:Str}(hn:l.most=some n)(hn2:n<=sizeLine)(hdf:d.params.defaults=[])(hr:Room k tf)(hY:∀(w:vZ)(h:vn),YP w h->(K w.params).In h)(F:∀(w:vZ)(mg:Str->Option vB)(fa:vJ)(h:vn),(K w.params).In h->h.Ns vY mg->mg d.name=some (.ref fa) ->
   ∃fd:vP,(∀(s:vG)(u:vB),sD s fd ⟨[u],[]⟩ [(x,u)]) /\
    ∀base:vn,(K w.params).In base->base.Ns vY mg->FnOk l.prog w (K w.params) mg base (CX w) k fa fd [x] (sp w))
  (hsp:∀(w:vZ)(H:Hp)(a:vJ)(ns:List Int),ns.length<=n->Only H->SqL (K w.params) H a (ns.map V.int)->sp w [.ref a] H (λv _=>v=.bl true) λ_ _ _=>False)
  (hCX:∀(w:vZ)(H:Hp)(s:vG)(e:vB)(s':vG),CX w [] H s (λ_ _ _=>False) e s'->False) :
  Yi q loose XP YP l.row.toRowW d [] (λf vs=>PySem.call f vs):=by
 refine Att.attach_call hn hdf λw s₀ s₁ mg mb fa o pm cd doc a vs ns G Y ho hd hcd hmg hobj hints hlen hg=>?_;have KX:=hY w _ Y;obtain⟨fd,hb,hF⟩:=F w mg fa _ KX G.T.g hmg;exact qdH KX G.T.g G.T.b G.T.builtins G.T.nolimit hg hobj hints (yJ hlen hn2) hr hF hb (λH hO hS=>hsp w H a ns hlen hO hS) λH e s'=>hCX w H s₁ e s'
end L2
namespace L2
open PySem PySem.Spec PyProof.Rows
noncomputable def WL(s:vx):Arguments:=match s with
 | .FunctionDef _ a _ _ _ _ _ _ _ _=>a
 | _=>{ posonlyargs:=[],args:=[],vararg:=none,kwonlyargs:=[],kw_defaults:=[],kwarg:=none,defaults:=[] }
noncomputable def Xq(s:vx):List vx:=match s with
 | .FunctionDef _ _ b _ _ _ _ _ _ _=>b
 | _=>[]
noncomputable def Yt(s:vx):um:=match s with
 | .FunctionDef _ _ _ _ _ _ sc _ _ _=>sc
 | _=>{ kind:=.function,names:=[],isGenerator:=false,isCoroutine:=false }
abbrev CX0:CXT:=λ_ _ _ _ _ _=>False
abbrev E0:XK:=λ_ _ _=>False
def zCj{X:Cx}:zAv CX0 X E0:=λ_ _ _ _ _ _ _ h=>h.elim
structure Fun (K:zA) (x qual:Str) (st:vx) (f:vJ) (fd:vP):Prop where
 ex:∃(oc:vB) (od:Option vJ) (kV doc pm:vB) (an:Option vJ) (cdv ct:vB) (osl:Array (Option vB)),
  fd=xX x qual (WL st) (Xq st) (Yt st) .none kV doc pm an cdv ct/\K.lookup f=some ⟨oc,od,.func fd,osl⟩/\wj K cdv qual=true
 kp:xQ K (.ref f)=true
section
variable{P:vQ}{w:vZ}{K:zA}{mg:Str->Option vB}{base:vn}
def Fun.ok{x qual:Str}{st:vx}{f:vJ}{fd:vP}{N ps:List Str}{k:Nat}{sp:Sp}(F:Fun K x qual st f fd)(S:FnScope N ps (Yt st))(len:∀vs H Q E,sp vs H Q E->vs.length=ps.length)(hbody:∀(cdv:vB)(A:vb)(outer:List Env)(s:vG)(H:Hp)(vs:List V)(Q:VK)(E:XK),Room k (A.deeper (tV qual (Yt st) s.heap.objs.size f cdv))->sp vs H Q E ->
   ∃t,PSs (zBS CX0 P w K mg base N qual (Yt st) f cdv A outer s H E).nox (Xq st) t/\t { nx:=λ_ H'=>Q .non H',rt:=Q } (start N vs) H):FnOk P w K mg base CX0 (k+1) f fd ps sp:=by
 obtain⟨oc,od,kV,doc,pm,an,cdv,ct,osl,rfl,lk,hcd⟩:=F.ex;refine qhm lk hcd S len λA outer s H vs Q E hr hsp=>?_;obtain⟨t,h,q⟩:=hbody cdv A outer s H vs Q E hr hsp;exact⟨t,h.nox,q⟩
def Fun.binds{x qual:Str}{st:vx}{f:vJ}{fd:vP}{ps:List Str}(F:Fun K x qual st f fd)(h:∀(kV doc pm:vB)(an:Option vJ)(cdv ct:vB)(us:List vB),us.length=ps.length->bindArgs (xX x qual (WL st) (Xq st) (Yt st) .none kV doc pm an cdv ct) ⟨us,[]⟩=pure (ps.zip us)):Binds K fd ps []:=by
 obtain⟨oc,od,kV,doc,pm,an,cdv,ct,osl,rfl,lk,hcd⟩:=F.ex;exact .all (h kV doc pm an cdv ct)
def qgt{x qual:Str}{st:vx}{f:vJ}{oc:vB}{od an:Option vJ}{osl:Array (Option vB)}{kV doc pm cdv ct:vB}(l:K.lookup f=some ⟨oc,od,.func (xX x qual (WL st) (Xq st) (Yt st) .none kV doc pm an cdv ct),osl⟩)(c:wj K cdv qual=true)(k:xQ K (.ref f)=true):Fun K x qual st f (xX x qual (WL st) (Xq st) (Yt st) .none kV doc pm an cdv ct):=⟨⟨oc,od,kV,doc,pm,an,cdv,ct,osl,rfl,l,c⟩,k⟩
end
def zBn{n:Nat}(h:n<=1000):n<sizeLine:=Zv h (by decide)
section
variable{X:Cx}
def pv(i:Nat){x:Str}{pos:Pos}(hN:X.N[i]?=some x:=by rfl)(hv:Vis X.env.scope x:=by first|exact Or.inl rfl|exact Or.inr (Or.inl rfl)|exact Or.inr (Or.inr rfl))(hd:(x==("__debug__" : Str))=false:=by decide)(hcd:(x==("__classdict__" : Str))=false:=by decide):PE X (.Name x pos) (Xg i):=qh5 hN hv hd hcd
end
def Y7(H H':Hp):Prop:=∀b o,H b=some o->H' b=some o
def Y7.refl(H:Hp):Y7 H H:=λ_ _ h=>h
def Y7.trans{H H1 H2:Hp}(a:Y7 H H1)(b:Y7 H1 H2):Y7 H H2:=λc o h=>b c o (a c o h)
def Y7.free{H H':Hp}(e:Y7 H H'){l:vJ}(h:H' l=Yl):H l=Yl:=by
 cases q:H l with
 | none=>rfl
 | some o=>
  rw[e l o q]at h;cases h
def Y7.seq{K:zA}{H H':Hp}{a:vJ}{xs:List V}(e:Y7 H H')(h:SqL K H a xs):SqL K H' a xs:=by
 rcases h with (h|⟨o,h⟩)|h
 ·exact .inl (.inl (e _ _ h))
 ·exact .inl (.inr ⟨o,e _ _ h⟩)
 ·exact .inr h
end L2
namespace Hk
open PySem
def zBI(xs:Array Nat):Prop:=xs.toList.Pairwise (· < ·)
def q4Q{l:List Nat}(h:l.Pairwise (· < ·)){i j:Nat}(hi:i<l.length)(hj:j<l.length)(hij:i<j):l[i]<l[j]:=y0.mp h i j hi hj hij
def qer{xs:Array Nat}{j:Nat}(h:zBI xs):∀(fuel lo hi:Nat),lo<=hi->hi<=xs.size->hi-lo<=fuel->(∀k(z:k<xs.toList.length),k<lo->xs.toList[k]<j)->(∀k(z:k<xs.toList.length),hi<=k->j<=xs.toList[k]) ->
  SetTable.below.go xs j fuel lo hi<=xs.size/\(∀k(z:k<xs.toList.length),k<SetTable.below.go xs j fuel lo hi->xs.toList[k]<j)/\(∀k(z:k<xs.toList.length),SetTable.below.go xs j fuel lo hi<=k->j<=xs.toList[k]):=by
 intro fuel
 induction fuel with
 | zero=>
  intro lo hi h1 h2 h3 h4 h5;have e:lo=hi:=∅
  subst e;exact⟨h2,h4,h5⟩
 | succ n ih=>
  intro lo hi h1 h2 h3 h4 h5;unfold SetTable.below.go
  by_cases hl:lo<hi
  ·rw[vC hl]
   have hm:(lo+hi)/2<xs.toList.length:=by rw[zQ];omega
   have hg:xs.getD ((lo+hi)/2) j=xs.toList[(lo+hi)/2]:=by
    rw[Array.getD_eq_getD_getElem?,<- zo,zD hm];rfl
   by_cases hc:xs.getD ((lo+hi)/2) j<j
   ·simp only[hc,if_true]
    refine ih _ _ ∅ h2 ∅ (λk z hk=>?_) h5
    by_cases e:k=(lo+hi)/2
    ·subst e;rw[hg]at hc;exact hc
    ·have:=q4Q h z hm ∅
     rw[hg]at hc;omega
   ·simp only[hc,if_false]
    refine ih _ _ ∅ ∅ ∅ h4 (λk z hk=>?_)
    by_cases e:k=(lo+hi)/2
    ·subst e;rw[hg]at hc;omega
    ·have:=q4Q h hm z ∅
     rw[hg]at hc;omega
  ·rw[vF hl]
   have e:lo=hi:=∅
   subst e;exact⟨h2,h4,h5⟩
def q97{xs:Array Nat}(h:zBI xs)(j:Nat):SetTable.below xs j<=xs.size/\(∀k(z:k<xs.toList.length),k<SetTable.below xs j->xs.toList[k]<j)/\(∀k(z:k<xs.toList.length),SetTable.below xs j<=k->j<=xs.toList[k]) :=
 qer h xs.size 0 xs.size (yE _) (zM _) ∅ (λk z hk=>vK hk (x8 _)) (λk z hk=>by rw[zQ]at z;omega)
def q40{α:Type}(xs:Array α)(p:Nat)(x:α):(SetTable.insertAt xs p x).toList=xs.toList.take p++x::xs.toList.drop p:=by
 unfold SetTable.insertAt;simp[xY,yZ]
def q9B{xs:Array Nat}(h:zBI xs){j:Nat}(hn:xs[SetTable.below xs j]?≠some j):zBI (SetTable.insertAt xs (SetTable.below xs j) j):=by
 obtain⟨h1,h2,h3⟩:=q97 h j;unfold zBI;rw[q40,zV];have lt:∀y∈xs.toList.drop (SetTable.below xs j),j<y:=by
  intro y hy;obtain⟨k,hk,e⟩:=yF.mp hy;rw[yX]at hk;rw[xZ]at e;have hb:SetTable.below xs j<xs.toList.length:=∅
  have hh:=h3 _ hb (zM _);have ne:xs.toList[SetTable.below xs j]≠j:=λz=>hn (by rw[<- zo,zD hb,z]);have hle:xs.toList[SetTable.below xs j]<=y:=by
   by_cases e0:k=0
   ·subst e0;rw[<- e];simp
   ·rw[<- e];exact yf (q4Q h hb ∅ ∅)
  omega
 refine⟨wQ (wu _ _) h,zZ.mpr ⟨lt,wQ (Z5 _ _) h⟩,λa ha b hb=>?_⟩;have haj:a<j:=by
  obtain⟨k,hk,e⟩:=yF.mp ha;rw[z0]at hk;rw[xI]at e;rw[<- e];exact h2 k ∅ ∅
 rcases zF.mp hb with rfl|hb
 ·exact haj
 ·exact Z6 haj (lt b hb)
structure Tb (t:SetTable) (n:Nat):Prop where
 fits:t.fits n=true
 rise:zBI t.place
 dum:t.dummies=#[]
def q9h{t:SetTable}(hd:t.dummies=#[])(j:Nat):t.slot j≠.dummy:=by
 unfold SetTable.slot;rw[hd]
 dsimp only
 split
 ·exact λz=>nomatch z
 ·have:SetTable.has #[] j=false:=by simp[SetTable.has]
  rw[this];exact λz=>nomatch z
def q9D{t:SetTable}(hd:t.dummies=#[]){h:Int}:∀(fuel:Nat)(p:SetTable.Probe)(m:SetTable.Met),p.dummy=none->SetTable.probe.go t (λ_=>h+1) h fuel p=some m->∃j,m=.empty j none/\t.slot j=.empty:=by
 intro fuel
 induction fuel with
 | zero=>intro p m _ e;cases e
 | succ n ih=>
  intro p m hp e;unfold SetTable.probe.go at e;cases hs:t.slot p.j with
  | empty=>
   rw[hs]at e;cases e;exact⟨p.j,by rw[hp],hs⟩
  | dummy=>exact vK hs (q9h hd _)
  | live i=>
   rw[hs]at e;have hne:(h+1==h)=false:=by simp only[beq_eq_false_iff_ne,ne_eq];omega
   dsimp only at e
   rw[hne]at e;refine ih _ m ?_ e;unfold SetTable.advance
   split
   ·exact hp
   ·exact hp
def q9E{t:SetTable}(hd:t.dummies=#[]){h:Int}{slot:Nat}{b:Bool}(e:t.freeSlot h=some (slot,b)):b=false/\t.place[SetTable.below t.place slot]?≠some slot:=by
 unfold SetTable.freeSlot at e;cases q:t.probe (λ_=>h+1) h (t.probeStart h)with
 | none=>rw[q]at e;cases e
 | some m=>
  rw[q]at e;obtain⟨j,rfl,hs⟩:=q9D hd _ _ m (by rfl) q;cases e;refine⟨rfl,λz=>?_⟩;unfold SetTable.slot at hs
  dsimp only at hs
  have:(t.place[SetTable.below t.place j]?==some j)=true:=by
   rw[show t.place[SetTable.below t.place j]?=some j from z];simp
  rw[vC this]at hs;cases hs
def qbu(n:Nat):zBI (Array.range n):=by
 unfold zBI;rw[Array.toList_range];exact ZI
def q2k(t:SetTable)(n:Nat):Tb (t.standIn n) n:=by
 refine⟨?_,qbu n,rfl⟩;unfold SetTable.fits SetTable.standIn SetTable.fill;simp;omega
def qhD{t:SetTable}{n:Nat}(h:zBI t.place)(hd:t.dummies=#[]):Tb (t.orStandIn n) n:=by
 unfold SetTable.orStandIn
 by_cases z:t.fits n=true
 ·rw[vC z];exact⟨z,h,hd⟩
 ·rw[vF z];exact q2k t n
def qgW(t:SetTable)(n:Nat):(t.orStandIn n).led=t.led:=by
 unfold SetTable.orStandIn
 split <;> rfl
def qci{t:SetTable}{es:Array (Int×vB)}{h:Int}{x:vB}(T:Tb t es.size):
  (layNew t es h x).2.2.1=false/\Tb (layNew t es h x).2.1 (layNew t es h x).1.size/\(layNew t es h x).2.1.led=t.led/\(layNew t es h x).1.toList.Perm ((h,x)::es.toList):=by
 unfold layNew;cases q:t.freeSlot h with
 | none=>
  refine⟨rfl,?_,rfl,?_⟩
  ·rw[Array.size_push];exact q2k t _
  ·rw[wv]
   exact List.perm_append_singleton _ _
 | some p=>
  obtain⟨slot,b⟩:=p;obtain⟨rfl,hn⟩:=q9E T.dum q;have hd:(t.put slot).1.dummies=#[]:=by
   unfold SetTable.put
   dsimp only
   rw[T.dum];simp[SetTable.has]
  refine⟨rfl,qhD (q9B T.rise hn) hd,(qgW _ _).trans rfl,?_⟩;rw[q40];refine yz YN ?_;rw[yS]
theorem q5r{α:Type}{f:α->Option α}(h:∀x y,f x=some y->y=x):∀l:List α,(l.filterMap f).Sublist l
 | []=>by simp
 | a::r=>by
  rw[xb];cases q:f a with
  | none=>exact(q5r h r).cons a
  | some b=>rw[h a b q];exact(q5r h r).cons_cons a
theorem q5F{α:Type}:∀l:List α,(zk l.length).filterMap (λi=>l[i]?)=l
 | []=>rfl
 | a::r=>by
  rw[zE,ZJ,xb];simp only[xJ];rw[Zu];have e:((λi=>(a::r)[i]?) ∘ Nat.succ)=λi=>r[i]?:=by funext i;simp
  rw[e,q5F r]
def qfW{mask finger moves:Nat}{led plain:Bool}{hs:Array Int}{t:SetTable}{o:Array Nat}(e:SetTable.laid mask finger moves led plain hs=some (t,o)):zBI t.place/\t.dummies=#[]/\t.led=led:=by
 unfold SetTable.laid at e;cases q:SetTable.layClean mask hs with
 | none=>rw[q]at e;cases e
 | some owner=>
  rw[q]at e;cases e;refine⟨?_,rfl,rfl⟩;unfold zBI
  dsimp only
  rw[List.map_filterMap];refine wQ (q5r (λx y z=>?_) _) ZI;cases q2:owner.getD x none with
  | none=>rw[q2]at z;cases z
  | some c=>rw[q2]at z;exact(zj z).symm
def qdY{t:SetTable}{es:Array (Int×vB)}(w:Nat):Tb (relayAll t es w).2.1 (relayAll t es w).1.size/\(relayAll t es w).2.1.led=t.led/\(relayAll t es w).1.toList.Perm es.toList:=by
 unfold relayAll;cases q:t.relaid (es.map (·.1)) w with
 | none=>exact⟨q2k t _,rfl,xR _⟩
 | some p=>
  obtain⟨t',order⟩:=p
  dsimp only
  obtain⟨h1,h2,h3⟩:=qfW q
  by_cases z:(coversAll order es.size&&t'.fits (order.filterMap (es[·]?)).size)=true
  ·rw[vC z]
   rw[zU]at z;refine⟨⟨z.2,h1,h2⟩,h3,?_⟩;have hp:order.toList.Perm (zk es.size):=List.isPerm_iff.mp z.1;rw[Array.toList_filterMap];have e:(λ(i:Nat)=>es[i]?)=λ(i:Nat)=>es.toList[i]?:=by funext i;simp
   rw[e];have q2:=hp.filterMap λi=>es.toList[i]?;rw[<- zQ,q5F]at q2;exact q2
  ·rw[vF z]
   exact⟨q2k t _,rfl,xR _⟩
end Hk
namespace Hk
open PySem PySem.Spec PyProof.Rows
def vI:vB->Int
 | .int i _=>i
 | _=>0
def zAK(e:Int×vB):Prop:=∃x t,e=(sS x,Value.int x t)
def qaF{prog:vQ}{w:vZ}{l:List (Int×vB)}(h:∀e∈l,zAK e):ElemsOf (uy prog w) l:=λe he=>by
 obtain⟨x,t,rfl⟩:=h e he;exact⟨⟨x,intKind_is _ _ _ _,rfl⟩,rfl⟩
def zAh(h:vn)(a:vJ)(led:Bool)(xs:List Int):Prop:=∃o es ep t,h.get? a=some o/\o.ExactSet/\o.data=.set es ep t/\Tb t es.size/\t.led=led/\es.size<ua /\
 (∀e∈es.toList,zAK e)/\es.toList.map (λe=>vI e.2)=xs/\xs.Nodup
def zAh.len{h:vn}{a:vJ}{led:Bool}{xs:List Int}(S:zAh h a led xs):xs.length<ua:=by
 obtain⟨o,es,ep,t,_,_,_,_,_,z,_,e,_⟩:=S;rw[<- e,zB,zQ];exact z
def zAh.at{h h':vn}{a:vJ}{led:Bool}{xs:List Int}(S:zAh h a led xs)(k:∀o,h.get? a=some o->h'.get? a=some o):zAh h' a led xs:=by
 obtain⟨o,es,ep,t,e,r⟩:=S;exact⟨o,es,ep,t,k o e,r⟩
def qaf{prog:vQ}{w:vZ}{e:Int×vB}(h:zAK e)(x:Int):(uy prog w).is x e.2=decide (vI e.2=x):=by
 obtain⟨y,t,rfl⟩:=h;show Value.isInt x (.int y t)=decide (y=x)
 by_cases z:y=x
 ·subst z;simp[Value.isInt]
 ·simp[Value.isInt,z]
def qdj{prog:vQ}{w:vZ}{l:List (Int×vB)}(h:∀e∈l,zAK e){x:Int}(q:l.findIdx? (λe=>(uy prog w).is x e.2)=none):x∉l.map (λe=>vI e.2):=λz=>by
 obtain⟨e,he,ex⟩:=yA.mp z;have:=List.findIdx?_eq_none_iff.mp q e he;rw[qaf (h e he),ex]at this;simp at this
def qcQ{prog:vQ}{w:vZ}{l:List (Int×vB)}(h:∀e∈l,zAK e){x:Int}{j:Nat}(q:l.findIdx? (λe=>(uy prog w).is x e.2)=some j):x∈l.map (λe=>vI e.2):=by
 obtain⟨hj,hp,_⟩:=List.findIdx?_eq_some_iff_getElem.mp q;rw[qaf (h _ (xB hj))]at hp;exact yA.mpr ⟨_,xB hj,of_decide_eq_true hp⟩
section
variable{prog:vQ}{w:vZ}{A:vb}{E:vB->vG->Prop}{s:vG}
def qae{h:vn}{a:vJ}{o:Obj}{es es':Array (Int×vB)}{ep:Nat}{t t':SetTable}{led:Bool}{xs:List Int}(go:h.get? a=some o)(gx:o.ExactSet)(gd:o.data=.set es ep t)(T:Tb t' es'.size)(gl:t'.led=led)(gb:es'.size<ua)(gg:∀e∈es'.toList,zAK e)(gv:es'.toList.map (λe=>vI e.2)=xs)(gn:xs.Nodup):
  (h.update a (Obj.putSet es' t')).get? a=some { o with data:=.set es' (ep+1) t' }/\zAh (h.update a (Obj.putSet es' t')) a led xs:=by
 have q:=xj (Obj.putSet es' t') go (by rw[putSet_of es' t' gd];rfl);rw[putSet_of es' t' gd]at q;exact⟨q,_,es',ep+1,t',q,gx,rfl,T,gl,gb,gg,gv,gn⟩
def qd1{g:Bool->Sem Unit}(gw:∀(b:Bool)(s1:vG)(Q':Unit->vG->Prop),Q' () s1->vN (model prog w) A (g b) Q' E s1){a:vJ}{o:Obj}{es es1:Array (Int×vB)}{ep:Nat}{t t2:SetTable}{led:Bool}{xs:List Int}(go:s.heap.get? a=some o)(gx:o.ExactSet)(gd:o.data=.set es ep t)(T:Tb t2 es1.size)(gl:t2.led=led)(gb:es1.size<ua)(gg:∀e∈es1.toList,zAK e)(gv:es1.toList.map (λe=>vI e.2)=xs)(gn:xs.Nodup){dm:Bool}{R:Option Bool->vG->Prop}(k:∀h' ys,xW a s.heap h'->zAh h' a led ys->ys.Perm xs->R (some true) { s with heap:=h' }):
  vN (model prog w) A (do
    storeSet a es1 t2
    if (!dm&&t2.tooFull)=true then do
      g (relayAll t2 es1 (SetTable.grown es1.size)).2.2
      storeSet a (relayAll t2 es1 (SetTable.grown es1.size)).1 (relayAll t2 es1 (SetTable.grown es1.size)).2.1
      pure (some true)
     else pure (some true)) R E s:=by
 refine vA (wpAny_storeSet_of go gd ?_ (fits_of_scanBound gb));obtain⟨g1,S1⟩:=qae go gx gd T gl gb gg gv gn;have sb:=Zd s.heap a (Obj.putSet es1 t2)
 split
 ·obtain⟨T2,l2,p2⟩:=qdY (t:=t2) (es:=es1) (SetTable.grown es1.size)
  generalize relayAll t2 es1 (SetTable.grown es1.size)=rl at T2 l2 p2 ⊢;obtain⟨es2,t3,gv2⟩:=rl
  dsimp only at T2 l2 p2 ⊢
  have hz:es2.size=es1.size:=by rw[<- zQ,p2.length_eq,zQ]
  have gb2:es2.size<ua:=by rw[hz];exact gb
  have pv:(es2.toList.map λe=>vI e.2).Perm xs:=by rw[<- gv];exact p2.map _
  refine vA (gw _ _ _ ?_);refine vA (wpAny_storeSet_of g1 rfl ?_ (fits_of_scanBound gb2));obtain⟨_,S2⟩:=qae g1 gx rfl T2 (l2.trans gl) gb2 (λe he=>gg e (p2.mem_iff.mp he)) rfl (pv.nodup_iff.mpr gn);exact vH (k _ _ (sb.trans (Zd _ a _)) S2 pv)
 ·exact vH (k _ _ sb S1 (xR _))
def qht{a:vJ}{led:Bool}{xs:List Int}{x:Int}{tk:Tok}{Q:Bool->vG->Prop}(S:zAh s.heap a led xs)(room:xs.length+1<ua)(k:∀b h' ys,xW a s.heap h'->zAh h' a led ys->(x∈xs->ys=xs)->(x∉xs->ys.Perm (x::xs))->Q b { s with heap:=h' }):
  vN (model prog w) A (setAddHashed a (.int x tk) (sS x)) Q E s:=by
 obtain⟨o,es,ep,t,go,gx,gd,T,gl,gb,gg,gv,gn⟩:=id S;have hl:es.size=xs.length:=by rw[<- gv,zB,zQ]
 have el:ElemsOf (uy prog w) es.toList:=qaF gg;unfold setAddHashed setAddHashedIn;refine vh (vA (vy go gd T.fits ?_))
 dsimp only
 rw[byScan_of (knd:=uy prog w) (x:=.int x tk) rfl gb el];simp only[↓reduceIte];unfold setAddByScan;refine vA (vA (uD (vA (wpAny_setScan_of (knd:=uy prog w) (k:=x) (intKind_is _ _ _ _) go gd T.fits el ?_))));cases q:List.findIdx? (λe=>(uy prog w).is x e.2) es.toList with
 | some j=>
  dsimp only
  have hx:x∈xs:=by rw[<- gv];exact qcQ gg q
  refine vH (vH ?_);exact k false s.heap xs (Z7 a s.heap) S (λ_=>rfl) λz=>vK hx z
 | none=>
  dsimp only
  have hx:x∉xs:=by rw[<- gv];exact qdj gg q
  obtain⟨d0,T1,l1,p1⟩:=qci (t:=t) (es:=es) (h:=sS x) (x:=.int x tk) T;generalize layNew t es (sS x) (.int x tk)=ly at d0 T1 l1 p1 ⊢;obtain⟨es1,t1,dm,gave⟩:=ly
  dsimp only at d0 T1 l1 p1 ⊢
  have gg1:∀e∈es1.toList,zAK e:=λe he=>by
   rcases zF.mp (p1.mem_iff.mp he)with rfl|he
   ·exact⟨x,tk,rfl⟩
   ·exact gg e he
  have pv:(es1.toList.map λe=>vI e.2).Perm (x::xs):=by rw[<- gv];exact p1.map _
  have gn1:(es1.toList.map λe=>vI e.2).Nodup:=pv.nodup_iff.mpr (xM.mpr ⟨hx,gn⟩);have gb1:es1.size<ua:=by
   have:=pv.length_eq;rw[zB,zQ,zE]at this;omega
  have gw:∀(b:Bool)(s1:vG)(Q':Unit->vG->Prop),Q' () s1->vN (model prog w) A (match b with|true=>rule "set.scan.the-table-gave-way" | false=>pure ()) Q' E s1 :=
   λb s1 Q' z=>by cases b <;> first|exact vH z|exact uD z
  refine vA (gw _ _ _ ?_);have fin:∀h' ys,xW a s.heap h'->zAh h' a led ys->ys.Perm (es1.toList.map λe=>vI e.2)->Q true { s with heap:=h' }:=λh' ys sb S' p=>k true h' ys sb S' (λz=>vK z hx) λ_=>p.trans pv
  split
  ·refine vA ?_
   rw[hashByValue_scannable 8 (x:=Value.int x tk) rfl];refine vH ?_;refine qd1 (λb s1 Q' z=>by cases b <;> first|exact vH z|exact uD z) go gx gd T1 (l1.trans gl) gb1 gg1 rfl gn1 λh' ys sb S' p=>?_;exact vH (fin h' ys sb S' p)
  ·refine vA (vH ?_)
   simp only[↓reduceIte];refine qd1 (λb s1 Q' z=>by cases b <;> first|exact vH z|exact uD z) go gx gd T1 (l1.trans gl) gb1 gg1 rfl gn1 λh' ys sb S' p=>?_;exact vH (fin h' ys sb S' p)
end
def zB6(h:vn)(S:vJ)(led:Bool)(val:Nat->Int)(m:Nat):Prop:=∃xs,zAh h S led xs/\xs.length<=m/\∀x,x∈xs↔∃i,i<m/\val i=x
theorem zB6.at{h h':vn}{a:vJ}{led:Bool}{val:Nat->Int}{m:Nat}(S:zB6 h a led val m)(k:∀o,h.get? a=some o->h'.get? a=some o):zB6 h' a led val m:=by
 obtain⟨xs,q,r⟩:=S;exact⟨xs,q.at k,r⟩
section
variable{prog:vQ}{w:vZ}{A:vb}{R:t9->vG->Prop}{I:vJ}{fp wr:List vJ}{G:Array sW->Array sW->Prop}{n:Nat}{P:Nat->vB->Prop}{St:Nat->vG->Prop}
def zCX(W:WalksS prog w A.in1 I fp wr G n P St)(S:vJ)(hS:S∉fp){led:Bool}(val:Nat->Int)(hv:∀i v,P i v->∃t,v=.int (val i) t)(hb:n+1<ua):
  ∀(k i:Nat)(s:vG),n-i=k->i<=n->St i s->zB6 s.heap S led val i->(∀s',Moved (S::wr) G s s'->zB6 s'.heap S led val n->R (.ok (.ret .none)) s') ->
   uh (model prog w) A (.builtin "set.update.loop" ⟨[.ref S,.ref I],[]⟩) R s:=by
 have hw:S∉wr:=λz=>hS (W.sub _ z);have hsub:∀b∈wr,b∈S::wr:=λb z=>zG _ z;intro k
 induction k with
 | zero=>
  intro i s hk hi st SV hR;have hin:i=n:=∅
  subst hin;refine uT PyProof.Rows.F.entry_set_update_loop ?_;rw[Around.under_plainId PyProof.Rows.F.plain_set_update_loop _];show vN _ A.in1 (uI (.ref I) >>= _) _ _ s;refine vA (W.done s _ _ st λs' hm=>?_);show vN _ A.in1 (ret Value.none) _ _ s';exact vH (hR s' (hm.mono hsub) (SV.at λo e=>hm.heap S o hw e))
 | succ k ih=>
  intro i s hk hi st SV hR;have hlt:i<n:=∅
  refine uT PyProof.Rows.F.entry_set_update_loop ?_;rw[Around.under_plainId PyProof.Rows.F.plain_set_update_loop _];show vN _ A.in1 (uI (.ref I) >>= _) _ _ s;refine vA (W.item i s _ _ hlt st λv s1 hP st1 hm=>?_);obtain⟨t,rfl⟩:=hv i v hP;obtain⟨xs,S1,hl,hx⟩:=SV.at (h':=s1.heap) λo e=>hm.heap S o hw e;show vN _ A.in1 (holding [Value.int (val i) t] (setAdd S (.int (val i) t)) >>= _) _ _ s1;refine vA (vh ?_);unfold setAdd;refine vh ?_;refine vA ((uy prog w).pyHash (k:=val i) (intKind_is _ _ _ _) ?_);refine qht (s:={ s1 with toks:=s1.toks+1 }) (x:=val i) S1 ∅ λb h' ys sb S2 y1 y2=>?_;have SV2:zB6 h' S led val (i+1):=by
   refine⟨ys,S2,?_,λx=>?_⟩
   ·by_cases z:val i∈xs
    ·rw[y1 z];omega
    ·rw[(y2 z).length_eq,zE];omega
   ·by_cases z:val i∈xs
    ·rw[y1 z,hx]
     refine⟨λ⟨j,h1,h2⟩=>⟨j,∅,h2⟩,λ⟨j,h1,h2⟩=>?_⟩
     by_cases e:j=i
     ·subst e;exact(hx x).mp (by rw[<- h2];exact z)
     ·exact⟨j,∅,h2⟩
    ·rw[(y2 z).mem_iff,zF,hx]
     refine⟨λh=>?_,λ⟨j,h1,h2⟩=>?_⟩
     ·rcases h with h|⟨j,h1,h2⟩
      ·exact⟨i,∅,h.symm⟩
      ·exact⟨j,∅,h2⟩
     ·by_cases e:j=i
      ·subst e;exact .inl h2.symm
      ·exact .inr ⟨j,∅,h2⟩
  refine vH ⟨uc PyProof.Rows.F.plain_set_update_loop _,ih (i+1) _ ∅ hlt (W.frame _ s1 _ _ st1 (xn _) λb z o e=>?_) SV2 λs2 hm2 S3=>?_⟩
  ·rw[sb.2 b (λy:b=S=>hS (by rw[<- y];exact z))];exact e
  ·refine hR s2 (Moved.trans W.gtrans ((hm.mono hsub).then_heap (xn _) λb o z e=>?_) hm2) S3
   rw[sb.2 b (λy:b=S=>z (by rw[y];exact zI))];exact e
end
abbrev Xw(w:vZ):Bool:=!w.params.followText "set-order"
section
variable{prog:vQ}{w:vZ}{A:vb}{E:vB->vG->Prop}{s:vG}
def qfT(a:vB){Q1:vB->vG->Prop}(h:Q1 (.ref s.heap.objs.size) { s with heap:=s.heap.push { cls:=.type "set", data:=.set #[] 0 (.fresh 0 0 (Xw w)) } }):
  uh (model prog w) A (.call (.builtin "set.__new__") ⟨[.type "set", a],[]⟩) (wants Q1 E) s:=by
 refine codeAny_of_tree ?_;show vN _ A.in1 (checkBuiltinCall "set.__new__" ⟨[.type "set", a],[]⟩ >>= λ_=>again (.builtin "set.__new__" ⟨[.type "set", a],[]⟩)) _ _ s;refine vA (sN (PySem.F.newCall_set_1 a) (vH ⟨uc PySem.F.plain_set_new _,uT PySem.F.entry_set_new ?_⟩));rw[Around.under_plainId PySem.F.plain_set_new _];unfold Builtin.«set.__new__» Builtin.Frozenset.newClass;have p1:=sub_set_self;obtain⟨hp,g,d,tk,os⟩:=s
 dsimp only
 wp_walk
 refine tN (vH ?_)
 dsimp only
 simp only[newObj];refine vA (wpAny_alloc (vH ?_));exact vH h
set_option maxHeartbeats 3200000 in
def q9n{l:vJ}{items:Array vB}{ns:List Int}{Q:vB->vG->Prop}(hh:A.handled=none)(il:s.heap.IsList l items)(ia:uH items.toList ns)(hb:items.size+1<ua)(k:∀(h':vn)(tk:Nat),zB6 h' s.heap.objs.size (Xw w) (λi=>ns.getD i 0) items.size->(∀b o,b<s.heap.objs.size->s.heap.get? b=some o->h'.get? b=some o)->Q (.ref s.heap.objs.size) { s with heap:=h',toks:=tk }):
  vN (model prog w) A (call (.type "set") [.ref l]) Q E s:=by
 obtain⟨c,tl,c1⟩:=PySem.F.called_set.mro;have c2:=PySem.F.called_set.made;have c3:=PySem.F.called_set.sub;refine wpAny_call (codeAny_of_tree ?_);show vN _ _ (callAny (.type "set") _) _ _ _;refine vH ⟨Code.quiet_builtin _ ⋯,uT PySem.F.entry_type_call ?_⟩;rw[Around.under_plain (weight_type_call_type "set" [.ref l] []) rfl];have c4:=PySem.F.called_set.notType;have c5:=PySem.F.called_set.canCreate;have c6:=PySem.F.typeCall_set_1 (.ref l)
 repeat (any_goals (first|assumption|wp_step))
 refine ui (qfT (.ref l) (E:=E) (Q1:=λobj s1=>obj=.ref s.heap.objs.size/\s1={ s with heap:=s.heap.push { cls:=.type "set", data:=.set #[] 0 (.fresh 0 0 (Xw w)) } }) ⟨rfl,rfl⟩) λr s1 hr=>?_;cases r with
 | error e=>exact hr
 | ok fl=>
  cases fl with
  | ret obj=>
   obtain⟨rfl,rfl⟩:=hr;have hS:(s.heap.push { cls:=.type "set", data:=.set #[] 0 (.fresh 0 0 (Xw w)) }).get? s.heap.objs.size=some { cls:=.type "set", data:=.set #[] 0 (.fresh 0 0 (Xw w)) }:=zS _ rfl;have hT:Shared.TypeIs { s with heap:=s.heap.push { cls:=.type "set", data:=.set #[] 0 (.fresh 0 0 (Xw w)) } } (.ref s.heap.objs.size) "set" := ⟨_,hS,rfl⟩;have c7:=PySem.F.called_set.init.lookup;have c8:=PySem.F.called_set.init.bind (.ref s.heap.objs.size)
   repeat (any_goals (first|assumption|wp_step))
   refine ui (codeAny_call_builtin (R:=wants (λr s2=>r=.none/\∃h' tk,s2={ s with heap:=h',toks:=tk }/\zB6 h' s.heap.objs.size (Xw w) (λi=>ns.getD i 0) items.size /\
     (∀b o,b<s.heap.objs.size->s.heap.get? b=some o->h'.get? b=some o)) E) PySem.F.called_set.init.plain PySem.F.entry_set_init (check_set_init_1 hT ?_)) λr2 s2 hr2=>?_
   ·obtain⟨ol,e1,e2,nl,e3⟩:=il
    obtain⟨ocls,odict,odata,oslots⟩:=ol;simp only at e2 e3;subst e2;subst e3;have e1':(s.heap.push { cls:=.type "set", data:=.set #[] 0 (.fresh 0 0 (Xw w)) }).get? l=some { cls:=.type "list", dict:=odict,data:=.seq items nl,slots:=oslots }:=zH _ e1;have d1:=PySem.F.sub_list_set;have d2:=PySem.F.sub_list_frozenset;have d3:(Value.type "list" == Value.type "dict")=false:=by decide
    have il1:(s.heap.push { cls:=.type "set", data:=.set #[] 0 (.fresh 0 0 (Xw w)) }).IsList l items:=⟨_,e1',rfl,nl,rfl⟩;unfold Builtin.«set.__init__» noKeywords Builtin.Frozenset.updateFrom;generalize hPI:t6=PI
    wp_walk
    subst hPI;refine ug il1 ?_;refine vA (wpAny_runValue ?_);have lS:l<s.heap.objs.size:=zO e1;have h3:A.in1.in1.in1.handled=none:=by simp[hh]
    have nI:l≠(s.heap.push { cls:=.type "set", data:=.set #[] 0 (.fresh 0 0 (Xw w)) }).objs.size:=by rw[yc];exact zi (yR lS)
    have nS:s.heap.objs.size∉[(s.heap.push { cls:=.type "set", data:=.set #[] 0 (.fresh 0 0 (Xw w)) }).objs.size,l]:=by
     rw[yc];simp only[zF,zb,zg,or_false,not_or];exact⟨zi (yY _),wI lS⟩
    have hv:∀(i:Nat)(v:vB),items[i]?=some v->∃t,v=.int ((λi=>ns.getD i 0) i) t:=λi v z=>IntsAre.int_at ia i v (by rw[zo];exact z);refine zCX ((Walks.list h3 _ l nI items).toS) s.heap.objs.size nS (led:=Xw w) (λi=>ns.getD i 0) hv hb (items.size-0) 0 _ ∅ (yE _) ⟨⟨_,zS _ rfl,rfl,rfl⟩,(il1.push _)⟩ ?S0 ?RR
    case S0=>
     refine⟨[],⟨_,#[],0,.fresh 0 0 (Xw w),zH _ hS,⟨rfl,rfl,rfl⟩,rfl,⟨rfl,xH,rfl⟩,rfl,by show 0<ua;decide,λe z=>by simp at z,rfl,ZY⟩,zM _,λx=>⟨λz=>(by cases z),λ⟨i,z,_⟩=>vK z (x8 _)⟩⟩
    case RR=>
     intro s' hm S';obtain⟨h',g',d',tk',os'⟩:=s';have eg:g'=s.gens:=hm.gens;have ed:d'=s.drawn:=hm.drawn;have eos:os'=s.os:=hm.os;subst eg;subst ed;subst eos;show vN _ _ _ _ _ _;refine vH ?_;show vN _ _ (ret Value.none) _ _ _;refine vH ⟨rfl,h',tk',rfl,S',λb o z y=>?_⟩;refine hm.heap b o ?_ (zH _ (zH _ y));simp only[zF,zb,zg,or_false,not_or];exact⟨zi z,by rw[yc];exact zi (yR z)⟩
   ·cases r2 with
    | error e=>exact hr2
    | ok fl2=>
     cases fl2 with
     | ret r=>
      obtain⟨rfl,h',tk,rfl,S',kp⟩:=hr2
      repeat (any_goals (first|assumption|wp_step))
      exact k _ _ S' kp
     | next=>exact hr2.elim
     | brk=>exact hr2.elim
     | cont=>exact hr2.elim
  | next=>exact hr.elim
  | brk=>exact hr.elim
  | cont=>exact hr.elim
end
end Hk
namespace PySem.F
def slotSetNext:Slot "set_iterator" "__next__" "set_iterator.__next__" := .of (owner := "set_iterator") (n := "__next__") (by rw[uU,uB];kernel_rfl) ⋯ ⋯ ⋯ (by first|exact .inl ⋯|exact .inr ⋯) (by rw[uk];kernel_rfl)
def slotSetIt:Slot "set_iterator" "__iter__" "set_iterator.__iter__" := .of (owner := "set_iterator") (n := "__iter__") (by rw[uU,uB];kernel_rfl) ⋯ ⋯ ⋯ (by first|exact .inl ⋯|exact .inr ⋯) (by rw[uk];kernel_rfl)
def zAy:Manifest.owners.lookup (String.ofList ['r','o','t','a','r','e','t','i','_','t','e','s'].reverse)=some Manifest.sig_set_iterator:=by kernel_rfl
def argsSetNext(a:vB):sf "set_iterator.__next__" ⟨[a],[]⟩:=by
 unfold sf;rw[signature?_of (id := "set_iterator.__next__") (n:=['_','_','t','x','e','n','_','_']) (o:=['r','o','t','a','r','e','t','i','_','t','e','s']) (by kernel_rfl) zAy]
 kernel_rfl
def argsSetIt(a:vB):sf "set_iterator.__iter__" ⟨[a],[]⟩:=by
 unfold sf;rw[signature?_of (id := "set_iterator.__iter__") (n:=['_','_','r','e','t','i','_','_']) (o:=['r','o','t','a','r','e','t','i','_','t','e','s']) (by kernel_rfl) zAy]
 kernel_rfl
def entSetNext:entryFor table "set_iterator.__next__" = some Builtin.«set_iterator.__next__»:=entryFor_of_tree (by kernel_rfl)
def entSetIter:entryFor table "set.__iter__" = some Builtin.«frozenset.__iter__»:=entryFor_alias (id' := "frozenset.__iter__") (by kernel_rfl) rfl ⋯ (by kernel_rfl)
def entSetIt:entryFor table "set_iterator.__iter__" = some Builtin.«dict_keyiterator.__iter__»:=entryFor_alias (id' := "dict_keyiterator.__iter__") (by kernel_rfl) rfl ⋯ (by kernel_rfl)
end PySem.F
namespace Hk
open PySem PySem.Spec PyProof.Rows
section
variable{prog:vQ}{w:vZ}{A:vb}{E:vB->vG->Prop}{s:vG}
theorem q3V{α:Type}:∀(l:List α)(k:Nat)(h:k<l.length),(l[k]::l.eraseIdx k).Perm l
 | a::r,0,_=>xR _
 | a::r,k+1,h=>by
  have h':k<r.length:=by simpa using h
  show (r[k]::a::r.eraseIdx k).Perm (a::r);exact(List.Perm.swap a r[k] _).trans ((q3V r k h').cons a)
theorem qag{α:Type}(next:Nat->Nat):∀(fuel k:Nat)(left:List α)(out:Array α),left.length=fuel->(pickOrder.go next fuel k left out).toList.Perm (out.toList++left)
 | 0,k,left,out,h=>by
  have e:left=[]:=ym h;subst e;unfold pickOrder.go;rw[zn]
 | fuel+1,k,left,out,h=>by
  unfold pickOrder.go;have hlt:next k%left.length<left.length:=Nat.mod_lt _ ∅
  rw[zD hlt]
  dsimp only
  refine(qag next fuel (k+1) _ _ (by rw[wk hlt,h];rfl)).trans ?_;rw[wv,zN];exact yL _ (q3V left _ hlt)
def qdy{α:Type}(next:Nat->Nat)(xs:Array α):(uo next xs).toList.Perm xs.toList:=by
 have:=qag next xs.size 0 xs.toList #[] (by simp)
 simpa [uo]using this
def qdn{M:Model}{src:Source}{n:Nat}{Q:Nat->vG->Prop}(hn:n≠0)(h:Q (M.w.draws src (s.drawn.get src)%n) { s with drawn:=s.drawn.bump src }):vN M A (choose src n) Q E s:=λ_ _ _=>⟨hn,h⟩
theorem q4g{M:Model}{α:Type}:∀(n:Nat)(xs:List α)(s:vG)(Q:List α->vG->Prop),xs.length=n->(∀ys d,ys.Perm xs->Q ys { s with drawn:=d })->vN M A (drawOrder n xs) Q E s
 | 0,xs,s,Q,hl,h=>by
  have e:xs=[]:=ym hl;subst e;exact vH (h [] s.drawn (xR _))
 | n+1,[],s,Q,hl,h=>by cases hl
 | n+1,x::r,s,Q,hl,h=>by
  unfold drawOrder;refine vA (qdn (by simp) ?_);generalize hk:M.w.draws Source.order (s.drawn.get Source.order)%(x::r).length=k;have hlt:k<(x::r).length:=by rw[<- hk];exact Nat.mod_lt _ (by simp)
  rw[zD hlt]
  dsimp only
  have hl2:((x::r).eraseIdx k).length=n:=by rw[wk hlt,hl];rfl
  refine vA (q4g n _ _ _ hl2 λys d p=>vH (h _ d ?_));refine yz (p.cons _) ?_;exact q3V _ k hlt
end
noncomputable abbrev WX(f:vB)(i:Nat)(a:vJ)(n ep:Nat):Obj:={ cls:=.type "set_iterator", data:=.fields #[f,.int i 0,.ref a,.int n 0,.int ep 0] }
section
variable{prog:vQ}{w:vZ}{A:vb}{E:vB->vG->Prop}{s:vG}
def q1N{a:vJ}{o:Obj}{es:Array (Int×vB)}{ep:Nat}{t:SetTable}{Q:Array (Int×vB)->vG->Prop}(go:s.heap.get? a=some o)(gd:o.data=.set es ep t)(gf:t.fits es.size=true)(h:Q es s):vN (model prog w) A (setEntries a) Q E s:=by
 unfold setEntries;exact vA (vy go gd gf (vH h))
def qc0{it a:vJ}{slot i n ep:Nat}{o:Obj}{es:Array (Int×vB)}{t:SetTable}{x:vB}{nxt:Nat}{Q:Option vB->vG->Prop}(e:s.heap.get? it=some (WX (.int slot 0) i a n ep))(go:s.heap.get? a=some o)(gd:o.data=.set es ep t)(gf:t.fits es.size=true)(hn:es.size=n)(hnext:∀A' Q' E',Q' (some (x,nxt)) s->vN (model prog w) A' (u5 a slot i ep) Q' E' s)(k:∀h',h'.get? it=some (WX (.int nxt 0) (i+1) a n ep)->xW it s.heap h'->Q (some x) { s with heap:=h' }):
  vN (model prog w) A (uI (.ref it)) Q E s:=by
 have hT:s.TypeIs (.ref it) "set_iterator" := ⟨_,e,rfl⟩;unfold uI;refine vA (uJ (wpAny_callSpecial?_slot (name:=Str.ofString "__next__") hT F.slotSetNext (ve F.slotSetNext hT F.entSetNext ?_ (F.argsSetNext _))));unfold Builtin.«set_iterator.__next__»;refine vA (m:=sF "__next__" 0 ⟨[.ref it],[]⟩) (vH ?_);refine vA (u7 e rfl ?_)
 dsimp only
 refine vA (q1N go gd gf ?_);rw[vF (by rw[hn];simp)];simp only[yO];refine vA (hnext _ _ _ ?_)
 dsimp only
 refine vA (vg e (by simp) λh1 e1 sb1=>?_);refine vA (vg (s:={ s with heap:=h1 }) e1 (by simp) λh2 e2 sb2=>?_);refine vH ⟨_,rfl,vH (k h2 ?_ (sb1.trans sb2))⟩;rw[e2];simp[v8]
def qda{it a:vJ}{slot i n ep:Nat}{o:Obj}{es:Array (Int×vB)}{t:SetTable}{Q:Option vB->vG->Prop}(hh:A.handled=none)(e:s.heap.get? it=some (WX (.int slot 0) i a n ep))(go:s.heap.get? a=some o)(gd:o.data=.set es ep t)(gf:t.fits es.size=true)(hn:es.size=n)(hnext:∀A' Q' E',Q' none s->vN (model prog w) A' (u5 a slot i ep) Q' E' s)(k:∀h',Heap.ExtBut it s.heap h'->Q none { s with heap:=h' }):
  vN (model prog w) A (uI (.ref it)) Q E s:=by
 have hT:s.TypeIs (.ref it) "set_iterator" := ⟨_,e,rfl⟩;unfold uI;refine vA (uJ (wpAny_callSpecial?_slot (name:=Str.ofString "__next__") hT F.slotSetNext (ve F.slotSetNext hT F.entSetNext ?_ (F.argsSetNext _))));unfold Builtin.«set_iterator.__next__»;refine vA (m:=sF "__next__" 0 ⟨[.ref it],[]⟩) (vH ?_);refine vA (u7 e rfl ?_)
 dsimp only
 refine vA (q1N go gd gf ?_);rw[vF (by rw[hn];simp)];simp only[yO];refine vA (hnext _ _ _ ?_)
 dsimp only
 refine vA (vg e (by simp) λh1 e1 sb1=>?_);show vN _ _ (newExc (.type "StopIteration") [] >>= λx=>si x) _ _ _;refine vA ?_;simp only[newExc,newTuple];refine vA (vi ?_ (by size_fits));refine vA (m:=u8 _ _) (sN (a:=Value.none) (by first|rfl|(simp only[u8];rfl)) ?_);refine vi ?_ (by size_fits);simp only[si];refine vA (wpAny_handled ?_);rw[show A.in1.handled=none from hh];refine vA (vH (wpAny_throw ?_));refine vA (uE (T := "StopIteration") (b:=true) ⟨_,zS _ rfl,rfl⟩ uY ?_);exact vH (k _ ((sb1.extBut.push _).push _))
end
section
variable{prog:vQ}{w:vZ}{A:vb}{E:vB->vG->Prop}{s:vG}
def q2V{Q:Bool->vG->Prop}(h:Q (w.params.followText "set-order") s):vN (model prog w) A setsByText Q E s:=by
 unfold setsByText;exact vA (tN (vH h))
def q5A{a:vJ}{o:Obj}{es:Array (Int×vB)}{ep:Nat}{t:SetTable}{slot i:Nat}{r:Option (vB×Nat)}{Q:Option (vB×Nat)->vG->Prop}(go:s.heap.get? a=some o)(gd:o.data=.set es ep t)(gf:t.fits es.size=true)(hB:w.params.followText "set-order" = false)(hl:t.led=true)(hd:(!t.plain&&decide (es.size>1))=false)(hr:(match es[SetTable.below t.place slot]?,t.place[SetTable.below t.place slot]? with|some (_,x),some j=>some (x,j+1)|_,_=>none)=r)(h:Q r s):vN (model prog w) A (u5 a slot i ep) Q E s:=by
 unfold u5;refine vA (vy go gd gf ?_)
 dsimp only
 refine vA (q2V ?_);rw[hB];refine vc (λz=>vK z (by decide)) (λ_=>?_);refine vc (λz=>vK ((show (!t.plain&&decide (es.size>1))=true from z).symm.trans hd) (by decide)) (λ_=>?_);refine vA ?_;refine vc (λz=>?_) (λ_=>?_)
 ·have z':(!t.led && !es.isEmpty)=true:=z
  rw[hl]at z';exact vK z' (by simp)
 ·refine vH ?_
  refine vH ?_;rw[<- hr]at h;exact h
def qds{a:vJ}{o:Obj}{es:Array (Int×vB)}{ep:Nat}{t:SetTable}{Q:Array (Int×vB)->vG->Prop}(go:s.heap.get? a=some o)(gd:o.data=.set es ep t)(gf:t.fits es.size=true)(hB:w.params.followText "set-order" = true)(h:Q (uo (w.params.setOrder a ep) es) s):vN (model prog w) A (setWalk a) Q E s:=by
 unfold setWalk;refine vA (vy go gd gf ?_)
 dsimp only
 refine vA (q2V ?_);rw[hB];refine vc (λ_=>?_) (λz=>vK rfl z);exact vA (tN (vH h))
def q7a{a:vJ}{o:Obj}{es:Array (Int×vB)}{ep:Nat}{t:SetTable}{slot i:Nat}{Q:Option (vB×Nat)->vG->Prop}(go:s.heap.get? a=some o)(gd:o.data=.set es ep t)(gf:t.fits es.size=true)(hB:w.params.followText "set-order" = true)(h:Q (((uo (w.params.setOrder a ep) es)[i]?).map λe=>(e.2,slot)) s):vN (model prog w) A (u5 a slot i ep) Q E s:=by
 unfold u5;refine vA (vy go gd gf ?_)
 dsimp only
 refine vA (q2V ?_);rw[hB];refine vc (λ_=>?_) (λz=>vK rfl z);refine vc (λz=>vK z (by simp)) (λ_=>?_);exact vA (qds go gd gf hB (vH h))
def qa6{it:vJ}{f:vB}{i:Nat}{a:vJ}{n ep:Nat}{Q:vB->vG->Prop}(e:s.heap.get? it=some (WX f i a n ep))(h:Q (.ref it) s):vN (model prog w) A (t6 (.ref it)) Q E s:=by
 have hT:s.TypeIs (.ref it) "set_iterator" := ⟨_,e,rfl⟩;refine tF hT F.slotSetIt (ve F.slotSetIt hT F.entSetIt ?_ (F.argsSetIt _));show vN _ _ (ret (.ref it)) _ _ s;exact vH ⟨_,rfl, "set_iterator", _,hT,F.slotSetNext.lookup,h⟩
def qaN(hh:A.handled=none){I a:vJ}(hne:a≠I){o:Obj}{es:Array (Int×vB)}{ep:Nat}{t:SetTable}(gd:o.data=.set es ep t)(gf:t.fits es.size=true)(slot:Nat->Nat)(val:Nat->vB)(hn:∀(i:Nat)(s:vG),i<es.size->s.heap.get? a=some o->∀A' Q' E',Q' (some (val i,slot (i+1))) s->vN (model prog w) A' (u5 a (slot i) i ep) Q' E' s)(hz:∀(s:vG),s.heap.get? a=some o->∀A' Q' E',Q' none s->vN (model prog w) A' (u5 a (slot es.size) es.size ep) Q' E' s):
  Walks prog w A I [I,a] [I] es.size (λi v=>v=val i) (λi h=>h.get? I=some (WX (.int (slot i) 0) i a es.size ep)/\h.get? a=some o) where
 sub:=λb hb=>by simp at hb;simp[hb]
 frame:=λ_ _ _ st hk=>⟨hk I (by simp) _ st.1,hk a (by simp) _ st.2⟩
 item:=λi s Q E hi st hQ=>by
  refine qc0 st.1 st.2 gd gf rfl (hn i s hi st.2) λh' e' sb=>?_;exact hQ _ h' s.toks rfl ⟨e',sb.extBut a o hne st.2⟩ λb u hb e=>sb.extBut b u (λz=>hb (by simp[z])) e
 done:=λs Q E st hQ=>qda hh st.1 st.2 gd gf rfl (hz s st.2) λh' eb=>hQ h' s.toks λb u hb e=>eb b u (λz=>hb (by simp[z])) e
 self:=λ_ _ _ _ st hQ=>qa6 st.1 hQ
def qaT{it a tp:vJ}{i n ep p:Nat}{o:Obj}{es:Array (Int×vB)}{t:SetTable}{x:Int×vB}{ps:Array vB}{ot:Obj}{nt:Nat}{Q:Option vB->vG->Prop}(e:s.heap.get? it=some (WX (.ref tp) i a n ep))(go:s.heap.get? a=some o)(gd:o.data=.set es ep t)(gf:t.fits es.size=true)(hn:es.size=n)(gt:s.heap.get? tp=some ot)(gtd:ot.data=.seq ps nt)(hp:ps[i]?=some (.int p 0))(hx:es[p]?=some x)(k:∀h',h'.get? it=some (WX (.ref tp) (i+1) a n ep)->xW it s.heap h'->Q (some x.2) { s with heap:=h' }):
  vN (model prog w) A (uI (.ref it)) Q E s:=by
 have hT:s.TypeIs (.ref it) "set_iterator" := ⟨_,e,rfl⟩;unfold uI;refine vA (uJ (wpAny_callSpecial?_slot (name:=Str.ofString "__next__") hT F.slotSetNext (ve F.slotSetNext hT F.entSetNext ?_ (F.argsSetNext _))));unfold Builtin.«set_iterator.__next__»;refine vA (m:=sF "__next__" 0 ⟨[.ref it],[]⟩) (vH ?_);refine vA (u7 e rfl ?_)
 dsimp only
 refine vA (q1N go gd gf ?_);rw[vF (by rw[hn];simp)];refine vA (v6 gt gtd ?_)
 dsimp only
 simp only[yO];rw[hp]
 dsimp only
 unfold setNextDrawn;refine vA (vA (vy go gd gf ?_))
 dsimp only
 refine vc (λz=>vK z (by simp)) (λ_=>?_);simp only[yO];rw[hx];refine vH ?_;refine vA (vg e (by simp) λh1 e1 sb1=>?_);refine vH ⟨_,rfl,vH (k h1 ?_ sb1)⟩;rw[e1];simp[v8]
def qbV{it a tp:vJ}{i n ep:Nat}{o:Obj}{es:Array (Int×vB)}{t:SetTable}{ps:Array vB}{ot:Obj}{nt:Nat}{Q:Option vB->vG->Prop}(hh:A.handled=none)(e:s.heap.get? it=some (WX (.ref tp) i a n ep))(go:s.heap.get? a=some o)(gd:o.data=.set es ep t)(gf:t.fits es.size=true)(hn:es.size=n)(gt:s.heap.get? tp=some ot)(gtd:ot.data=.seq ps nt)(hp:ps[i]?=none)(k:∀h',Heap.ExtBut it s.heap h'->Q none { s with heap:=h' }):
  vN (model prog w) A (uI (.ref it)) Q E s:=by
 have hT:s.TypeIs (.ref it) "set_iterator" := ⟨_,e,rfl⟩;unfold uI;refine vA (uJ (wpAny_callSpecial?_slot (name:=Str.ofString "__next__") hT F.slotSetNext (ve F.slotSetNext hT F.entSetNext ?_ (F.argsSetNext _))));unfold Builtin.«set_iterator.__next__»;refine vA (m:=sF "__next__" 0 ⟨[.ref it],[]⟩) (vH ?_);refine vA (u7 e rfl ?_)
 dsimp only
 refine vA (q1N go gd gf ?_);rw[vF (by rw[hn];simp)];refine vA (v6 gt gtd ?_)
 dsimp only
 simp only[yO];rw[hp]
 dsimp only
 refine vA (vg e (by simp) λh1 e1 sb1=>?_);refine vA (vg (s:={ s with heap:=h1 }) e1 (by simp) λh2 e2 sb2=>?_);show vN _ _ (newExc (.type "StopIteration") [] >>= λx=>si x) _ _ _;refine vA ?_;simp only[newExc,newTuple];refine vA (vi ?_ (by size_fits));refine vA (m:=u8 _ _) (sN (a:=Value.none) (by first|rfl|(simp only[u8];rfl)) ?_);refine vi ?_ (by size_fits);simp only[si];refine vA (wpAny_handled ?_);rw[show A.in1.handled=none from hh];refine vA (vH (wpAny_throw ?_));refine vA (uE (T := "StopIteration") (b:=true) ⟨_,zS _ rfl,rfl⟩ uY ?_);exact vH (k _ (((sb1.trans sb2).extBut.push _).push _))
def q9F(hh:A.handled=none){I a tp:vJ}(hne:a≠I)(htp:tp≠I){o:Obj}{es:Array (Int×vB)}{ep:Nat}{t:SetTable}(gd:o.data=.set es ep t)(gf:t.fits es.size=true){ot:Obj}{nt:Nat}(ord:List Nat)(hp:ord.Perm (zk es.size))(gtd:ot.data=.seq (ord.map λ(i:Nat)=>v8 i).toArray nt):
  Walks prog w A I [I,a,tp] [I] es.size (λi v=>∃p x,ord[i]?=some p/\es[p]?=some x/\v=x.2) (λi h=>h.get? I=some (WX (.ref tp) i a es.size ep)/\h.get? a=some o/\h.get? tp=some ot) where
 sub:=λb hb=>by simp at hb;simp[hb]
 frame:=λ_ _ _ st hk=>⟨hk I (by simp) _ st.1,hk a (by simp) _ st.2.1,hk tp (by simp) _ st.2.2⟩
 item:=λi s Q E hi st hQ=>by
  have hl:ord.length=es.size:=by rw[hp.length_eq,zz]
  have ho:ord[i]?=some (ord[i]'∅):=zD _;have hlt:ord[i]'∅<es.size:=xE.mp (hp.mem_iff.mp (xB _));refine qaT (p:=ord[i]'∅) (x:=es[ord[i]'∅]) st.1 st.2.1 gd gf rfl st.2.2 gtd (by simp[v8,ho]) (by simp[hlt]) λh' e' sb=>?_;exact hQ _ h' s.toks ⟨_,_,ho,by simp[hlt],rfl⟩ ⟨e',sb.extBut a o hne st.2.1,sb.extBut tp ot htp st.2.2⟩ λb u hb e=>sb.extBut b u (λz=>hb (by simp[z])) e
 done:=λs Q E st hQ=>qbV hh st.1 st.2.1 gd gf rfl st.2.2 gtd (by simp[hp.length_eq]) λh' eb=>hQ h' s.toks λb u hb e=>eb b u (λz=>hb (by simp[z])) e
 self:=λ_ _ _ _ st hQ=>qa6 st.1 hQ
end
end Hk
namespace PySem.F
def slotSetLen:tS (.type "set") "__len__" = pure (some (.builtin "set.__len__")):=by rw[uU,uB];kernel_rfl
def slotSetIter:Slot "set" "__iter__" "set.__iter__" := .of (owner := "set") (n := "__iter__") (by rw[uU,uB];kernel_rfl) ⋯ ⋯ ⋯ (by first|exact .inl ⋯|exact .inr ⋯) (by rw[uk];kernel_rfl)
def argsSetIter(a:vB):sf "set.__iter__" ⟨[a],[]⟩:=by
 unfold sf;kernel_rfl
end PySem.F
namespace Hk
open PySem PySem.Spec PyProof.Rows
def slotAt(xs:Array Nat):Nat->Nat
 | 0=>0
 | i+1=>xs.toList.getD i 0+1
def q5w{xs:Array Nat}(h:zBI xs):∀i,i<=xs.size->SetTable.below xs (slotAt xs i)=i:=by
 intro i hi;obtain⟨h1,h2,h3⟩:=q97 h (slotAt xs i);have hz:xs.toList.length=xs.size:=zQ;cases i with
 | zero=>
  rcases Nat.eq_zero_or_pos (SetTable.below xs (slotAt xs 0))with z|z
  ·exact z
  ·exact vK (h2 0 ∅ z) (x8 _)
 | succ i=>
  have hlt:i<xs.toList.length:=∅
  have e:slotAt xs (i+1)=xs.toList[i]+1:=by
   show xs.toList.getD i 0+1=_;rw[zK,zD hlt];rfl
  rw[e]at h2 h3 h1 ⊢;generalize SetTable.below xs (xs.toList[i]+1)=b at h1 h2 h3 ⊢;have a1:i<b:=by
   rcases yB i b with z|z
   ·exact z
   ·have:=h3 i hlt z;omega
  have a2:b<=i+1:=by
   rcases yB (i+1) b with z|z
   ·have y:=h2 (i+1) ∅ z
    have y':=q4Q h hlt (show i+1<xs.toList.length by omega) (yY i);omega
   ·exact z
  omega
def qcz{val:Nat->vB}{n:Nat}{acc:Array vB}(h:ItemsOf (λi v=>v=val i) acc n):acc.toList=(zk n).map val:=by
 apply xK;intro i;rw[zo,zX];rcases yB i n with z|z
 ·rw[xN z]
  have hz:i<acc.size:=by rw[h.1];exact z
  have:acc[i]?=some acc[i]:=yG hz;rw[this,h.2 i _ this];rfl
 ·rw[zd (by rw[zz];exact z),yx (by rw[h.1];exact z)];rfl
theorem q7g:∀{l:List (Int×vB)},(∀e∈l,zAK e)->uH (l.map (·.2)) (l.map λe=>vI e.2)
 | [],_=>.nil
 | e::r,h=>by
  obtain⟨x,t,rfl⟩:=h e zI;exact .cons _ _ (q7g λe he=>h e (zG _ he))
section
variable{prog:vQ}{w:vZ}{A:vb}{E:vB->vG->Prop}{s:vG}
def qep{r:vJ}{Q:Bool->vG->Prop}(hT:s.TypeIs (.ref r) "set")(h:Q false s):vN (model prog w) A (Builtin.List.listLengthHint (.ref r)) Q E s:=by
 unfold Builtin.List.listLengthHint;refine vA (uw hT F.slotSetLen ?_);generalize hid:("set.__len__" : String)=id0
 wp_delta
 rw[show splitId id0=some ("set", "__len__")from by subst hid;decide +kernel];subst hid;refine vA (uE (T := "set") (b:=true) hT (by rw[uk];kernel_rfl) ?_);refine vc (λhab=>vK hab (by decide)) (λ_=>?_);refine vc (λ_=>?_) (λhab=>vK ⋯ hab);refine vA (uj hT ?_);exact vH h
def qei{a:vJ}{xs:List Int}{Q:vB->vG->Prop}(S:zAh s.heap a (Xw w) xs)(k:∀(h':vn)(d:Drawn)(I:vJ)(fp:List vJ)(P:Nat->vB->Prop)(St:Nat->vn->Prop),(∀b o,s.heap.get? b=some o->h'.get? b=some o)->s.heap.objs.size<=I->(∀b∈fp,b=a\/s.heap.objs.size<=b) ->
   (∀A:vb,A.handled=none->Walks prog w A I fp [I] xs.length P St)->St 0 h'->(∀acc:Array vB,ItemsOf P acc xs.length->∃ys,uH acc.toList ys/\ys.Perm xs)->(∀b∈fp,b<h'.objs.size)->Q (.ref I) { s with heap:=h',drawn:=d }) :
  vN (model prog w) A (t6 (.ref a)) Q E s:=by
 obtain⟨o,es,ep,t,go,gx,gd,T,gl,gb,gg,gv,gn⟩:=id S;have hl:es.size=xs.length:=by rw[<- gv,zB,zQ]
 have hlt:a<s.heap.objs.size:=zO go;have hps:t.place.size=es.size:=by
  have:=T.fits;unfold SetTable.fits at this;simp only[zU,beq_iff_eq]at this;exact this.1
 have hT:s.TypeIs (.ref a) "set" := ⟨o,go,gx.1⟩;refine tF hT F.slotSetIter (ve F.slotSetIter hT F.entSetIter ?_ (F.argsSetIter _));unfold Builtin.«frozenset.__iter__» Builtin.Frozenset.slot0 Builtin.Frozenset.sizeOf;refine vA ?_;refine vA (m:=sF "__iter__" 0 ⟨[.ref a],[]⟩) (vH ?_);show vN _ _ (pure a) _ _ s;refine vH ?_;refine vA (vA (q1N go gd T.fits (vH ?_)));refine vA ?_;unfold setDrawn;refine vA (vy go gd T.fits ?_)
 dsimp only
 refine vA (q2V (vH ?_));have perm_ok:∀(l:List (Int×vB)),l.Perm es.toList->∃ys,uH (l.map (·.2)) ys/\ys.Perm xs:=λl p=>
  ⟨_,q7g λe he=>gg e (p.mem_iff.mp he),by rw[<- gv];exact p.map _⟩
 have slots:∀(slot:Nat->Nat)(l:List (Int×vB)),slot 0=0->l.Perm es.toList ->
   (∀(i:Nat)(s:vG),i<es.size->s.heap.get? a=some o->∀A' Q' E',Q' (some ((l.map (·.2)).getD i .none,slot (i+1))) s->vN (model prog w) A' (u5 a (slot i) i ep) Q' E' s) ->
   (∀(s:vG),s.heap.get? a=some o->∀A' Q' E',Q' none s->vN (model prog w) A' (u5 a (slot es.size) es.size ep) Q' E' s) ->
   Q (.ref s.heap.objs.size) { s with heap:=s.heap.push (WX (.int (slot 0:Nat) 0) 0 a es.size ep) }:=λslot l h0 p hn hz=>by
  have:=k (s.heap.push (WX (.int (slot 0:Nat) 0) 0 a es.size ep)) s.drawn s.heap.objs.size [s.heap.objs.size,a] (λi v=>v=(l.map (·.2)).getD i .none) (λi h=>h.get? s.heap.objs.size=some (WX (.int (slot i) 0) i a es.size ep)/\h.get? a=some o)
   (λb u e=>zH _ e) (zM _) (λb hb=>by
    simp only[zF,zg,or_false]at hb;rcases hb with rfl|rfl
    ·exact .inr (zM _)
    ·exact .inl rfl) (λA hh=>by rw[<- hl];exact qaN hh (zi hlt) gd T.fits slot _ hn hz) ⟨zS _ rfl,zH _ go⟩ (λacc hacc=>by
    rw[qcz hacc];obtain⟨ys,y1,y2⟩:=perm_ok l p;have e:(zk xs.length).map (λi=>(l.map (·.2)).getD i .none)=l.map (·.2):=by
     apply xK;intro i;have hll:l.length=xs.length:=by rw[p.length_eq,zQ,hl]
     rw[zX];rcases yB i xs.length with z|z
     ·rw[xN z]
      show some ((l.map (·.2)).getD i .none)=_;rw[zK,zD (by rw[zB,hll];exact z)];rfl
     ·rw[zd (by rw[zz];exact z),zd (by rw[zB,hll];exact z)];rfl
    rw[e];exact⟨ys,y1,y2⟩) (λb hb=>by
    rw[yc];simp only[zF,zg,or_false]at hb;rcases hb with rfl|rfl
    ·exact yY _
    ·exact yR hlt)
  exact this
 have getD_at:∀(l:List (Int×vB))(i:Nat)(e:Int×vB),l[i]?=some e->(l.map (·.2)).getD i .none=e.2:=λl i e h=>by
  rw[zK,zX,h];rfl
 cases hB:w.params.followText "set-order" with
 | true=>
  refine vA (vH ?_);refine vA ?_;unfold setEpoch;refine vA (vy go gd T.fits (vH ?_));refine vA (vi (vH ⟨_,rfl, "set_iterator", _,⟨_,zS _ rfl,rfl⟩,F.slotSetNext.lookup,?_⟩));have pp:=qdy (w.params.setOrder a ep) es;have hpl:(uo (w.params.setOrder a ep) es).size=es.size:=by rw[<- zQ,pp.length_eq,zQ]
  refine slots (λ_=>0) _ rfl pp (λi s hi go' A' Q' E' q=>?_) λs go' A' Q' E' q=>?_
  ·refine q7a go' gd T.fits hB ?_
   have hz:i<(uo (w.params.setOrder a ep) es).size:=by rw[hpl];exact hi
   rw[yG hz];have:=getD_at (uo (w.params.setOrder a ep) es).toList i (uo (w.params.setOrder a ep) es)[i] (by rw[zo,yG hz]);rw[this]at q;exact q
  ·refine q7a go' gd T.fits hB ?_
   rw[yx (by rw[hpl];exact zM _)];exact q
 | false=>
  have led:t.led=true:=by rw[gl];unfold Xw;rw[hB];rfl
  cases hD:(!t.plain&&decide (es.size>1))with
  | false=>
   refine vc (λz=>vK ((show (!false&&(!t.plain&&decide (es.size>1)))=true from z)) (by rw[hD];decide)) (λ_=>?_);refine vA (vH ?_);refine vA ?_;unfold setEpoch;refine vA (vy go gd T.fits (vH ?_));refine vA (vi (vH ⟨_,rfl, "set_iterator", _,⟨_,zS _ rfl,rfl⟩,F.slotSetNext.lookup,?_⟩));refine slots (slotAt t.place) es.toList rfl (xR _) (λi s hi go' A' Q' E' q=>?_) λs go' A' Q' E' q=>?_
   ·refine q5A go' gd T.fits hB led hD rfl ?_
    rw[q5w T.rise i ∅,yG hi,yG (show i<t.place.size by omega)];have:=getD_at es.toList i es[i] (by rw[zo,yG hi]);rw[this]at q;have e2:slotAt t.place (i+1)=t.place[i]'∅+1:=by
     show t.place.toList.getD i 0+1=_;rw[zK,zo,yG (show i<t.place.size by omega)];rfl
    rw[e2]at q;exact q
   ·refine q5A go' gd T.fits hB led hD rfl ?_
    rw[q5w T.rise es.size ∅,yx (zM _)];exact q
  | true=>
   refine vc (λ_=>?_) (λz=>vK (show (!false&&(!t.plain&&decide (es.size>1)))=true by rw[hD];rfl) z);refine vA (q4g es.size (zk es.size) _ _ zz λord d po=>?_);have hol:ord.length=es.size:=by rw[po.length_eq,zz]
   refine vA (u9 ?_ (by rw[zB,hol];exact yJ (yf gb) (by decide)));refine vA ?_;unfold setEpoch;have go2:(s.heap.push { cls:=.type "tuple", data:=.seq (ord.map λ(i:Nat)=>v8 i).toArray }).get? a=some o:=zH _ go;refine vA (vy go2 gd T.fits (vH ?_));refine vA (vi (vH ⟨_,rfl, "set_iterator", _,⟨_,zS _ rfl,rfl⟩,F.slotSetNext.lookup,?_⟩));have hs1:(s.heap.push { cls:=.type "tuple", data:=.seq (ord.map λ(i:Nat)=>v8 i).toArray }).objs.size=s.heap.objs.size+1:=yc _ _;have ht1:(s.heap.push { cls:=.type "tuple", data:=.seq (ord.map λ(i:Nat)=>v8 i).toArray }).get? s.heap.objs.size=some { cls:=.type "tuple", data:=.seq (ord.map λ(i:Nat)=>v8 i).toArray }:=zS _ rfl;refine k _ d _ [(s.heap.push { cls:=.type "tuple", data:=.seq (ord.map λ(i:Nat)=>v8 i).toArray }).objs.size,a,s.heap.objs.size] (λi v=>∃p x,ord[i]?=some p/\es[p]?=some x/\v=x.2)
    (λi h=>h.get? (s.heap.push { cls:=.type "tuple", data:=.seq (ord.map λ(i:Nat)=>v8 i).toArray }).objs.size=some (WX (.ref s.heap.objs.size) i a es.size ep)/\h.get? a=some o/\h.get? s.heap.objs.size=some { cls:=.type "tuple", data:=.seq (ord.map λ(i:Nat)=>v8 i).toArray }) (λb u e=>zH _ (zH _ e)) (by rw[hs1];exact xn _) (λb hb=>?_) (λA hh=>by
    rw[<- hl];exact q9F (tp:=s.heap.objs.size) hh (by rw[hs1];exact zi (yR hlt)) (by rw[hs1];exact zi (yY _)) gd T.fits ord po rfl)
    ⟨zS _ rfl,zH _ go2,zH _ ht1⟩ (λacc hacc=>?_) (λb hb=>?_)
   ·simp only[zF,zg,or_false]at hb
    rcases hb with rfl|rfl|rfl
    ·exact .inr (by rw[hs1];exact xn _)
    ·exact .inl rfl
    ·exact .inr (zM _)
   ·have e:acc.toList=(ord.map λp=>es.toList.getD p (0,.none)).map (·.2):=by
     apply xK;intro i;rw[zo,zX,zX];rcases yB i acc.size with z|z
     ·obtain⟨p,x,h1,h2,h3⟩:=hacc.2 i acc[i] (yG z)
      rw[yG z,h1,h3];show _=some (es.toList.getD p (0,.none)).2;rw[zK,zo,h2];rfl
     ·rw[yx z,zd (by rw[hol,hl,<- hacc.1];exact z)];rfl
    have p2:(ord.map λp=>es.toList.getD p (0,.none)).Perm es.toList:=by
     refine(po.map _).trans ?_;have:(zk es.size).map (λp=>es.toList.getD p (0,Value.none))=es.toList:=by
      apply xK;intro i;rw[zX];rcases yB i es.size with z|z
      ·rw[xN z]
       show some (es.toList.getD i (0,Value.none))=_;rw[zK,zD (by rw[zQ];exact z)];rfl
      ·rw[zd (by rw[zz];exact z),zd (by rw[zQ];exact z)];rfl
     rw[this]
    rw[e];exact perm_ok _ p2
   ·rw[yc,hs1]
    simp only[zF,zg,or_false]at hb;rcases hb with rfl|rfl|rfl
    ·rw[hs1];exact yY _
    ·exact yR (yR hlt)
    ·exact yR (yY _)
end
section
variable{prog:vQ}{w:vZ}{A:vb}{E:vB->vG->Prop}{s:vG}
def qaV{R:t9->vG->Prop}{a:vJ}{xs:List Int}(hh:A.handled=none)(SI:zAh s.heap a (Xw w) xs)(S:vJ)(hSa:S≠a)(res:vB)(c₀:Nat)(hS:s.heap.get? S=some { cls:=.type "list", data:=.seq #[] c₀ })(hR:∀h' tk d acc' c',(∀b o,b≠S->s.heap.get? b=some o->h'.get? b=some o)->h'.get? S=some { cls:=.type "list", dict:=none,data:=.seq acc' c',slots:=#[] }->(∃ys,uH acc'.toList ys/\ys.Perm xs)->R (.ok (.ret res)) { s with heap:=h',toks:=tk,drawn:=d }):
  vN (model prog w) A.in1 (Builtin.List.listExtendWith (.ref S) (.ref a) res)
   (λfin s'=>match fin with|.done f=>R (.ok f) s'|.again c'=>c'.quiet=true/\uh (model prog w) A c' R s') (λe s'=>R (.error e) s') s:=by
 have hn:xs.length<=sizeLine:=yJ (yf SI.len) (by decide);obtain⟨o,es,ep,t,go,gx,gd,T,gl,gb,gg,gv,gn⟩:=id SI;have hTy:∀h:vn,h.get? a=some o->Shared.TypeIs { s with heap:=h } (.ref a) "set" := λh e=>⟨o,e,gx.1⟩;unfold Builtin.List.listExtendWith;refine vA (uj (T := "set") ⟨o,go,gx.1⟩ ?_);have h1:Builtin.List.listSameRef (.ref S) (.ref a)=false:=by simp[Builtin.List.listSameRef,hSa]
 have h2:(Value.type "set" == Value.type "list")=false:=by decide
 have h3:(Value.type "set" == Value.type "tuple")=false:=by decide
 simp only[h1,h2,h3,wU,ya,if_false];refine vA (qei SI λh1 d I fp P St keep hI hfp W st items hlt=>?_);have hS1:h1.get? S=some { cls:=.type "list", data:=.seq #[] c₀ }:=keep _ _ hS;have hSlt:S<s.heap.objs.size:=zO hS;have hSf:S∉fp:=λhm=>by
  rcases hfp S hm with z|z
  ·exact hSa z
  ·exact vK hSlt (Nat.not_lt.mpr z)
 have key:∀(h:vn)(c₁ tk:Nat),St 0 h->(∀b o,b≠S->s.heap.get? b=some o->h.get? b=some o) ->
   h.get? S=some { cls:=.type "list", data:=.seq #[] c₁ }->uh (model prog w) A (.builtin "list.extend.loop" ⟨[.ref S,.ref I,res],[]⟩) R { s with heap:=h,toks:=tk,drawn:=d }:=by
  intro h c₁ tk hst hk hS₁;refine tW (W A.in1 hh).toS hn S hSf res xs.length 0 _ #[] c₁ rfl (yE _) hst hS₁ (ItemsOf.nil _) λs' acc' c' hm hS' hacc=>?_;rw[Moved.eq_with hm];refine hR s'.heap s'.toks d acc' c' (λb o hb e=>hm.heap b o (λhmem=>?_) (hk b o hb e)) hS' (items acc' hacc);rcases zF.mp hmem with e'|hmem
  ·exact hb e'
  ·exact vK (zO e) (by rw[zb.mp hmem];exact Nat.not_lt.mpr hI)
 refine vA (vh (qep ⟨o,keep _ _ go,gx.1⟩ ?_));refine vc (λ_=>?_) (λ_=>vH ⟨uc PySem.F.plain_extend_loop _,key _ c₀ _ st (λb o _ e=>keep b o e) hS1⟩);refine vA (uD ?_);refine vA ?_;show vN _ _ (updateSeq S (·.push .none) >>= λ_=>updateSeq S (·.pop)) _ _ _;refine vA (ux hS1 rfl ?_);have hS₂:=xj (Obj.mapSeq (·.push Value.none)) hS1 rfl;refine ux (hz:=by seq_fits) hS₂ rfl ?_;have hS₃:=xj (Obj.mapSeq (·.pop)) hS₂ rfl;refine vH ⟨uc PySem.F.plain_extend_loop _,key _ _ _ ?_ (λb o hb e=>?_) hS₃⟩
 ·refine(W A.in1 hh).frame 0 _ _ st λb hb o e=>?_
  have hbS:b≠S:=λh=>hSf (h▸hb);exact(yj _ _ (Ne.symm hbS)).trans ((yj _ _ (Ne.symm hbS)).trans e)
 ·exact(yj _ _ (Ne.symm hb)).trans ((yj _ _ (Ne.symm hb)).trans (keep b o e))
def q9z{R:List vB->vG->Prop}{a:vJ}{xs:List Int}(hh:A.handled=none)(SI:zAh s.heap a (Xw w) xs)(h:∀(h':vn)(tk:Nat)(d:Drawn)(vs:List vB)(ys:List Int),(∀b o,s.heap.get? b=some o->h'.get? b=some o)->s.heap.objs.size<h'.objs.size->uH vs ys->ys.Perm xs->R vs { s with heap:=h',toks:=tk,drawn:=d }):
  vN (model prog w) A (collect (.ref a)) R E s:=by
 obtain⟨o,es,ep,t,go,gx,gd,T,gl,gb,gg,gv,gn⟩:=id SI;have hlt:a<s.heap.objs.size:=zO go;unfold collect;refine vA (wpAny_runValue (uT entry_proto_collect' ?_));rw[Around.under_plainId PySem.F.plain_proto_collect _];show vN _ A.in1 (newList [] >>= λl=>again (.builtin "list.__iadd__" ⟨[l,.ref a],[]⟩)) _ _ s;refine vA (vi ?_);refine vH ⟨uc PySem.F.plain_list_iadd _,uT entry_list_iadd' ?_⟩;rw[Around.under_plainId PySem.F.plain_list_iadd _];have hS₁:(s.heap.push { cls:=.type "list", data:=.seq ([]:List vB).toArray }).get? s.heap.objs.size=some { cls:=.type "list", data:=.seq #[] }:=zS _ rfl;show vN _ A.in1 (Builtin.List.listExtendWith (.ref s.heap.objs.size) (.ref a) (.ref s.heap.objs.size)) _ _ _;have key:=qaV (prog:=prog) (A:=A) (s:={ s with heap:=s.heap.push { cls:=.type "list", data:=.seq ([]:List vB).toArray } })
  (R:=λ(q:t9) (s':vG)=>∃(h':vn) (tk:Nat) (d:Drawn) (acc':Array vB) (c':Nat),q=.ok (.ret (.ref s.heap.objs.size))/\s'={ s with heap:=h',toks:=tk,drawn:=d } /\
   (∀b o,s.heap.get? b=some o->h'.get? b=some o)/\h'.get? s.heap.objs.size=some { cls:=.type "list", dict:=none,data:=.seq acc' c',slots:=#[] }/\∃ys,uH acc'.toList ys/\ys.Perm xs)
  hh (SI.at λo e=>zH _ e) s.heap.objs.size (wI hlt) (.ref s.heap.objs.size) 0 hS₁
  (λh' tk d acc' c' hk hS' hacc=>⟨h',tk,d,acc',c',rfl,rfl,λb o e=>hk b o (zi (zO e)) (zH _ e),hS',hacc⟩)
 refine vq key (λfin s' x=>?_) λe s' x=>?_
 ·cases fin with
  | done f=>
   obtain⟨h',tk,d,acc',c',e,rfl,hk,hS',ys,y1,y2⟩:=x;cases e;show vN _ A (load s.heap.objs.size >>= _) _ _ _;refine vA (wpAny_load hS' ?_);exact vH (h h' tk d _ ys hk (zO hS') y1 y2)
  | again c₁=>
   refine⟨x.1,ui x.2 λq s₂ y=>?_⟩;obtain⟨h',tk,d,acc',c',rfl,rfl,hk,hS',ys,y1,y2⟩:=y;show vN _ A (load s.heap.objs.size >>= _) _ _ _;refine vA (wpAny_load hS' ?_);exact vH (h h' tk d _ ys hk (zO hS') y1 y2)
 ·obtain⟨_,_,_,_,_,e',_⟩:=x
  cases e'
def qbz{a:vJ}{xs:List Int}{Q:vB->vG->Prop}(hh:A.handled=none)(SI:zAh s.heap a (Xw w) xs)(h64:xs.length<64)(h:∀(D:vJ)(h':vn)(tk:Nat)(d:Drawn)(vs:List vB)(ys:List Int)(n:Nat),(∀b o,s.heap.get? b=some o->h'.get? b=some o)->s.heap.objs.size<=D->h'.get? D=some (uV "list" vs.toArray n)->uH vs ys->ys.Perm xs->ys.Pairwise (· <= ·)->Q (.ref D) { s with heap:=h',toks:=tk,drawn:=d }):
  vN (model prog w) A (call (.builtin "sorted") [.ref a]) Q E s:=by
 refine Calls.call_function_entry sO sG sH (sI _) ?_;unfold Builtin.«sorted»;refine vA (m:=checkCount "sorted" 1 1 _) (vH ?_);refine vA (q9z (A:=A.in1) hh SI λh1 tk d vs ys hk hz y1 y2=>?_);have hlen:vs.length=xs.length:=by rw[IntsAre.length y1,y2.length_eq]
 refine vA (tH ?_ (yJ (by rw[hlen];exact yf h64) (by decide)));have hoL:(h1.push (uV "list" vs.toArray 0)).get? h1.objs.size=some (uV "list" vs.toArray 0):=zS _ rfl;refine vA (vh (ve slot_list_sort ⟨_,hoL,rfl⟩ entry_list_sort (list_sort_tree hoL y1 (by rw[hlen];exact h64) λout ns' a1 a2 a3=>⟨_,rfl,?_⟩) (tX _)));obtain⟨n,hn⟩:=sortedHeap_at (vs:=vs) (out:=out) hoL;refine vH ⟨_,rfl,h h1.objs.size _ tk d out.toList ns' n (λb o e=>?_) ?_ ?_ a1 (a2.trans y2) a3⟩
 ·have e1:=hk b o e
  rw[sortedHeap_old (zi (zO e1)) (by rw[yc];exact yR (zO e1))];exact zH _ e1
 ·exact yf hz
 ·rw[wY];exact hn
end
end Hk
namespace L2
open PySem PySem.Spec PyProof.Rows
noncomputable def Ws(names:List (Str×uS))(cells:List (Str×vJ))(cs:List (Str×vJ)):List (Str×vJ) :=
 match names with
 | []=>cs
 | p::r=>Ws r cells (if p.2 == .free then (p.1,(cells.lookup p.1).getD 0)::cs else cs)
def q3Y{scope:um}{env:Env}(h:∀p∈scope.names,p.2=NameKind.free->(env.cells.lookup p.1).isSome=true):
  closureFor scope env=pure (Ws scope.names env.cells []):=by
 simp only[closureFor];generalize scope.names=l at h ⊢;have key:∀(l:List (Str×uS))(cs:List (Str×vJ)),(∀p∈l,p.2=NameKind.free->(env.cells.lookup p.1).isSome=true) ->
   (forIn l cs (λ(p:Str×uS) (r:List (Str×vJ))=>if (p.2==NameKind.free)=true then (do let a <- cellOf env p.1;pure (ForInStep.yield ((p.1,a)::r)))else pure (ForInStep.yield r)):Sem _)=pure (Ws l env.cells cs):=by
  intro l
  induction l with
  | nil=>intro cs _;rfl
  | cons p r ih=>
   intro cs hp;rw[wA];have hr:=λq hq=>hp q (zG _ hq)
   by_cases hf:p.2=NameKind.free
   ·have hs:=hp p zI hf
    obtain⟨a,ha⟩:=yo.mp hs;have e:cellOf env p.1=pure a:=by unfold cellOf;rw[ha]
    have hb:(p.2==NameKind.free)=true:=by rw[hf];rfl
    rw[vC hb,e,pure_bind,pure_bind];show forIn r _ _=_;rw[ih _ hr];show _=pure (Ws r env.cells (if p.2 == .free then _ else _));rw[vC hb,ha];rfl
   ·have hb:¬(p.2==NameKind.free)=true:=by intro z;exact hf (by cases hk:p.2 <;> simp_all)
    rw[vF hb,pure_bind];show forIn r _ _=_;rw[ih _ hr];show _=pure (Ws r env.cells (if p.2 == .free then _ else _));rw[vF hb]
 rw[key l [] h];rfl
def qa5{k:uS}(h:(k==NameKind.free)=true):k=NameKind.free:=by cases k <;> first|rfl|cases h
theorem q4c{cells:List (Str×vJ)}:∀(l:List (Str×uS))(cs:List (Str×vJ)),(∀p∈l,p.2=NameKind.free->(cells.lookup p.1).isSome=true) ->
  (∀x c,cs.lookup x=some c->cells.lookup x=some c)->∀x c,(Ws l cells cs).lookup x=some c->cells.lookup x=some c
 | [],cs,_,h,x,c,e=>h x c e
 | p::r,cs,hp,h,x,c,e=>by
  refine q4c r _ (λq hq=>hp q (zG _ hq)) (λy d hy=>?_) x c e
  by_cases hb:(p.2==NameKind.free)=true
  ·rw[vC hb,xC]at hy
   cases hyp:y==p.1 with
   | true=>
    rw[hyp]at hy;have hy':(cells.lookup p.1).getD 0=d:=zj hy;obtain⟨a,ha⟩:=yo.mp (hp p zI (qa5 hb));rw[ha]at hy';rw[eq_of_beq hyp,ha,<- hy'];rfl
   | false=>rw[hyp]at hy;exact h y d hy
  ·rw[vF hb]at hy;exact h y d hy
theorem q4i{cells:List (Str×vJ)}:∀(l:List (Str×uS))(cs:List (Str×vJ))(x:Str),((x,NameKind.free)∈l\/(cs.lookup x).isSome=true)->((Ws l cells cs).lookup x).isSome=true
 | [],cs,x,h=>by
  rcases h with h|h
  ·cases h
  ·exact h
 | p::r,cs,x,h=>by
  refine q4i r _ x ?_;rcases h with h|h
  ·rcases zF.mp h with rfl|h
   ·right
    show (List.lookup x (if (NameKind.free==NameKind.free)=true then _ else _)).isSome=true;rw[vC (by rfl),xC,beq_self_eq_true];rfl
   ·exact .inl h
  ·right
   by_cases hb:(p.2==NameKind.free)=true
   ·rw[vC hb,xC]
    cases hx:x==p.1 with
    | true=>rfl
    | false=>exact h
   ·rw[vF hb];exact h
noncomputable def WK(X:Cx)(N:List Str)(scope:um)(C:vJ)(s:vG)(H:Hp)(fp:List vJ):Cx :=
 { X with N:=N,s₀:=s,H₀:=H,env:=compEnvC scope (Ws scope.names X.env.cells []) C X.env,outer:=X.stack,stack:=X.stack,ex:=fp,fn:=λ_=>false,pn:=[],xe:=λ_ _=>False }
noncomputable def zBs(M:Nat)(frees:List Nat)(σ:St):St:=ze M none++frees.map λj=>(σ[j]?).getD none
structure BlkOk (X:Cx) (N:List Str) (M:Nat) (frees:List Nat) (scope:um):Prop where
 kind:scope.kind=.function
 nocell:∀y∈scope.names,y.2≠.cell
 own:∀y∈scope.names,y.2=.local->scope.names.lookup y.1=some .local
 cells:∀p∈scope.names,p.2=NameKind.free->(X.env.cells.lookup p.1).isSome=true
 fr:∀(k:Nat)(x:Str),N[M+k]?=some x->∃j,frees[k]?=some j/\X.N[j]?=some x/\(X.env.kindOf x=some .cell\/X.env.kindOf x=some .free)/\scope.names.lookup x=some .free
 len:N.length=M+frees.length
theorem q2D{env:Env}{x:Str}:∀{names:List (Str×uS)}{k:uS},(∀y∈names,y.2≠.cell)->(k=.cell\/k=.free) ->
  (names.map λ(n,k)=>if (k==NameKind.free&&env.scope.kind == .function&&env.kindOf n==some .cell)then (n,NameKind.cell)else (n,k)).lookup x=some k->(x,NameKind.free)∈names
 | [],_,_,_,h=>by cases h
 | (n,k0)::r,k,hc,hk,h=>by
  have ih:=@q2D env x r k (λy hy=>hc y (zG _ hy)) hk;rw[zY]at h
  by_cases hb:(k0==NameKind.free&&env.scope.kind == .function&&env.kindOf n==some .cell)=true
  ·have hf:k0=NameKind.free:=qa5 (by rw[zU,zU]at hb;exact hb.1.1)
   dsimp only at h
   rw[vC hb,xC]at h;cases hx:x==n with
   | true=>rw[eq_of_beq hx,hf];exact zI
   | false=>rw[hx]at h;exact zG _ (ih h)
  ·dsimp only at h
   rw[vF hb,xC]at h;cases hx:x==n with
   | true=>
    rw[hx]at h;have e:k0=k:=zj h;have z:=hc (n,k0) zI;rw[eq_of_beq hx];rcases hk with rfl|rfl
    ·exact vK e z
    ·rw[e];exact zI
   | false=>rw[hx]at h;exact zG _ (ih h)
theorem q4w{env:Env}{x:Str}:∀{names:List (Str×uS)},names.lookup x=some .free ->
  (names.map λ(n,k)=>if (k==NameKind.free&&env.scope.kind == .function&&env.kindOf n==some .cell)then (n,NameKind.cell)else (n,k)).lookup x=some .cell \/
  (names.map λ(n,k)=>if (k==NameKind.free&&env.scope.kind == .function&&env.kindOf n==some .cell)then (n,NameKind.cell)else (n,k)).lookup x=some .free
 | [],h=>by cases h
 | (n,k0)::r,h=>by
  have ih:=@q4w env x r;rw[zY]
  dsimp only
  rw[xC]at h
  by_cases hb:(k0==NameKind.free&&env.scope.kind == .function&&env.kindOf n==some .cell)=true
  ·rw[vC hb,xC]
   cases hx:x==n with
   | true=>exact .inl rfl
   | false=>rw[hx]at h;exact ih h
  ·rw[vF hb,xC]
   cases hx:x==n with
   | true=>rw[hx]at h;exact .inr h
   | false=>rw[hx]at h;exact ih h
section
variable{X:Cx}{pins:List (vJ×Obj)}{σ:St}{H:Hp}{s:vG}{N:List Str}{M:Nat}{frees:List Nat}{scope:um}{fp:List vJ}
def Inv.enter{h1:vn}{C D tk:Nat}{m1:Str->Option vB}(I:Inv X pins σ H s)(B:BlkOk X N M frees scope)(f:∀b∈fp,zBe X pins H b)(lt:∀b∈fp,b<s.heap.objs.size)(hC:s.heap.objs.size<C)(hD:s.heap.objs.size<=D)(hDC:C≠D)(k:∀b u,s.heap.get? b=some u->h1.get? b=some u)(hns:h1.Ns C m1)(hl:h1.get? D=some { cls:=.type "list", data:=.seq ([]:List vB).toArray }):
  Inv (WK X N scope C s H fp) [] (zBs M frees σ) (upd H D (.lst [])) { s with heap:=h1,toks:=tk }:=by
 have sub:=q4c (cells:=X.env.cells) scope.names [] B.cells (λx c e=>by cases e);have hfr:H D=none:=I.hok.fresh hD;have hfc:H C=none:=I.hok.fresh (yf hC);have clt:∀x c,(Ws scope.names X.env.cells []).lookup x=some c->c<s.heap.objs.size:=λx c e=>by
  obtain⟨v,q⟩:=I.cell x c (sub x c e);exact q.lt
 refine⟨⟨I.ok.mod,B.kind,I.ok.glob,I.ok.blt,yf hC,λx y c e1 e2=>I.ok.inj x y c (sub x c e1) (sub y c e2),λx hx=>?_,λx c e=>vK e (by intro z;cases z),I.ok.hd,I.ok.frames,.inl rfl,λb hb=>?_,I.bs,yJ I.ok.bsz I.sz,λb o e hb=>?_,
  λb hb hf=>?_,I.stack,I.stkFree⟩,rfl,I.bare,Un.laid k hD hfr,⟨m1,hns,λi x v e1 e2 e3=>?_⟩,λx c e=>?_,?_,λx c e=>?_,λp hp=>vK (show p∈([]:List (vJ×Obj))from hp) (by simp),I.hok.laid k hD ⟨yE _,[],0,.nil,hl⟩,?_⟩
 ·have hm:(x,NameKind.free)∈scope.names:=by
   rcases hx with hx|hx
   ·exact q2D B.nocell (.inl rfl) hx
   ·exact q2D B.nocell (.inr rfl) hx
  exact yo.mp (q4i scope.names [] x (.inl hm))
 ·exact⟨zi (Z6 (lt b hb) hC),λx c e=>(f b hb).2.2.2.2.1 x c (sub x c e)⟩
 ·rcases (f b hb).2.2.2.1 with z|z
  ·exact I.ok.noex b o e z
  ·exact vK (zu (zO e) (yJ I.ok.bsz z)) (xP _)
 ·rcases zF.mp (I.stkSub b hf)with z|z
  ·exact(f b hb).2.1 z
  ·exact(f b hb).2.2.1 z
 ·have hi:M<=i:=by
   rcases yB i M with z|z
   ·unfold zBs at e2
    rw[zt ⇑z,yh,vC z]at e2;cases e2
   ·exact z
  obtain⟨q,rfl⟩:∃q,i=M+q:=⟨i-M,∅⟩;obtain⟨j,h1',h2',h3',h4'⟩:=B.fr q x e1;have ev:σ[j]?=some (some v):=by
   unfold zBs at e2;rw[zf (by simp),zw,w8,zX,h1']at e2;cases e:σ[j]? with
   | none=>rw[yq,e]at e2;cases e2
   | some o=>rw[yq,e]at e2;exact e2
  obtain⟨m,hn,hl'⟩:=I.loc;have vis:Vis X.env.scope x:=by
   rcases h3' with z|z
   ·exact .inr (.inl z)
   ·exact .inr (.inr z)
  obtain⟨u,ru,lk⟩:=hl' j x v h2' ev vis;refine⟨u,ru,.inr ?_⟩;rcases lk with⟨z,_⟩|⟨_,c,ec,ic⟩
  ·rcases h3' with y|y <;> (rw[z]at y;cases y)
  ·obtain⟨c',ec'⟩:=yo.mp (q4i (cells:=X.env.cells) scope.names [] x (.inl (PySem.mem_of_lookup h4')))
   have:c'=c:=zj ((sub x c' ec').symm.trans ec);subst this;exact⟨q4w h4',c',ec',ic.keeps k⟩
 ·obtain⟨v,q⟩:=I.cell x c (sub x c e)
  exact⟨v,q.keeps k⟩
 ·show upd H D (.lst []) C=none
  rw[qd hDC];exact hfc
 ·show upd H D (.lst []) c=none
  rw[qd (zi (zu (clt x c e) hD))];exact I.freeC x c (sub x c e)
 ·show (zBs M frees σ).length=N.length
  unfold zBs;rw[zC,zw,zB,B.len]
end
section
variable{prog:vQ}{w:vZ}{A:vb}{R:t9->vG->Prop}{s:vG}
theorem q9C{elt target iter:vW}{ifs:List vW}{scope:um}{pos:Pos}{it acc:vB}{env:Env}(J:Nat->vG->Prop)(turn:∀n s,J n s->vN (model prog w) A (uI it) (λr s1=>match r with
   | none=>R (.ok .next) s1
   | some v=>vN (model prog w) A (uv target it v) (λ_ s2=>vN (model prog w) A (assign target env v) (λ_ s3=>
     vN (model prog w) A (forIn ifs true λc r=>if r=true then do let ok <- sZ c env (eval c env);pure (ForInStep.yield ok)else pure (ForInStep.yield r)) (λok s4=>
      if ok=true then vN (model prog w) A (eval elt env) (λx s5=>vN (model prog w) A (call (.builtin "list.append") [acc,x]) (λ_ s6=>∃m,m<n/\J m s6) (λ_ _=>False) s5) (λ_ _=>False) s4
      else ∃m,m<n/\J m s4) (λ_ _=>False) s3) (λ_ _=>False) s2) (λ_ _=>False) s1) (λ_ _=>False) s)
  (n:Nat) (h:J n s):uh (model prog w) A (.compLoop (.ListComp elt [⟨target,iter,ifs,0⟩] scope pos) 0 it acc env) R s:=by
 refine codeAny_loop rfl J (λn s hJ=>?_) n h;show vN _ A ((compTurn (.ListComp elt [⟨target,iter,ifs,0⟩] scope pos) 0 it acc env).onRaise (λx=>do noteFrame x env;theTreesLotGoes x)) _ _ s;refine wpAny_noted (vq (Q:=λfin s'=>match fin with|.done f=>R (.ok f) s'|.again c'=>c'=.compLoop (.ListComp elt [⟨target,iter,ifs,0⟩] scope pos) 0 it acc env/\∃m,m<n/\J m s') ?_ (λ_ _ q=>q) λ_ _ (z:False)=>z.elim);rw[compTurn_list];refine vA (tq (vA (vq (turn n s hJ) (λr s1 h1=>?_) λ_ _ q=>q)));cases r with
 | none=>exact vH h1
 | some v=>
  refine vA (vq h1 (λ_ s2 h2=>vA (vq h2 (λ_ s3 h3=>vA (vq h3 (λok s4 h4=>?_) λ_ _ q=>q)) λ_ _ q=>q)) λ_ _ q=>q);cases ok with
  | false=>exact vH ⟨rfl,h4⟩
  | true=>exact vA (vA (vq h4 (λx s5 h5=>vA (vq h5 (λ_ s6 h6=>vH (vH ⟨rfl,h6⟩)) λ_ _ q=>q)) λ_ _ q=>q))
end
def PTs(X:Cx)(ifs:List vW)(t:TT):Prop :=
 ∀(pins:List (vJ×Obj))(s:vG)(σ:St)(H:Hp)(Q:Bool->Hp->Prop),Inv X pins σ H s->t σ H Q ->
  vN (model X.prog X.w) X.A (forIn ifs true λc r=>if r=true then do let ok <- sZ c X.env (eval c X.env);pure (ForInStep.yield ok)else pure (ForInStep.yield r)) (TP X pins σ Q) X.xe s
def qf5{X:Cx}:PTs X [] (λ_ H Q=>Q true H):=λ_ _ _ H _ I q=>wpAny_tests_nil ⟨H,I,q⟩
def qg3{X:Cx}{c:vW}{t:TT}(h:PT X c t):PTs X [c] t:=λpins s σ H Q I q=>wpAny_tests_one (h pins s σ H Q I q)
noncomputable def zCk(M:Nat)(frees:List Nat)(wi:TI)(g:TG)(tc:TT)(te:TE):TE:=λσ H Q=>wi σ H λJ H1=>∀D,H1 D=none ->
 ∃W:Nat->Nat->St->Hp->Prop,(∃m,W 0 m (zBs M frees σ) (upd H1 D (.lst [])))/\∀i m σ' H',W i m σ' H' ->
  (J.stop i H'/\Q (.ref D) H')\/(J.go i H'/\∀x H2,J.yld i H' x H2->g x σ' H2 λσ2 H3=>tc σ2 H3 λb H4=>
   if b=true then te σ2 H4 λv H5=>∃acc,H5 D=some (.lst acc)/\acc.length<sizeLine/\∃m',m'<m/\W (i+1) m' σ2 (upd H5 D (.lst (acc++[v])))
   else ∃m',m'<m/\W (i+1) m' σ2 H4)
section
variable{X:Cx}{N:List Str}{M:Nat}{frees:List Nat}{scope:um}{tg iter elt:vW}{ifs:List vW}{pos:Pos}{wi:TI}{g:TG}{tc:TT}{te:TE}
theorem q83(hc:X.calm=true)(B:BlkOk X N M frees scope)(hb:∀C s H fp,PG (WK X N scope C s H fp) tg g/\PTs (WK X N scope C s H fp) ifs tc/\PE (WK X N scope C s H fp) elt te){pins:List (vJ×Obj)}{σ:St}{Q:VK}{s2:vG}{itv:vB}{E:vB->vG->Prop}{RR:vB->vJ->t9->vG->Prop}(h2:PIE X pins σ tg (λJ H1=>∀D,H1 D=none ->
   ∃W:Nat->Nat->St->Hp->Prop,(∃m,W 0 m (zBs M frees σ) (upd H1 D (.lst [])))/\∀i m σ' H',W i m σ' H' ->
    (J.stop i H'/\Q (.ref D) H')\/(J.go i H'/\∀x H2,J.yld i H' x H2->g x σ' H2 λσ2 H3=>tc σ2 H3 λb H4=>
     if b=true then te σ2 H4 λv H5=>∃acc,H5 D=some (.lst acc)/\acc.length<sizeLine/\∃m',m'<m/\W (i+1) m' σ2 (upd H5 D (.lst (acc++[v])))
     else ∃m',m'<m/\W (i+1) m' σ2 H4)) itv s2)
  (hR:∀D C s' H' m,Inv X pins σ H' s'->Q (.ref D) H'->s'.heap.Ns C m->H' C=none->C≠X.env.locals->X.s₀.heap.objs.size<=C->(∀x c,X.env.cells.lookup x=some c->c≠C)->(∀p∈X.pn++pins,p.1≠C)->RR (.ref D) C (.ok .next) s') :
  vN (model X.prog X.w) X.A (newList []) (λacc s3=>vN (model X.prog X.w) X.A (newFunctionEnv scope X.env.globals (Ws scope.names X.env.cells []) [] X.env.qual none .none (some X.env)) (λcenv s4=>
   uh (model X.prog X.w) X.A (.compStart (.ListComp elt [⟨tg,iter,ifs,0⟩] scope pos) 0 itv acc { cenv with scope:=relabel scope X.env }) (RR acc cenv.locals) s4) E s3) E s2:=by
 obtain⟨it,fp,tn,J,H2,e,I2,T,st2,f2,q⟩:=h2;subst e;refine vi (wpAny_newFunctionEnv B.nocell (by intro y hy;simp at hy) (λh1 hns hsb=>?_) B.kind)
 dsimp only at hns hsb ⊢
 generalize hP:s2.heap.push { cls:=.type "list", dict:=none,data:=.seq ([]:List vB).toArray }=P1 at hns hsb ⊢;have hsz:P1.objs.size=s2.heap.objs.size+1:=by rw[<- hP,yc]
 have below:∀b,b<s2.heap.objs.size->b≠P1.objs.size:=λb z=>by rw[hsz];exact zi (yR z)
 have keep:∀b u,s2.heap.get? b=some u->h1.get? b=some u:=λb u z=>hsb.extBut b u (below b (zO z)) (zH _ (hP▸zH _ z));have hne:s2.heap.objs.size≠P1.objs.size:=by rw[hsz];exact zi (yY _)
 have hl:h1.get? s2.heap.objs.size=some { cls:=.type "list", data:=.seq ([]:List vB).toArray }:=hsb.extBut _ _ hne (zH _ (hP▸zS _ rfl));have lt2:∀b∈fp,b<s2.heap.objs.size:=λb z=>by
  obtain⟨o,eo,_⟩:=T.obj _ _ st2 b z;exact zO eo
 have hD0:H2 s2.heap.objs.size=none:=I2.hok.fresh (zM _);obtain⟨W,⟨m0,w0⟩,turn⟩:=q s2.heap.objs.size hD0;have I4:=I2.enter (N:=N) (M:=M) (frees:=frees) (scope:=scope) (fp:=fp) (h1:=h1) (C:=P1.objs.size) (D:=s2.heap.objs.size) (tk:=s2.toks+([]:List (Str×vB)).length) B f2 lt2 (by rw[hsz];exact yY _) (zM _) (Ne.symm hne) keep hns hl;have hcx:∀(C:vJ),(WK X N scope C s2 H2 fp).calm=true:=λ_=>hc;have stat:∀{H':Hp},(∀b∈fp,H' b=none)->∀b∈fp,zBe (WK X N scope P1.objs.size s2 H2 fp) [] H' b:=λ{H'} hn b z=>by
  refine⟨hn b z,below b (lt2 b z),λy=>?_,.inl z,λx c y=>?_,λp y=>vK (show p∈([]:List (vJ×Obj))from y) (by simp)⟩
  ·rcases zF.mp (I2.stkSub b y)with u|u
   ·exact(f2 b z).2.1 u
   ·exact(f2 b z).2.2.1 u
  ·exact(f2 b z).2.2.2.2.1 x c (q4c (cells:=X.env.cells) scope.names [] B.cells (λx c e=>by cases e) x c y)
 have fr4:∀b∈fp,(upd H2 s2.heap.objs.size (HO.lst [])) b=none:=λb z=>by
  rw[qd (zi (lt2 b z))];exact(f2 b z).1
 have st4:tn 0 h1:=T.keep _ _ _ st2 λb _ o z=>keep b o z;have fin:∀(s':vG)(σ':St)(H':Hp),Inv (WK X N scope P1.objs.size s2 H2 fp) [] σ' H' s'->Q (.ref s2.heap.objs.size) H'->RR (.ref s2.heap.objs.size) P1.objs.size (.ok .next) s':=λs' σ' H' I' q'=>by
  obtain⟨m,hm,_⟩:=I'.loc;have u':Un (frs X.stack) fp H2 H' s2.heap s'.heap:=I'.base;have I0:Inv X pins σ H' s':=I2.call' (ch:=fp) I'.os u' I'.hok I'.bare λb z=>⟨(f2 b z).2.2.2.1,(f2 b z).2.1,(f2 b z).2.2.2.2.1,(f2 b z).2.2.2.2.2⟩;refine hR _ _ s' H' m I0 q' hm I'.free (wI (zu I2.lt (by rw[hsz];exact xn _))) (yJ I2.sz (by rw[hsz];exact xn _)) (λx c z=>?_) λp z=>?_
  ·obtain⟨v,y⟩:=I2.cell x c z
   exact below c y.lt
  ·exact below p.1 (zO (I2.pin p z).1)
 have loop:∀s4:vG,s4={ s2 with heap:=h1,toks:=s2.toks+([]:List (Str×vB)).length } ->
   uh (model X.prog X.w) X.A (.compLoop (.ListComp elt [⟨tg,iter,ifs,0⟩] scope pos) 0 (.ref it) (.ref s2.heap.objs.size) (compEnvC scope (Ws scope.names X.env.cells []) P1.objs.size X.env)) (RR (.ref s2.heap.objs.size) P1.objs.size) s4:=by
  rintro s4 rfl;refine q9C (λn s'=>∃i σ' H',Inv (WK X N scope P1.objs.size s2 H2 fp) [] σ' H' s'/\tn i s'.heap/\(∀b∈fp,H' b=none)/\W i n σ' H') ?_ m0 ⟨0,_,_,I4,st4,fr4,w0⟩;rintro n s5 ⟨i,σ5,H5,I5,st5,fr5,w5⟩;rcases turn i n σ5 H5 w5 with⟨stop,qn⟩|⟨go,step⟩
  ·refine thn (T.done (WK X N scope P1.objs.size s2 H2 fp) rfl rfl rfl hc i [] s5 σ5 H5 _ I5 (stat fr5) st5 stop) λr s6 ⟨hr,I6⟩=>?_
   subst hr;exact fin s6 σ5 H5 I6 qn
  ·refine thn (T.item (WK X N scope P1.objs.size s2 H2 fp) rfl rfl rfl hc i [] s5 σ5 H5 _ I5 (stat fr5) st5 go) λr s6 ⟨u,hr,h6⟩=>?_
   subst hr;refine thn h6 λ_ s7 ⟨x,H7,I7,r7,y7,st7,fr7⟩=>?_;have I7':=I7.pinned (stat fr7) (T.obj _ _ st7);have B7:=hb P1.objs.size s2 H2 fp;refine thn (B7.1 _ s7 σ5 H7 x u _ I7' r7 (step x H7 y7)) λ_ s8 ⟨σ8,H8,I8,q8⟩=>?_;refine thn (B7.2.1 _ s8 σ8 H8 _ I8 q8) λok s9 ⟨H9,I9,q9⟩=>?_;have again:∀{σa:St}{Ha:Hp}{sa:vG},Inv (WK X N scope P1.objs.size s2 H2 fp) ([]++zAW fp s7.heap) σa Ha sa->(∃m',m'<n/\W (i+1) m' σa Ha) ->
     ∃m,m<n/\∃i σ' H',Inv (WK X N scope P1.objs.size s2 H2 fp) [] σ' H' sa/\tn i sa.heap/\(∀b∈fp,H' b=none)/\W i m σ' H':=λ{σa Ha sa} Ia ⟨m',hm,wa⟩=>by
    refine⟨m',hm,i+1,σa,Ha,Ia.unpinned,T.keep _ _ _ st7 λb z o eo=>(Ia.pin (b,o) (zW _ (zW _ (q2j z eo)))).1,λb z=>?_,wa⟩;obtain⟨o,eo,d⟩:=T.obj _ _ st7 b z;exact(Ia.pin (b,o) (zW _ (zW _ (q2j z eo)))).2.1
   cases ok with
   | false=>exact again I9 q9
   | true=>
    rw[vC rfl];refine thn (B7.2.2 _ s9 σ8 H9 _ I9 q9) λy s10 ⟨v,H10,I10,r10,acc,ha,hz,m',hm,wn⟩=>?_;refine thn (q0R (X:=WK X N scope P1.objs.size s2 H2 fp) _ s10 σ8 H10 (.ref s2.heap.objs.size) [v] (.ref s2.heap.objs.size) [y] (λ_ Hn=>∃m',m'<n/\W (i+1) m' σ8 Hn) I10 rfl (.cons r10 .nil) ⟨_,acc,v,rfl,rfl,ha,hz,m',hm,wn⟩) λ_ s11 ⟨_,H11,I11,_,q11⟩=>?_;exact again I11 q11
 exact codeAny_compStart_list (loop _ rfl) (T.self _ 0 _ _ _ st4 (loop _ rfl))
def qeW(hc:X.calm=true)(B:BlkOk X N M frees scope)(hi:PI X tg iter wi)(hb:∀C s H fp,PG (WK X N scope C s H fp) tg g/\PTs (WK X N scope C s H fp) ifs tc/\PE (WK X N scope C s H fp) elt te)(hs:∀x,vz iter X.env x=pure x:=by intro _;rfl):PE X (.ListComp elt [⟨tg,iter,ifs,0⟩] scope pos) (zCk M frees wi g tc te):=by
 intro pins s σ H Q I h;rw[eval_ListComp];refine tI (use:=none) rfl hs (q3Y B.cells) B.kind B.own (vq (hi pins s σ H _ I h) (λv s1 h1=>vq h1 (λitv s2 h2=>?_) λ_ _ q=>q) λ_ _ q=>q);refine q83 (RR:=λacc C=>compPost (model X.prog X.w) X.A X.xe none (EP X pins σ Q) acc C) hc B hb h2 λD C s' H' m I' q' hm hC h1 h3 h4 h5=>?_;exact⟨m,hm,λh' hs'=>⟨.ref D,H',I'.turned (t':=s'.toks) (λb o z y=>hs'.extBut b o z y) hC h1 (.inr h3) h4 h5,rfl,q'⟩⟩
def qfd{i:Nat}{x:Str}{pos' spos:Pos}(hc:X.calm=true)(hN:X.N.Nodup)(hi':X.N[i]?=some x)(hx:X.env.scope.names.lookup x=some .local)(B:BlkOk X N M frees scope)(hi:PI X tg iter wi)(hb:∀C s H fp,PG (WK X N scope C s H fp) tg g/\PTs (WK X N scope C s H fp) ifs tc/\PE (WK X N scope C s H fp) elt te)(hsw:v3 (.ListComp elt [⟨tg,iter,ifs,0⟩] scope pos) (some (.Name x pos')) spos.line X.env=pure true:=by rfl)(hs:∀x,vz iter X.env x=pure x:=by intro _;rfl):PS X (.Assign [.Name x pos'] (.ListComp elt [⟨tg,iter,ifs,0⟩] scope pos) spos) (zA0 (zCk M frees wi g tc te) (WF i)):=by
 intro pins s σ H D I h;rw[exec_Assign_Name_used _ _ _ _ hsw];refine vA (tq (vA ?_));show vN _ X.A (do let _ <- comprehension (.ListComp elt [⟨tg,iter,ifs,0⟩] scope pos) scope X.env _ (newList []) false (eval iter X.env) (some (assign (.Name x pos') X.env))) _ _ s;refine vA (vq (tI (use:=some (assign (.Name x pos') X.env)) (Q:=λ_ s'=>SP X pins D .next s') rfl hs (q3Y B.cells) B.kind B.own
  (vq (hi pins s σ H _ I h) (λv s1 h1=>vq h1 (λitv s2 h2=>?_) λ_ _ q=>q) λ_ _ q=>q)) (λ_ s' hq=>vH (vH hq)) λ_ _ q=>q)
 refine q83 (Q:=λy H1=>WF i y σ H1 D.nx) (RR:=λacc C=>compPost (model X.prog X.w) X.A X.xe (some (assign (.Name x pos') X.env)) (λ_ s'=>SP X pins D .next s') acc C) hc B hb h2 λDd C s' H' m I' q' hm hC h1 h3 h4 h5=>?_;show vN _ X.A (assign (.Name x pos') X.env (.ref Dd)) _ _ _;refine wpAny_assign_Name (q7l I' hN hi' (.inl hx) (v:=.ref Dd) (u:=.ref Dd) rfl (λs'' I'' ⟨a,hsb,ha⟩=>?_) (.inr hx));have hCa:C≠a:=by
  rcases ha with rfl|ha
  ·exact h1
  ·exact Ne.symm (h4 x a ha)
 refine⟨m,hm.sameBut hsb hCa,λh' hs'=>⟨_,H',I''.turned (t':=s''.toks) (λb o z y=>hs'.extBut b o z y) hC h1 (.inr h3) h4 h5,q'⟩⟩
end
end L2
namespace Hk
open PySem L2
inductive D where
 | non|bl (b:Bool)|int (i:Int)|str (x:Str)|lst (xs:List D)|tup (xs:List D)|scr (ns:List Int)|exc (c:Str)|dic (ks:List Int) (xs:List D)
noncomputable def kvsOf:List Int->List V->List (Key×V)
 | k::ks,v::vs=>(.inl k,v)::kvsOf ks vs
 | _,_=>[]
def excP(a C:vJ)(h:vn):Prop:=∃o,h.get? a=some o/\o.cls=.ref C
mutual
def Rep(K:zA)(H:Hp):D->V->Prop
 | .non,v=>v=.non
 | .bl b,v=>v=.bl b
 | .int i,v=>v=.int i
 | .str x,v=>v=.str x
 | .lst ds,v=>∃a vs,v=.ref a/\H a=some (.lst vs)/\Yx K H ds vs
 | .tup ds,v=>∃a vs,v=.ref a/\H a=some (.tup vs)/\Yx K H ds vs
 | .scr ns,v=>∃a,v=.ref a/\SqL K H a (ns.map V.int)
 | .exc c,v=>∃a C,v=.ref a/\yM K vY c=some (some (.ref C))/\H a=some (.ext (excP a C))
 | .dic ks ds,v=>∃a vs,v=.ref a/\(∃o,H a=some (.frz o (.dK (kvsOf ks vs))))/\ks.length=ds.length/\Yx K H ds vs
def Yx(K:zA)(H:Hp):List D->List V->Prop
 | [],vs=>vs=[]
 | d::ds,vs=>∃v r,vs=v::r/\Rep K H d v/\Yx K H ds r
end
mutual
theorem Rep.mono{K:zA}{H H':Hp}(e:Y7 H H'):∀{d:D}{v:V},Rep K H d v->Rep K H' d v
 | .non,_,h=>h
 | .bl _,_,h=>h
 | .int _,_,h=>h
 | .str _,_,h=>h
 | .lst _,_,⟨a,vs,h1,h2,h3⟩=>⟨a,vs,h1,e _ _ h2,Yx.mono e h3⟩
 | .tup _,_,⟨a,vs,h1,h2,h3⟩=>⟨a,vs,h1,e _ _ h2,Yx.mono e h3⟩
 | .scr _,_,⟨a,h1,h2⟩=>⟨a,h1,e.seq h2⟩
 | .exc _,_,⟨a,C,h1,h2,h3⟩=>⟨a,C,h1,h2,e _ _ h3⟩
 | .dic _ _,_,⟨a,vs,h1,⟨o,h2⟩,h4,h3⟩=>⟨a,vs,h1,⟨o,e _ _ h2⟩,h4,Yx.mono e h3⟩
theorem Yx.mono{K:zA}{H H':Hp}(e:Y7 H H'):∀{ds:List D}{vs:List V},Yx K H ds vs->Yx K H' ds vs
 | [],_,h=>h
 | _::_,_,⟨v,r,h1,h2,h3⟩=>⟨v,r,h1,Rep.mono e h2,Yx.mono e h3⟩
end
section
variable{K:zA}{H:Hp}
def Yx.nil:Yx K H [] []:=rfl
def Yx.cons{d:D}{ds:List D}{v:V}{vs:List V}(h:Rep K H d v)(t:Yx K H ds vs):Yx K H (d::ds) (v::vs):=⟨v,vs,rfl,h,t⟩
theorem Yx.len:∀{ds:List D}{vs:List V},Yx K H ds vs->ds.length=vs.length
 | [],_,h=>by cases (show _=_ from h);rfl
 | _::_,_,⟨v,r,h1,_,h3⟩=>by rw[h1,zE,zE,Yx.len h3]
theorem Yx.app:∀{ds es:List D}{vs us:List V},Yx K H ds vs->Yx K H es us->Yx K H (ds++es) (vs++us)
 | [],_,_,_,h,t=>by cases (show _=_ from h);exact t
 | _::_,_,_,_,⟨v,r,h1,h2,h3⟩,t=>by rw[h1];exact⟨v,_,rfl,h2,Yx.app h3 t⟩
theorem Yx.get:∀{ds:List D}{vs:List V}{i:Nat}{d:D},Yx K H ds vs->ds[i]?=some d->∃v,vs[i]?=some v/\Rep K H d v
 | [],_,_,_,_,e=>by simp at e
 | _::_,_,0,_,⟨v,r,h1,h2,h3⟩,e=>by simp at e;subst e;rw[h1];exact⟨v,rfl,h2⟩
 | _::_,_,i+1,d,⟨v,r,h1,h2,h3⟩,e=>by
  obtain⟨u,e1,e2⟩:=Yx.get (i:=i) (d:=d) h3 ⇑e;exact⟨u,by rw[h1];simpa using e1,e2⟩
theorem Yx.take:∀{ds:List D}{vs:List V}(n:Nat),Yx K H ds vs->Yx K H (ds.take n) (vs.take n)
 | _,_,0,_=>rfl
 | [],_,_+1,h=>by cases (show _=_ from h);rfl
 | _::_,_,n+1,⟨v,r,h1,h2,h3⟩=>by rw[h1];exact⟨v,_,rfl,h2,Yx.take n h3⟩
theorem Yx.drop:∀{ds:List D}{vs:List V}(n:Nat),Yx K H ds vs->Yx K H (ds.drop n) (vs.drop n)
 | _,_,0,h=>h
 | [],_,_+1,h=>by cases (show _=_ from h);rfl
 | _::_,_,n+1,⟨v,r,h1,h2,h3⟩=>by rw[h1];exact Yx.drop n h3
theorem Yx.ints:∀(ns:List Int),Yx K H (ns.map D.int) (ns.map V.int)
 | []=>rfl
 | n::r=>⟨.int n,_,rfl,rfl,Yx.ints r⟩
theorem Yx.of_ints:∀{ns:List Int}{vs:List V},Yx K H (ns.map D.int) vs->vs=ns.map V.int
 | [],_,h=>h
 | n::r,_,⟨v,vs,h1,h2,h3⟩=>by
  have:=Yx.of_ints h3;have e:v=.int n:=h2;rw[h1,this,e];rfl
def Yx.one{d:D}{vs:List V}(h:Yx K H [d] vs):∃v,vs=[v]/\Rep K H d v:=by
 obtain⟨v,r,h1,h2,h3⟩:=h;cases (show r=[]from h3);exact⟨v,h1,h2⟩
def Yx.two{d e:D}{vs:List V}(h:Yx K H [d,e] vs):∃v u,vs=[v,u]/\Rep K H d v/\Rep K H e u:=by
 obtain⟨v,r,h1,h2,h3⟩:=h;obtain⟨u,rfl,h4⟩:=Yx.one h3;exact⟨v,u,h1,h2,h4⟩
end
structure Ext (G H G' H':Hp):Prop where
 gg:Y7 G G'
 gh:Y7 G' H'
 hh:Y7 H H'
 new:∀b,G b=none->H b≠none->G' b=none
theorem Ext.refl{G H:Hp}(h:Y7 G H):Ext G H G H:=⟨Y7.refl _,h,Y7.refl _,λ_ e _=>e⟩
theorem Ext.trans{G H G1 H1 G2 H2:Hp}(a:Ext G H G1 H1)(b:Ext G1 H1 G2 H2):Ext G H G2 H2:=by
 refine⟨a.gg.trans b.gg,b.gh,a.hh.trans b.hh,λc h1 h2=>?_⟩;have e1:=a.new c h1 h2;refine b.new c e1 λz=>h2 ?_;exact a.hh.free z
def Xz{H:Hp}{p:vJ}(h:H p=none)(o:HO):Y7 H (upd H p o):=λb u q=>by rw[qd (q0v q h)];exact q
def zAa{G H:Hp}{p:vJ}(e:Y7 G H)(o:HO):Y7 (upd G p o) (upd H p o):=λb u q=>by
 by_cases z:b=p
 ·subst z;rw[qe]at q ⊢;exact q
 ·rw[qd z]at q ⊢;exact e b u q
def Y3{G H:Hp}{p:vJ}(e:Y7 G H)(h:G p=none)(o:HO):Y7 G (upd H p o):=λb u q=>by rw[qd (q0v q h)];exact e b u q
def Ext.lay{G H:Hp}{p:vJ}(e:Y7 G H)(h:H p=none)(o:HO):Ext G H (upd G p o) (upd H p o):=by
 have g:G p=none:=e.free h;refine⟨Xz g o,zAa e o,Xz h o,λb h1 h2=>?_⟩
 by_cases z:b=p
 ·subst z;exact vK h h2
 ·rw[qd z];exact h1
def Ext.hide{G H:Hp}{p:vJ}(e:Y7 G H)(h:H p=none)(o:HO):Ext G H G (upd H p o) :=
 ⟨Y7.refl _,Y3 e (e.free h) o,Xz h o,λ_ z _=>z⟩
inductive W where
 | sh (d:D)|ow (ds:List D)|od (ks:List Int) (ds:List D)|pw (ds:List D)
abbrev WSt:=List (Option W)
structure Fr where
 hp:Hp
 pin:Nat->vJ
noncomputable instance:CoeFun Fr λ_=>Hp:=⟨Fr.hp⟩
noncomputable instance:Coe Fr Hp:=⟨Fr.hp⟩
noncomputable def fr(H:Hp):Fr:=⟨H,λ_=>0⟩
def X4(K:zA)(F:Fr)(G:Hp)(ω:WSt)(σ:St)(H:Hp):Prop:=∀(i:Nat)ds,ω[i]?=some (some (.pw ds))->∃vs,σ[i]?=some (some (.ref (F.pin i)))/\H (F.pin i)=some (.lst vs)/\G (F.pin i)=none/\F.hp (F.pin i)=none/\Yx K G ds vs /\
 (∀(j:Nat)es,ω[j]?=some (some (.pw es))->F.pin j=F.pin i->j=i)/\∀(j:Nat)es,ω[j]?=some (some (.ow es))->σ[j]?≠some (some (.ref (F.pin i)))
def X4.keep{K:zA}{F:Fr}{G G':Hp}{ω:WSt}{σ:St}{H H':Hp}(o:X4 K F G ω σ H)(e:Ext G H G' H'):X4 K F G' ω σ H':=λi ds h=>by
 obtain⟨vs,h1,h2,h3,h4,h5,h6⟩:=o i ds h;exact⟨vs,h1,e.hh _ _ h2,e.new _ h3 (by rw[h2];exact λz=>by cases z),h4,h5.mono e.gg,h6⟩
def X4.no{K:zA}{F:Fr}{G:Hp}{ω:WSt}{σ:St}{H:Hp}(h:∀(i:Nat)ds,ω[i]?≠some (some (.pw ds))):X4 K F G ω σ H:=λi ds e=>vK e (h i ds)
structure Own (K:zA) (G0:Hp) (H0:Fr) (G:Hp) (ω:WSt) (σ:St) (H:Hp):Prop where
 ext:Ext G0 H0.hp G H
 len:ω.length=σ.length
 sh:∀(i:Nat)d,ω[i]?=some ↥d->∃v,σ[i]?=some (some v)/\Rep K G d v
 ow:∀(i:Nat)ds,ω[i]?=some (some (.ow ds))->∃l vs,σ[i]?=some (some (.ref l))/\H l=some (.lst vs)/\G l=none/\H0 l=none/\Yx K G ds vs
 nd:∀(i j:Nat)ds es l,ω[i]?=some (some (.ow ds))->ω[j]?=some (some (.ow es))->σ[i]?=some (some (.ref l))->σ[j]?=some (some (.ref l))->i=j
 od:∀(i:Nat)ks ds,ω[i]?=some (some (.od ks ds))->∃p vs,σ[i]?=some (some (.ref p))/\H p=some (.dK (kvsOf ks vs))/\G p=none/\H0 p=none/\ks.length=ds.length/\Yx K G ds vs /\
  ∀(j:Nat)ks' es,ω[j]?=some (some (.od ks' es))->σ[j]?=some (some (.ref p))->i=j
 pw:X4 K H0 G ω σ H
inductive R where
 | sh (d:D)|fr (ds:List D)|vw (ds:List D)
noncomputable def R.d:R->D
 | .sh d=>d
 | .fr ds=>.lst ds
 | .vw ds=>.lst ds
def zCJ(K:zA)(H G' H':Hp):R->V->Prop
 | .sh d,v=>Rep K G' d v
 | .fr ds,v=>∃l vs,v=.ref l/\H l=none/\G' l=none/\H' l=some (.lst vs)/\Yx K G' ds vs
 | .vw ds,v=>∃l vs,v=.ref l/\H' l=some (.lst vs)/\Yx K G' ds vs
def Vw(K:zA)(G H:Hp)(d:D)(v:V):Prop:=Rep K G d v\/∃ds l vs,d=.lst ds/\v=.ref l/\H l=some (.lst vs)/\Yx K G ds vs
theorem Own.keep{K:zA}{G0:Hp}{H0:Fr}{G G':Hp}{ω:WSt}{σ:St}{H H':Hp}(o:Own K G0 H0 G ω σ H)(e:Ext G H G' H'):Own K G0 H0 G' ω σ H':=by
 refine⟨o.ext.trans e,o.len,λi d h=>?_,λi ds h=>?_,o.nd,λi ks ds h=>?_,o.pw.keep e⟩
 ·obtain⟨v,h1,h2⟩:=o.sh i d h
  exact⟨v,h1,h2.mono e.gg⟩
 ·obtain⟨l,vs,h1,h2,h3,h4,h5⟩:=o.ow i ds h
  exact⟨l,vs,h1,e.hh _ _ h2,e.new l h3 (by rw[h2];exact λz=>by cases z),h4,h5.mono e.gg⟩
 ·obtain⟨l,vs,h1,h2,h3,h4,h6,h5,h7⟩:=o.od i ks ds h
  exact⟨l,vs,h1,e.hh _ _ h2,e.new l h3 (by rw[h2];exact λz=>by cases z),h4,h6,h5.mono e.gg,h7⟩
theorem Own.gh{K:zA}{G0:Hp}{H0:Fr}{G:Hp}{ω:WSt}{σ:St}{H:Hp}(o:Own K G0 H0 G ω σ H):Y7 G H:=o.ext.gh
noncomputable abbrev FE:=WSt->Option R
noncomputable abbrev FD:=WSt->Option D
noncomputable abbrev FT:=WSt->Option Bool
noncomputable abbrev FA:=WSt->Option (List D)
def zCy(K:zA)(t:TE)(f:FE):Prop:=∀G0 H0 G ω σ H r(Q:VK),Own K G0 H0 G ω σ H->f ω=some r ->
 (∀v G' H',Ext G H G' H'->zCJ K H G' H' r v->Q v H')->t σ H Q
def zBi(K:zA)(t:TE)(f:FD):Prop:=∀G0 H0 G ω σ H d(Q:VK),Own K G0 H0 G ω σ H->f ω=some d ->
 (∀v G' H',Ext G H G' H'->Rep K G' d v->Q v H')->t σ H Q
def SimV(K:zA)(t:TE)(f:FD):Prop:=∀G0 H0 G ω σ H d(Q:VK),Own K G0 H0 G ω σ H->f ω=some d ->
 (∀v G' H',Ext G H G' H'->Vw K G' H' d v->Q v H')->t σ H Q
def zAu(K:zA)(t:TT)(f:FT):Prop:=∀G0 H0 G ω σ H b(Q:Bool->Hp->Prop),Own K G0 H0 G ω σ H->f ω=some b ->
 (∀G' H',Ext G H G' H'->Q b H')->t σ H Q
def SimA(K:zA)(t:TA)(f:FA):Prop:=∀G0 H0 G ω σ H ds(Q:List V->Hp->Prop),Own K G0 H0 G ω σ H->f ω=some ds ->
 (∀vs G' H',Ext G H G' H'->Yx K G' ds vs->Q vs H')->t σ H Q
def XE(X:Cx)(e:vW)(f:FE):Prop:=∃t,PE X e t/\zCy X.K t f
def XD(X:Cx)(e:vW)(f:FD):Prop:=∃t,PE X e t/\zBi X.K t f
def XV(X:Cx)(e:vW)(f:FD):Prop:=∃t,PE X e t/\SimV X.K t f
def XT(X:Cx)(e:vW)(f:FT):Prop:=∃t,PT X e t/\zAu X.K t f
def XW(X:Cx)(e:vW)(f:FT):Prop:=∃t,PW X e t/\zAu X.K t f
def XA(X:Cx)(es:List vW)(f:FA):Prop:=(∃t,PA X es t/\SimA X.K t f)/\∀ω ds,f ω=some ds->ds.length=es.length
noncomputable def eOf(f:FD):FE:=λω=>(f ω).map R.sh
noncomputable def dOf(f:FE):FD:=λω=>match f ω with
 | ↥d=>some d
 | some (.fr ds)=>some (.lst ds)
 | _=>none
noncomputable def vOf(f:FE):FD:=λω=>(f ω).map R.d
section
variable{X:Cx}{e:vW}
def XD.toE{f:FD}(h:XD X e f):XE X e (eOf f):=by
 obtain⟨t,h1,h2⟩:=h;refine⟨t,h1,λG0 H0 G ω σ H r Q o e k=>?_⟩;unfold eOf at e;cases q:f ω with
 | none=>rw[q]at e;cases e
 | some d=>rw[q]at e;cases e;exact h2 G0 H0 G ω σ H d Q o q k
def XE.toD{f:FE}(h:XE X e f):XD X e (dOf f):=by
 obtain⟨t,h1,h2⟩:=h;refine⟨t,h1,λG0 H0 G ω σ H d Q o e k=>?_⟩;unfold dOf at e;cases q:f ω with
 | none=>rw[q]at e;cases e
 | some r=>
  rw[q]at e;cases r with
  | sh d'=>cases e;exact h2 G0 H0 G ω σ H _ Q o q k
  | fr ds=>
   cases e;refine h2 G0 H0 G ω σ H _ Q o q λv G' H' x ⟨l,vs,e1,e2,e3,e4,e5⟩=>?_;have s1:Y7 G' (upd G' l (.lst vs)):=Xz e3 _;refine k v (upd G' l (.lst vs)) H' ⟨x.gg.trans s1,λb u z=>?_,x.hh,λb z1 z2=>?_⟩ ⟨l,vs,e1,qe,e5.mono s1⟩
   ·by_cases hb:b=l
    ·subst hb;rw[qe]at z;rw[e4];exact z
    ·rw[qd hb]at z;exact x.gh b u z
   ·rw[qd (λhb=>z2 (by rw[hb];exact e2))];exact x.new b z1 z2
  | vw ds=>cases e
def XE.toV{f:FE}(h:XE X e f):XV X e (vOf f):=by
 obtain⟨t,h1,h2⟩:=h;refine⟨t,h1,λG0 H0 G ω σ H d Q o e k=>?_⟩;unfold vOf at e;cases q:f ω with
 | none=>rw[q]at e;cases e
 | some r=>
  rw[q]at e;have e':r.d=d:=zj e;subst e';refine h2 G0 H0 G ω σ H r Q o q λv G' H' x y=>k v G' H' x ?_;cases r with
  | sh d'=>exact .inl y
  | fr ds=>obtain⟨l,vs,e1,e2,e3,e4,e5⟩:=y;exact .inr ⟨ds,l,vs,rfl,e1,e4,e5⟩
  | vw ds=>obtain⟨l,vs,e1,e2,e3⟩:=y;exact .inr ⟨ds,l,vs,rfl,e1,e2,e3⟩
def XD.toV{f:FD}(h:XD X e f):XV X e f:=by
 obtain⟨t,h1,h2⟩:=h;exact⟨t,h1,λG0 H0 G ω σ H d Q o e k=>h2 G0 H0 G ω σ H d Q o e λv G' H' x y=>k v G' H' x (.inl y)⟩
end
noncomputable def Yr(i:Nat):FE:=λω=>match ω[i]? with
 | some ↥d=>↥d
 | some (some (.ow ds))=>some (.vw ds)
 | some (some (.pw ds))=>some (.vw ds)
 | _=>none
noncomputable def fC(d:D):FD:=λ_=>some d
section
variable{X:Cx}
def zBT{e:vW}(i:Nat)(h:PE X e (Xg i)):XE X e (Yr i):=by
 refine⟨_,h,λG0 H0 G ω σ H r Q o e k=>?_⟩;unfold Yr at e;cases q:ω[i]? with
 | none=>rw[q]at e;cases e
 | some w=>
  rw[q]at e;cases w with
  | none=>cases e
  | some w=>
   cases w with
   | sh d=>
    cases e;obtain⟨v,h1,h2⟩:=o.sh i d q;exact⟨v,h1,k v G H (Ext.refl o.gh) h2⟩
   | ow ds=>
    cases e;obtain⟨l,vs,h1,h2,h3,h4,h5⟩:=o.ow i ds q;exact⟨_,h1,k _ G H (Ext.refl o.gh) ⟨l,vs,rfl,h2,h5⟩⟩
   | od ks ds=>cases e
   | pw ds=>
    cases e;obtain⟨vs,h1,h2,h3,h4,h5,_⟩:=o.pw i ds q;exact⟨_,h1,k _ G H (Ext.refl o.gh) ⟨_,vs,rfl,h2,h5⟩⟩
def xd_c{e:vW}{v:V}{d:D}(h:PE X e (tC v))(hr:∀K H,Rep K H d v):XD X e (fC d):=by
 refine⟨_,h,λG0 H0 G ω σ H r Q o e k=>?_⟩;cases e;exact k v G H (Ext.refl o.gh) (hr _ _)
def Yq{i j pos}:XD X (.Constant (.int i) j pos) (fC (.int i)):=xd_c qhh λ_ _=>rfl
def X9{b j pos}:XD X (.Constant (.bool b) j pos) (fC (.bl b)):=xd_c qhG λ_ _=>rfl
def zAR{j pos}:XD X (.Constant .none j pos) (fC .non):=xd_c qgd λ_ _=>rfl
def WY{x j pos}:XD X (.Constant (.str x) j pos) (fC (.str x)):=xd_c qgz λ_ _=>rfl
end
def bnd{α β:Type}{o:Option α}{f:α->Option β}{r:β}(h:o.bind f=some r):∃a,o=some a/\f a=some r:=wG.mp h
def mpd{α β:Type}{o:Option α}{f:α->β}{r:β}(h:o.map f=some r):∃a,o=some a/\f a=r:=wK.mp h
noncomputable def Yz:FA:=λ_=>some []
noncomputable def Yp(f:FD)(g:FA):FA:=λω=>(f ω).bind λd=>(g ω).map λds=>d::ds
section
variable{X:Cx}{e:vW}{es:List vW}
def Yu:XA X [] Yz:=⟨⟨_,qz,λG0 H0 G ω σ H ds Q o e k=>by cases e;exact k [] G H (Ext.refl o.gh) rfl⟩,λω ds e=>by cases e;rfl⟩
def Yo{f:FD}{g:FA}(h:XD X e f)(hr:XA X es g)(hs:vL (e::es) X.env=(false,eval e X.env)::vL es X.env:=by rfl):XA X (e::es) (Yp f g):=by
 obtain⟨t,h1,h2⟩:=h;obtain⟨⟨u,h3,h4⟩,h5⟩:=hr;refine⟨⟨_,qA h1 h3 hs,λG0 H0 G ω σ H ds Q o e k=>?_⟩,λω ds e=>?_⟩
 ·obtain⟨d,q,e⟩:=bnd e
  obtain⟨r,q2,e⟩:=mpd e;subst e;refine h2 G0 H0 G ω σ H d _ o q λv G1 H1 x1 y1=>?_;refine h4 G0 H0 G1 ω σ H1 r _ (o.keep x1) q2 λvs G2 H2 x2 y2=>?_;exact k _ G2 H2 (x1.trans x2) (Yx.cons (y1.mono x2.gg) y2)
 ·obtain⟨d,q,e⟩:=bnd e
  obtain⟨r,q2,e⟩:=mpd e;subst e;rw[zE,zE,h5 ω r q2]
noncomputable def zAg(g:FA):FD:=λω=>(g ω).map D.tup
noncomputable def zAN(g:FA):FE:=λω=>(g ω).map R.fr
def zBa{n:Nat}(h:n<=1000):n<=sizeLine:=yf (zBn h)
def Xt{x1 pos}{g:FA}(h:XA X es g)(hl:es.length<=1000:=by decide):XD X (.Tuple es x1 pos) (zAg g):=by
 obtain⟨⟨t,h1,h2⟩,h5⟩:=h;refine⟨_,qgI h1,λG0 H0 G ω σ H d Q o e k=>?_⟩;obtain⟨ds,q,e⟩:=mpd e;subst e;refine h2 G0 H0 G ω σ H ds _ o q λvs G1 H1 x1 y1=>⟨zBa (by rw[<- y1.len,h5 ω ds q];exact hl),λp hp=>?_⟩;have x2:=Ext.lay x1.gh hp (.tup vs);exact k _ _ _ (x1.trans x2) ⟨p,vs,rfl,qe,y1.mono x2.gg⟩
def Xe{pos}{g:FA}(h:XA X es g)(hl:es.length<=1000:=by decide):XE X (.List es pos) (zAN g):=by
 obtain⟨⟨t,h1,h2⟩,h5⟩:=h;refine⟨_,q2J h1,λG0 H0 G ω σ H d Q o e k=>?_⟩;obtain⟨ds,q,e⟩:=mpd e;subst e;refine h2 G0 H0 G ω σ H ds _ o q λvs G1 H1 x1 y1=>⟨zBa (by rw[<- y1.len,h5 ω ds q];exact hl),λp hp=>?_⟩;have x2:=Ext.hide x1.gh hp (.lst vs);exact k _ _ _ (x1.trans x2) ⟨p,vs,rfl,x1.hh.free hp,x1.gh.free hp,qe,y1⟩
inductive O where
 | sh (d:D)|fr (ds:List D)
noncomputable def O.r:O->R
 | .sh d=>.sh d
 | .fr ds=>.fr ds
noncomputable def spD(K:zA)(n:Nat)(m:List D->Option O):Sp:=λvs H Q _=>∃G ds r,m ds=some r/\ds.length=n/\Y7 G H/\Yx K G ds vs/\∀v G' H',Ext G H G' H'->zCJ K H G' H' r.r v->Q v H'
noncomputable def Y1(m:List D->Option O)(g:FA):FE:=λω=>(g ω).bind λds=>(m ds).map O.r
def zCP{CX:CXT}{k:Nat}{f:vJ}{fd:vP}{ps:List Str}{m:List D->Option O}{E:XK}{x:Str}{p pos:Pos}{g:FA}(F:FnOk X.prog X.w X.K X.mg X.base CX k f fd ps (spD X.K (e::es).length m))(hr:Room k X.A)(hg:Gl X x)(hm:X.mg x=some (.ref f))(hk:xQ X.K (.ref f)=true)(hb:Binds X.K fd ps [])(hx:zAv CX X E)(ha:XA X (e::es) g)(hdb:(x==("__debug__" : Str))=false:=by decide)(he:vL (e::es) X.env=(false,eval e X.env)::vL es X.env:=by rfl)(hpl:(v4 pos (vL es X.env)).any (·.1)=false:=by rfl):
  XE X (.Call (.Name x p) (e::es) [] pos) (Y1 m g):=by
 obtain⟨⟨t,h1,h2⟩,h5⟩:=ha;refine⟨_,q6a F hr hg hm hk hb .nil hx h1 hdb he hpl,λG0 H0 G ω σ H r Q o e k=>?_⟩;obtain⟨ds,q,e⟩:=bnd e;obtain⟨r',q2,e⟩:=mpd e;subst e;refine h2 G0 H0 G ω σ H ds _ o q λvs G1 H1 x1 y1=>?_;refine⟨G1,ds,r',q2,h5 ω ds q,x1.gh,by rw[zn];exact y1,λv G2 H2 x2 y2=>k v G2 H2 (x1.trans x2) ?_⟩;cases r' with
 | sh d=>exact y2
 | fr ds=>obtain⟨l,vs,e1,e2,e3⟩:=y2;exact⟨l,vs,e1,x1.hh.free e2,e3⟩
end
open PySem.Spec PyProof.Rows PySem.SeqAt PySem.MeetsSeq PySem.MeetsSeq2 PySem.MeetsSeq3 in
def q7w{prog:vQ}{w:vZ}{A:vb}{E:vB->vG->Prop}{s:vG}{t sl:vJ}{items:Array vB}{vl vu:vB}{lo hi:Option Int}{Q:vB->vG->Prop}(ht:IsTup s.heap t items)(hs:s.heap.IsSliceOf sl vl vu .none)(pl:tQ vl lo)(pu:tQ vu hi)(hw:HT.sIx items.size 0 lo=0/\HT.sIx items.size items.size hi=items.size)(h:Q (.ref t) s):vN (model prog w) A (uz (.ref t) (.ref sl)) Q E s:=by
 obtain⟨os,hos,hcs,hds⟩:=id hs;have hTs:s.TypeIs (.ref sl) "slice" := ⟨os,hos,hcs⟩;unfold uz
 try with_reducible refine vh ?_
 first|refine vA (vH ?_)|skip
 refine vA (wpAny_sequenceKey ht.typeIs (by decide) ?_);refine vA (wpAny_callSpecial?_slot (name:=Str.ofString "__getitem__") ht.typeIs PyProof.Rows.slot_tuple_getitem
  (ve PyProof.Rows.slot_tuple_getitem ht.typeIs entry_tuple_getitem ?_ (sC _ _)))
 show vN _ _ (Builtin.Tuple.tupleItemsOf (.ref t) >>= _) _ _ s;refine vA (tupleItemsOf_ ht ?_);refine vA (uj hTs ?_);rw[vC (by decide)];refine vA (HT.q2x hs pl pu ?_);have hy:(((HT.sIx items.size 0 lo:Nat):Int)==0&&(1:Int)==1&&(HT.sIx items.size items.size hi-HT.sIx items.size 0 lo)==items.size)=true:=by
  rw[hw.1,hw.2];simp
 show vN _ _ (if (((HT.sIx items.size 0 lo:Nat):Int)==0&&(1:Int)==1&&(HT.sIx items.size items.size hi-HT.sIx items.size 0 lo)==items.size)=true then _ else _) _ _ s;rw[vC hy];have hb:∀{R:Bool->vG->Prop},R true s->vN (model prog w) A.in1 (Builtin.Tuple.tupleIsExact (.ref t)) R E s:=λr=>by
  unfold Builtin.Tuple.tupleIsExact;refine vA (uj ht.typeIs ?_);exact vH r
 refine vA (hb ?_);rw[vC rfl];refine vA (uD ?_);exact vH ⟨_,rfl,vH h⟩
section
variable{X:Cx}
def rSlW(K:zA):V->Option Int->Option Int->Hp->VK->Prop:=λx lo hi H Q=>∃a xs,x=.ref a/\SqT K H a xs /\
 (HT.sIx xs.length 0 lo=0/\HT.sIx xs.length xs.length hi=xs.length)/\Q (.ref a) H
def qen:SlR X (rSlW X.K):=by
 intro pins s σ H x v vl vu lo hi sl Q I rx hs pl pu h;obtain⟨a,xs,rfl,hx,hw,q⟩:=h;cases rx;obtain⟨its,r,ht,hz⟩:=I.tuple hx;have hlen:its.toArray.size=xs.length:=by rw[zP];exact r.length.symm
 refine⟨"tuple", _,PyProof.Rows.slot_tuple_getitem.lookup,ht.typeIs,?_⟩;exact q7w ht hs pl pu (by rw[hlen];exact hw) ⟨.ref a,H,I,rfl,q⟩
end
def Vw.rep{K:zA}{G H:Hp}{d:D}{v:V}(h:Vw K G H d v)(e:Y7 G H):Rep K H d v:=by
 rcases h with h|⟨ds,l,vs,rfl,rfl,h1,h2⟩
 ·exact h.mono e
 ·exact⟨l,vs,rfl,h1,h2.mono e⟩
def Vw.keep{K:zA}{G H G' H':Hp}{d:D}{v:V}(h:Vw K G H d v)(e:Ext G H G' H'):Vw K G' H' d v:=by
 rcases h with h|⟨ds,l,vs,h0,h1,h2,h3⟩
 ·exact .inl (h.mono e.gg)
 ·exact .inr ⟨ds,l,vs,h0,h1,e.hh _ _ h2,h3.mono e.gg⟩
theorem Vw.lst{K:zA}{G H:Hp}{ds:List D}{v:V}(h:Vw K G H (.lst ds) v)(e:Y7 G H):∃a vs,v=.ref a/\H a=some (.lst vs)/\Yx K G ds vs:=by
 rcases h with⟨a,vs,h1,h2,h3⟩|⟨ds',l,vs,h0,h1,h2,h3⟩
 ·exact⟨a,vs,h1,e _ _ h2,h3⟩
 ·cases h0;exact⟨l,vs,h1,h2,h3⟩
def Vw.of_ne{K:zA}{G H:Hp}{d:D}{v:V}(h:Vw K G H d v)(n:∀ds,d≠.lst ds):Rep K G d v:=by
 rcases h with h|⟨ds',l,vs,h0,h1,h2,h3⟩
 ·exact h
 ·exact vK h0 (n _)
def VwA(K:zA)(G H:Hp):List D->List V->Prop
 | [],vs=>vs=[]
 | d::ds,vs=>∃v r,vs=v::r/\Vw K G H d v/\VwA K G H ds r
def SimVA(K:zA)(t:TA)(f:FA):Prop:=∀G0 H0 G ω σ H ds(Q:List V->Hp->Prop),Own K G0 H0 G ω σ H->f ω=some ds ->
 (∀vs G' H',Ext G H G' H'->VwA K G' H' ds vs->Q vs H')->t σ H Q
def XVA(X:Cx)(es:List vW)(f:FA):Prop:=∃t,PA X es t/\SimVA X.K t f
section
variable{X:Cx}{e:vW}{es:List vW}
def qi:XVA X [] Yz:=⟨_,qz,λG0 H0 G ω σ H ds Q o e k=>by cases e;exact k [] G H (Ext.refl o.gh) rfl⟩
def qh{f:FD}{g:FA}(h:XV X e f)(hr:XVA X es g)(hs:vL (e::es) X.env=(false,eval e X.env)::vL es X.env:=by rfl):XVA X (e::es) (Yp f g):=by
 obtain⟨t,h1,h2⟩:=h;obtain⟨u,h3,h4⟩:=hr;refine⟨_,qA h1 h3 hs,λG0 H0 G ω σ H ds Q o e k=>?_⟩;obtain⟨d,q,e⟩:=bnd e;obtain⟨r,q2,e⟩:=mpd e;subst e;refine h2 G0 H0 G ω σ H d _ o q λv G1 H1 x1 y1=>?_;refine h4 G0 H0 G1 ω σ H1 r _ (o.keep x1) q2 λvs G2 H2 x2 y2=>?_;exact k _ G2 H2 (x1.trans x2) ⟨v,vs,rfl,y1.keep x2,y2⟩
noncomputable def Yv(op:D->D->Option R)(f g:FD):FE:=λω=>(f ω).bind λx=>(g ω).bind λy=>op x y
def OpV(K:zA)(r:R2)(op:D->D->Option R):Prop:=∀G H x y d v u(Q:VK),Y7 G H->op x y=some d->Vw K G H x v->Vw K G H y u ->
 (∀w G' H',Ext G H G' H'->zCJ K H G' H' d w->Q w H')->r v u H Q
def q4D{r:R2}{o:D->D->Option R}{f g:FD}{t u:TE}(hd:OpV X.K r o)(h2:SimV X.K t f)(h4:SimV X.K u g):zCy X.K (tOp r t u) (Yv o f g):=by
 intro G0 H0 G ω σ H d Q ow e k;obtain⟨x,q,e⟩:=bnd e;obtain⟨y,q2,e⟩:=bnd e;refine h2 G0 H0 G ω σ H x _ ow q λv G1 H1 x1 y1=>?_;refine h4 G0 H0 G1 ω σ H1 y _ (ow.keep x1) q2 λv2 G2 H2 x2 y2=>?_;refine hd G2 H2 x y d v v2 Q x2.gh e (y1.keep x2) y2 λw G3 H3 x3 z=>k w G3 H3 ((x1.trans x2).trans x3) ?_;cases d with
 | sh d=>exact z
 | fr ds=>obtain⟨l,vs,e1,e2,e3⟩:=z;exact⟨l,vs,e1,(x1.trans x2).hh.free e2,e3⟩
 | vw ds=>exact z
variable{a b:vW}{pos:Pos}{f g:FD}
def q2T{op:Operator}{r:R2}{o:D->D->Option R}(ho:OpR X (uP op) r)(hd:OpV X.K r o)(ha:XV X a f)(hb:XV X b g):XE X (.BinOp a op b pos) (Yv o f g):=by
 obtain⟨t,h1,h2⟩:=ha;obtain⟨u,h3,h4⟩:=hb;exact⟨_,qhy ho h1 h3,q4D hd h2 h4⟩
def q3s{op:sL}{r:R2}{o:D->D->Option R}(ho:OpR X (uC op) r)(hd:OpV X.K r o)(ha:XV X a f)(hb:XV X b g)(hm:v5 op b=false):XE X (.Compare a [op] [b] pos) (Yv o f g):=by
 obtain⟨t,h1,h2⟩:=ha;obtain⟨u,h3,h4⟩:=hb;exact⟨_,qg8 ho h1 h3 hm,q4D hd h2 h4⟩
def qhs{r:R2}{o:D->D->Option R}(ho:IxR X r)(hd:OpV X.K r o)(ha:XV X a f)(hb:XV X b g)(hs:zAk b):XE X (.Subscript a b pos) (Yv o f g):=by
 obtain⟨t,h1,h2⟩:=ha;obtain⟨u,h3,h4⟩:=hb;exact⟨_,qhI ho h1 h3 hs,q4D hd h2 h4⟩
noncomputable def tOf(f:FE):FT:=λω=>match f ω with
 | ↥(.bl k)=>some k
 | _=>none
def qca{t:TE}{f:FE}(h:zCy X.K t f):zAu X.K (tTest t) (tOf f):=by
 intro G0 H0 G ω σ H b Q o e k;unfold tOf at e;cases q:f ω with
 | none=>rw[q]at e;cases e
 | some r=>
  rw[q]at e;cases r with
  | sh d=>
   cases d with
   | bl c=>
    cases e;refine h G0 H0 G ω σ H _ _ o q λv G' H' x y=>?_;cases (show v=V.bl b from y);exact⟨b,rfl,k G' H' x⟩
   | _=>cases e
  | _=>cases e
def q1O{op:sL}{r:R2}{o:D->D->Option R}(ho:OpR X (uC op) r)(hd:OpV X.K r o)(ha:XV X a f)(hb:XV X b g)(hm:v5 op b=false):XT X (.Compare a [op] [b] pos) (tOf (Yv o f g)):=by
 obtain⟨t,h1,h2⟩:=ha;obtain⟨u,h3,h4⟩:=hb;exact⟨_,qf2 ho h1 h3 hm,qca (q4D hd h2 h4)⟩
noncomputable def zBK(c:Int->Int->Bool)(g:Int->Int->D):D->D->Option R
 | .int i,.int j=>if c i j=true then ↥(g i j)else none
 | _,_=>none
theorem Vw.int{K:zA}{G H:Hp}{i:Int}{v:V}(h:Vw K G H (.int i) v):v=.int i:=h.of_ne (λ_ z=>by cases z)
theorem Vw.bl{K:zA}{G H:Hp}{i:Bool}{v:V}(h:Vw K G H (.bl i) v):v=.bl i:=h.of_ne (λ_ z=>by cases z)
theorem Vw.str{K:zA}{G H:Hp}{i:Str}{v:V}(h:Vw K G H (.str i) v):v=.str i:=h.of_ne (λ_ z=>by cases z)
theorem Vw.non{K:zA}{G H:Hp}{v:V}(h:Vw K G H .non v):v=.non:=h.of_ne (λ_ z=>by cases z)
theorem Vw.tup{K:zA}{G H:Hp}{ds:List D}{v:V}(h:Vw K G H (.tup ds) v):∃a vs,v=.ref a/\G a=some (.tup vs)/\Yx K G ds vs:=h.of_ne (λ_ z=>by cases z)
theorem Vw.scr{K:zA}{G H:Hp}{ns:List Int}{v:V}(h:Vw K G H (.scr ns) v):∃a,v=.ref a/\SqL K G a (ns.map V.int):=h.of_ne (λ_ z=>by cases z)
def q4L{K:zA}{C:Int->Int->Prop}{c:Int->Int->Bool}{gV:Int->Int->V}{g:Int->Int->D}(hc:∀i j,c i j=true->C i j)(hg:∀H i j,Rep K H (g i j) (gV i j)):OpV K (rI C gV) (zBK c g):=by
 intro G H x y d v u Q s e hx hy k;cases x with
 | int i=>
  cases y with
  | int j=>
   cases hx.int;cases hy.int;unfold zBK at e
   dsimp only at e
   by_cases z:c i j=true
   ·rw[vC z]at e
    cases e;exact⟨i,j,rfl,rfl,hc i j z,k _ G H (Ext.refl s) (hg _ i j)⟩
   ·rw[vF z]at e;cases e
  | _=>cases e
 | _=>cases e
def q0Y{K:zA}{gV:Int->Int->V}{g:Int->Int->D}(hg:∀H i j,Rep K H (g i j) (gV i j)):OpV K (rI0 gV) (zBK (λ_ _=>true) g):=by
 intro G H x y d v u Q s e hx hy k;cases x with
 | int i=>
  cases y with
  | int j=>
   cases hx.int;cases hy.int;cases e;exact⟨i,j,rfl,rfl,k _ G H (Ext.refl s) (hg _ i j)⟩
  | _=>cases e
 | _=>cases e
noncomputable def zCT(i j:Int):Bool:=(decide (-(2^64)<i)&&decide (i<2^64)) || (decide (-(2^64)<j)&&decide (j<2^64))
def cDiv(_ j:Int):Bool:=decide (0<j)&&decide (j<1073741824)
def cMod(_ j:Int):Bool:=decide (0<j)
noncomputable def cPow(i j:Int):Bool:=decide (0<=j)&&decide (j<=1000000)&&decide (i.natAbs<2^64)
noncomputable abbrev zAV:D->D->Option R:=zBK (λ_ _=>true) λi j=>.int (i-j)
noncomputable abbrev zBG:D->D->Option R:=zBK zCT λi j=>.int (i*j)
noncomputable abbrev oDiv:D->D->Option R:=zBK cDiv λi j=>.int (i/j)
noncomputable abbrev oMod:D->D->Option R:=zBK cMod λi j=>.int (i%j)
noncomputable abbrev oPow:D->D->Option R:=zBK cPow λi j=>.int (i^j.toNat)
noncomputable abbrev oLt:D->D->Option R:=zBK (λ_ _=>true) λi j=>.bl (decide (i<j))
noncomputable abbrev oLe:D->D->Option R:=zBK (λ_ _=>true) λi j=>.bl (decide (i<=j))
noncomputable abbrev oGt:D->D->Option R:=zBK (λ_ _=>true) λi j=>.bl (decide (j<i))
noncomputable abbrev oGe:D->D->Option R:=zBK (λ_ _=>true) λi j=>.bl (decide (j<=i))
noncomputable def WR:D->D->Option R
 | .int i,.int j=>↥(.int (i+j))
 | .lst xs,.lst ys=>if xs.length+ys.length<=1000000 then some (.fr (xs++ys))else none
 | .tup [],.tup ys=>↥(.tup ys)
 | .tup (x::xs),.tup ys=>if (x::xs).length+ys.length<=1000000 then ↥(.tup ((x::xs)++ys))else none
 | _,_=>none
def q5l{n:Nat}(h:n<=1000000):n<=sizeLine:=by rw[vp];omega
noncomputable def rCat0(K:zA):R2:=λx y H Q=>∃a b ys,x=.ref a/\y=.ref b/\SqT K H a []/\SqT K H b ys/\Q (.ref b) H
def qeU:OpR X (uP .Add) (rCat0 X.K):=by
 intro pins s σ H x y v u Q I rx ry h;obtain⟨a,b,ys,rfl,rfl,ha,hb,q⟩:=h;cases rx;cases ry;obtain⟨its,r1,p1,_⟩:=I.tuple ha;obtain⟨its2,r2,p2,_⟩:=I.tuple hb;have e0:its=[]:=r1.nil_iff.mpr rfl;subst e0;obtain⟨⟨cls,dd,data,sl⟩,ho,hc,n,hd⟩:=id p1;obtain⟨⟨cls2,dd2,data2,sl2⟩,ho2,hc2,n2,hd2⟩:=id p2;simp only at hc hd hc2 hd2;subst hc hd hc2 hd2;exact PySem.concat_meets ⟨_,ho,rfl⟩ ⟨_,ho2,rfl⟩ PySem.noFill_tuple_add PySem.seq_tuple_add PySem.F.slot_tuple_add PySem.F.entry_tuple_add (PySem.F.args_tuple_add_2 _ _)
  (PyProof.Rows.tuple_addW0 a b _ its2.toArray n n2 dd dd2 sl sl2 (by simp)) ⟨ho,ho2,⟨.ref b,H,I,rfl,q⟩⟩
noncomputable def zBk(K:zA):R2:=λx y H Q=>rI0 (λi j=>.int (i+j)) x y H Q\/rCat x y H Q\/rCatT K x y H Q\/rCat0 K x y H Q
def qcS:OpR X (uP .Add) (zBk X.K):=qgh.or (qh0.or (qfq.or qeU))
def qfg{K:zA}:OpV K (zBk K) WR:=by
 intro G H x y d v u Q s e hx hy k;cases x with
 | int i=>
  cases y with
  | int j=>
   cases hx.int;cases hy.int;cases e;exact .inl ⟨i,j,rfl,rfl,k _ G H (Ext.refl s) rfl⟩
  | _=>cases e
 | lst xs=>
  cases y with
  | lst ys=>
   unfold WR at e
   dsimp only at e
   by_cases z:xs.length+ys.length<=1000000
   ·rw[vC z]at e
    cases e;obtain⟨a,vs,rfl,h1,h2⟩:=hx.lst s;obtain⟨b,us,rfl,h3,h4⟩:=hy.lst s;refine .inr (.inl ⟨a,b,vs,us,rfl,rfl,h1,h3,q5l (by rw[<- h2.len,<- h4.len];exact z),λp hp=>?_⟩);exact k _ G _ (Ext.hide s hp _) ⟨p,_,rfl,hp,s.free hp,qe,h2.app h4⟩
   ·rw[vF z]at e;cases e
  | _=>cases e
 | tup xs=>
  cases y with
  | tup ys=>
   obtain⟨a,vs,rfl,h1,h2⟩:=hx.tup;obtain⟨b,us,rfl,h3,h4⟩:=hy.tup;cases xs with
   | nil=>
    cases e;have ev:vs=[]:=ym h2.len.symm;subst ev;exact .inr (.inr (.inr ⟨a,b,us,rfl,rfl,SqT.of (s _ _ h1),SqT.of (s _ _ h3),k _ G H (Ext.refl s) ⟨b,us,rfl,h3,h4⟩⟩))
   | cons x0 xs=>
    unfold WR at e
    dsimp only at e
    by_cases z:(x0::xs).length+ys.length<=1000000
    ·rw[vC z]at e
     cases e;refine .inr (.inr (.inl ⟨a,b,vs,us,rfl,rfl,SqT.of (s _ _ h1),SqT.of (s _ _ h3),λw=>?_,q5l (by rw[<- h2.len,<- h4.len];exact z),λw=>?_,λ_ p hp=>?_⟩))
     ·have:=h2.len
      rw[w]at this;cases this
     ·have:=h4.len
      rw[w]at this;have ey:ys=[]:=ym this;subst ey;rw[zn]at k;exact k _ G H (Ext.refl s) ⟨a,vs,rfl,h1,h2⟩
     ·have x2:=Ext.lay s hp (.tup (vs++us))
      exact k _ _ _ x2 ⟨p,_,rfl,qe,(h2.app h4).mono x2.gg⟩
    ·rw[vF z]at e;cases e
  | _=>cases xs <;> cases e
 | _=>cases e
def qR(ha:XV X a f)(hb:XV X b g):XE X (.BinOp a .Add b pos) (Yv WR f g):=q2T qcS qfg ha hb
def q00(ha:XV X a f)(hb:XV X b g):XE X (.BinOp a .Sub b pos) (Yv zAV f g):=q2T qgo (q0Y λ_ _ _=>rfl) ha hb
def mulOk{i j:Int}(h:zCT i j=true):CMul i j:=by
 unfold zCT at h;rw[YU,zU,zU,decide_eq_true_iff,decide_eq_true_iff,decide_eq_true_iff,decide_eq_true_iff]at h;exact h
def divOk{i j:Int}(h:cDiv i j=true):CDiv i j:=by
 unfold cDiv at h;rw[zU,decide_eq_true_iff,decide_eq_true_iff]at h;exact h
def powOk{i j:Int}(h:cPow i j=true):CPow i j:=by
 unfold cPow at h;rw[zU,zU,decide_eq_true_iff,decide_eq_true_iff,decide_eq_true_iff]at h;exact⟨h.1.1,h.1.2,h.2⟩
def q4n(ha:XV X a f)(hb:XV X b g):XE X (.BinOp a .Mult b pos) (Yv zBG f g):=q2T qhb (q4L (λ_ _ h=>mulOk h) λ_ _ _=>rfl) ha hb
def q1o(ha:XV X a f)(hb:XV X b g):XE X (.BinOp a .FloorDiv b pos) (Yv oDiv f g):=q2T qeZ (q4L (λ_ _ h=>divOk h) λ_ _ _=>rfl) ha hb
def q0B(ha:XV X a f)(hb:XV X b g):XE X (.BinOp a .Mod b pos) (Yv oMod f g):=q2T qgy (q4L (λ_ _ h=>of_decide_eq_true h) λ_ _ _=>rfl) ha hb
def q8k(ha:XV X a f)(hb:XV X b g):XE X (.BinOp a .Pow b pos) (Yv oPow f g):=q2T qhd (q4L (λ_ _ h=>powOk h) λ_ _ _=>rfl) ha hb
def oNeg:D->Option R
 | .int i=>↥(.int (-i))
 | _=>none
noncomputable def zB1(f:FD):FE:=λω=>(f ω).bind oNeg
def q2v(ha:XV X a f):XE X (.UnaryOp .USub a pos) (zB1 f):=by
 obtain⟨t,h1,h2⟩:=ha;refine⟨_,qhw qgX h1,λG0 H0 G ω σ H d Q ow e k=>?_⟩;obtain⟨x,q,e⟩:=bnd e;refine h2 G0 H0 G ω σ H x _ ow q λv G1 H1 x1 y1=>?_;cases x with
 | int i=>cases e;cases y1.int;exact⟨i,rfl,k _ G1 H1 x1 rfl⟩
 | _=>cases e
def qbW(ha:XV X a f)(hb:XV X b g):XE X (.Compare a [.Lt] [b] pos) (Yv oLt f g):=q3s qeB (q0Y λ_ _ _=>rfl) ha hb (Xv _)
def qbi(ha:XV X a f)(hb:XV X b g):XE X (.Compare a [.LtE] [b] pos) (Yv oLe f g):=q3s qeQ (q0Y λ_ _ _=>rfl) ha hb (Xv _)
def qhA(ha:XV X a f)(hb:XV X b g):XE X (.Compare a [.GtE] [b] pos) (Yv oGe f g):=q3s qeJ (q0Y λ_ _ _=>rfl) ha hb (Xv _)
def q7F(ha:XV X a f)(hb:XV X b g):XT X (.Compare a [.Lt] [b] pos) (tOf (Yv oLt f g)):=q1O qeB (q0Y λ_ _ _=>rfl) ha hb (Xv _)
def qeN(ha:XV X a f)(hb:XV X b g):XT X (.Compare a [.LtE] [b] pos) (tOf (Yv oLe f g)):=q1O qeQ (q0Y λ_ _ _=>rfl) ha hb (Xv _)
def qhq(ha:XV X a f)(hb:XV X b g):XT X (.Compare a [.Gt] [b] pos) (tOf (Yv oGt f g)):=q1O qhv (q0Y λ_ _ _=>rfl) ha hb (Xv _)
def qbh(ha:XV X a f)(hb:XV X b g):XT X (.Compare a [.GtE] [b] pos) (tOf (Yv oGe f g)):=q1O qeJ (q0Y λ_ _ _=>rfl) ha hb (Xv _)
end
mutual
noncomputable def D.py:D->PyData
 | .non=>.none
 | .bl b=>.bool b
 | .int i=>.int i
 | .str x=>.str x
 | .lst xs=>.list (D.pys xs)
 | .tup xs=>.tuple (D.pys xs)
 | .scr ns=>.list (ns.map PyData.int)
 | .exc _=>.dict []
 | .dic _ _=>.dict []
noncomputable def D.pys:List D->List PyData
 | []=>[]
 | d::ds=>d.py::D.pys ds
end
section
variable{X:Cx}{pins:List (vJ×Obj)}{σ:St}{H:Hp}{s:vG}
theorem zAA{h:vn}:∀{ns:List Int}{us:List vB},XB (ns.map V.int) us->∃as,ReadsAll h us (ns.map PyData.int) as
 | [],_,r=>by cases r;exact⟨_,.nil⟩
 | n::ns,_,r=>by
  rw[zY]at r;cases r with
  | cons r1 r2=>
   obtain⟨t,rfl⟩:=r1;obtain⟨as,q⟩:=zAA (h:=h) r2;exact⟨_,.cons (.int n t) q⟩
mutual
theorem WQ(I:Inv X pins σ H s):∀{d:D}{v:V}{u:vB},d.py.canLay0=true->Rep X.K H d v->RelV v u->∃as,Reads s.heap u d.py as
 | .non,_,_,_,h,r=>by cases (show _=V.non from h);cases r;exact⟨_,.none⟩
 | .bl b,_,_,_,h,r=>by cases (show _=V.bl b from h);cases r;exact⟨_,.bool b⟩
 | .int i,_,_,_,h,r=>by cases (show _=V.int i from h);obtain⟨t,rfl⟩:=r;exact⟨_,.int i t⟩
 | .str x,_,_,_,h,r=>by cases (show _=V.str x from h);obtain⟨t,rfl⟩:=r;exact⟨_,.str x t⟩
 | .lst ds,_,_,hc,⟨a,vs,rfl,h2,h3⟩,r=>by
  cases r;obtain⟨its,n,rv,e,_⟩:=I.lst h2;obtain⟨as,q⟩:=Wl I (show PyData.canLayAll0 (D.pys ds)=true from hc) h3 rv;exact⟨_,.list e rfl rfl ⇑q⟩
 | .tup ds,_,_,hc,⟨a,vs,rfl,h2,h3⟩,r=>by
  cases r;obtain⟨its,rv,⟨o,e,c,n,dd⟩,_⟩:=I.tuple (SqT.of h2);obtain⟨as,q⟩:=Wl I (show PyData.canLayAll0 (D.pys ds)=true from hc) h3 rv;exact⟨_,.tuple e c dd ⇑q⟩
 | .exc _,_,_,hc,_,_=>by cases hc
 | .dic _ _,_,_,hc,_,_=>by cases hc
 | .scr ns,_,_,_,⟨a,rfl,h2⟩,r=>by
  cases r;obtain⟨its,rv,pl,_⟩:=I.list h2;obtain⟨o,e,c,n,dd⟩:=pl.isList;obtain⟨as,q⟩:=zAA (h:=s.heap) rv;exact⟨_,.list e c dd ⇑q⟩
theorem Wl(I:Inv X pins σ H s):∀{ds:List D}{vs:List V}{us:List vB},PyData.canLayAll0 (D.pys ds)=true->Yx X.K H ds vs->XB vs us->∃as,ReadsAll s.heap us (D.pys ds) as
 | [],_,_,_,h,r=>by cases (show _=[]from h);cases r;exact⟨_,.nil⟩
 | d::ds,_,_,hc,⟨v,vr,h1,h2,h3⟩,r=>by
  have hc':=xF.mp (show (d.py.canLay0&&PyData.canLayAll0 (D.pys ds))=true from hc);subst h1;cases r with
  | cons r1 r2=>
   obtain⟨as,q1⟩:=WQ I hc'.1 h2 r1;obtain⟨bs,q2⟩:=Wl I hc'.2 h3 r2;exact⟨_,.cons q1 q2⟩
end
end
noncomputable def shp(d:D):Bool:=SeqAt.shaped d.py
noncomputable def eqD(x y:D):Bool:=PyData.eqv x.py y.py
noncomputable def rEqD(K:zA)(neg:Bool):R2:=λx y H Q=>∃d e,Rep K H d x/\Rep K H e y/\shp d=true/\shp e=true/\Q (.bl (if neg then !eqD d e else eqD d e)) H
noncomputable def oEq(neg:Bool):D->D->Option R:=λx y=>if shp x&&shp y then ↥(.bl (if neg then !eqD x y else eqD x y))else none
section
variable{X:Cx}{a b:vW}{pos:Pos}{f g:FD}
def zCO(hu:X.A.units+64<ub):OpR X (uC .Eq) (rEqD X.K false):=by
 intro pins s σ H x y v u Q I rx ry h;obtain⟨d,e,h1,h2,h3,h4,q⟩:=h;obtain⟨as,ra⟩:=WQ I (SeqAt.canLay_of_shaped h3) h1 rx;obtain⟨bs,rb⟩:=WQ I (SeqAt.canLay_of_shaped h4) h2 ry;exact SeqAt.compareEq_shaped ra rb h3 h4 hu ⟨.bl _,H,I,rfl,q⟩
def zCH(hu:X.A.units+64<ub):OpR X (uC .NotEq) (rEqD X.K true):=by
 intro pins s σ H x y v u Q I rx ry h;obtain⟨d,e,h1,h2,h3,h4,q⟩:=h;obtain⟨as,ra⟩:=WQ I (SeqAt.canLay_of_shaped h3) h1 rx;obtain⟨bs,rb⟩:=WQ I (SeqAt.canLay_of_shaped h4) h2 ry;exact SeqAt.compareNe_shaped ra rb h3 h4 hu ⟨.bl _,H,I,rfl,q⟩
def zAz{K:zA}{neg:Bool}:OpV K (rEqD K neg) (oEq neg):=by
 intro G H x y d v u Q s e hx hy k;unfold oEq at e
 by_cases z:(shp x&&shp y)=true
 ·rw[vC z]at e
  cases e;rw[zU]at z;exact⟨x,y,hx.rep s,hy.rep s,z.1,z.2,k _ G H (Ext.refl s) rfl⟩
 ·rw[vF z]at e;cases e
def zAo(hu:X.A.units+64<ub)(ha:XV X a f)(hb:XV X b g):XE X (.Compare a [.Eq] [b] pos) (Yv (oEq false) f g):=q3s (zCO hu) zAz ha hb (Xv _)
def xe_ne(hu:X.A.units+64<ub)(ha:XV X a f)(hb:XV X b g):XE X (.Compare a [.NotEq] [b] pos) (Yv (oEq true) f g):=q3s (zCH hu) zAz ha hb (Xv _)
def zBy(hu:X.A.units+64<ub)(ha:XV X a f)(hb:XV X b g):XT X (.Compare a [.Eq] [b] pos) (tOf (Yv (oEq false) f g)):=q1O (zCO hu) zAz ha hb (Xv _)
def X5(hu:X.A.units+64<ub)(ha:XV X a f)(hb:XV X b g):XT X (.Compare a [.NotEq] [b] pos) (tOf (Yv (oEq true) f g)):=q1O (zCH hu) zAz ha hb (Xv _)
noncomputable def rIs(neg:Bool):R2:=λx y H Q=>(y=.non/\Q (.bl (if neg then !decide (x=.non)else decide (x=.non))) H)\/∃a b,x=.bl a/\y=.bl b/\Q (.bl (if neg then !(a==b)else a==b)) H
def op_is:OpR X (uC .Is) (rIs false):=by
 intro pins s σ H x y v u Q I rx ry h;rcases h with⟨rfl,q⟩|⟨a,b,rfl,rfl,q⟩
 ·exact qgM pins s σ H x .non v u Q I rx ry ⟨rfl,q⟩
 ·cases rx
  cases ry;exact PyProof.Rows.is_bool ⟨.bl _,H,I,rfl,q⟩
def isN:D->Bool
 | .non=>true
 | _=>false
noncomputable def oIs(neg:Bool):D->D->Option R
 | x,.non=>↥(.bl (if neg then !isN x else isN x))
 | .bl i,.bl j=>↥(.bl (if neg then !(i==j)else i==j))
 | _,_=>none
def isN_of{K:zA}{H:Hp}{d:D}{v:V}(h:Rep K H d v):decide (v=.non)=isN d:=by
 cases d with
 | non=>cases (show v=V.non from h);rfl
 | bl b=>cases (show v=V.bl b from h);rfl
 | int b=>cases (show v=V.int b from h);rfl
 | str b=>cases (show v=V.str b from h);rfl
 | lst _=>obtain⟨a,_,rfl,_⟩:=h;rfl
 | tup _=>obtain⟨a,_,rfl,_⟩:=h;rfl
 | scr _=>obtain⟨a,rfl,_⟩:=h;rfl
 | exc _=>obtain⟨a,_,rfl,_⟩:=h;rfl
 | dic _ _=>obtain⟨a,_,rfl,_⟩:=h;rfl
def zCI{K:zA}{neg:Bool}:OpV K (rIs neg) (oIs neg):=by
 intro G H x y d v u Q s e hx hy k;cases y with
 | non=>
  cases hy.non;refine .inl ⟨rfl,?_⟩;rw[isN_of (hx.rep s)];cases x <;> (cases e;exact k _ G H (Ext.refl s) rfl)
 | bl j=>
  cases x with
  | bl i=>
   cases hx.bl;cases hy.bl;cases e;exact .inr ⟨i,j,rfl,rfl,k _ G H (Ext.refl s) rfl⟩
  | _=>cases e
 | _=>cases x <;> cases e
def xe_is(ha:XV X a f)(hb:XV X b g):XE X (.Compare a [.Is] [b] pos) (Yv (oIs false) f g):=q3s op_is zCI ha hb (Xv _)
def xt_is(ha:XV X a f)(hb:XV X b g):XT X (.Compare a [.Is] [b] pos) (tOf (Yv (oIs false) f g)):=q1O op_is zCI ha hb (Xv _)
noncomputable def X7:D->Bool
 | .non=>true
 | .bl _=>true
 | .int _=>true
 | .str _=>true
 | _=>false
noncomputable def D.v:D->V
 | .bl b=>.bl b
 | .int i=>.int i
 | .str x=>.str x
 | _=>.non
def zAH{K:zA}{H:Hp}{d:D}{v:V}(h:Rep K H d v)(f:X7 d=true):v=d.v/\Wz v=true:=by
 cases d with
 | non=>cases (show v=V.non from h);exact⟨rfl,rfl⟩
 | bl b=>cases (show v=V.bl b from h);exact⟨rfl,rfl⟩
 | int b=>cases (show v=V.int b from h);exact⟨rfl,rfl⟩
 | str b=>cases (show v=V.str b from h);exact⟨rfl,rfl⟩
 | _=>cases f
theorem Wj{K:zA}{H:Hp}:∀{ds:List D}{vs:List V},Yx K H ds vs->ds.all X7=true->vs=ds.map D.v/\vs.all Wz=true
 | [],_,h,_=>by cases (show _=[]from h);exact⟨rfl,rfl⟩
 | d::ds,_,⟨v,r,h1,h2,h3⟩,f=>by
  rw[yp,zU]at f;obtain⟨e1,e2⟩:=zAH h2 f.1;obtain⟨e3,e4⟩:=Wj h3 f.2;subst h1;refine⟨by rw[zY,<- e1,<- e3],by rw[yp,e2,e4];rfl⟩
noncomputable def inD(x:D)(ds:List D):Bool:=inV x.v (ds.map D.v)
noncomputable def oIn(neg:Bool):D->D->Option R
 | x,.lst ys=>if X7 x&&ys.all X7 then ↥(.bl (if neg then !inD x ys else inD x ys))else none
 | x,.tup ys=>if X7 x&&ys.all X7 then ↥(.bl (if neg then !inD x ys else inD x ys))else none
 | _,_=>none
def zCL{K:zA}{neg:Bool}:OpV K (rIn K neg) (oIn neg):=by
 intro G H x y d v u Q s e hx hy k;cases y with
 | lst ys=>
  unfold oIn at e
  dsimp only at e
  by_cases z:(X7 x&&ys.all X7)=true
  ·rw[vC z]at e
   cases e;rw[zU]at z;obtain⟨p,vs,rfl,h1,h2⟩:=hy.lst s;obtain⟨e1,e2⟩:=zAH (hx.rep s) z.1;obtain⟨e3,e4⟩:=Wj h2 z.2;refine⟨p,vs,rfl,.inl (SqL.of h1),e2,e4,?_⟩;rw[e1,e3];exact k _ G H (Ext.refl s) rfl
  ·rw[vF z]at e;cases e
 | tup ys=>
  unfold oIn at e
  dsimp only at e
  by_cases z:(X7 x&&ys.all X7)=true
  ·rw[vC z]at e
   cases e;rw[zU]at z;obtain⟨p,vs,rfl,h1,h2⟩:=hy.tup;obtain⟨e1,e2⟩:=zAH (hx.rep s) z.1;obtain⟨e3,e4⟩:=Wj h2 z.2;refine⟨p,vs,rfl,.inr (SqT.of (s _ _ h1)),e2,e4,?_⟩;rw[e1,e3];exact k _ G H (Ext.refl s) rfl
  ·rw[vF z]at e;cases e
 | _=>cases x <;> cases e
def xt_in(ha:XV X a f)(hb:XV X b g)(hm:v5 .In b=false:=by with_unfolding_all rfl):XT X (.Compare a [.In] [b] pos) (tOf (Yv (oIn false) f g)):=q1O qcd zCL ha hb hm
def zBx(ha:XV X a f)(hb:XV X b g)(hm:v5 .NotIn b=false:=by with_unfolding_all rfl):XT X (.Compare a [.NotIn] [b] pos) (tOf (Yv (oIn true) f g)):=q1O q8s zCL ha hb hm
noncomputable def oIx:D->D->Option R
 | .lst ds,.int i=>(atI ds i).map R.sh
 | .tup ds,.int i=>(atI ds i).map R.sh
 | .scr ns,.int i=>(atI ns i).map λn=>.sh (.int n)
 | _,_=>none
def zA3{K:zA}{H:Hp}{ds:List D}{vs:List V}{i:Int}{d:D}(h:Yx K H ds vs)(e:atI ds i=some d):∃v,atI vs i=some v/\Rep K H d v:=by
 unfold atI at e ⊢;rw[<- h.len];cases q:ixN ds.length i with
 | none=>rw[q]at e;cases e
 | some j=>
  rw[q]at e;obtain⟨v,e1,e2⟩:=h.get e;exact⟨v,e1,e2⟩
def zBz{ns:List Int}{i n:Int}(e:atI ns i=some n):atI (ns.map V.int) i=some (.int n):=by
 unfold atI at e ⊢;rw[zB];cases q:ixN ns.length i with
 | none=>rw[q]at e;cases e
 | some j=>
  rw[q]at e;have e':ns[j]?=some n:=e;show (ns.map V.int)[j]?=_;rw[zX,e'];rfl
def opv_ix{K:zA}:OpV K (rIx K) oIx:=by
 intro G H x y d v u Q s e hx hy k;cases y with
 | int i=>
  cases hy.int;cases x with
  | lst ds=>
   obtain⟨d',q,e'⟩:=mpd e;subst e';obtain⟨p,vs,rfl,h1,h2⟩:=hx.lst s;obtain⟨w,e1,e2⟩:=zA3 h2 q;exact .inl ⟨p,vs,i,w,rfl,rfl,SqL.of h1,e1,k _ G H (Ext.refl s) e2⟩
  | tup ds=>
   obtain⟨d',q,e'⟩:=mpd e;subst e';obtain⟨p,vs,rfl,h1,h2⟩:=hx.tup;obtain⟨w,e1,e2⟩:=zA3 h2 q;exact .inr (.inl ⟨p,vs,i,w,rfl,rfl,SqT.of (s _ _ h1),e1,k _ G H (Ext.refl s) e2⟩)
  | scr ns=>
   obtain⟨n,q,e'⟩:=mpd e;subst e';obtain⟨p,rfl,h1⟩:=hx.scr;exact .inl ⟨p,_,i,.int n,rfl,rfl,s.seq h1,zBz q,k _ G H (Ext.refl s) rfl⟩
  | _=>cases e
 | _=>cases x <;> cases e
def Ys(ha:XV X a f)(hb:XV X b g)(hs:zAk b:=by exact λ_ _=>rfl):XE X (.Subscript a b pos) (Yv oIx f g):=qhs qgu opv_ix ha hb hs
noncomputable abbrev FO:=WSt->Option (Option Int)
def SimO(K:zA)(t:TO)(f:FO):Prop:=∀G0 H0 G ω σ H o(Q:Option Int->Hp->Prop),Own K G0 H0 G ω σ H->f ω=some o->(∀G' H',Ext G H G' H'->Q o H')->t σ H Q
def XO(X:Cx)(e:Option vW)(f:FO):Prop:=∃t,PO X e t/\SimO X.K t f
noncomputable def pNo:FO:=λ_=>some none
noncomputable def pAt(f:FD):FO:=λω=>(f ω).bind λd=>match d with|.int i=>some (some i)|_=>none
def Xn:XO X none pNo:=⟨_,qeT,λG0 H0 G ω σ H o Q ow e k=>by cases e;exact k G H (Ext.refl ow.gh)⟩
def XU(h:XV X a f):XO X (some a) (pAt f):=by
 obtain⟨t,h1,h2⟩:=h;refine⟨_,qg9 h1,λG0 H0 G ω σ H o Q ow e k=>?_⟩;obtain⟨d,q,e⟩:=bnd e;refine h2 G0 H0 G ω σ H d _ ow q λv G1 H1 x1 y1=>?_;cases d with
 | int i=>cases e;cases y1.int;exact⟨i,rfl,k G1 H1 x1⟩
 | _=>cases e
noncomputable def cutD{α:Type}(xs:List α)(lo hi:Option Int):List α:=(xs.drop (HT.sIx xs.length 0 lo)).take (HT.sIx xs.length xs.length hi-HT.sIx xs.length 0 lo)
def zAq{K:zA}{H:Hp}{ds:List D}{vs:List V}(h:Yx K H ds vs)(lo hi:Option Int):Yx K H (cutD ds lo hi) (zBp vs lo hi):=by
 unfold cutD zBp;rw[h.len];exact(h.drop _).take _
def zB5(ns:List Int)(lo hi:Option Int):zBp (ns.map V.int) lo hi=(cutD ns lo hi).map V.int:=by
 unfold cutD zBp;rw[zB,Yj,Zi]
noncomputable def oSl:D->Option Int->Option Int->Option R
 | .lst ds,lo,hi=>some (.fr (cutD ds lo hi))
 | .scr ns,lo,hi=>some (.fr ((cutD ns lo hi).map D.int))
 | .tup ds,lo,hi=>if HT.sIx ds.length 0 lo=0/\HT.sIx ds.length ds.length hi=ds.length then ↥(.tup ds)else ↥(.tup (cutD ds lo hi))
 | _,_,_=>none
noncomputable def fSl(f:FD)(l h:FO):FE:=λω=>(f ω).bind λd=>(l ω).bind λlo=>(h ω).bind λhi=>oSl d lo hi
def XN{lo hi:Option vW}{l h:FO}{p2:Pos}(ha:XV X a f)(hl:XO X lo l)(hh:XO X hi h):XE X (.Subscript a (.Slice lo hi none p2) pos) (fSl f l h):=by
 obtain⟨t,h1,h2⟩:=ha;obtain⟨tl,h3,h4⟩:=hl;obtain⟨th,h5,h6⟩:=hh;refine⟨_,qdV (qfC.or (qh9.or qen)) h1 h3 h5,λG0 H0 G ω σ H r Q ow e k=>?_⟩;obtain⟨d,q,e⟩:=bnd e;obtain⟨lo',q2,e⟩:=bnd e;obtain⟨hi',q3,e⟩:=bnd e;refine h2 G0 H0 G ω σ H d _ ow q λv G1 H1 x1 y1=>?_;refine h4 G0 H0 G1 ω σ H1 lo' _ (ow.keep x1) q2 λG2 H2 x2=>?_;refine h6 G0 H0 G2 ω σ H2 hi' _ ((ow.keep x1).keep x2) q3 λG3 H3 x3=>?_;have y3:=(y1.keep x2).keep x3;have x13:=(x1.trans x2).trans x3;cases d with
 | lst ds=>
  cases e;obtain⟨p,vs,rfl,h1,h2⟩:=y3.lst x3.gh;refine .inl ⟨p,vs,rfl,SqL.of h1,λn hn=>?_⟩;exact k _ G3 _ (x13.trans (Ext.hide x3.gh hn _)) ⟨n,_,rfl,x13.hh.free hn,x3.gh.free hn,qe,zAq h2 _ _⟩
 | scr ns=>
  cases e;obtain⟨p,rfl,h1⟩:=y3.scr;refine .inl ⟨p,_,rfl,x3.gh.seq h1,λn hn=>?_⟩;refine k _ G3 _ (x13.trans (Ext.hide x3.gh hn _)) ⟨n,_,rfl,x13.hh.free hn,x3.gh.free hn,qe,?_⟩;rw[zB5];exact Yx.ints _
 | tup ds=>
  unfold oSl at e
  dsimp only at e
  obtain⟨p,vs,rfl,h1,h2⟩:=y3.tup
  by_cases z:HT.sIx ds.length 0 lo'=0/\HT.sIx ds.length ds.length hi'=ds.length
  ·rw[vC z]at e
   cases e;exact .inr (.inr ⟨p,vs,rfl,SqT.of (x3.gh _ _ h1),by rw[<- h2.len];exact z,k _ G3 H3 x13 ⟨p,vs,rfl,h1,h2⟩⟩)
  ·rw[vF z]at e
   cases e;refine .inr (.inl ⟨p,vs,rfl,SqT.of (x3.gh _ _ h1),by rw[<- h2.len];exact z,λn hn=>?_⟩);have x4:=Ext.lay x3.gh hn (.tup (zBp vs lo' hi'));exact k _ _ _ (x13.trans x4) ⟨n,_,rfl,qe,(zAq h2 _ _).mono x4.gg⟩
 | _=>cases e
end
section
variable{X:Cx}{a b c:vW}{pos:Pos}{rest:List vW}{f g:FT}
noncomputable def zBY(f g:FT):FT:=λω=>(f ω).bind λc=>if c=true then g ω else some false
noncomputable def zAP(f g:FT):FT:=λω=>(f ω).bind λc=>if c=true then some true else g ω
noncomputable def WB(f:FT):FT:=λω=>(f ω).map (!·)
def qdP{t u:TT}(h:zAu X.K t f)(h':zAu X.K u g):zAu X.K (tAnd t u) (zBY f g):=by
 intro G0 H0 G ω σ H b Q o e k;obtain⟨c,q,e⟩:=bnd e;refine h G0 H0 G ω σ H c _ o q λG1 H1 x1=>?_;cases c with
 | true=>rw[vC rfl]at e ⊢;exact h' G0 H0 G1 ω σ H1 b Q (o.keep x1) e λG2 H2 x2=>k G2 H2 (x1.trans x2)
 | false=>cases e;exact k G1 H1 x1
def qf9{t u:TT}(h:zAu X.K t f)(h':zAu X.K u g):zAu X.K (tOr t u) (zAP f g):=by
 intro G0 H0 G ω σ H b Q o e k;obtain⟨c,q,e⟩:=bnd e;refine h G0 H0 G ω σ H c _ o q λG1 H1 x1=>?_;cases c with
 | true=>cases e;exact k G1 H1 x1
 | false=>exact h' G0 H0 G1 ω σ H1 b Q (o.keep x1) e λG2 H2 x2=>k G2 H2 (x1.trans x2)
def qaq(h:XT X a f):XW X (.BoolOp .And [a] pos) f:=let ⟨t,h1,h2⟩:=h;⟨t,qfF h1,h2⟩
def q27(h:XT X a f):XW X (.BoolOp .Or [a] pos) f:=let ⟨t,h1,h2⟩:=h;⟨t,qdz h1,h2⟩
def qdb(h:XT X a f)(h':XW X (.BoolOp .And (b::rest) pos) g):XW X (.BoolOp .And (a::b::rest) pos) (zBY f g):=let ⟨_,h1,h2⟩:=h;let ⟨_,h3,h4⟩:=h';⟨_,qgC h1 h3,qdP h2 h4⟩
def q0J(h:XT X a f)(h':XW X (.BoolOp .Or (b::rest) pos) g):XW X (.BoolOp .Or (a::b::rest) pos) (zAP f g):=let ⟨_,h1,h2⟩:=h;let ⟨_,h3,h4⟩:=h';⟨_,qeF h1 h3,qf9 h2 h4⟩
def XW.toT(h:XW X a f):XT X a f:=let ⟨t,h1,h2⟩:=h;⟨t,h1.pt,h2⟩
def q07(h:XT X a f):XT X (.UnaryOp .Not a pos) (WB f):=by
 obtain⟨t,h1,h2⟩:=h;refine⟨_,qgZ h1,λG0 H0 G ω σ H b Q o e k=>?_⟩;obtain⟨c,q,e⟩:=mpd e;subst e;exact h2 G0 H0 G ω σ H c _ o q k
noncomputable def truD:D->Option Bool
 | .non=>some false
 | .bl b=>some b
 | .int i=>some (i != 0)
 | .lst xs=>some (!xs.isEmpty)
 | .tup xs=>some (!xs.isEmpty)
 | _=>none
noncomputable def W6(f:FD):FT:=λω=>(f ω).bind truD
def q4Z{α β:Type}{xs:List α}{ys:List β}(h:xs.length=ys.length):xs.isEmpty=ys.isEmpty:=by
 cases xs <;> cases ys <;> first|rfl|cases h
def qL{f:FD}(h:XV X a f)(he:∀whole,sZ a X.env whole=(do let v <- whole;sU a.pos;holding [v] (truthy v)):=by intro _;rfl):XT X a (W6 f):=by
 obtain⟨t,h1,h2⟩:=h;refine⟨_,q3K h1 he,λG0 H0 G ω σ H b Q o e k=>?_⟩;obtain⟨d,q,e⟩:=bnd e;refine h2 G0 H0 G ω σ H d _ o q λv G1 H1 x1 y1=>⟨b,?_,k G1 H1 x1⟩;cases d with
 | non=>cases e;cases y1.non;rfl
 | bl c=>cases e;cases y1.bl;rfl
 | int i=>cases e;cases y1.int;rfl
 | lst xs=>
  cases e;obtain⟨p,vs,rfl,h1,h2⟩:=y1.lst x1.gh;exact .inl ⟨vs,SqL.of h1,by rw[q4Z h2.len]⟩
 | tup xs=>
  cases e;obtain⟨p,vs,rfl,h1,h2⟩:=y1.tup;exact .inr (.inl ⟨vs,SqT.of (x1.gh _ _ h1),by rw[q4Z h2.len]⟩)
 | _=>cases e
def blOf:D->Option Bool
 | .bl b=>some b
 | _=>none
noncomputable def zAY(f g:FD):FD:=λω=>(f ω).bind λd=>(blOf d).bind λc=>if c=true then g ω else some (.bl false)
noncomputable def vOr(f g:FD):FD:=λω=>(f ω).bind λd=>(blOf d).bind λc=>if c=true then some (.bl true)else g ω
noncomputable def vNot(f:FD):FD:=λω=>(f ω).bind λd=>(blOf d).map λc=>.bl (!c)
variable{fa fb:FD}
def q0n{op}(h:XD X a fa):XD X (.BoolOp op [a] pos) fa:=let ⟨t,h1,h2⟩:=h;⟨t,qgq h1,h2⟩
def qX(h:XD X a fa)(h':XD X (.BoolOp .And (b::rest) pos) fb):XD X (.BoolOp .And (a::b::rest) pos) (zAY fa fb):=by
 obtain⟨t,h1,h2⟩:=h;obtain⟨u,h3,h4⟩:=h';refine⟨_,qgT h1 h3,λG0 H0 G ω σ H d Q o e k=>?_⟩;obtain⟨x,q,e⟩:=bnd e;obtain⟨c,q2,e2⟩:=bnd e;clear e;refine h2 G0 H0 G ω σ H x _ o q λv G1 H1 x1 y1=>?_;cases x with
 | bl z=>
  cases q2;cases (show v=V.bl c from y1);refine⟨c,rfl,?_⟩;cases c with
  | true=>rw[vC rfl]at e2 ⊢;exact h4 G0 H0 G1 ω σ H1 d Q (o.keep x1) e2 λv G2 H2 x2 y2=>k v G2 H2 (x1.trans x2) y2
  | false=>cases e2;exact k _ G1 H1 x1 rfl
 | _=>cases q2
def qhp(h:XD X a fa)(h':XD X (.BoolOp .Or (b::rest) pos) fb):XD X (.BoolOp .Or (a::b::rest) pos) (vOr fa fb):=by
 obtain⟨t,h1,h2⟩:=h;obtain⟨u,h3,h4⟩:=h';refine⟨_,qhz h1 h3,λG0 H0 G ω σ H d Q o e k=>?_⟩;obtain⟨x,q,e⟩:=bnd e;obtain⟨c,q2,e2⟩:=bnd e;clear e;refine h2 G0 H0 G ω σ H x _ o q λv G1 H1 x1 y1=>?_;cases x with
 | bl z=>
  cases q2;cases (show v=V.bl c from y1);refine⟨c,rfl,?_⟩;cases c with
  | true=>cases e2;exact k _ G1 H1 x1 rfl
  | false=>exact h4 G0 H0 G1 ω σ H1 d Q (o.keep x1) e2 λv G2 H2 x2 y2=>k v G2 H2 (x1.trans x2) y2
 | _=>cases q2
def qcO(h:XD X a fa):XD X (.UnaryOp .Not a pos) (vNot fa):=by
 obtain⟨t,h1,h2⟩:=h;refine⟨_,qgP h1,λG0 H0 G ω σ H d Q o e k=>?_⟩;obtain⟨x,q,e⟩:=bnd e;obtain⟨c,q2,e⟩:=mpd e;subst e;refine h2 G0 H0 G ω σ H x _ o q λv G1 H1 x1 y1=>?_;cases x with
 | bl z=>cases q2;cases (show v=V.bl c from y1);exact⟨c,rfl,k _ G1 H1 x1 rfl⟩
 | _=>cases q2
def zCJ.after{K:zA}{G H G1 H1 G2 H2:Hp}{r:R}{v:V}(x:Ext G H G1 H1)(y:zCJ K H1 G2 H2 r v):zCJ K H G2 H2 r v:=by
 cases r with
 | sh d=>exact y
 | fr ds=>obtain⟨l,vs,e1,e2,e3⟩:=y;exact⟨l,vs,e1,x.hh.free e2,e3⟩
 | vw ds=>exact y
end
def Wq(K:zA)(r:List V->Hp->VK->Prop)(op:List D->Option R):Prop:=∀G H ds vs d(Q:VK),Y7 G H->op ds=some d->VwA K G H ds vs ->
 (∀w G' H',Ext G H G' H'->zCJ K H G' H' d w->Q w H')->r vs H Q
noncomputable def Xx(op:List D->Option R)(g:FA):FE:=λω=>(g ω).bind op
section
variable{X:Cx}{e:vW}{es:List vW}{x:Str}{p pos:Pos}{r:List V->Hp->VK->Prop}{op:List D->Option R}{g:FA}{id T:String}
def qas{t:TA}(hd:Wq X.K r op)(h:SimVA X.K t g):zCy X.K (tCB r t) (Xx op g):=by
 intro G0 H0 G ω σ H d Q o e k;obtain⟨ds,q,e⟩:=bnd e;refine h G0 H0 G ω σ H ds _ o q λvs G1 H1 x1 y1=>?_;exact hd G1 H1 ds vs d Q x1.gh e y1 λw G2 H2 x2 y2=>k w G2 H2 (x1.trans x2) (y2.after x1)
def qr(hc:X6 X (.builtin id) r)(hd:Wq X.K r op)(hg:Gl X x)(hm:X.mg x=none)(hv:vf x=some (.builtin id))(ha:XVA X (e::es) g)(hn:x ≠ "__name__" := by decide)(hdb:(x==("__debug__" : Str))=false:=by decide)(he:vL (e::es) X.env=(false,eval e X.env)::vL es X.env:=by rfl)(hpl:(v4 pos (vL es X.env)).any (·.1)=false:=by rfl):XE X (.Call (.Name x p) (e::es) [] pos) (Xx op g):=by
 obtain⟨t,h1,h2⟩:=ha;exact⟨_,q2L hc hg hm hv h1 hn hdb he hpl,qas hd h2⟩
def qhB(hc:X6 X (.type T) r)(hd:Wq X.K r op)(hg:Gl X x)(hm:X.mg x=none)(hv:vf x=some (.type T))(ha:XVA X (e::es) g)(hn:x ≠ "__name__" := by decide)(hdb:(x==("__debug__" : Str))=false:=by decide)(he:vL (e::es) X.env=(false,eval e X.env)::vL es X.env:=by rfl)(hpl:(v4 pos (vL es X.env)).any (·.1)=false:=by rfl):XE X (.Call (.Name x p) (e::es) [] pos) (Xx op g):=by
 obtain⟨t,h1,h2⟩:=ha;exact⟨_,q7n hc hg hm hv h1 hn hdb he hpl,qas hd h2⟩
def VwA.one{K:zA}{G H:Hp}{d:D}{vs:List V}(h:VwA K G H [d] vs):∃v,vs=[v]/\Vw K G H d v:=by
 obtain⟨v,r,h1,h2,h3⟩:=h;cases (show r=[]from h3);exact⟨v,h1,h2⟩
def VwA.two{K:zA}{G H:Hp}{d e:D}{vs:List V}(h:VwA K G H [d,e] vs):∃v u,vs=[v,u]/\Vw K G H d v/\Vw K G H e u:=by
 obtain⟨v,r,h1,h2,h3⟩:=h;obtain⟨u,rfl,h4⟩:=VwA.one h3;exact⟨v,u,h1,h2,h4⟩
noncomputable def WU:List D->Option R
 | [.lst ds]=>↥(.int ds.length)
 | [.tup ds]=>↥(.int ds.length)
 | [.scr ns]=>↥(.int ns.length)
 | _=>none
def qF{K:zA}:Wq K (λxs H Q=>∃p ys,xs=[.ref p]/\(SqL K H p ys\/SqT K H p ys)/\Q (.int ys.length) H) WU:=by
 intro G H ds vs d Q s e hv k
 match ds,e with
 | [.lst ds],e=>
  cases e;obtain⟨v,rfl,h⟩:=hv.one;obtain⟨p,us,rfl,h1,h2⟩:=h.lst s;exact⟨p,us,rfl,.inl (SqL.of h1),k _ G H (Ext.refl s) (by show V.int _=V.int _;rw[h2.len])⟩
 | [.tup ds],e=>
  cases e;obtain⟨v,rfl,h⟩:=hv.one;obtain⟨p,us,rfl,h1,h2⟩:=h.tup;exact⟨p,us,rfl,.inr (SqT.of (s _ _ h1)),k _ G H (Ext.refl s) (by show V.int _=V.int _;rw[h2.len])⟩
 | [.scr ns],e=>
  cases e;obtain⟨v,rfl,h⟩:=hv.one;obtain⟨p,rfl,h1⟩:=h.scr;exact⟨p,_,rfl,.inl (s.seq h1),k _ G H (Ext.refl s) (by show V.int _=V.int _;rw[zB])⟩
noncomputable def bAbs:List D->Option R
 | [.int i]=>↥(.int (if i<0 then -i else i))
 | _=>none
def qhe{K:zA}:Wq K (λxs H Q=>∃i,xs=[.int i]/\Q (.int (if i<0 then -i else i)) H) bAbs:=by
 intro G H ds vs d Q s e hv k
 match ds,e with
 | [.int i],e=>
  cases e;obtain⟨v,rfl,h⟩:=hv.one;cases h.int;exact⟨i,rfl,k _ G H (Ext.refl s) rfl⟩
noncomputable def zCg:List D->Option R
 | [.lst ds]=>some (.fr ds)
 | [.tup ds]=>some (.fr ds)
 | _=>none
def qff{K:zA}:Wq K (λxs H Q=>∃p ys,xs=[.ref p]/\(SqL K H p ys\/SqT K H p ys)/\∀l,H l=none->Q (.ref l) (upd H l (.lst ys))) zCg:=by
 intro G H ds vs d Q s e hv k
 match ds,e with
 | [.lst ds],e=>
  cases e;obtain⟨v,rfl,h⟩:=hv.one;obtain⟨p,us,rfl,h1,h2⟩:=h.lst s;exact⟨p,us,rfl,.inl (SqL.of h1),λl hl=>k _ G _ (Ext.hide s hl _) ⟨l,us,rfl,hl,s.free hl,qe,h2⟩⟩
 | [.tup ds],e=>
  cases e;obtain⟨v,rfl,h⟩:=hv.one;obtain⟨p,us,rfl,h1,h2⟩:=h.tup;exact⟨p,us,rfl,.inr (SqT.of (s _ _ h1)),λl hl=>k _ G _ (Ext.hide s hl _) ⟨l,us,rfl,hl,s.free hl,qe,h2⟩⟩
noncomputable def zCZ:List D->Option R
 | [.int i,.int j]=>↥(.int (if j>i then j else i))
 | _=>none
def qfM{K:zA}:Wq K (λxs H Q=>∃i j,xs=[.int i,.int j]/\Q (.int (if j>i then j else i)) H) zCZ:=by
 intro G H ds vs d Q s e hv k
 match ds,e with
 | [.int i,.int j],e=>
  cases e;obtain⟨v,u,rfl,h,h'⟩:=hv.two;cases h.int;cases h'.int;exact⟨i,j,rfl,k _ G H (Ext.refl s) rfl⟩
noncomputable def allB:List D->Option Bool
 | []=>some true
 | .bl b::r=>(allB r).map λc=>b&&c
 | _=>none
noncomputable def zBq:List D->Option R
 | [.lst ds]=>(allB ds).map λb=>.sh (.bl b)
 | _=>none
noncomputable def zCv:List D->Option Int
 | []=>some 0
 | .int i::r=>(zCv r).map λc=>i+c
 | _=>none
noncomputable def zC1:List D->Option R
 | [.lst ds]=>(zCv ds).map λb=>.sh (.int b)
 | _=>none
end
def rAll:List V->Hp->VK->Prop:=λxs H Q=>∃(p:vJ) (bs:List Bool),xs=[.ref p]/\H p=some (.lst (bs.map V.bl))/\Q (.bl (bs.all id)) H
def rSum:List V->Hp->VK->Prop:=λxs H Q=>∃(p:vJ) (ns:List Int),xs=[.ref p]/\H p=some (.lst (ns.map V.int))/\Q (.int ns.sum) H
section
variable{X:Cx}
theorem qao:∀{bs:List Bool}{us:List vB},XB (bs.map V.bl) us->us=bs.map Value.bool
 | [],_,r=>by cases r;rfl
 | b::bs,_,r=>by
  rw[zY]at r;cases r with
  | cons r1 r2=>cases r1;rw[qao r2];rfl
def qcx{bs:List Bool}:(zk bs.length).all (λi=>bs.getD i false)=bs.all id:=by
 induction bs with
 | nil=>rfl
 | cons b r ih=>
  rw[zE,ZJ,yp,wL,yp];have e:((λi=>(b::r).getD i false) ∘ Nat.succ)=λi=>r.getD i false:=by funext i;rfl
  rw[e,ih];rfl
def q31(hc:X.calm=true):X6 X (.builtin "all") rAll:=by
 intro pins s σ H xs us Q I r h;obtain⟨p,bs,rfl,hp,q⟩:=h;obtain⟨u,rfl,rx⟩:=vals1 r;cases rx;obtain⟨its,n,rv,e,hz⟩:=I.lst hp;have ei:=qao rv;have hlt:p<s.heap.objs.size:=zO e;refine call_all_walk (ug (items:=its.toArray) ⟨_,e,rfl,n,rfl⟩ ?_);refine⟨s.heap.objs.size,_,_,its.toArray.size,_,_,λi=>bs.getD i false,rfl,Walks.list (by first|exact I.ok.hd hc|(show X.A.handled=none;exact I.ok.hd hc)) _ p (zi hlt) its.toArray,⟨⟨_,zS _ rfl,rfl,rfl⟩,⟨_,zH _ e,rfl,n,rfl⟩⟩,λi v s' Q' E' hv hq=>?_,λh' tk hk=>?_⟩
 ·have hv':its[i]?=some v:=by simpa using hv
  rw[ei,zX]at hv';cases eb:bs[i]? with
  | none=>rw[eb]at hv';cases hv'
  | some b=>
   rw[eb]at hv';cases hv';have:bs.getD i false=b:=by rw[zK,eb];rfl
   have hq':Q' b s':=by rw[<- this];exact hq
   exact uG hq'
 ·have hl:its.toArray.size=bs.length:=by rw[zP,ei,zB]
  rw[hl,qcx];exact⟨.bl _,H,I.kept (λb o z=>hk b o (λhm=>by
   have:b=s.heap.objs.size:=by simpa using hm
   subst this;exact vK (zO z) (xP _)) (zH _ z)),rfl,q⟩
theorem q9Q:∀{ds:List D}{b:Bool},allB ds=some b->∃bs:List Bool,ds=bs.map D.bl/\bs.all id=b
 | [],_,e=>by cases e;exact⟨[],rfl,rfl⟩
 | .bl c::r,b,e=>by
  obtain⟨k,q,e⟩:=mpd e;obtain⟨bs,h1,h2⟩:=q9Q q;exact⟨c::bs,by rw[h1];rfl,by rw[yp,h2];exact e⟩
 | .non::_,_,e=>by cases e
 | .int _::_,_,e=>by cases e
 | .str _::_,_,e=>by cases e
 | .lst _::_,_,e=>by cases e
 | .tup _::_,_,e=>by cases e
 | .scr _::_,_,e=>by cases e
 | .exc _::_,_,e=>by cases e
 | .dic _ _::_,_,e=>by cases e
theorem qak:∀{ds:List D}{b:Int},zCv ds=some b->∃bs:List Int,ds=bs.map D.int/\bs.sum=b
 | [],_,e=>by cases e;exact⟨[],rfl,rfl⟩
 | .int c::r,b,e=>by
  obtain⟨k,q,e⟩:=mpd e;obtain⟨bs,h1,h2⟩:=qak q;exact⟨c::bs,by rw[h1];rfl,by rw[yV,h2];exact e⟩
 | .non::_,_,e=>by cases e
 | .bl _::_,_,e=>by cases e
 | .str _::_,_,e=>by cases e
 | .lst _::_,_,e=>by cases e
 | .tup _::_,_,e=>by cases e
 | .scr _::_,_,e=>by cases e
 | .exc _::_,_,e=>by cases e
 | .dic _ _::_,_,e=>by cases e
theorem qa2{K:zA}{H:Hp}:∀{bs:List Bool}{vs:List V},Yx K H (bs.map D.bl) vs->vs=bs.map V.bl
 | [],_,h=>h
 | n::r,_,⟨v,vs,h1,h2,h3⟩=>by
  have:=qa2 h3;have e:v=.bl n:=h2;rw[h1,this,e];rfl
def q5B{K:zA}:Wq K rAll zBq:=by
 intro G H ds vs d Q s e hv k
 match ds,e with
 | [.lst ds],e=>
  obtain⟨b,q,e⟩:=mpd e;subst e;obtain⟨bs,rfl,rfl⟩:=q9Q q;obtain⟨v,rfl,h⟩:=hv.one;obtain⟨p,us,rfl,h1,h2⟩:=h.lst s;exact⟨p,bs,rfl,by rw[h1,qa2 h2],k _ G H (Ext.refl s) rfl⟩
theorem q5G:∀(ns:List Int)(k:Nat),k<=ns.length->preSum (λi=>ns.getD i 0) k=(ns.take k).sum
 | _,0,_=>rfl
 | ns,k+1,h=>by
  have e:ns.take (k+1)=ns.take k++[ns.getD k 0]:=by
   rw[Z8,zD ∅,zK,zD ∅];rfl
  show preSum (λi=>ns.getD i 0) k+ns.getD k 0=_;rw[q5G ns k ∅,e,YV];simp
def q78(hc:X.calm=true):X6 X (.builtin "sum") rSum:=by
 intro pins s σ H xs us Q I r h;obtain⟨p,ns,rfl,hp,q⟩:=h;obtain⟨u,rfl,rx⟩:=vals1 r;cases rx;obtain⟨its,n,rv,e,hz⟩:=I.lst hp;have ia:=q1H rv;have hlen:its.length=ns.length:=by rw[<- rv.length,zB]
 have hlt:p<s.heap.objs.size:=zO e;refine call_sum_walkAnyS (ug (items:=its.toArray) ⟨_,e,rfl,n,rfl⟩ ?_);refine⟨s.heap.objs.size,_,_,_,its.toArray.size,_,_,λi=>ns.getD i 0,rfl,(Walks.list (by first|exact I.ok.hd hc|(show X.A.handled=none;exact I.ok.hd hc)) _ p (zi hlt) its.toArray).toS,⟨⟨_,zS _ rfl,rfl,rfl⟩,⟨_,zH _ e,rfl,n,rfl⟩⟩,λb hb=>?_,λi v hv=>PyProof.Rows.IntsAre.int_at ia i v ⇑hv,λs' t' hm=>?_⟩
 ·show b<(s.heap.push _).objs.size
  rw[yc];rcases zF.mp hb with rfl|hb
  ·exact yY _
  ·rw[zb.mp hb];exact yR hlt
 ·rw[Moved.eq_with hm]
  have es:preSum (λi=>ns.getD i 0) its.toArray.size=ns.sum:=by
   rw[zP,hlen,q5G ns _ (zM _),wS]
  rw[es];exact⟨.int _,H,I.kept (λb o z=>hm.heap b o (λhmm=>by
   have:b=s.heap.objs.size:=by simpa using hmm
   subst this;exact vK (zO z) (xP _)) (zH _ z)),⟨_,rfl⟩,q⟩
def qdg{K:zA}:Wq K rSum zC1:=by
 intro G H ds vs d Q s e hv k
 match ds,e with
 | [.lst ds],e=>
  obtain⟨b,q,e⟩:=mpd e;subst e;obtain⟨bs,rfl,rfl⟩:=qak q;obtain⟨v,rfl,h⟩:=hv.one;obtain⟨p,us,rfl,h1,h2⟩:=h.lst s;exact⟨p,bs,rfl,by rw[h1,h2.of_ints],k _ G H (Ext.refl s) rfl⟩
end
inductive Ty where
 | non|bl|int|str|lst|tup|dic
noncomputable def Ty.n:Ty->String
 | .non => "NoneType"
 | .bl => "bool"
 | .int => "int"
 | .str => "str"
 | .lst => "list"
 | .tup => "tuple"
 | .dic => "dict"
noncomputable def tyD:D->Ty
 | .non=>.non
 | .bl _=>.bl
 | .int _=>.int
 | .str _=>.str
 | .lst _=>.lst
 | .tup _=>.tup
 | .scr _=>.lst
 | .exc _=>.non
 | .dic _ _=>.non
noncomputable def zBt:Ty->Ty->Bool
 | .non,.non=>true
 | .bl,.bl=>true
 | .bl,.int=>true
 | .int,.int=>true
 | .str,.str=>true
 | .lst,.lst=>true
 | .tup,.tup=>true
 | _,_=>false
noncomputable def zA7(c:Ty)(f:FD):FE:=λω=>(f ω).bind λd=>match d with
 | .scr _=>none
 | .exc _=>none
 | .dic _ _=>none
 | d=>↥(.bl (zBt (tyD d) c))
def IsT(K:zA)(c:Ty):Prop:=∀t:Ty,t≠.dic->ZX K (.type t.n) (.type c.n)=some (zBt t c)
def rIsi(K:zA):List V->Hp->VK->Prop:=λxs H Q=>∃x c T b,xs=[x,.ty c]/\TyOf K H x (.type T)/\ZX K (.type T) (.type c)=some b/\Q (.bl b) H
section
variable{X:Cx}{a:vW}{f:FD}
def qdD:X6 X (.builtin "isinstance") (rIsi X.K):=by
 intro pins s σ H xs us Q I r h;obtain⟨x,c,T,b,rfl,ty,e,q⟩:=h;obtain⟨u1,u2,rfl,r2,r3⟩:=vals2 r;cases (show u2=Value.type c from r3);exact qcN I r2 ty e λtk=>⟨.bl b,H,I.tok tk,rfl,q⟩
def qg6{K:zA}{G H:Hp}{d:D}{v:V}(h:Vw K G H d v)(s:Y7 G H)(n:∀ns,d≠.scr ns)(n':∀c,d≠.exc c)(n'':∀ks ds,d≠.dic ks ds):TyOf K H v (.type (tyD d).n):=by
 cases d with
 | non=>cases h.non;exact .non
 | bl b=>cases h.bl;exact .bl b
 | int i=>cases h.int;exact .int i
 | str x=>cases h.str;exact .str x
 | lst ds=>obtain⟨p,us,rfl,h1,_⟩:=h.lst s;exact .lst h1
 | tup ds=>obtain⟨p,us,rfl,h1,_⟩:=h.tup;exact .tup (s _ _ h1)
 | scr ns=>exact vK rfl (n ns)
 | exc c=>exact vK rfl (n' c)
 | dic ks ds=>exact vK rfl (n'' ks ds)
def qh6(d:D):tyD d≠.dic:=by cases d <;> exact λz=>nomatch z
def q18{c:Ty}{x:Str}{p q pos:Pos}(ha:XV X a f)(hk:IsT X.K c)(hg:Gl X "isinstance")(hm:X.mg "isinstance" = none)(hgc:Gl X x)(hmc:X.mg x=none)(hvc:vf x=some (.type c.n))(hnx:x ≠ "__name__" := by decide)(hdx:(x==("__debug__" : Str))=false:=by decide)(he:vL [a,.Name x q] X.env=(false,eval a X.env)::vL [.Name x q] X.env:=by rfl)(he2:vL [.Name x q] X.env=(false,eval (.Name x q) X.env)::vL [] X.env:=by rfl)(hpl:(v4 pos (vL [.Name x q] X.env)).any (·.1)=false:=by rfl):
  XE X (.Call (.Name "isinstance" p) [a,.Name x q] [] pos) (zA7 c f):=by
 obtain⟨t,h1,h2⟩:=ha;refine⟨_,q2L qdD hg hm PyProof.Rows.boot_isinstance (qA h1 (qA (qfb hgc hmc hvc (v:=.ty c.n) rfl hnx hdx) qz he2) he) (by decide) (by decide) he hpl,λG0 H0 G ω σ H r Q o e k=>?_⟩;obtain⟨d,q,e⟩:=bnd e;refine h2 G0 H0 G ω σ H d _ o q λv G1 H1 x1 y1=>?_;have n:∀ns,d≠.scr ns:=λns z=>by subst z;cases e
 have n':∀c,d≠.exc c:=λns z=>by subst z;cases e
 have n'':∀ks ds,d≠.dic ks ds:=λks ds z=>by subst z;cases e
 have e':r=.sh (.bl (zBt (tyD d) c)):=by
  cases d <;> first|(cases e;rfl)|cases e
 subst e';exact⟨v,c.n,(tyD d).n,zBt (tyD d) c,rfl,qg6 y1 x1.gh n n' n'',hk _ (qh6 d),k _ G1 H1 x1 rfl⟩
end
inductive Out where
 | nx|bk|ct|rt (r:O)
noncomputable abbrev FS:=WSt->Option (Out×WSt)
def zBH(K:zA)(H0 G':Hp)(E:Ends):Out->St->Hp->Prop
 | .nx,σ,H=>E.nx σ H
 | .bk,σ,H=>E.bk σ H
 | .ct,σ,H=>E.ct σ H
 | .rt r,_,H=>∀v,zCJ K H0 G' H r.r v->E.rt v H
def SimS(K:zA)(t:TS)(f:FS):Prop:=∀G0 H0 G ω σ H out ω'(E:Ends),Own K G0 H0 G ω σ H->f ω=some (out,ω') ->
 (∀G' σ' H',Own K G0 H0 G' ω' σ' H'->Y7 G G'->zBH K H0.hp G' E out σ' H')->t E σ H
def XS(X:Cx)(st:vx)(f:FS):Prop:=∃t,PS X st t/\SimS X.K t f
def XSs(X:Cx)(st:List vx)(f:FS):Prop:=∃t,PSs X st t/\SimS X.K t f
noncomputable def WA:FS:=λω=>some (.nx,ω)
noncomputable def Y6(f g:FS):FS:=λω=>(f ω).bind λp=>match p.1 with
 | .nx=>g p.2
 | o=>some (o,p.2)
section
variable{X:Cx}{st:vx}{rest:List vx}{f g:FS}
def qq:XSs X [] WA:=⟨_,qfI,λG0 H0 G ω σ H out ω' E o e k=>by cases e;exact k G σ H o (Y7.refl _)⟩
def qb(h:XS X st f):XSs X [st] f:=let ⟨t,h1,h2⟩:=h;⟨t,q0E h1,h2⟩
def qa(h:XS X st f)(h':XSs X rest g):XSs X (st::rest) (Y6 f g):=by
 obtain⟨t,h1,h2⟩:=h;obtain⟨u,h3,h4⟩:=h';refine⟨_,qC h1 h3,λG0 H0 G ω σ H out ω' E o e k=>?_⟩;obtain⟨⟨o1,ω1⟩,q,e⟩:=bnd e;refine h2 G0 H0 G ω σ H o1 ω1 _ o q λG1 σ1 H1 w1 g1=>?_;cases o1 with
 | nx=>exact h4 G0 H0 G1 ω1 σ1 H1 out ω' E w1 e λG2 σ2 H2 w2 g2=>k G2 σ2 H2 w2 (g1.trans g2)
 | bk=>cases e;exact k G1 σ1 H1 w1 g1
 | ct=>cases e;exact k G1 σ1 H1 w1 g1
 | rt r=>cases e;exact k G1 σ1 H1 w1 g1
end
section
variable{K:zA}{G0:Hp}{H0:Fr}{G:Hp}{ω:WSt}{σ:St}{H:Hp}
def qc{α:Type}{l:List α}{i j:Nat}{x y:α}(h:(l.set i x)[j]?=some y):(i=j/\i<l.length/\y=x)\/(i≠j/\l[j]?=some y):=by
 rw[List.getElem?_set]at h
 by_cases e:i=j
 ·rw[vC e]at h
  by_cases z:i<l.length
  ·rw[vC z]at h;exact .inl ⟨e,z,(zj h).symm⟩
  ·rw[vF z]at h;cases h
 ·rw[vF e]at h;exact .inr ⟨e,h⟩
def q1T{α:Type}{l:List α}{i:Nat}{x:α}(h:i<l.length):(l.set i x)[i]?=some x:=yU h
theorem X4.set{i:Nat}{w:Option W}{v:Option V}(o:X4 K H0 G ω σ H)(hw:∀ds,w≠some (.pw ds))(hv:∀ds,w=some (.ow ds)->∀(j:Nat)es,ω[j]?=some (some (.pw es))->v≠some (.ref (H0.pin j))):X4 K H0 G (ω.set i w) (σ.set i v) H:=by
 intro j ds hj;rcases qc hj with⟨rfl,hl,z⟩|⟨ne,z⟩
 ·exact vK z.symm (hw ds)
 ·obtain⟨vs,h1,h2,h3,h4,h5,h6,h7⟩:=o j ds z
  refine⟨vs,by rw[zJ ne];exact h1,h2,h3,h4,h5,λk es hk=>?_,λk es hk sk=>?_⟩
  ·rcases qc hk with⟨rfl,hl',z'⟩|⟨ne',z'⟩
   ·exact vK z'.symm (hw es)
   ·exact h6 k es z'
  ·rcases qc hk with⟨rfl,hl',z'⟩|⟨ne',z'⟩
   ·rcases qc sk with⟨_,_,e⟩|⟨ne2,_⟩
    ·exact hv es z'.symm j ds z e.symm
    ·exact ne2 rfl
   ·rw[zJ ne']at sk;exact h7 k es z' sk
def X4.setW{i:Nat}{w:Option W}(o:X4 K H0 G ω σ H)(hw:∀ds,w≠some (.pw ds))(ho:∀ds,w≠some (.ow ds)):X4 K H0 G (ω.set i w) σ H:=by
 intro j ds hj;rcases qc hj with⟨rfl,hl,z⟩|⟨ne,z⟩
 ·exact vK z.symm (hw ds)
 ·obtain⟨vs,h1,h2,h3,h4,h5,h6,h7⟩:=o j ds z
  refine⟨vs,h1,h2,h3,h4,h5,λk es hk=>?_,λk es hk=>?_⟩
  ·rcases qc hk with⟨rfl,hl',z'⟩|⟨ne',z'⟩
   ·exact vK z'.symm (hw es)
   ·exact h6 k es z'
  ·rcases qc hk with⟨rfl,hl',z'⟩|⟨ne',z'⟩
   ·exact vK z'.symm (ho es)
   ·exact h7 k es z'
def X4.upd{p:vJ}{ob:HO}(o:X4 K H0 G ω σ H)(hp:∀(j:Nat)es,ω[j]?=some (some (.pw es))->H0.pin j≠p):X4 K H0 G ω σ (upd H p ob):=by
 intro j ds hj;obtain⟨vs,h1,h2,h3⟩:=o j ds hj;exact⟨vs,h1,by rw[qd (hp j ds hj)];exact h2,h3⟩
def X4.grow{p:vJ}{ob:HO}(o:X4 K H0 G ω σ H)(g:G p=none)(hp:∀(j:Nat)es,ω[j]?=some (some (.pw es))->H0.pin j≠p):X4 K H0 (L2.upd G p ob) ω σ H:=by
 intro j ds hj;obtain⟨vs,h1,h2,h3,h4,h5,h6⟩:=o j ds hj;exact⟨vs,h1,h2,by rw[qd (hp j ds hj)];exact h3,h4,h5.mono (Xz g _),h6⟩
def X4.ne_ow{i:Nat}{ds:List D}{l:vJ}(o:X4 K H0 G ω σ H)(hi:ω[i]?=some (some (.ow ds)))(hσ:σ[i]?=some (some (.ref l))):∀(j:Nat)es,ω[j]?=some (some (.pw es))->H0.pin j≠l:=λj es hj y=>by
 obtain⟨_,_,_,_,_,_,_,h7⟩:=o j es hj;exact h7 i ds hi (by rw[y];exact hσ)
def X4.ne_ob{l:vJ}(o:X4 K H0 G ω σ H)(h:∀vs,H l≠some (.lst vs)):∀(j:Nat)es,ω[j]?=some (some (.pw es))->H0.pin j≠l:=λj es hj y=>by
 obtain⟨vs,_,h2,_⟩:=o j es hj;exact h vs (by rw[<- y];exact h2)
def X4.setL{i:Nat}{ds es:List D}(o:X4 K H0 G ω σ H)(hi:ω[i]?=some (some (.ow ds))):X4 K H0 G (ω.set i (some (.ow es))) σ H:=by
 intro j ds' hj;rcases qc hj with⟨rfl,hl,z⟩|⟨ne,z⟩
 ·cases z
 ·obtain⟨vs,h1,h2,h3,h4,h5,h6,h7⟩:=o j ds' z
  refine⟨vs,h1,h2,h3,h4,h5,λk es hk=>?_,λk es hk=>?_⟩
  ·rcases qc hk with⟨rfl,hl',z'⟩|⟨ne',z'⟩
   ·cases z'
   ·exact h6 k es z'
  ·rcases qc hk with⟨rfl,hl',z'⟩|⟨ne',z'⟩
   ·exact h7 i ds hi
   ·exact h7 k es z'
def Own.od_set{i:Nat}{w:Option W}{v:Option V}(o:Own K G0 H0 G ω σ H)(h:∀ks ds,w≠some (.od ks ds)):∀(j:Nat)ks ds,(ω.set i w)[j]?=some (some (.od ks ds))->∃p vs,(σ.set i v)[j]?=some (some (.ref p))/\H p=some (.dK (kvsOf ks vs))/\G p=none/\H0 p=none/\ks.length=ds.length/\Yx K G ds vs /\
  ∀(k:Nat)ks' es,(ω.set i w)[k]?=some (some (.od ks' es))->(σ.set i v)[k]?=some (some (.ref p))->j=k:=by
 intro j ks ds hj;rcases qc hj with⟨rfl,hl,z⟩|⟨ne,z⟩
 ·exact vK z.symm (h ks ds)
 ·obtain⟨p,vs,h1,h2,h3,h4,h5,h6,h7⟩:=o.od j ks ds z
  refine⟨p,vs,by rw[zJ ne];exact h1,h2,h3,h4,h5,h6,λk ks' es hk sk=>?_⟩;rcases qc hk with⟨rfl,hl',z'⟩|⟨ne',z'⟩
  ·exact vK z'.symm (h ks' es)
  ·rw[zJ ne']at sk
   exact h7 k ks' es z' sk
def Own.setSh{i:Nat}{d:D}{v:V}(o:Own K G0 H0 G ω σ H)(h:Rep K G d v):Own K G0 H0 G (ω.set i ↥d) (σ.set i (some v)) H:=by
 refine⟨o.ext,by rw[yC,yC,o.len],λj e hj=>?_,λj ds hj=>?_,λj k ds es l hj hk sj sk=>?_,o.od_set (λ_ _ z=>by cases z),o.pw.set (λ_ z=>by cases z) (λ_ z=>by cases z)⟩
 ·rcases qc hj with⟨rfl,hl,z⟩|⟨ne,z⟩
  ·cases z;exact⟨v,q1T (by rw[<- o.len];exact hl),h⟩
  ·obtain⟨u,h1,h2⟩:=o.sh j e z
   exact⟨u,by rw[zJ ne];exact h1,h2⟩
 ·rcases qc hj with⟨rfl,hl,z⟩|⟨ne,z⟩
  ·cases z
  ·obtain⟨l,vs,h1,h2⟩:=o.ow j ds z
   exact⟨l,vs,by rw[zJ ne];exact h1,h2⟩
 ·rcases qc hj with⟨rfl,hl,z⟩|⟨ne,z⟩
  ·cases z
  ·rcases qc hk with⟨rfl,hl',z'⟩|⟨ne',z'⟩
   ·cases z'
   ·rw[zJ ne]at sj
    rw[zJ ne']at sk;exact o.nd j k ds es l z z' sj sk
def Own.setOw{i:Nat}{ds:List D}{l:vJ}{vs:List V}(o:Own K G0 H0 G ω σ H)(h1:H l=some (.lst vs))(h2:G l=none)(h3:H0 l=none)(h4:Yx K G ds vs)(h5:∀(j:Nat)es,ω[j]?=some (some (.ow es))->σ[j]?≠some (some (.ref l)))(h6:∀(j:Nat)es,ω[j]?=some (some (.pw es))->H0.pin j≠l):Own K G0 H0 G (ω.set i (some (.ow ds))) (σ.set i (some (.ref l))) H:=by
 refine⟨o.ext,by rw[yC,yC,o.len],λj e hj=>?_,λj es hj=>?_,λj k es fs m hj hk sj sk=>?_,o.od_set (λ_ _ z=>by cases z),o.pw.set (λ_ z=>by cases z) (λ_ _ j es hj y=>h6 j es hj (by cases y;rfl))⟩
 ·rcases qc hj with⟨rfl,hl,z⟩|⟨ne,z⟩
  ·cases z
  ·obtain⟨u,q1,q2⟩:=o.sh j e z
   exact⟨u,by rw[zJ ne];exact q1,q2⟩
 ·rcases qc hj with⟨rfl,hl,z⟩|⟨ne,z⟩
  ·cases z;exact⟨l,vs,q1T (by rw[<- o.len];exact hl),h1,h2,h3,h4⟩
  ·obtain⟨m,us,q1,q2⟩:=o.ow j es z
   exact⟨m,us,by rw[zJ ne];exact q1,q2⟩
 ·rcases qc hj with⟨e1,hl,z⟩|⟨ne,z⟩
  ·rcases qc hk with⟨e2,hl',z'⟩|⟨ne',z'⟩
   ·exact e1.symm.trans e2
   ·rw[zJ ne']at sk
    subst e1;rw[q1T (by rw[<- o.len];exact hl)]at sj;cases sj;exact vK sk (h5 k fs z')
  ·rcases qc hk with⟨e2,hl',z'⟩|⟨ne',z'⟩
   ·rw[zJ ne]at sj
    subst e2;rw[q1T (by rw[<- o.len];exact hl')]at sk;cases sk;exact vK sj (h5 j es z)
   ·rw[zJ ne]at sj
    rw[zJ ne']at sk;exact o.nd j k es fs m z z' sj sk
def Own.mut{i:Nat}{ds es:List D}{l:vJ}{vs us:List V}(o:Own K G0 H0 G ω σ H)(hi:ω[i]?=some (some (.ow ds)))(hσ:σ[i]?=some (some (.ref l)))(h1:H l=some (.lst vs))(h2:G l=none)(h3:H0 l=none)(h4:Yx K G es us):
  Own K G0 H0 G (ω.set i (some (.ow es))) σ (upd H l (.lst us)):=by
 have ho:i<ω.length:=(zh.mp hi).1;refine⟨⟨o.ext.gg,Y3 o.ext.gh h2 _,Y3 o.ext.hh h3 _,o.ext.new⟩,by rw[yC,o.len],λj e hj=>?_,λj fs hj=>?_,λj k fs gs m hj hk sj sk=>?_,λj ks fs hj=>?_,(o.pw.upd (o.pw.ne_ow hi hσ)).setL hi⟩
 ·rcases qc hj with⟨rfl,hl,z⟩|⟨ne,z⟩
  ·cases z
  ·exact o.sh j e z
 ·rcases qc hj with⟨rfl,hl,z⟩|⟨ne,z⟩
  ·cases z;exact⟨l,us,hσ,qe,h2,h3,h4⟩
  ·obtain⟨m,ws,q1,q2,q3,q4,q5⟩:=o.ow j fs z
   have hm:m≠l:=λy=>ne (o.nd i j ds fs l hi z hσ (by rw[<- y];exact q1));exact⟨m,ws,q1,by rw[qd hm];exact q2,q3,q4,q5⟩
 ·rcases qc hj with⟨e1,hl,z⟩|⟨ne,z⟩
  ·rcases qc hk with⟨e2,hl',z'⟩|⟨ne',z'⟩
   ·exact e1.symm.trans e2
   ·subst e1;exact o.nd i k ds gs m hi z' sj sk
  ·rcases qc hk with⟨e2,hl',z'⟩|⟨ne',z'⟩
   ·subst e2;exact o.nd j i fs ds m z hi sj sk
   ·exact o.nd j k fs gs m z z' sj sk
 ·rcases qc hj with⟨e1,hl,z⟩|⟨ne,z⟩
  ·cases z
  ·obtain⟨p,ws,q1,q2,q3,q4,q5,q6,q7⟩:=o.od j ks fs z
   have hp:p≠l:=λy=>by rw[y,h1]at q2;cases q2
   refine⟨p,ws,q1,by rw[qd hp];exact q2,q3,q4,q5,q6,λk ks' es hk sk=>?_⟩;rcases qc hk with⟨e2,hl',z'⟩|⟨ne',z'⟩
   ·cases z'
   ·exact q7 k ks' es z' sk
def Own.mutP{i:Nat}{ds es:List D}{us:List V}(o:Own K G0 H0 G ω σ H)(hi:ω[i]?=some (some (.pw ds)))(h4:Yx K G es us):
  Own K G0 H0 G (ω.set i (some (.pw es))) σ (L2.upd H (H0.pin i) (.lst us)):=by
 obtain⟨vs,p1,p2,p3,p4,p5,p6,p7⟩:=o.pw i ds hi;refine⟨⟨o.ext.gg,Y3 o.ext.gh p3 _,Y3 o.ext.hh p4 _,o.ext.new⟩,by rw[yC,o.len],λj e hj=>?_,λj fs hj=>?_,λj k fs gs m hj hk sj sk=>?_,λj ks fs hj=>?_,λj fs hj=>?_⟩
 ·rcases qc hj with⟨rfl,hl,z⟩|⟨ne,z⟩
  ·cases z
  ·exact o.sh j e z
 ·rcases qc hj with⟨rfl,hl,z⟩|⟨ne,z⟩
  ·cases z
  ·obtain⟨m,ws,q1,q2,q3,q4,q5⟩:=o.ow j fs z
   have hm:m≠H0.pin i:=λy=>p7 j fs z (by rw[<- y];exact q1);exact⟨m,ws,q1,by rw[qd hm];exact q2,q3,q4,q5⟩
 ·rcases qc hj with⟨e1,hl,z⟩|⟨ne,z⟩
  ·cases z
  ·rcases qc hk with⟨e2,hl',z'⟩|⟨ne',z'⟩
   ·cases z'
   ·exact o.nd j k fs gs m z z' sj sk
 ·rcases qc hj with⟨e1,hl,z⟩|⟨ne,z⟩
  ·cases z
  ·obtain⟨p,ws,q1,q2,q3,q4,q5,q6,q7⟩:=o.od j ks fs z
   have hp:p≠H0.pin i:=λy=>by rw[y,p2]at q2;cases q2
   refine⟨p,ws,q1,by rw[qd hp];exact q2,q3,q4,q5,q6,λk ks' es hk sk=>?_⟩;rcases qc hk with⟨e2,hl',z'⟩|⟨ne',z'⟩
   ·cases z'
   ·exact q7 k ks' es z' sk
 ·rcases qc hj with⟨rfl,hl,z⟩|⟨ne,z⟩
  ·cases z
   refine⟨us,p1,qe,p3,p4,h4,λk es hk y=>?_,λk es hk=>?_⟩
   ·rcases qc hk with⟨e2,hl',z'⟩|⟨ne',z'⟩
    ·exact e2.symm
    ·exact p6 k es z' y
   ·rcases qc hk with⟨e2,hl',z'⟩|⟨ne',z'⟩
    ·cases z'
    ·exact p7 k es z'
  ·obtain⟨ws,q1,q2,q3,q4,q5,q6,q7⟩:=o.pw j fs z
   have hp:H0.pin j≠H0.pin i:=λy=>ne (p6 j fs z y).symm;refine⟨ws,q1,by rw[qd hp];exact q2,q3,q4,q5,λk es hk y=>?_,λk es hk=>?_⟩
   ·rcases qc hk with⟨e2,hl',z'⟩|⟨ne',z'⟩
    ·subst e2;exact vK y (Ne.symm hp)
    ·exact q6 k es z' y
   ·rcases qc hk with⟨e2,hl',z'⟩|⟨ne',z'⟩
    ·cases z'
    ·exact q7 k es z'
def Own.setOd{i:Nat}{ks:List Int}{ds:List D}{p:vJ}{vs:List V}(o:Own K G0 H0 G ω σ H)(h1:H p=some (.dK (kvsOf ks vs)))(h2:G p=none)(h3:H0 p=none)(h4:ks.length=ds.length)(h5:Yx K G ds vs)(h6:∀(j:Nat)ks' es,ω[j]?=some (some (.od ks' es))->σ[j]?≠some (some (.ref p))):Own K G0 H0 G (ω.set i (some (.od ks ds))) (σ.set i (some (.ref p))) H:=by
 refine⟨o.ext,by rw[yC,yC,o.len],λj e hj=>?_,λj es hj=>?_,λj k es fs m hj hk sj sk=>?_,λj ks' es hj=>?_,o.pw.set (λ_ z=>by cases z) (λ_ z=>by cases z)⟩
 ·rcases qc hj with⟨rfl,hl,z⟩|⟨ne,z⟩
  ·cases z
  ·obtain⟨u,q1,q2⟩:=o.sh j e z
   exact⟨u,by rw[zJ ne];exact q1,q2⟩
 ·rcases qc hj with⟨rfl,hl,z⟩|⟨ne,z⟩
  ·cases z
  ·obtain⟨m,us,q1,q2⟩:=o.ow j es z
   exact⟨m,us,by rw[zJ ne];exact q1,q2⟩
 ·rcases qc hj with⟨e1,hl,z⟩|⟨ne,z⟩
  ·cases z
  ·rcases qc hk with⟨e2,hl',z'⟩|⟨ne',z'⟩
   ·cases z'
   ·rw[zJ ne]at sj
    rw[zJ ne']at sk;exact o.nd j k es fs m z z' sj sk
 ·rcases qc hj with⟨rfl,hl,z⟩|⟨ne,z⟩
  ·cases z
   refine⟨p,vs,q1T (by rw[<- o.len];exact hl),h1,h2,h3,h4,h5,λk ks'' fs hk sk=>?_⟩;rcases qc hk with⟨e2,hl',z'⟩|⟨ne',z'⟩
   ·exact e2
   ·rw[zJ ne']at sk
    exact vK sk (h6 k ks'' fs z')
  ·obtain⟨p',vs',q1,q2,q3,q4,q5,q6,q7⟩:=o.od j ks' es z
   refine⟨p',vs',by rw[zJ ne];exact q1,q2,q3,q4,q5,q6,λk ks'' fs hk sk=>?_⟩;rcases qc hk with⟨e2,hl',z'⟩|⟨ne',z'⟩
   ·subst e2
    rw[q1T (by rw[<- o.len];exact hl')]at sk;cases sk;exact vK q1 (h6 j ks' es z)
   ·rw[zJ ne']at sk
    exact q7 k ks'' fs z' sk
def Own.mutD{i:Nat}{ks ks2:List Int}{ds es:List D}{p:vJ}{vs us:List V}(o:Own K G0 H0 G ω σ H)(hi:ω[i]?=some (some (.od ks ds)))(hσ:σ[i]?=some (some (.ref p)))(h1:H p=some (.dK (kvsOf ks vs)))(h2:G p=none)(h3:H0 p=none)(h4:ks2.length=es.length)(h5:Yx K G es us):
  Own K G0 H0 G (ω.set i (some (.od ks2 es))) σ (upd H p (.dK (kvsOf ks2 us))):=by
 have ho:i<ω.length:=(zh.mp hi).1;refine⟨⟨o.ext.gg,Y3 o.ext.gh h2 _,Y3 o.ext.hh h3 _,o.ext.new⟩,by rw[yC,o.len],λj e hj=>?_,λj fs hj=>?_,λj k fs gs m hj hk sj sk=>?_,λj ks' fs hj=>?_,(o.pw.upd (o.pw.ne_ob λvs z=>by rw[h1]at z;cases z)).setW (λ_ z=>by cases z) (λ_ z=>by cases z)⟩
 ·rcases qc hj with⟨rfl,hl,z⟩|⟨ne,z⟩
  ·cases z
  ·exact o.sh j e z
 ·rcases qc hj with⟨rfl,hl,z⟩|⟨ne,z⟩
  ·cases z
  ·obtain⟨m,ws,q1,q2,q3,q4,q5⟩:=o.ow j fs z
   have hm:m≠p:=λy=>by rw[y,h1]at q2;cases q2
   exact⟨m,ws,q1,by rw[qd hm];exact q2,q3,q4,q5⟩
 ·rcases qc hj with⟨e1,hl,z⟩|⟨ne,z⟩
  ·cases z
  ·rcases qc hk with⟨e2,hl',z'⟩|⟨ne',z'⟩
   ·cases z'
   ·exact o.nd j k fs gs m z z' sj sk
 ·obtain⟨p0,vs0,r1,r2,r3,r4,r5,r6,r7⟩:=o.od i ks ds hi
  rw[hσ]at r1;cases r1;rcases qc hj with⟨rfl,hl,z⟩|⟨ne,z⟩
  ·cases z
   refine⟨p,us,hσ,qe,h2,h3,h4,h5,λk ks'' gs hk sk=>?_⟩;rcases qc hk with⟨e2,hl',z'⟩|⟨ne',z'⟩
   ·exact e2
   ·exact r7 k ks'' gs z' sk
  ·obtain⟨q,ws,q1,q2,q3,q4,q5,q6,q7⟩:=o.od j ks' fs z
   have hp:q≠p:=λy=>ne (r7 j ks' fs z (by rw[<- y];exact q1));refine⟨q,ws,q1,by rw[qd hp];exact q2,q3,q4,q5,q6,λk ks'' gs hk sk=>?_⟩;rcases qc hk with⟨e2,hl',z'⟩|⟨ne',z'⟩
   ·subst e2
    rw[hσ]at sk;cases sk;exact vK rfl hp
   ·exact q7 k ks'' gs z' sk
noncomputable def share(i:Nat)(ω:WSt):WSt:=match ω[i]? with
 | some (some (.ow ds))=>ω.set i ↥(.lst ds)
 | some (some (.od ks ds))=>ω.set i ↥(.dic ks ds)
 | _=>ω
theorem Own.share(i:Nat)(o:Own K G0 H0 G ω σ H):(∃G',Y7 G G'/\Own K G0 H0 G' (share i ω) σ H)\/∃p kvs,σ[i]?=some (some (.ref p))/\H p=some (.dK kvs)/\∀ob,∃G',Y7 G G'/\Own K G0 H0 G' (share i ω) σ (upd H p (.frz ob (.dK kvs))):=by
 unfold Hk.share;cases q:ω[i]? with
 | none=>exact .inl ⟨G,Y7.refl _,o⟩
 | some w=>
  cases w with
  | none=>exact .inl ⟨G,Y7.refl _,o⟩
  | some w=>
   cases w with
   | sh d=>exact .inl ⟨G,Y7.refl _,o⟩
   | pw ds=>exact .inl ⟨G,Y7.refl _,o⟩
   | ow ds=>
    obtain⟨l,vs,q1,q2,q3,q4,q5⟩:=o.ow i ds q;have s1:Y7 G (upd G l (.lst vs)):=Xz q3 _;have ho:i<ω.length:=(zh.mp q).1;refine .inl ⟨upd G l (.lst vs),s1,⟨o.ext.gg.trans s1,λb u z=>?_,o.ext.hh,λb z1 z2=>?_⟩,by rw[yC,o.len],λj e hj=>?_,λj fs hj=>?_,λj k fs gs m hj hk sj sk=>?_,λj ks fs hj=>?_,(o.pw.grow q3 (o.pw.ne_ow q q1)).setW (λ_ z=>by cases z) (λ_ z=>by cases z)⟩
    ·by_cases hb:b=l
     ·subst hb;rw[qe]at z;rw[q2];exact z
     ·rw[qd hb]at z;exact o.ext.gh b u z
    ·rw[qd (λhb=>z2 (by rw[hb];exact q4))];exact o.ext.new b z1 z2
    ·rcases qc hj with⟨rfl,hl,z⟩|⟨ne,z⟩
     ·cases z;exact⟨_,q1,l,vs,rfl,qe,q5.mono s1⟩
     ·obtain⟨u,r1,r2⟩:=o.sh j e z
      exact⟨u,r1,r2.mono s1⟩
    ·rcases qc hj with⟨rfl,hl,z⟩|⟨ne,z⟩
     ·cases z
     ·obtain⟨m,ws,r1,r2,r3,r4,r5⟩:=o.ow j fs z
      have hm:m≠l:=λy=>ne (o.nd i j ds fs l q z q1 (by rw[<- y];exact r1));exact⟨m,ws,r1,r2,by rw[qd hm];exact r3,r4,r5.mono s1⟩
    ·rcases qc hj with⟨e1,hl,z⟩|⟨ne,z⟩
     ·cases z
     ·rcases qc hk with⟨e2,hl',z'⟩|⟨ne',z'⟩
      ·cases z'
      ·exact o.nd j k fs gs m z z' sj sk
    ·rcases qc hj with⟨e1,hl,z⟩|⟨ne,z⟩
     ·cases z
     ·obtain⟨m,ws,r1,r2,r3,r4,r5,r6,r7⟩:=o.od j ks fs z
      have hm:m≠l:=λy=>by rw[y,q2]at r2;cases r2
      refine⟨m,ws,r1,r2,by rw[qd hm];exact r3,r4,r5,r6.mono s1,λk ks' es hk sk=>?_⟩;rcases qc hk with⟨e2,hl',z'⟩|⟨ne',z'⟩
      ·cases z'
      ·exact r7 k ks' es z' sk
   | od ks0 ds=>
    obtain⟨l,vs,q1,q2,q3,q4,q6,q5,q7⟩:=o.od i ks0 ds q;refine .inr ⟨l,_,q1,q2,λob=>?_⟩;have s1:Y7 G (upd G l (.frz ob (.dK (kvsOf ks0 vs)))):=Xz q3 _;have ho:i<ω.length:=(zh.mp q).1;refine⟨upd G l (.frz ob (.dK (kvsOf ks0 vs))),s1,⟨o.ext.gg.trans s1,zAa o.ext.gh _,Y3 o.ext.hh q4 _,λb z1 z2=>?_⟩,by rw[yC,o.len],λj e hj=>?_,λj fs hj=>?_,λj k fs gs m hj hk sj sk=>?_,λj ks fs hj=>?_,((o.pw.upd (o.pw.ne_ob λvs z=>by rw[q2]at z;cases z)).grow q3 (o.pw.ne_ob λvs z=>by rw[q2]at z;cases z)).setW (λ_ z=>by cases z) (λ_ z=>by cases z)⟩
    ·rw[qd (λhb=>z2 (by rw[hb];exact q4))];exact o.ext.new b z1 z2
    ·rcases qc hj with⟨rfl,hl,z⟩|⟨ne,z⟩
     ·cases z;exact⟨_,q1,l,vs,rfl,⟨ob,qe⟩,q6,q5.mono s1⟩
     ·obtain⟨u,r1,r2⟩:=o.sh j e z
      exact⟨u,r1,r2.mono s1⟩
    ·rcases qc hj with⟨rfl,hl,z⟩|⟨ne,z⟩
     ·cases z
     ·obtain⟨m,ws,r1,r2,r3,r4,r5⟩:=o.ow j fs z
      have hm:m≠l:=λy=>by rw[y,q2]at r2;cases r2
      exact⟨m,ws,r1,by rw[qd hm];exact r2,by rw[qd hm];exact r3,r4,r5.mono s1⟩
    ·rcases qc hj with⟨e1,hl,z⟩|⟨ne,z⟩
     ·cases z
     ·rcases qc hk with⟨e2,hl',z'⟩|⟨ne',z'⟩
      ·cases z'
      ·exact o.nd j k fs gs m z z' sj sk
    ·rcases qc hj with⟨e1,hl,z⟩|⟨ne,z⟩
     ·cases z
     ·obtain⟨m,ws,r1,r2,r3,r4,r5,r6,r7⟩:=o.od j ks fs z
      have hm:m≠l:=λy=>ne (q7 j ks fs z (by rw[<- y];exact r1));refine⟨m,ws,r1,by rw[qd hm];exact r2,by rw[qd hm];exact r3,r4,r5,r6.mono s1,λk ks' es hk sk=>?_⟩;rcases qc hk with⟨e2,hl',z'⟩|⟨ne',z'⟩
      ·cases z'
      ·exact r7 k ks' es z' sk
end
def Inv.freeze{X:Cx}{pins:List (vJ×Obj)}{σ:St}{H:Hp}{s:vG}{p:vJ}{kvs:List (Key×V)}(I:Inv X pins σ H s)(hp:H p=some (.dK kvs)):∃ob,Inv X pins σ (upd H p (.frz ob (.dK kvs))) s:=by
 have ok:=I.hok p _ hp;obtain⟨_,_,_,_,ob,_,_,e,_⟩:=id ok;have stay:∀b u,XF X.prog X.w H s.heap b u->XF X.prog X.w (upd H p (.frz ob (.dK kvs))) s.heap b u:=λb u x=>
  x.stay (λ_ _ _ q=>q) (λc q=>by rw[qd (λz=>by rw[z,hp]at q;cases q)];exact q) λc xs q=>by rw[qd (λz=>by rw[z,hp]at q;cases q)];exact q
 refine⟨ob,I.step (H':=upd H p (.frz ob (.dK kvs))) (h':=s.heap) (g':=s.gens) (d':=s.drawn) (t':=s.toks) (ch:=[]) (λ_ z=>nomatch z) (λ_ _ _ _ _ e _=>e) (λ_ o _ _ _ e _=>⟨o.slots,e⟩) (λb o _ _ n=>by rw[qd (λz=>by rw[z,hp]at n;cases n)];exact n) (λ_ o _ e=>⟨o,e⟩)
  (λb xs q=>by rw[qd (λz=>by rw[z,hp]at q;cases q)];exact q) (λb o u q=>by rw[qd (λz=>by rw[z,hp]at q;cases q)];exact q) (λb ps q=>⟨#[],by rw[qd (λz=>by rw[z,hp]at q;cases q),q];simp⟩) (λ_ hm=>hm) (λb u q=>?_) I.bare⟩
 by_cases z:b=p
 ·subst z
  rw[qe]at q;cases q;exact⟨e,stay _ _ ok⟩
 ·rw[qd z]at q
  exact stay b u (I.hok b u q)
def q5O{X:Cx}{sts:List vx}{t:TS}(i:Nat)(h:PSs X sts t):PSs X sts (λD σ H=>∃p kvs,σ[i]?=some (some (.ref p))/\H p=some (.dK kvs)/\∀ob,t D σ (upd H p (.frz ob (.dK kvs)))):=by
 intro pins s σ H D I q;obtain⟨p,kvs,_,hp,q⟩:=q;obtain⟨ob,I'⟩:=Inv.freeze I hp;exact h pins s σ _ D I' (q ob)
noncomputable def zAB(i:Nat)(f:FS):FS:=λω=>f (share i ω)
def q2Z{X:Cx}{sts:List vx}{f:FS}(i:Nat)(h:XSs X sts f):XSs X sts (zAB i f):=by
 obtain⟨t,h1,h2⟩:=h;refine⟨λD σ H=>t D σ H\/∃p kvs,σ[i]?=some (some (.ref p))/\H p=some (.dK kvs)/\∀ob,t D σ (upd H p (.frz ob (.dK kvs))),λpins s σ H D I q=>?_,λG0 H0 G ω σ H out ω' E o e k=>?_⟩
 ·rcases q with q|q
  ·exact h1 pins s σ H D I q
  ·exact q5O i h1 pins s σ H D I q
 ·rcases o.share i with⟨G1,g1,o1⟩|⟨p,kvs,z1,z2,z3⟩
  ·exact .inl (h2 G0 H0 G1 _ σ H out ω' E o1 e λG2 σ2 H2 w2 g2=>k G2 σ2 H2 w2 (g1.trans g2))
  ·refine .inr ⟨p,kvs,z1,z2,λob=>?_⟩
   obtain⟨G1,g1,o1⟩:=z3 ob;exact h2 G0 H0 G1 _ σ _ out ω' E o1 e λG2 σ2 H2 w2 g2=>k G2 σ2 H2 w2 (g1.trans g2)
noncomputable def setR(i:Nat)(r:R)(ω:WSt):Option WSt:=match r with
 | .sh d=>some (ω.set i ↥d)
 | .fr ds=>some (ω.set i (some (.ow ds)))
 | .vw _=>none
noncomputable def Xf(i:Nat)(f:FE):FS:=λω=>(f ω).bind λr=>(setR i r ω).map λw=>(.nx,w)
section
variable{X:Cx}{e:vW}{f:FE}{pos pos':Pos}
def qav{i:Nat}{t:TE}(h:zCy X.K t f):SimS X.K (zA0 t (WF i)) (Xf i f):=by
 intro G0 H0 G ω σ H out ω' E o e k;obtain⟨r,q,e⟩:=bnd e;obtain⟨w,q2,e⟩:=mpd e;cases e;refine h G0 H0 G ω σ H r _ o q λv G1 H1 x1 y1=>?_;have o1:=o.keep x1;show E.nx (σ.set i (some v)) H1;cases r with
 | sh d=>cases q2;exact k G1 _ H1 (o1.setSh y1) x1.gg
 | fr ds=>
  cases q2;obtain⟨l,vs,rfl,e2,e3,e4,e5⟩:=y1;refine k G1 _ H1 (o1.setOw e4 e3 (o.ext.hh.free e2) e5 (λj es hj z=>?_) λj es hj y=>?_) x1.gg
  ·obtain⟨m,us,q1,q2,_⟩:=o.ow j es hj
   rw[q1]at z;cases z;rw[e2]at q2;cases q2
  ·obtain⟨us,_,q2,_⟩:=o.pw j es hj
   rw[y,e2]at q2;cases q2
 | vw ds=>cases q2
def ql{i:Nat}{x:Str}(hN:X.N.Nodup)(hi:X.N[i]?=some x)(hx:Loc X.env.scope x)(he:XE X e f)(hs:v3 e (some (.Name x pos')) pos.line X.env=pure false:=by rfl)(hf:X.fn x=true\/X.env.scope.names.lookup x=some .local:=by first|exact .inl rfl|exact .inr rfl|assumption):
  XS X (.Assign [.Name x pos'] e pos) (Xf i f):=let ⟨_,h1,h2⟩:=he;⟨_,q0b hN hi hx h1 hs hf,qav h2⟩
noncomputable abbrev FG:=D->WSt->Option WSt
def SimG(K:zA)(g:TG)(fg:FG):Prop:=∀G0 H0 G ω σ H d v ω'(Q:St->Hp->Prop),Own K G0 H0 G ω σ H->fg d ω=some ω'->Rep K G d v->(∀σ',Own K G0 H0 G ω' σ' H->Q σ' H)->g v σ H Q
def XG(X:Cx)(tg:vW)(fg:FG):Prop:=∃g,PG X tg g/\SimG X.K g fg
noncomputable def gN(i:Nat):FG:=λd ω=>some (ω.set i ↥d)
def qg{i:Nat}{x:Str}(hN:X.N.Nodup)(hi:X.N[i]?=some x)(hx:Loc X.env.scope x)(hf:X.fn x=true\/X.env.scope.names.lookup x=some .local:=by first|exact .inl rfl|exact .inr rfl|assumption):XG X (.Name x pos) (gN i) :=
 ⟨_,q3o hN hi hx hf,λG0 H0 G ω σ H d v ω' Q o e h k=>by cases e;exact k _ (o.setSh h)⟩
def SimGs(K:zA)(g:TGs)(fg:List D->WSt->Option WSt):Prop:=∀G0 H0 G ω σ H ds vs ω'(Q:St->Hp->Prop),Own K G0 H0 G ω σ H->fg ds ω=some ω'->Yx K G ds vs->(∀σ',Own K G0 H0 G ω' σ' H->Q σ' H)->g vs σ H Q
def XGs(X:Cx)(tg:List vW)(fg:List D->WSt->Option WSt):Prop:=∃g,PGs X tg g/\SimGs X.K g fg
noncomputable def Xr:List D->WSt->Option WSt
 | [],ω=>some ω
 | _,_=>none
noncomputable def Yw(f:FG)(g:List D->WSt->Option WSt):List D->WSt->Option WSt
 | d::ds,ω=>(f d ω).bind λw=>g ds w
 | [],_=>none
def q1p:XGs X [] Xr:=⟨_,q9U,λG0 H0 G ω σ H ds vs ω' Q o e h k=>by
 cases ds with
 | nil=>cases e;cases (show vs=[]from h);exact⟨rfl,k σ o⟩
 | cons d r=>cases e⟩
def qx{es:List vW}{fg:FG}{gs:List D->WSt->Option WSt}(h:XG X e fg)(h':XGs X es gs)(hs:(uL (e::es) X.env).map (·.2)=assign e X.env::(uL es X.env).map (·.2):=by rfl):XGs X (e::es) (Yw fg gs):=by
 obtain⟨g,h1,h2⟩:=h;obtain⟨u,h3,h4⟩:=h';refine⟨_,q5f h1 h3 hs,λG0 H0 G ω σ H ds vs ω' Q o e h k=>?_⟩;cases ds with
 | nil=>cases e
 | cons d r=>
  obtain⟨w1,q,e1⟩:=bnd e;obtain⟨v,vr,rfl,r1,r2⟩:=h;exact⟨v,vr,rfl,h2 G0 H0 G ω σ H d v w1 _ o q r1 λσ1 o1=>h4 G0 H0 G w1 σ1 H r vr ω' Q o1 e1 r2 k⟩
noncomputable def gT(n:Nat)(g:List D->WSt->Option WSt):FG:=λd ω=>match d with
 | .tup ds=>if ds.length=n then g ds ω else none
 | _=>none
def q26{es:List vW}{k n:Nat}{gs:List D->WSt->Option WSt}(hc:X.calm=true)(h:XGs X es gs)(hn:(uL es X.env).length=n:=by rfl)(hst:(uL es X.env).findIdx? (·.1)=none:=by rfl):XG X (.Tuple es k pos) (gT n gs):=by
 obtain⟨g,h1,h2⟩:=h;refine⟨_,qc1 hc h1 hn hst,λG0 H0 G ω σ H d v ω' Q o e h k=>?_⟩;unfold gT at e;cases d with
 | tup ds=>
  dsimp only at e
  obtain⟨a,vs,rfl,r1,r2⟩:=h
  by_cases z:ds.length=n
  ·rw[vC z]at e
   exact⟨a,vs,rfl,SqT.of (o.gh _ _ r1),by rw[<- r2.len];exact z,h2 G0 H0 G ω σ H ds vs ω' Q o e r2 k⟩
  ·rw[vF z]at e;cases e
 | _=>cases e
end
noncomputable def sIf(c:FT)(f g:FS):FS:=λω=>(c ω).bind λb=>if b=true then f ω else g ω
noncomputable def XX(f:FE):FS:=λω=>(f ω).bind λr=>match r with
 | .sh d=>some (.rt (.sh d),ω)
 | .fr ds=>some (.rt (.fr ds),ω)
 | .vw _=>none
noncomputable def zAe(i:Nat):FS:=λω=>match ω[i]? with
 | some ↥d=>some (.rt (.sh d),ω)
 | some (some (.ow ds))=>some (.rt (.fr ds),ω)
 | _=>none
noncomputable def sNo:FS:=λ_=>none
noncomputable def zBZ(f:FE):FS:=λω=>(f ω).map λ_=>(.nx,ω)
section
variable{X:Cx}{c e:vW}{a b:List vx}{st:vx}{pos:Pos}{fc:FT}{f g:FS}{fe:FE}
def qv(hc:XT X c fc)(ha:XSs X a f)(hb:XSs X b g):XS X (.If c a b pos) (sIf fc f g):=by
 obtain⟨t,h1,h2⟩:=hc;obtain⟨u,h3,h4⟩:=ha;obtain⟨w,h5,h6⟩:=hb;refine⟨_,qeL h1 h3 h5,λG0 H0 G ω σ H out ω' E o e k=>?_⟩;obtain⟨z,q,e⟩:=bnd e;refine h2 G0 H0 G ω σ H z _ o q λG1 H1 x1=>?_;cases z with
 | true=>rw[vC rfl]at e ⊢;exact h4 G0 H0 G1 ω σ H1 out ω' E (o.keep x1) e λG2 σ2 H2 o2 g2=>k G2 σ2 H2 o2 (x1.gg.trans g2)
 | false=>exact h6 G0 H0 G1 ω σ H1 out ω' E (o.keep x1) e λG2 σ2 H2 o2 g2=>k G2 σ2 H2 o2 (x1.gg.trans g2)
def qf(he:XE X e fe):XS X (.Return (some e) pos) (XX fe):=by
 obtain⟨t,h1,h2⟩:=he;refine⟨_,q49 h1,λG0 H0 G ω σ H out ω' E o e k=>?_⟩;obtain⟨r,q,e⟩:=bnd e;refine h2 G0 H0 G ω σ H r _ o q λv G1 H1 x1 y1=>?_;cases r with
 | sh d=>cases e;exact k G1 σ H1 (o.keep x1) x1.gg v y1
 | fr ds=>
  cases e;obtain⟨l,vs,e1,e2,e3⟩:=y1;exact k G1 σ H1 (o.keep x1) x1.gg v ⟨l,vs,e1,o.ext.hh.free e2,e3⟩
 | vw ds=>cases e
def q6l{i:Nat}(he:PE X e (Xg i)):XS X (.Return (some e) pos) (zAe i):=by
 refine⟨_,q49 he,λG0 H0 G ω σ H out ω' E o e k=>?_⟩;unfold zAe at e;cases q:ω[i]? with
 | none=>rw[q]at e;cases e
 | some w=>
  rw[q]at e;cases w with
  | none=>cases e
  | some w=>
   cases w with
   | sh d=>
    cases e;obtain⟨v,q1,q2⟩:=o.sh i d q;exact⟨v,q1,k G σ H o (Y7.refl _) v q2⟩
   | ow ds=>
    cases e;obtain⟨l,vs,q1,q2,q3,q4,q5⟩:=o.ow i ds q;exact⟨_,q1,k G σ H o (Y7.refl _) _ ⟨l,vs,rfl,q4,q3,q2,q5⟩⟩
   | od ks ds=>cases e
   | pw ds=>cases e
def qaz:XS X st sNo:=⟨_,qe8,λG0 H0 G ω σ H out ω' E o e k=>by cases e⟩
def q6G(he:XE X e fe)(hs:v3 e none pos.line X.env=pure false:=by rfl):XS X (.Expr e pos) (zBZ fe):=by
 obtain⟨t,h1,h2⟩:=he;refine⟨_,q1r h1 hs,λG0 H0 G ω σ H out ω' E o e k=>?_⟩;obtain⟨r,q,e⟩:=mpd e;cases e;exact h2 G0 H0 G ω σ H r _ o q λv G1 H1 x1 y1=>k G1 σ H1 (o.keep x1) x1.gg
noncomputable def sApp(i:Nat)(f:FD):FS:=λω=>(f ω).bind λd=>match ω[i]? with
 | some (some (.ow ds))=>if ds.length<1000000 then some (.nx,ω.set i (some (.ow (ds++[d]))))else none
 | _=>none
def q7I{i:Nat}{o e:vW}{fd:FD}{apos cpos:Pos}(ho:PE X o (Xg i))(he:XD X e fd)(hbase:uO o "append" X.env (eval o X.env)=eval o X.env:=by rfl)(hfew:((v4 cpos (vL [e] X.env)).all (λx=>!x.1)&&(tM cpos (uf [] X.env)).all (λx=>x.1.isSome)
   && decide (([e]:List vW).length+([]:List uX).length+(if ([]:List uX).isEmpty then 0 else 1)<30))=true:=by rfl)
  (hline:(apos.endLine==cpos.line)=true:=by rfl) (hs:vL [e] X.env=(false,eval e X.env)::vL [] X.env:=by rfl) (hplain:(v4 cpos (vL [] X.env)).any (·.1)=false:=by rfl)
  (hsw:v3 (.Call (.Attribute o "append" apos) [e] [] cpos) none pos.line X.env=pure false:=by rfl) :
  XS X (.Expr (.Call (.Attribute o "append" apos) [e] [] cpos) pos) (sApp i fd):=by
 obtain⟨t,h1,h2⟩:=he;refine⟨_,q1r (q3O PySem.F.plainAttrs_list PySem.F.slot_list_append PySem.F.type_list_append q0R ho (qA h1 qz hs) hbase hfew hline hs hplain) hsw,λG0 H0 G ω σ H out ω' E ow e k=>?_⟩;obtain⟨d,q,e⟩:=bnd e;cases q2:ω[i]? with
 | none=>rw[q2]at e;cases e
 | some w=>
  rw[q2]at e;cases w with
  | none=>cases e
  | some w=>
   cases w with
   | sh d=>cases e
   | od ks ds=>cases e
   | pw ds=>cases e
   | ow ds=>
    dsimp only at e
    by_cases z:ds.length<1000000
    ·rw[vC z]at e
     cases e;obtain⟨l,vs,r1,r2,r3,r4,r5⟩:=ow.ow i ds q2;refine⟨.ref l,r1,.inl ⟨rfl,vs,SqL.of r2⟩,h2 G0 H0 G ω σ H d _ ow q λv G1 H1 x1 y1=>?_⟩;have o1:=ow.keep x1;have hz:vs.length<sizeLine:=by rw[<- r5.len,vp];omega
     refine⟨l,vs,v,rfl,rfl,x1.hh _ _ r2,hz,?_⟩;exact k G1 σ _ (o1.mut q2 r1 (x1.hh _ _ r2) (x1.new l r3 (by rw[r2];exact λz=>by cases z)) r4 ((r5.mono x1.gg).app (Yx.cons y1 Yx.nil))) x1.gg
    ·rw[vF z]at e;cases e
end
end Hk
namespace PySem
open AutoSeq1 MeetsSeq MeetsSeq2 MeetsSeq3
def extTup(l b:vJ)(xs ys:Array vB)(n m:Nat)(dd:Option vJ)(sl:Array (Option vB))(h1:¬(!xs.isEmpty&&Builtin.List.listTooLong (xs.size+ys.size))=true)(h2:xs.size<=sizeLine)(h3:xs.size+ys.size<=sizeLine+1):
  Meets (Builtin.«list.extend» ⟨[.ref l,.ref b],[]⟩) (λ_ R s=>s.heap.get? l=some { cls:=.type "list", data:=.seq xs n }/\s.heap.get? b=some { cls:=.type "tuple", dict:=dd,data:=.seq ys m,slots:=sl } /\
   R (.ok (.ret Value.none)) { s with heap:=s.heap.update l (Obj.mapSeq λz=>z++ys),toks:=s.toks }) :=
 .of_wp λprog w A R s h=>by
  obtain⟨hp,g,d,tk,os⟩:=s;obtain⟨e1,e2,q⟩:=h;have p1:=idx_int;have p2:=sub_tuple_tuple;have p3:=sub_list_list;have p4:=sub_tuple_list;have p5:=sub_list_tuple;have fit:(xs++ys).size<=sizeLine+1:=by rw[Array.size_append];exact h3
  wp_walk using (ux e1 rfl (hz:=h2) (_hz':=fit)),wpAny_loadPart' e1,wpAny_loadPart' e2
  exact⟨_,rfl,q⟩
end PySem
namespace Hk
open PySem L2
section
variable{X:Cx}{pos:Pos}
def rExtA:V->List V->Hp->VK->Prop:=λx vs H Q=>zBm x vs H Q\/∃l b xs zs,x=.ref l/\vs=[.ref b]/\H l=some (.lst xs)/\H b=some (.tup zs)/\xs.length+zs.length<=sizeLine/\Q .non (upd H l (.lst (xs++zs)))
def qfU:MtR X "list.extend" rExtA:=by
 intro pins s σ H x vs v us Q I rx rv h;rcases h with h|h
 ·exact qdf pins s σ H x vs v us Q I rx rv h
 obtain⟨l,b,xs,zs,rfl,rfl,hH,hB,hz,q⟩:=h;cases rx;obtain⟨u,rfl,ru⟩:=rv.one;cases ru;obtain⟨z,its,n,r,hl,e⟩:=I.lstM hH;obtain⟨its2,r2,⟨o2,e2,c2,n2,d2⟩,z2⟩:=I.tuple (SqT.of hB);have hl2:=r2.length;obtain⟨cls,dd,dt,sl⟩:=o2;cases c2;cases d2;have hsz:its.toArray.size+its2.toArray.size<=sizeLine:=by rw[zP,zP];omega
 have hlong:¬(!its.toArray.isEmpty&&Builtin.List.listTooLong (its.toArray.size+its2.toArray.size))=true:=by
  rw[zAE hsz,xm];exact zy
 refine u6 F.slot_list_extend ⟨_,e,rfl⟩ F.entry_list_extend (F.args_list_extend_2 _ _)
  (extTup l b its.toArray its2.toArray n n2 dd sl hlong (by rw[zP];omega) ∅) ⟨e,e2,?_⟩
 refine⟨.non,_,I.lset (its':=its++its2) hH e (by simp) (r.append r2) ?_,rfl,q⟩;rw[zC];omega
noncomputable def itemsOf:D->Option (List D)
 | .lst ds=>some ds
 | .tup ds=>some ds
 | _=>none
noncomputable def zCw(i:Nat)(f:FD):FS:=λω=>(f ω).bind λd=>(itemsOf d).bind λes=>match ω[i]? with
 | some (some (.ow ds))=>if ds.length+es.length<=1000000 then some (.nx,ω.set i (some (.ow (ds++es))))else none
 | _=>none
def q5D{i:Nat}{o e:vW}{fd:FD}{apos cpos:Pos}(ho:PE X o (Xg i))(he:XD X e fd)(hbase:uO o "extend" X.env (eval o X.env)=eval o X.env:=by rfl)(hfew:((v4 cpos (vL [e] X.env)).all (λx=>!x.1)&&(tM cpos (uf [] X.env)).all (λx=>x.1.isSome)
   && decide (([e]:List vW).length+([]:List uX).length+(if ([]:List uX).isEmpty then 0 else 1)<30))=true:=by rfl)
  (hline:(apos.endLine==cpos.line)=true:=by rfl) (hs:vL [e] X.env=(false,eval e X.env)::vL [] X.env:=by rfl) (hplain:(v4 cpos (vL [] X.env)).any (·.1)=false:=by rfl)
  (hsw:v3 (.Call (.Attribute o "extend" apos) [e] [] cpos) none pos.line X.env=pure false:=by rfl) :
  XS X (.Expr (.Call (.Attribute o "extend" apos) [e] [] cpos) pos) (zCw i fd):=by
 obtain⟨t,h1,h2⟩:=he;refine⟨_,q1r (q3O PySem.F.plainAttrs_list PySem.F.slot_list_extend PySem.F.type_list_extend qfU ho (qA h1 qz hs) hbase hfew hline hs hplain) hsw,λG0 H0 G ω σ H out ω' E ow e k=>?_⟩;obtain⟨d,q,e⟩:=bnd e;obtain⟨es,q3,e⟩:=bnd e;cases q2:ω[i]? with
 | none=>rw[q2]at e;cases e
 | some w=>
  rw[q2]at e;cases w with
  | none=>cases e
  | some w=>
   cases w with
   | sh d=>cases e
   | od ks ds=>cases e
   | pw ds=>cases e
   | ow ds=>
    dsimp only at e
    by_cases z:ds.length+es.length<=1000000
    ·rw[vC z]at e
     cases e;obtain⟨l,vs,r1,r2,r3,r4,r5⟩:=ow.ow i ds q2;refine⟨.ref l,r1,.inl ⟨rfl,vs,SqL.of r2⟩,h2 G0 H0 G ω σ H d _ ow q λv G1 H1 x1 y1=>?_⟩;have o1:=ow.keep x1;have fin:∀us:List V,Yx X.K G1 es us->vs.length+us.length<=sizeLine/\zBH X.K H0 G1 E .nx σ (upd H1 l (.lst (vs++us))):=λus hu=>
      ⟨by rw[<- r5.len,<- hu.len];exact q5l z,k G1 σ _ (o1.mut q2 r1 (x1.hh _ _ r2) (x1.new l r3 (by rw[r2];exact λz=>by cases z)) r4 ((r5.mono x1.gg).app hu)) x1.gg⟩
     cases d with
     | lst ds'=>
      cases q3;obtain⟨b,us,rfl,r6,r7⟩:=y1;obtain⟨f1,f2⟩:=fin us r7;exact .inl ⟨l,b,vs,us,rfl,rfl,x1.hh _ _ r2,x1.gh _ _ r6,f1,f2⟩
     | tup ds'=>
      cases q3;obtain⟨b,us,rfl,r6,r7⟩:=y1;obtain⟨f1,f2⟩:=fin us r7;exact .inr ⟨l,b,vs,us,rfl,rfl,x1.hh _ _ r2,x1.gh _ _ r6,f1,f2⟩
     | _=>cases q3
    ·rw[vF z]at e;cases e
end
structure IterOf (K:zA) (J:It) (G:Hp) (ds:List D):Prop where
 go:∀H i,Y7 G H->i<ds.length->J.go i H
 yld:∀G2 H i x H' d,Y7 G G2->Y7 G2 H->ds[i]?=some d->J.yld i H x H'->∃G3,Ext G2 H G3 H'/\Rep K G3 d x
 stop:∀H,Y7 G H->J.stop ds.length H
noncomputable abbrev FI:=WSt->Option (List D)
def SimI(K:zA)(wi:TI)(f:FI):Prop:=∀G0 H0 G ω σ H ds(R:It->Hp->Prop),Own K G0 H0 G ω σ H->f ω=some ds->(∀J G' H',Ext G H G' H'->IterOf K J G' ds->R J H')->wi σ H R
def XI(X:Cx)(tg iter:vW)(f:FI):Prop:=∃wi,PI X tg iter wi/\SimI X.K wi f
section
variable{X:Cx}{tg e:vW}
def qdJ{K:zA}{G:Hp}{a:vJ}{ds:List D}{vs:List V}(h1:G a=some (.lst vs))(h2:Yx K G ds vs):IterOf K (Itl K a) G ds:=by
 refine⟨λH i s hi=>?_,λG2 H i x H' d s0 s1 hd hy=>?_,λH s=>⟨vs,SqL.of (s _ _ h1),by rw[h2.len];exact zM _⟩⟩
 ·have:i<vs.length:=by rw[<- h2.len];exact hi
  exact⟨vs,vs[i],SqL.of (s _ _ h1),zD this⟩
 ·obtain⟨e,y⟩:=hy
  obtain⟨v,q1,q2⟩:=h2.get hd;have:=y vs (SqL.of (s1 _ _ (s0 _ _ h1)));rw[q1]at this;cases this;subst e;exact⟨G2,Ext.refl s1,q2.mono s0⟩
def qew{K:zA}{G:Hp}{a:vJ}{ds:List D}{vs:List V}(h1:G a=some (.tup vs))(h2:Yx K G ds vs):IterOf K (Itt K a) G ds:=by
 refine⟨λH i s hi=>?_,λG2 H i x H' d s0 s1 hd hy=>?_,λH s=>⟨vs,SqT.of (s _ _ h1),by rw[h2.len];exact zM _⟩⟩
 ·have:i<vs.length:=by rw[<- h2.len];exact hi
  exact⟨vs,vs[i],SqT.of (s _ _ h1),zD this⟩
 ·obtain⟨e,y⟩:=hy
  obtain⟨v,q1,q2⟩:=h2.get hd;have:=y vs (SqT.of (s1 _ _ (s0 _ _ h1)));rw[q1]at this;cases this;subst e;exact⟨G2,Ext.refl s1,q2.mono s0⟩
noncomputable def WD(f:FD):FI:=λω=>(f ω).bind itemsOf
def qt{f:FD}(h:XD X e f):XI X tg e (WD f):=by
 obtain⟨t,h1,h2⟩:=h;refine⟨λσ H R=>iList X.K t σ H R\/iTup X.K t σ H R,λpins s σ H R I q=>?_,λG0 H0 G ω σ H ds R o e k=>?_⟩
 ·rcases q with q|q
  ·exact q6D h1 pins s σ H R I q
  ·exact qge h1 pins s σ H R I q
 ·obtain⟨d,q,e⟩:=bnd e
  cases d with
  | lst es=>
   cases e;refine .inl (h2 G0 H0 G ω σ H _ _ o q λv G1 H1 x1 ⟨a,vs,e1,e2,e3⟩=>⟨a,e1,⟨vs,SqL.of (x1.gh _ _ e2)⟩,k _ G1 H1 x1 (qdJ e2 e3)⟩)
  | tup es=>
   cases e;refine .inr (h2 G0 H0 G ω σ H _ _ o q λv G1 H1 x1 ⟨a,vs,e1,e2,e3⟩=>⟨a,e1,⟨vs,SqT.of (x1.gh _ _ e2)⟩,k _ G1 H1 x1 (qew e2 e3)⟩)
  | _=>cases e
noncomputable def upTo(lo:Int)(n:Nat):List D:=(zk n).map λ(i:Nat)=>D.int (lo+(i:Int))
def q8H{K:zA}{G:Hp}(lo:Int)(n:Nat):IterOf K (Itr lo n) G (upTo lo n):=by
 have hl:(upTo lo n).length=n:=by unfold upTo;rw[zB,zz]
 refine⟨λH i s hi=>by rw[hl]at hi;exact hi,λG2 H i x H' d s0 s1 hd hy=>?_,λH s=>by rw[hl];exact zM _⟩;obtain⟨e,y⟩:=hy;subst e;refine⟨G2,Ext.refl s1,?_⟩;unfold upTo at hd;rw[zX]at hd;have hi:i<n:=by
  rcases yB i n with z|z
  ·exact z
  ·rw[zd (by rw[zz];exact z)]at hd;cases hd
 rw[xN hi]at hd;cases hd;exact y
noncomputable def iRg1(g:FA):FI:=λω=>(g ω).bind λds=>match ds with
 | [.int j]=>if -(2^62)<=j/\j<2^62 then some (upTo 0 j.toNat)else none
 | _=>none
noncomputable def iRg2(g:FA):FI:=λω=>(g ω).bind λds=>match ds with
 | [.int i,.int j]=>if (-(2^62)<=i/\i<2^62)/\-(2^62)<=j/\j<2^62 then some (upTo i (j-i).toNat)else none
 | _=>none
def qc3{a:vW}{g:FA}{p pos:Pos}(hg:Gl X "range")(hm:X.mg "range" = none)(ha:XVA X [a] g)(hs:vL [a] X.env=[(false,eval a X.env)]:=by rfl):XI X tg (.Call (.Name "range" p) [a] [] pos) (iRg1 g):=by
 obtain⟨t,h1,h2⟩:=ha;refine⟨_,qcK hg hm h1 hs,λG0 H0 G ω σ H ds R o e k=>?_⟩;obtain⟨vs,q,e⟩:=bnd e;refine h2 G0 H0 G ω σ H vs _ o q λus G1 H1 x1 y1=>?_
 match vs,e with
 | [.int j],e=>
  dsimp only at e
  by_cases z:-(2^62)<=j/\j<2^62
  ·rw[vC z]at e
   cases e;obtain⟨v,rfl,y2⟩:=y1.one;cases y2.int;exact⟨j,rfl,z.1,z.2,k _ G1 H1 x1 (q8H _ _)⟩
  ·rw[vF z]at e;cases e
def qdl{a b:vW}{g:FA}{p pos:Pos}(hg:Gl X "range")(hm:X.mg "range" = none)(ha:XVA X [a,b] g)(hs:vL [a,b] X.env=[(false,eval a X.env),(false,eval b X.env)]:=by rfl)(hs2:vL [b] X.env=[(false,eval b X.env)]:=by rfl):XI X tg (.Call (.Name "range" p) [a,b] [] pos) (iRg2 g):=by
 obtain⟨t,h1,h2⟩:=ha;refine⟨_,qdq hg hm h1 hs hs2,λG0 H0 G ω σ H ds R o e k=>?_⟩;obtain⟨vs,q,e⟩:=bnd e;refine h2 G0 H0 G ω σ H vs _ o q λus G1 H1 x1 y1=>?_
 match vs,e with
 | [.int i,.int j],e=>
  dsimp only at e
  by_cases z:(-(2^62)<=i/\i<2^62)/\-(2^62)<=j/\j<2^62
  ·rw[vC z]at e
   cases e;obtain⟨v,u,rfl,y2,y3⟩:=y1.two;cases y2.int;cases y3.int;exact⟨i,j,rfl,⟨z.1.1,z.1.2,z.2.1,z.2.2⟩,k _ G1 H1 x1 (q8H _ _)⟩
  ·rw[vF z]at e;cases e
end
noncomputable def Wg(g:FG)(b:FS):List D->FS
 | [],ω=>some (.nx,ω)
 | d::ds,ω=>(g d ω).bind λw=>(b w).bind λp=>match p.1 with
  | .nx=>Wg g b ds p.2
  | .ct=>Wg g b ds p.2
  | .bk=>some (.nx,p.2)
  | .rt r=>some (.rt r,p.2)
noncomputable def zAQ(fi:FI)(g:FG)(b:FS):FS:=λω=>(fi ω).bind λds=>Wg g b ds ω
section
variable{X:Cx}{tg iter:vW}{body:List vx}{pos:Pos}{fi:FI}{fg:FG}{fb:FS}
def qW(hp:tL (model X.prog X.w) X.A X.env X.xe)(hc:X.calm=true)(hi:XI X tg iter fi)(hg:XG X tg fg)(hb:XSs X body fb)(hs:∀x,vz iter X.env x=pure x:=by intro _;rfl):XS X (.For tg iter body [] pos) (zAQ fi fg fb):=by
 obtain⟨wi,h1,h2⟩:=hi;obtain⟨g,h3,h4⟩:=hg;obtain⟨tb,h5,h6⟩:=hb;refine⟨_,q5z hp hc h1 h3 h5 hs,λG0 H0 G ω σ H out ω' E o e k=>?_⟩;obtain⟨ds,q,e⟩:=bnd e;refine h2 G0 H0 G ω σ H ds _ o q λJ G1 H1 x1 it=>?_;refine⟨λi m σ2 H2=>∃G2 ω2,Own X.K G0 H0 G2 ω2 σ2 H2/\Y7 G1 G2/\Wg fg fb (ds.drop i) ω2=some (out,ω')/\i<=ds.length/\m=ds.length-i,⟨_,G1,ω,o.keep x1,Y7.refl _,e,yE _,rfl⟩,?_⟩;rintro i m σ2 H2 ⟨G2,ω2,o2,s2,f2,hi2,rfl⟩
 by_cases hlt:i<ds.length
 ·refine .inr ⟨it.go H2 i (s2.trans o2.gh) hlt,λσ3 H3=>∃G3 ω3,Own X.K G0 H0 G3 ω3 σ3 H3/\Y7 G1 G3/\Wg fg fb (ds.drop (i+1)) ω3=some (out,ω'),λσ3 H3 ⟨G3,ω3,a1,a2,a3⟩=>⟨ds.length-(i+1),∅,G3,ω3,a1,a2,a3,hlt,rfl⟩,λx H3 hy=>?_⟩
  have hd:ds[i]?=some ds[i]:=zD hlt;obtain⟨G4,x4,rx⟩:=it.yld G2 H2 i x H3 ds[i] s2 o2.gh hd hy;have o2:=o2.keep x4;have s2:=s2.trans x4.gg;rw[xV hlt]at f2;obtain⟨w,q1,f2⟩:=bnd f2;obtain⟨⟨o3,ω3⟩,q2,f2⟩:=bnd f2;refine h4 G0 H0 G4 ω2 σ2 H3 ds[i] x w _ o2 q1 rx λσ4 o4=>?_;refine h6 G0 H0 G4 w σ4 H3 o3 ω3 _ o4 q2 λG5 σ5 H5 o5 s5=>?_;cases o3 with
  | nx=>exact⟨G5,ω3,o5,s2.trans s5,f2⟩
  | ct=>exact⟨G5,ω3,o5,s2.trans s5,f2⟩
  | bk=>cases f2;exact k G5 σ5 H5 o5 (x1.gg.trans (s2.trans s5))
  | rt r=>cases f2;exact k G5 σ5 H5 o5 (x1.gg.trans (s2.trans s5))
 ·have ei:i=ds.length:=∅
  subst ei;rw[w9]at f2;cases f2;exact .inl ⟨it.stop H2 (s2.trans o2.gh),k G2 σ2 H2 o2 (x1.gg.trans s2)⟩
end
noncomputable def Xa(g:FG)(c:FT)(f:FD):List D->WSt->Option (List D)
 | [],_=>some []
 | d::ds,ω=>(g d ω).bind λw=>(c w).bind λb=>if b=true then (f w).bind λx=>(Xa g c f ds w).map λr=>x::r else Xa g c f ds w
noncomputable def Wv:Option (Option W)->Option W
 | some ↥d=>↥d
 | _=>none
noncomputable def inW(M:Nat)(frees:List Nat)(ω:WSt):WSt:=ze M none++frees.map λj=>Wv ω[j]?
noncomputable def Xj(M:Nat)(frees:List Nat)(fi:FI)(g:FG)(c:FT)(f:FD):FE:=λω=>(fi ω).bind λds=>if ds.length<=1000000 then (Xa g c f ds (inW M frees ω)).map R.fr else none
def XTs(X:Cx)(ifs:List vW)(f:FT):Prop:=∃t,PTs X ifs t/\zAu X.K t f
noncomputable def XQ:FT:=λ_=>some true
def qK{X:Cx}:XTs X [] XQ:=⟨_,qf5,λG0 H0 G ω σ H b Q o e k=>by cases e;exact k G H (Ext.refl o.gh)⟩
def q4T{X:Cx}{c:vW}{f:FT}(h:XT X c f):XTs X [c] f:=let ⟨t,h1,h2⟩:=h;⟨t,qg3 h1,h2⟩
section
variable{X:Cx}{N:List Str}{M:Nat}{frees:List Nat}{scope:um}{tg iter elt:vW}{ifs:List vW}{pos:Pos}{fi:FI}{fg:FG}{fc:FT}{fe:FD}
def WJ(ω:WSt):Prop:=∀(i:Nat)w,ω[i]?=some (some w)->∃d,w=.sh d
theorem WJ.ow{ω:WSt}(h:WJ ω)(i:Nat)(ds:List D):ω[i]?≠some (some (.ow ds)):=λz=>by obtain⟨d,e⟩:=h i _ z;cases e
theorem WJ.od{ω:WSt}(h:WJ ω)(i:Nat)(ks:List Int)(ds:List D):ω[i]?≠some (some (.od ks ds)):=λz=>by obtain⟨d,e⟩:=h i _ z;cases e
theorem WJ.pw{ω:WSt}(h:WJ ω)(i:Nat)(ds:List D):ω[i]?≠some (some (.pw ds)):=λz=>by obtain⟨d,e⟩:=h i _ z;cases e
def q99{wi:TI}{g:TG}{tc:TT}{te:TE}(h2:SimI X.K wi fi)(h4:SimG X.K g fg)(h6:zAu X.K tc fc)(h8:zBi X.K te fe)(hg:∀d ω ω',WJ ω->fg d ω=some ω'->WJ ω'):zCy X.K (zCk M frees wi g tc te) (Xj M frees fi fg fc fe):=by
 intro G0 H0 G ω σ H r Q o e k;obtain⟨ds,q,e⟩:=bnd e
 by_cases hz:ds.length<=1000000
 ·rw[vC hz]at e
  obtain⟨rs,q2,e⟩:=mpd e;subst e;refine h2 G0 H0 G ω σ H ds _ o q λJ G1 H1 x1 it=>?_;intro A hA;have ow0:WJ (inW M frees ω):=by
   intro i es z;unfold inW at z;rcases yB i M with y|y
   ·rw[zt ⇑y,yh,vC y]at z;cases z
   ·rw[zf ⇑y,zw,zX]at z
    cases e1:frees[i-M]? with
    | none=>rw[e1]at z;cases z
    | some j=>
     rw[e1]at z;have z':Wv ω[j]?=some es:=zj z;generalize ω[j]?=u at z';unfold Wv at z'
     split at z'
     ·cases z';exact⟨_,rfl⟩
     ·cases z'
  have own0:∀G2 H2,Y7 G1 G2->Y7 G2 H2->Own X.K G2 (fr H2) G2 (inW M frees ω) (zBs M frees σ) H2:=λG2 H2 s1 s2=>by
   have o1:=o.keep x1;refine⟨Ext.refl s2,by unfold inW zBs;simp,λi d hi=>?_,λi ds' hi=>vK hi (ow0.ow i ds'),λi j ds' es l hi=>vK hi (ow0.ow i ds'),λi ks ds' hi=>vK hi (ow0.od i ks ds'),X4.no ow0.pw⟩;unfold inW at hi;unfold zBs;rcases yB i M with y|y
   ·rw[zt ⇑y,yh,vC y]at hi;cases hi
   ·rw[zf ⇑y,zw,zX]at hi ⊢
    cases e1:frees[i-M]? with
    | none=>rw[e1]at hi;cases hi
    | some j=>
     rw[e1]at hi;have hi':Wv ω[j]?=↥d:=zj hi;cases e2:ω[j]? with
     | none=>rw[e2]at hi';cases hi'
     | some w=>
      rw[e2]at hi';cases w with
      | none=>cases hi'
      | some w=>
       cases w with
       | ow _=>cases hi'
       | od _ _=>cases hi'
       | pw _=>cases hi'
       | sh d'=>
        cases hi';obtain⟨v,q3,q4⟩:=o1.sh j _ e2;exact⟨v,by rw[yq,q3];rfl,q4.mono s1⟩
  refine⟨λi m σ2 H2=>∃G2 ω2 accd accv,Own X.K G2 (fr H2) G2 ω2 σ2 H2/\WJ ω2/\Ext G1 H1 G2 H2/\G2 A=none/\H2 A=some (.lst accv)/\Yx X.K G2 accd accv/\accd.length<=i/\i<=ds.length/\m=ds.length-i /\
   ∃rest,Xa fg fc fe (ds.drop i) ω2=some rest/\accd++rest=rs,⟨_,G1,inW M frees ω,[],[],own0 _ _ (Y7.refl _) (Y3 x1.gh (x1.gh.free hA) _),ow0,Ext.hide x1.gh hA _,x1.gh.free hA,qe,Yx.nil,zM _,yE _,rfl,rs,q2,rfl⟩,?_⟩
  rintro i m σ2 H2 ⟨G2,ω2,accd,accv,o2,no2,x2,gA,hA2,ra,la,li,rfl,rest,cd,er⟩
  by_cases hlt:i<ds.length
  ·refine .inr ⟨it.go H2 i (x2.gg.trans x2.gh) hlt,λx H3 hy=>?_⟩
   have hd:ds[i]?=some ds[i]:=zD hlt;obtain⟨G4,x4,rx⟩:=it.yld G2 H2 i x H3 ds[i] x2.gg x2.gh hd hy;have o2':=o2.keep x4;have o2:Own X.K G4 (fr H3) G4 ω2 σ2 H3:=⟨Ext.refl x4.gh,o2'.len,o2'.sh,λi ds' hi=>vK hi (no2.ow i ds'),λi j ds' es l hi=>vK hi (no2.ow i ds'),λi ks ds' hi=>vK hi (no2.od i ks ds'),X4.no no2.pw⟩;have gA:G4 A=none:=x4.new A gA (by rw[hA2];exact λz=>by cases z);have hA2:H3 A=some (.lst accv):=x4.hh _ _ hA2;have x2:=x2.trans x4;have ra:=ra.mono x4.gg;rw[xV hlt]at cd;obtain⟨w,q1,cd⟩:=bnd cd;obtain⟨b,q3,cd⟩:=bnd cd;have now:=hg _ _ _ no2 q1;refine h4 G4 (fr H3) G4 ω2 σ2 H3 ds[i] x w _ o2 q1 rx λσ4 o4=>?_;refine h6 G4 (fr H3) G4 w σ4 H3 b _ o4 q3 λG5 H5 x5=>?_;have o5:=o4.keep x5;have gA5:G5 A=none:=x5.new A gA (by rw[hA2];exact λz=>by cases z);have hA5:H5 A=some (.lst accv):=x5.hh _ _ hA2;cases b with
   | false=>
    rw[vF zy];rw[vF zy]at cd;have o6:Own X.K G5 (fr H5) G5 w σ4 H5:=⟨Ext.refl x5.gh,o5.len,o5.sh,λi ds' hi=>vK hi (now.ow i ds'),λi j ds' es l hi=>vK hi (now.ow i ds'),λi ks ds' hi=>vK hi (now.od i ks ds'),X4.no now.pw⟩;exact⟨ds.length-(i+1),∅,G5,w,accd,accv,o6,now,x2.trans x5,gA5,hA5,ra.mono x5.gg,∅,hlt,rfl,rest,cd,er⟩
   | true=>
    rw[vC rfl]at cd ⊢;obtain⟨d,q4,cd⟩:=bnd cd;obtain⟨rest',q5,cd⟩:=mpd cd;subst cd;refine h8 G4 (fr H3) G5 w σ4 H5 d _ o5 q4 λv G6 H6 x6 y6=>?_;have gA6:G6 A=none:=x6.new A gA5 (by rw[hA5];exact λz=>by cases z);have hA6:H6 A=some (.lst accv):=x6.hh _ _ hA5;have x26:=(x2.trans x5).trans x6;have raa:=ra.mono (x5.gg.trans x6.gg);have hl:accv.length<sizeLine:=by rw[<- raa.len,vp];omega
    refine⟨accv,hA6,hl,ds.length-(i+1),∅,G6,w,accd++[d],accv++[v],?_,now,⟨x26.gg,Y3 x26.gh gA6 _,Y3 x26.hh hA _,x26.new⟩,gA6,qe,raa.app (Yx.cons y6 Yx.nil),by rw[zC,zx];omega,hlt,rfl,rest',q5,by rw[zN];exact er⟩;have o6:=o5.keep x6;exact⟨Ext.refl (Y3 x6.gh gA6 _),o6.len,o6.sh,λi ds' hi=>vK hi (now.ow i ds'),λi j ds' es l hi=>vK hi (now.ow i ds'),λi ks ds' hi=>vK hi (now.od i ks ds'),X4.no now.pw⟩
  ·have ei:i=ds.length:=∅
   subst ei;rw[w9]at cd;cases cd;rw[zn]at er;subst er;refine .inl ⟨it.stop H2 (x2.gg.trans x2.gh),k _ G2 H2 (x1.trans x2) ⟨A,accv,rfl,x1.hh.free hA,gA,hA2,ra⟩⟩
 ·rw[vF hz]at e;cases e
def qdR{ω:WSt}{i:Nat}{d:D}(h:WJ ω):WJ (ω.set i ↥d):=by
 intro j ds z;rcases qc z with⟨_,_,y⟩|⟨_,y⟩
 ·cases y;exact⟨d,rfl⟩
 ·exact h j ds y
def Tame(fg:FG):Prop:=∀d ω ω',WJ ω->fg d ω=some ω'->WJ ω'
def zB2(gs:List D->WSt->Option WSt):Prop:=∀ds ω ω',WJ ω->gs ds ω=some ω'->WJ ω'
def qy(i:Nat):Tame (gN i):=λd ω ω' h e=>by cases e;exact qdR h
def q4d:zB2 Xr:=λds ω ω' h e=>by
 cases ds with
 | nil=>cases e;exact h
 | cons _ _=>cases e
def q0u{fg:FG}{gs:List D->WSt->Option WSt}(h:Tame fg)(h':zB2 gs):zB2 (Yw fg gs):=λds ω ω' n e=>by
 cases ds with
 | nil=>cases e
 | cons d r=>obtain⟨w,q,e⟩:=bnd e;exact h' _ _ _ (h _ _ _ n q) e
def q8U{n:Nat}{gs:List D->WSt->Option WSt}(h:zB2 gs):Tame (gT n gs):=λd ω ω' no e=>by
 unfold gT at e;cases d with
 | tup ds=>
  dsimp only at e
  by_cases z:ds.length=n
  ·rw[vC z]at e;exact h _ _ _ no e
  ·rw[vF z]at e;cases e
 | _=>cases e
noncomputable def canD(K:zA)(f:FD):TE:=λσ H Q=>∃G0 H0 G ω d,Own K G0 H0 G ω σ H/\f ω=some d/\∀v G' H',Ext G H G' H'->Rep K G' d v->Q v H'
noncomputable def canT(K:zA)(f:FT):TT:=λσ H Q=>∃G0 H0 G ω b,Own K G0 H0 G ω σ H/\f ω=some b/\∀G' H',Ext G H G' H'->Q b H'
noncomputable def canG(K:zA)(f:FG):TG:=λv σ H Q=>∃G0 H0 G ω d ω',Own K G0 H0 G ω σ H/\f d ω=some ω'/\Rep K G d v/\∀σ',Own K G0 H0 G ω' σ' H->Q σ' H
def XD.can{X:Cx}{e:vW}{f:FD}(h:XD X e f):PE X e (canD X.K f):=λpins s σ H Q I ⟨G0,H0,G,ω,d,o,e,k⟩=>let ⟨_,h1,h2⟩:=h;h1 pins s σ H Q I (h2 G0 H0 G ω σ H d Q o e k)
def XTs.can{X:Cx}{e:List vW}{f:FT}(h:XTs X e f):PTs X e (canT X.K f):=λpins s σ H Q I ⟨G0,H0,G,ω,d,o,e,k⟩=>let ⟨_,h1,h2⟩:=h;h1 pins s σ H Q I (h2 G0 H0 G ω σ H d Q o e k)
def XG.can{X:Cx}{e:vW}{f:FG}(h:XG X e f):PG X e (canG X.K f):=λpins s σ H v u Q I r ⟨G0,H0,G,ω,d,ω',o,e,y,k⟩=>let ⟨_,h1,h2⟩:=h;h1 pins s σ H v u Q I r (h2 G0 H0 G ω σ H d v ω' Q o e y k)
def q8p{K:zA}{f:FD}:zBi K (canD K f) f:=λG0 H0 G ω σ H d Q o e k=>⟨G0,H0,G,ω,d,o,e,k⟩
def q8h{K:zA}{f:FT}:zAu K (canT K f) f:=λG0 H0 G ω σ H d Q o e k=>⟨G0,H0,G,ω,d,o,e,k⟩
def q8i{K:zA}{f:FG}:SimG K (canG K f) f:=λG0 H0 G ω σ H d v ω' Q o e y k=>⟨G0,H0,G,ω,d,ω',o,e,y,k⟩
def qP(hc:X.calm=true)(B:BlkOk X N M frees scope)(hi:XI X tg iter fi)(ht:Tame fg)(hb:∀C s H fp,XG (WK X N scope C s H fp) tg fg/\XTs (WK X N scope C s H fp) ifs fc/\XD (WK X N scope C s H fp) elt fe)(hs:∀x,vz iter X.env x=pure x:=by intro _;rfl):XE X (.ListComp elt [⟨tg,iter,ifs,0⟩] scope pos) (Xj M frees fi fg fc fe):=by
 obtain⟨wi,h1,h2⟩:=hi;have b4:∀C s H fp,PG (WK X N scope C s H fp) tg (canG X.K fg)/\PTs (WK X N scope C s H fp) ifs (canT X.K fc)/\PE (WK X N scope C s H fp) elt (canD X.K fe):=λC s H fp=>⟨(hb C s H fp).1.can,(hb C s H fp).2.1.can,(hb C s H fp).2.2.can⟩;exact⟨_,qeW hc B h1 b4 hs,q99 h2 q8i q8h q8p ht⟩
def q2o{i:Nat}{x:Str}{pos' spos:Pos}(hc:X.calm=true)(hN:X.N.Nodup)(hi':X.N[i]?=some x)(hx:X.env.scope.names.lookup x=some .local)(B:BlkOk X N M frees scope)(hi:XI X tg iter fi)(ht:Tame fg)(hb:∀C s H fp,XG (WK X N scope C s H fp) tg fg/\XTs (WK X N scope C s H fp) ifs fc/\XD (WK X N scope C s H fp) elt fe)(hsw:v3 (.ListComp elt [⟨tg,iter,ifs,0⟩] scope pos) (some (.Name x pos')) spos.line X.env=pure true:=by rfl)(hs:∀x,vz iter X.env x=pure x:=by intro _;rfl):XS X (.Assign [.Name x pos'] (.ListComp elt [⟨tg,iter,ifs,0⟩] scope pos) spos) (Xf i (Xj M frees fi fg fc fe)):=by
 obtain⟨wi,h1,h2⟩:=hi;have b4:∀C s H fp,PG (WK X N scope C s H fp) tg (canG X.K fg)/\PTs (WK X N scope C s H fp) ifs (canT X.K fc)/\PE (WK X N scope C s H fp) elt (canD X.K fe):=λC s H fp=>⟨(hb C s H fp).1.can,(hb C s H fp).2.1.can,(hb C s H fp).2.2.can⟩;exact⟨_,qfd hc hN hi' hx B h1 b4 hsw hs,qav (q99 h2 q8i q8h q8p ht)⟩
def zAL(X:Cx)(scope:um):List Str->List Nat->Prop
 | [],[]=>True
 | x::xs,j::js=>(X.N[j]?=some x/\(X.env.kindOf x=some .cell\/X.env.kindOf x=some .free)/\scope.names.lookup x=some .free)/\zAL X scope xs js
 | _,_=>False
theorem q5X{X:Cx}{scope:um}:∀{xs:List Str}{js:List Nat},zAL X scope xs js->∀(k:Nat)(x:Str),xs[k]?=some x->∃j,js[k]?=some j/\X.N[j]?=some x/\(X.env.kindOf x=some .cell\/X.env.kindOf x=some .free)/\scope.names.lookup x=some .free
 | [],_,_,_,_,e=>by simp at e
 | _::_,[],h,_,_,_=>h.elim
 | y::ys,i::is,⟨h1,h2⟩,0,x,e=>by
  have:y=x:=by simpa using e
  subst this;exact⟨i,rfl,h1⟩
 | y::ys,i::is,⟨h1,h2⟩,k+1,x,e=>by
  obtain⟨j,q⟩:=q5X h2 k x ⇑e;exact⟨j,by simpa using q.1,q.2⟩
theorem q52{X:Cx}{scope:um}:∀{xs:List Str}{js:List Nat},zAL X scope xs js->xs.length=js.length
 | [],[],_=>rfl
 | [],_::_,h=>h.elim
 | _::_,[],h=>h.elim
 | _::ys,_::is,⟨_,h2⟩=>by rw[zE,zE,q52 h2]
def blk{X:Cx}{scope:um}(own free:List Str)(frees:List Nat)(h1:scope.kind=.function)(h2:∀y∈scope.names,y.2≠.cell)(h3:∀y∈scope.names,y.2=.local->scope.names.lookup y.1=some .local)(h4:(scope.names.all λp=>p.2 != .free || (X.env.cells.lookup p.1).isSome)=true)(h5:zAL X scope free frees):BlkOk X (own++free) own.length frees scope:=by
 refine⟨h1,h2,h3,λp hp hf=>?_,λk x e=>?_,by rw[zC,q52 h5]⟩
 ·have:=yk.mp h4 p hp
  rw[hf]at this;simpa using this
 ·rw[zf (Nat.le_add_right _ _),w8]at e
  exact q5X h5 k x e
end
noncomputable def entry(n:Nat)(ds:List D):WSt:=ds.map (λd=>↥d)++ze (n-ds.length) none
noncomputable def mir(n:Nat)(body:FS)(ds:List D):Option O:=match body (entry n ds)with
 | some (.rt r,_)=>some r
 | some (.nx,_)=>some (.sh .non)
 | _=>none
def qaA{K:zA}{H:Hp}{N:List Str}{ds:List D}{vs:List V}(h:Yx K H ds vs)(i:Nat)(d:D)(e:(entry N.length ds)[i]?=some ↥d):∃v,(L2.start N vs)[i]?=some (some v)/\Rep K H d v:=by
 unfold entry at e;unfold L2.start;have hl:=h.len;rcases yB i ds.length with y|y
 ·rw[zt ⇑y,zX]at e
  have e1:ds[i]?=some d:=by
   cases q:ds[i]? with
   | none=>rw[q]at e;cases e
   | some d'=>rw[q]at e;cases e;rfl
  obtain⟨v,q1,q2⟩:=h.get e1;refine⟨v,?_,q2⟩;rw[zt ⇑((∅:i<vs.length)),zX,q1];rfl
 ·rw[zf ⇑y,yh]at e
  split at e <;> cases e
def q2m{n:Nat}{ds:List D}:WJ (entry n ds):=by
 intro i es z;unfold entry at z;rcases yB i ds.length with y|y
 ·rw[zt ⇑y,zX]at z
  cases q:ds[i]? with
  | none=>rw[q]at z;cases z
  | some d=>rw[q]at z;cases z;exact⟨d,rfl⟩
 ·rw[zf ⇑y,yh]at z
  split at z <;> cases z
def fnD{P:vQ}{w:vZ}{K:zA}{mg:Str->Option vB}{base:vn}{x qual:Str}{st:vx}{f:vJ}{fd:vP}{N ps:List Str}{k:Nat}{body:FS}(F:Fun K x qual st f fd)(S:FnScope N ps (Yt st))(hb:∀(cdv:vB)(A:vb)(outer:List Env)(s:vG)(H:Hp)(E:XK),Room k (A.deeper (PyProof.Rows.envOfC qual (Yt st) s.heap.objs.size f cdv))->XSs (zBS CX0 P w K mg base N qual (Yt st) f cdv A outer s H E).nox (Xq st) body):
  FnOk P w K mg base CX0 (k+1) f fd ps (spD K ps.length (mir N.length body)):=by
 refine F.ok S (λvs H Q E h=>?_) (λcdv A outer s H vs Q E hr h=>?_)
 ·obtain⟨G,ds,r,_,h2,_,h4,_⟩:=h
  rw[<- h4.len];exact h2
 ·obtain⟨G,ds,r,h1,h2,h3,h4,h5⟩:=h
  obtain⟨t,p1,p2⟩:=hb cdv A outer s H E hr;refine⟨t,p1,?_⟩;unfold mir at h1;have hl:=h4.len;have hpl:ps.length<=N.length:=by have:=uA xg S.pre;rw[z0]at this;omega
  have o0:Own K G (fr H) G (entry N.length ds) (L2.start N vs) H:=by
   refine⟨Ext.refl h3,?_,λi d e=>qaA h4 i d e,λi es e=>vK e (q2m.ow i es),λi j es fs l e=>vK e (q2m.ow i es),λi ks es e=>vK e (q2m.od i ks es),X4.no q2m.pw⟩;unfold entry L2.start;simp only[zC,zB,zw];omega
  cases q:body (entry N.length ds)with
  | none=>rw[q]at h1;cases h1
  | some p=>
   obtain⟨out,ω'⟩:=p;rw[q]at h1;refine p2 G (fr H) G _ _ H out ω' _ o0 q λG' σ' H' o' s'=>?_;cases out with
   | nx=>cases h1;exact h5 _ G' H' o'.ext rfl
   | bk=>cases h1
   | ct=>cases h1
   | rt r'=>cases h1;exact λv y=>h5 v G' H' o'.ext y
def qE:vf "len" = some (.builtin "len"):=⋯
def q5W:vf "all" = some (.builtin "all"):=⋯
def qdB:vf "sum" = some (.builtin "sum"):=⋯
def qcq:vf "min" = some (.builtin "min"):=⋯
def q5M:vf "max" = some (.builtin "max"):=⋯
def qhi:vf "abs" = some (.builtin "abs"):=⋯
def q4v:vf "sorted" = some (.builtin "sorted"):=⋯
def qcI:vf "int" = some (.type "int"):=⋯
def q9V:vf "bool" = some (.type "bool"):=⋯
def q3n:vf "list" = some (.type "list"):=⋯
def q3L:vf "tuple" = some (.type "tuple"):=⋯
def qgj:vf "set" = some (.type "set"):=⋯
noncomputable def zBw(o:Option (Out×WSt))(g:FS):Option (Out×WSt):=o.bind λp=>match p.1 with
 | .nx=>g p.2
 | o=>some (o,p.2)
noncomputable def setS(i:Nat)(ω:WSt)(o:Option R):Option (Out×WSt):=o.bind λr=>(setR i r ω).map λw=>(.nx,w)
noncomputable def ifS(c:Option Bool)(f g:FS)(ω:WSt):Option (Out×WSt):=c.bind λb=>if b=true then f ω else g ω
noncomputable def retS(ω:WSt)(o:Option R):Option (Out×WSt):=o.bind λr=>match r with
 | .sh d=>some (.rt (.sh d),ω)
 | .fr ds=>some (.rt (.fr ds),ω)
 | .vw _=>none
noncomputable def retV(ω:WSt)(o:Option (Option W)):Option (Out×WSt):=match o with
 | some ↥d=>some (.rt (.sh d),ω)
 | some (some (.ow ds))=>some (.rt (.fr ds),ω)
 | _=>none
noncomputable def appS(i:Nat)(ω:WSt)(o:Option D)(l:Option (Option W)):Option (Out×WSt):=o.bind λd=>match l with
 | some (some (.ow ds))=>if ds.length<1000000 then some (.nx,ω.set i (some (.ow (ds++[d]))))else none
 | _=>none
noncomputable def extS(i:Nat)(ω:WSt)(o:Option D)(l:Option (Option W)):Option (Out×WSt):=o.bind λd=>(itemsOf d).bind λes=>match l with
 | some (some (.ow ds))=>if ds.length+es.length<=1000000 then some (.nx,ω.set i (some (.ow (ds++es))))else none
 | _=>none
noncomputable def shrS(i:Nat)(ω:WSt)(o:Option (Option W)):WSt:=match o with
 | some (some (.ow ds))=>ω.set i ↥(.lst ds)
 | some (some (.od ks ds))=>ω.set i ↥(.dic ks ds)
 | _=>ω
noncomputable def forS(o:Option (List D))(g:FG)(b:FS)(ω:WSt):Option (Out×WSt):=o.bind λds=>Wg g b ds ω
noncomputable def zCM(o:Option (Option W)):Option R:=match o with
 | some ↥d=>↥d
 | some (some (.ow ds))=>some (.vw ds)
 | some (some (.pw ds))=>some (.vw ds)
 | _=>none
def eD(o:Option D):Option R:=o.map R.sh
noncomputable def dR(o:Option R):Option D:=match o with
 | ↥d=>some d
 | some (.fr ds)=>some (.lst ds)
 | _=>none
noncomputable def vR(o:Option R):Option D:=o.map R.d
noncomputable def op2(op:D->D->Option R)(x y:Option D):Option R:=x.bind λx=>y.bind λy=>op x y
noncomputable def callR(m:List D->Option O)(o:Option (List D)):Option R:=o.bind λds=>(m ds).map O.r
noncomputable def consA(o:Option D)(r:Option (List D)):Option (List D):=o.bind λd=>r.map λds=>d::ds
def bltR(op:List D->Option R)(o:Option (List D)):Option R:=o.bind op
noncomputable def slR(o:Option D)(l h:Option (Option Int)):Option R:=o.bind λd=>l.bind λlo=>h.bind λhi=>oSl d lo hi
noncomputable def atP(o:Option D):Option (Option Int):=o.bind λd=>match d with|.int i=>some (some i)|_=>none
noncomputable def isiR(c:Ty)(o:Option D):Option R:=o.bind λd=>match d with
 | .scr _=>none
 | .exc _=>none
 | .dic _ _=>none
 | d=>↥(.bl (zBt (tyD d) c))
noncomputable def tR(o:Option R):Option Bool:=match o with
 | ↥(.bl k)=>some k
 | _=>none
noncomputable def andT(o:Option Bool)(g:FT)(ω:WSt):Option Bool:=o.bind λc=>if c=true then g ω else some false
noncomputable def orT(o:Option Bool)(g:FT)(ω:WSt):Option Bool:=o.bind λc=>if c=true then some true else g ω
def notT(o:Option Bool):Option Bool:=o.map (!·)
noncomputable def truT(o:Option D):Option Bool:=o.bind truD
noncomputable def andV(o:Option D)(g:FD)(ω:WSt):Option D:=o.bind λd=>(blOf d).bind λc=>if c=true then g ω else some (.bl false)
noncomputable def orV(o:Option D)(g:FD)(ω:WSt):Option D:=o.bind λd=>(blOf d).bind λc=>if c=true then some (.bl true)else g ω
noncomputable def seqI(o:Option D):Option (List D):=o.bind itemsOf
noncomputable def rg1I(o:Option (List D)):Option (List D):=o.bind λds=>match ds with
 | [.int j]=>if -(2^62)<=j/\j<2^62 then some (upTo 0 j.toNat)else none
 | _=>none
noncomputable def rg2I(o:Option (List D)):Option (List D):=o.bind λds=>match ds with
 | [.int i,.int j]=>if (-(2^62)<=i/\i<2^62)/\-(2^62)<=j/\j<2^62 then some (upTo i (j-i).toNat)else none
 | _=>none
noncomputable def compR(M:Nat)(fr:List Nat)(o:Option (List D))(g:FG)(c:FT)(f:FD)(ω:WSt):Option R:=o.bind λds=>if ds.length<=1000000 then (Xa g c f ds (inW M fr ω)).map R.fr else none
noncomputable def outM(o:Option (Out×WSt)):Option O:=match o with
 | some (.rt r,_)=>some r
 | some (.nx,_)=>some (.sh .non)
 | _=>none
section
variable{f g:FS}{ω w:WSt}{i:Nat}{fe fe':FE}{fd fd':FD}{ft ft':FT}{r:O}{d d':D}{ds ds':List D}{a b:Int}{p q:Bool}{fa:FA}{fg:FG}{fi:FI}{n:Nat}
def qbG:mir n f ds=outM (f (entry n ds)):=rfl
def q4U:outM (some (.rt r,w))=some r:=rfl
def q6u:outM (some (.nx,w))=some (.sh .non):=rfl
def qw:Y6 f g ω=zBw (f ω) g:=rfl
def q4S:zBw (some (.nx,w)) g=g w:=rfl
def q6s:zBw (some (.rt r,w)) g=some (.rt r,w):=rfl
def qbb:WA ω=some (.nx,ω):=rfl
def qbF:Xf i fe ω=setS i ω (fe ω):=rfl
def q6F:setS i ω ↥d=some (.nx,ω.set i ↥d):=rfl
def q6g:setS i ω (some (.fr ds))=some (.nx,ω.set i (some (.ow ds))):=rfl
def e_if:sIf ft f g ω=ifS (ft ω) f g ω:=rfl
def q96:ifS (some true) f g ω=f ω:=rfl
def q8J:ifS (some false) f g ω=g ω:=rfl
def qb2:XX fe ω=retS ω (fe ω):=rfl
def q69:retS ω ↥d=some (.rt (.sh d),ω):=rfl
def q6K:retS ω (some (.fr ds))=some (.rt (.fr ds),ω):=rfl
def q5L:zAe i ω=retV ω ω[i]?:=rfl
def q4M:retV ω (some (some (.ow ds)))=some (.rt (.fr ds),ω):=rfl
def qaP:sApp i fd ω=appS i ω (fd ω) ω[i]?:=rfl
def zCz(h:ds.length<1000000):appS i ω (some d) (some (some (.ow ds)))=some (.nx,ω.set i (some (.ow (ds++[d])))):=vC h
def qaQ:zCw i fd ω=extS i ω (fd ω) ω[i]?:=rfl
def q5U(h:ds.length+ds'.length<=1000000):extS i ω (some (.tup ds')) (some (some (.ow ds)))=some (.nx,ω.set i (some (.ow (ds++ds')))):=vC h
def q3p(h:ds.length+ds'.length<=1000000):extS i ω (some (.lst ds')) (some (some (.ow ds)))=some (.nx,ω.set i (some (.ow (ds++ds')))):=vC h
def q6R:zAB i f ω=f (shrS i ω ω[i]?):=rfl
def q6B:shrS i ω (some (some (.ow ds)))=ω.set i ↥(.lst ds):=rfl
def qbc:zAQ fi fg f ω=forS (fi ω) fg f ω:=rfl
def e_fs:forS (some ds) fg f ω=Wg fg f ds ω:=rfl
def e_gn:gN i d ω=some (ω.set i ↥d):=rfl
def qbw:Yr i ω=zCM ω[i]?:=rfl
def q6c:zCM (some ↥d)=↥d:=rfl
def q67:zCM (some (some (.ow ds)))=some (.vw ds):=rfl
def e_c:fC d ω=some d:=rfl
def e_e:eOf fd ω=eD (fd ω):=rfl
def e_ed:eD (some d)=↥d:=rfl
def e_d:dOf fe ω=dR (fe ω):=rfl
def q6f:dR ↥d=some d:=rfl
def q6t:dR (some (.fr ds))=some (.lst ds):=rfl
def e_v:vOf fe ω=vR (fe ω):=rfl
def q6S:vR ↥d=some d:=rfl
def q6I:vR (some (.fr ds))=some (.lst ds):=rfl
def q6x:vR (some (.vw ds))=some (.lst ds):=rfl
def e_op{op}:Yv op fd fd' ω=op2 op (fd ω) (fd' ω):=rfl
def e_o2{op}:op2 op (some d) (some d')=op d d':=rfl
def q93{m}:Y1 m fa ω=callR m (fa ω):=rfl
def e_cl{m}:callR m (some ds)=(m ds).map O.r:=rfl
def q6j:(O.sh d).r=.sh d:=rfl
def q6v:(O.fr ds).r=.fr ds:=rfl
def e_ac:Yp fd fa ω=consA (fd ω) (fa ω):=rfl
def e_ca:consA (some d) (some ds)=some (d::ds):=rfl
def e_an:Yz ω=some []:=rfl
def qbd:zAN fa ω=(fa ω).map R.fr:=rfl
def qbC:zAg fa ω=(fa ω).map D.tup:=rfl
def qaW{op}:Xx op fa ω=bltR op (fa ω):=rfl
def e_bl{op}:bltR op (some ds)=op ds:=rfl
def qaI{l h:FO}:fSl fd l h ω=slR (fd ω) (l ω) (h ω):=rfl
def e_sl{lo hi:Option Int}:slR (some d) (some lo) (some hi)=oSl d lo hi:=rfl
def e_po:pNo ω=some none:=rfl
def e_pa:pAt fd ω=atP (fd ω):=rfl
def e_ap:atP (some (.int a))=some (some a):=rfl
def qbo{c}:zA7 c fd ω=isiR c (fd ω):=rfl
def q4a{c}:isiR c (some (.lst ds))=↥(.bl (zBt .lst c)):=rfl
def q43{c}:isiR c (some (.tup ds))=↥(.bl (zBt .tup c)):=rfl
def e_t:tOf fe ω=tR (fe ω):=rfl
def e_tr:tR ↥(.bl p)=some p:=rfl
def q7M:zBY ft ft' ω=andT (ft ω) ft' ω:=rfl
def e_ta:andT (some p) ft ω=if p=true then ft ω else some false:=rfl
def qaE:(if p=true then some q else some false)=some (p&&q):=by cases p <;> rfl
def qaM:zAP ft ft' ω=orT (ft ω) ft' ω:=rfl
def e_to:orT (some p) ft ω=if p=true then some true else ft ω:=rfl
def qbM:(if p=true then some true else some q)=some (p || q):=by cases p <;> rfl
def q88:WB ft ω=notT (ft ω):=rfl
def e_tn:notT (some p)=some (!p):=rfl
def q7J:W6 fd ω=truT (fd ω):=rfl
def q6A:truT (some (.bl p))=some p:=rfl
def q5j:truT (some (.lst ds))=some (!ds.isEmpty):=rfl
def q7U:zAY fd fd' ω=andV (fd ω) fd' ω:=rfl
def e_va:andV (some (.bl p)) fd ω=if p=true then fd ω else some (.bl false):=rfl
def qbK:(if p=true then some (D.bl q)else some (D.bl false))=some (.bl (p&&q)):=by cases p <;> rfl
def qbU:vOr fd fd' ω=orV (fd ω) fd' ω:=rfl
def e_vo:orV (some (.bl p)) fd ω=if p=true then some (.bl true)else fd ω:=rfl
def q95:WD fd ω=seqI (fd ω):=rfl
def q8K:seqI (some (.lst ds))=some ds:=rfl
def q8M:seqI (some (.tup ds))=some ds:=rfl
def qaO:iRg1 fa ω=rg1I (fa ω):=rfl
def qbJ:iRg2 fa ω=rg2I (fa ω):=rfl
def qhu(h:-(2^62)<=a/\a<2^62)(h':-(2^62)<=b/\b<2^62):rg2I (some [.int a,.int b])=some (upTo a (b-a).toNat):=vC ⟨h,h'⟩
def q9b{M fr}:Xj M fr fi fg ft fd ω=compR M fr (fi ω) fg ft fd ω:=rfl
def Wh{M fr}(h:ds.length<=1000000):compR M fr (some ds) fg ft fd ω=(Xa fg ft fd ds (inW M fr ω)).map R.fr:=vC h
def qbE:zB1 fd ω=(fd ω).bind oNeg:=rfl
def e_ng:oNeg (.int a)=↥(.int (-a)):=rfl
def q6o:WU [.lst ds]=↥(.int ds.length):=rfl
def q6z:WU [.tup ds]=↥(.int ds.length):=rfl
def q6V{ns}:WU [.scr ns]=↥(.int ns.length):=rfl
def q8m:oEq false (.int a) (.int b)=↥(.bl (a==b)):=rfl
def q90:oEq true (.int a) (.int b)=↥(.bl (!(a==b))):=rfl
def q66:zAV (.int a) (.int b)=↥(.int (a-b)):=rfl
def q8o:oLt (.int a) (.int b)=↥(.bl (decide (a<b))):=rfl
def q84:oLe (.int a) (.int b)=↥(.bl (decide (a<=b))):=rfl
def q8A:oGt (.int a) (.int b)=↥(.bl (decide (b<a))):=rfl
def q8V:oGe (.int a) (.int b)=↥(.bl (decide (b<=a))):=rfl
def q6L:WR (.int a) (.int b)=↥(.int (a+b)):=rfl
def q8w:oIs false (.bl p) (.bl q)=↥(.bl (p==q)):=rfl
def qbI:oIs false d .non=↥(.bl (isN d)):=by cases d <;> rfl
def qbS:oIx (.lst ds) (.int a)=(atI ds a).map R.sh:=rfl
def qbQ:oIx (.tup ds) (.int a)=(atI ds a).map R.sh:=rfl
def qbL{ns:List Int}:oIx (.scr ns) (.int a)=(atI ns a).map λn=>.sh (.int n):=rfl
def q0l{α:Type}{xs:List α}{i:Int}(h0:0<=i)(h1:i<xs.length):atI xs i=some (xs[i.toNat]'∅):=by
 unfold atI ixN;rw[vC h0,vC h1];show xs[i.toNat]?=_;rw[zD ∅]
def at0{α:Type}{x:α}{xs:List α}:atI (x::xs) 0=some x:=by
 rw[q0l (by decide) (by rw[zE];omega)];rfl
def at1{α:Type}{x y:α}{xs:List α}:atI (x::y::xs) 1=some y:=by
 rw[q0l (by decide) (by rw[zE,zE];omega)];rfl
def at2{α:Type}{x y z:α}{xs:List α}:atI (x::y::z::xs) 2=some z:=by
 rw[q0l (by decide) (by rw[zE,zE,zE];omega)];rfl
def qf4{i j:Int}(h0:0<j)(h1:j<1073741824):cDiv i j=true:=by unfold cDiv;rw[vS h0,vS h1];rfl
def qfR{i j:Int}(h0:0<j):cMod i j=true:=by unfold cMod;rw[vS h0]
def qdL{i j:Int}(h0:-(2^64)<j)(h1:j<2^64):zCT i j=true:=by unfold zCT;rw[vS h0,vS h1];simp
def qej{i j:Int}(h0:-(2^64)<i)(h1:i<2^64):zCT i j=true:=by unfold zCT;rw[vS h0,vS h1];simp
def q3t(h:0<b):oMod (.int a) (.int b)=↥(.int (a%b)):=vC (qfR h)
def q6Q(h:0<b)(h':b<1073741824):oDiv (.int a) (.int b)=↥(.int (a/b)):=vC (qf4 h h')
def qeu(h:-(2^64)<b)(h':b<2^64):zBG (.int a) (.int b)=↥(.int (a*b)):=vC (qdL h h')
def q3x(h:-(2^64)<a)(h':a<2^64):zBG (.int a) (.int b)=↥(.int (a*b)):=vC (qej h h')
end
def zAS(o:Option (Out×WSt))(P:WSt->Prop):Prop:=match o with
 | some (.nx,ω)=>P ω
 | some (.ct,ω)=>P ω
 | _=>False
def q4H{ω:WSt}{P:WSt->Prop}:zAS (some (.nx,ω)) P=P ω:=rfl
def q0k{α:Type}{g:FG}{b:FS}(F:α->D)(xs:List α)(I:List α->WSt->Prop)(turn:∀pre x post ω,xs=pre++x::post->I pre ω->∃w,g (F x) ω=some w/\zAS (b w) (I (pre++[x]))){ω:WSt}(h0:I [] ω):∃ω',Wg g b (xs.map F) ω=some (.nx,ω')/\I xs ω':=by
 have key:∀(post pre:List α)(ω:WSt),xs=pre++post->I pre ω->∃ω',Wg g b (post.map F) ω=some (.nx,ω')/\I xs ω':=by
  intro post
  induction post with
  | nil=>intro pre ω e h;exact⟨ω,rfl,by rw[e,zn];exact h⟩
  | cons d post ih=>
   intro pre ω e h;obtain⟨w,h1,h2⟩:=turn pre d post ω e h;rw[zY,Wg,h1,z9]
   match hb:b w,h2 with
   | some (.nx,ω2),h2=>exact ih (pre++[d]) ω2 (by rw[e,zN];rfl) h2
   | some (.ct,ω2),h2=>exact ih (pre++[d]) ω2 (by rw[e,zN];rfl) h2
 exact key xs [] ω rfl h0
def q7b{g:FG}{b:FS}(lo:Int)(n:Nat)(I:Nat->WSt->Prop)(turn:∀i ω,i<n->I i ω->∃w,g (.int (lo+i)) ω=some w/\zAS (b w) (I (i+1))){ω:WSt}(h0:I 0 ω):∃ω',Wg g b (Hk.upTo lo n) ω=some (.nx,ω')/\I n ω':=by
 unfold Hk.upTo;obtain⟨ω',e,h⟩:=q0k (g:=g) (b:=b) (λ(i:Nat)=>D.int (lo+(i:Int))) (zk n) (λpre ω=>I pre.length ω) (λpre x post ω e h=>by
  have hx:x=pre.length:=by
   have:=uA (λl=>l[pre.length]?) e;rw[zf (zM _),wg]at this;rcases yB pre.length n with z|z
   ·rw[xN z]at this;simpa using this.symm
   ·rw[zd (by rw[zz];exact z)]at this;cases this
  have hlt:pre.length<n:=by
   have:=uA xg e;rw[zz,zC,zE]at this;omega
  subst hx;obtain⟨w,h1,h2⟩:=turn pre.length ω hlt h;refine⟨w,h1,?_⟩;rw[zC];exact h2) h0
 rw[zz]at h;exact⟨ω',e,h⟩
theorem q4x{g:FG}{c:FT}{f:FD}(P:WSt->Prop)(q:D->Bool)(F:D->D):∀(ds:List D){ω:WSt},P ω ->
  (∀d∈ds,∀ω,P ω->∃w,g d ω=some w/\P w/\c w=some (q d)/\(q d=true->f w=some (F d)))->Xa g c f ds ω=some ((ds.filter q).map F)
 | [],_,_,_=>rfl
 | d::ds,ω,h,t=>by
  obtain⟨w,h1,h2,h3,h4⟩:=t d zI ω h;have ih:=q4x P q F ds h2 (λe he=>t e (zG _ he));rw[Xa,h1,z9,h3,z9];cases hq:q d with
  | true=>rw[vC rfl,h4 hq,z9,ih,ZA hq];rfl
  | false=>rw[vF (by decide),ih,ZB (by rw[hq];decide)]
def q2X{i:Nat}{f:FD}(F:D->D)(ds:List D){ω:WSt}(h:∀d∈ds,f (ω.set i ↥d)=some (F d)):Xa (gN i) XQ f ds ω=some (ds.map F):=by
 have:=q4x (g:=gN i) (c:=XQ) (f:=f) (λw=>∀x,w.set i x=ω.set i x) (λ_=>true) F ds (ω:=ω) (λx=>rfl) λd hd w hw=>
  ⟨w.set i ↥d,rfl,λx=>by rw[Z9,hw],rfl,λ_=>by rw[hw];exact h d hd⟩
 rw[this,wd.mpr (λ_ _=>rfl)]
def q7m{i:Nat}{c:FT}{f:FD}(q:D->Bool)(F:D->D)(ds:List D){ω:WSt}(h:∀d∈ds,c (ω.set i ↥d)=some (q d)/\(q d=true->f (ω.set i ↥d)=some (F d))):Xa (gN i) c f ds ω=some ((ds.filter q).map F) :=
 q4x (g:=gN i) (c:=c) (f:=f) (λw=>∀x,w.set i x=ω.set i x) q F ds (ω:=ω) (λx=>rfl) λd hd w hw=>
  ⟨w.set i ↥d,rfl,λx=>by rw[Z9,hw],by rw[hw];exact(h d hd).1,λz=>by rw[hw];exact(h d hd).2 z⟩
def qez{ds:List D}{lo hi:Option Int}:oSl (.lst ds) lo hi=some (.fr (cutD ds lo hi)):=rfl
def qhK{ns:List Int}{lo hi:Option Int}:oSl (.scr ns) lo hi=some (.fr ((cutD ns lo hi).map D.int)):=rfl
def q4O{xs ys:List D}(h:xs.length+ys.length<=1000000):WR (.lst xs) (.lst ys)=some (.fr (xs++ys)):=vC h
theorem q7W(a:Int):∀(ns:List Int),inD (.int a) (ns.map D.int)=decide (a∈ns)
 | []=>rfl
 | n::r=>by
  have ih:=q7W a r;unfold inD inV at ih ⊢;rw[zY,zY,xy,ih];have e:eqV (D.int n).v (D.int a).v=decide (a=n):=by
   show (n==a)=_
   by_cases h:a=n
   ·subst h;simp
   ·rw[vX h];simpa using λz=>h z.symm
  rw[e]
  by_cases h:a=n
  ·simp[h]
  ·by_cases h':a∈r <;> simp[h,h']
def qe5(ns:List Int):(ns.map D.int).all X7=true:=by
 rw[wL];exact yk.mpr λ_ _=>rfl
def q5E{a:Int}{ns:List Int}:oIn false (.int a) (.lst (ns.map D.int))=↥(.bl (decide (a∈ns))):=by
 show (if (X7 (.int a)&&(ns.map D.int).all X7)=true then _ else _)=_;rw[qe5];show some (R.sh (D.bl (inD _ _)))=_;rw[q7W]
def q7V{ns:List Int}{i:Nat}(h:i<ns.length):atI (ns.map D.int) (i:Int)=some (.int ns[i]):=by
 rw[q0l ∅ (by rw[zB];omega)];simp
def q8r{d:D}(h:shp d=true):eqD d d=true:=SeqAt.eqv_refl d.py (SeqAt.canLay_of_shaped h)
def q7K{d:D}(h:shp d=true):oEq false d d=↥(.bl true):=by
 unfold oEq;rw[h];show some (R.sh (D.bl (eqD d d)))=_;rw[q8r h]
def q9l{d:D}(h:shp d=true):oEq true d d=↥(.bl false):=by
 unfold oEq;rw[h];show some (R.sh (D.bl (!eqD d d)))=_;rw[q8r h];rfl
noncomputable def dep(d:D):Nat:=d.py.depth
def qaj{ds:List D}(n:Nat)(hn:n<64)(h:∀d∈ds,d.py.canLay0=true/\d.py.depth<=n):shp (.lst ds)=true:=by
 unfold shp SeqAt.shaped;have:∀ds:List D,(∀d∈ds,d.py.canLay0=true/\d.py.depth<=n)->PyData.canLayAll0 (D.pys ds)=true/\PyData.depthAll (D.pys ds)<=n:=by
  intro ds
  induction ds with
  | nil=>intro _;exact⟨rfl,yE _⟩
  | cons d ds ih=>
   intro h;obtain⟨a,b⟩:=ih λe he=>h e (zG _ he);obtain⟨a',b'⟩:=h d zI;refine⟨?_,?_⟩
   ·rw[D.pys,PyData.canLayAll0,a,a'];rfl
   ·rw[D.pys,PyData.depthAll];exact Nat.max_le.mpr ⟨b',b⟩
 obtain⟨a,b⟩:=this ds h;show (PyData.canLayAll0 (D.pys ds)&&decide (PyData.depthAll (D.pys ds)+1<=64))=true;rw[a,vS ∅];rfl
noncomputable def zA9(x:Int):List Int->List Int
 | []=>[x]
 | y::r=>if x<y then x::y::r else if x=y then y::r else y::zA9 x r
noncomputable def Xh(ns:List Int):List Int:=ns.foldr zA9 []
theorem q58{x y:Int}:∀{l:List Int},y∈zA9 x l↔y=x\/y∈l
 | []=>by simp[zA9]
 | z::r=>by
  unfold zA9
  split
  ·simp
  ·split
   ·rename_i h;subst h;simp
   ·simp only[zF,q58 (l:=r)]
    constructor
    ·rintro(h|h|h) <;> simp[h]
    ·rintro(h|h|h) <;> simp[h]
theorem q70{x:Int}:∀{l:List Int},l.Pairwise (· < ·)->(zA9 x l).Pairwise (· < ·)
 | [],_=>by simp[zA9]
 | z::r,h=>by
  obtain⟨h1,h2⟩:=zZ.mp h;unfold zA9
  split
  ·rename_i hx
   refine zZ.mpr ⟨λy hy=>?_,h⟩;rcases zF.mp hy with rfl|hy
   ·exact hx
   ·exact YA hx (h1 y hy)
  ·split
   ·exact h
   ·refine zZ.mpr ⟨λy hy=>?_,q70 h2⟩
    rcases q58.mp hy with rfl|hy
    ·omega
    ·exact h1 y hy
theorem q2W{y:Int}:∀{ns:List Int},y∈Xh ns↔y∈ns
 | []=>by simp[Xh]
 | x::r=>by
  show y∈zA9 x (Xh r)↔_;rw[q58,q2W (ns:=r),zF]
theorem q0y:∀{ns:List Int},(Xh ns).Pairwise (· < ·)
 | []=>xH
 | x::r=>q70 (q0y (ns:=r))
theorem q8O{x:Int}:∀(l:List Int),(zA9 x l).length<=l.length+1
 | []=>by simp[zA9]
 | z::r=>by
  have:=q8O (x:=x) r;unfold zA9
  split
  ·simp
  ·split
   ·simp
   ·rw[zE,zE];omega
theorem q2a:∀(l:List Int),(Xh l).length<=l.length
 | []=>zM _
 | x::r=>by
  have h1:=q8O (x:=x) (Xh r);have h2:=q2a r;show (zA9 x (Xh r)).length<=_;rw[zE];omega
theorem q65:∀{l m:List Int},l.Pairwise (· < ·)->m.Pairwise (· < ·)->(∀x,x∈l↔x∈m)->l=m
 | [],[],_,_,_=>rfl
 | [],y::r,_,_,h=>vK ((h y).mpr zI) (by simp)
 | x::r,[],_,_,h=>vK ((h x).mp zI) (by simp)
 | x::r,y::q,hl,hm,h=>by
  obtain⟨a1,a2⟩:=zZ.mp hl;obtain⟨b1,b2⟩:=zZ.mp hm;have e:x=y:=by
   rcases zF.mp ((h x).mp zI)with e|e
   ·exact e
   ·rcases zF.mp ((h y).mpr zI)with f|f
    ·exact f.symm
    ·have:=b1 x e;have:=a1 y f;omega
  subst e;rw[q65 a2 b2 λz=>?_]
  constructor
  ·intro hz
   rcases zF.mp ((h z).mp (zG _ hz))with f|f
   ·have:=a1 z hz;omega
   ·exact f
  ·intro hz
   rcases zF.mp ((h z).mpr (zG _ hz))with f|f
   ·have:=b1 z hz;omega
   ·exact f
def q9x{l:List Int}(h:l.Pairwise (· <= ·))(n:l.Nodup):l.Pairwise (· < ·):=by
 induction l with
 | nil=>exact xH
 | cons x r ih=>
  obtain⟨h1,h2⟩:=zZ.mp h;obtain⟨n1,n2⟩:=xM.mp n;refine zZ.mpr ⟨λy hy=>?_,ih h2 n2⟩;have:=h1 y hy;have:x≠y:=λe=>n1 (e▸hy);omega
def setP(w:vZ)(S:vJ)(ns:List Int):vn->Prop:=λh=>zB6 h S (Xw w) (λi=>ns.getD i 0) ns.length
def rSet(w:vZ):List V->Hp->VK->Prop:=λxs H Q=>∃p ns,xs=[.ref p]/\H p=some (.lst (ns.map V.int))/\ns.length+1<4096/\∀S,H S=none->Q (.ref S) (upd H S (.ext (setP w S ns)))
def fewS(ns:List Int):Prop:=(Xh ns).length<64/\ns.length<4000
noncomputable instance (ns:List Int):Decidable (fewS ns):=inferInstanceAs (Decidable (_/\_))
def qcc{ns:List Int}(h:ns.length<64):fewS ns:=⟨Zv (q2a ns) h,∅⟩
def rSortS(w:vZ):List V->Hp->VK->Prop:=λxs H Q=>∃S ns,xs=[.ref S]/\H S=some (.ext (setP w S ns))/\fewS ns/\∀l,H l=none->Q (.ref l) (upd H l (.lst ((Xh ns).map V.int)))
section
variable{X:Cx}
def qc7{pins:List (vJ×Obj)}{σ:St}{H:Hp}{s:vG}(I:L2.Inv X pins σ H s)(d:Drawn):L2.Inv X pins σ H { s with drawn:=d } :=
 ⟨I.ok,I.os,I.bare,I.base,I.loc,I.cell,I.free,I.freeC,I.pin,I.hok,I.len⟩
def qev(hc:X.calm=true):X6 X (.type "set") (rSet X.w):=by
 intro pins s σ H xs us Q I r h;obtain⟨p,ns,rfl,hp,hz,q⟩:=h;obtain⟨u,rfl,rx⟩:=vals1 r;cases rx;obtain⟨its,n,rv,e,_⟩:=I.lst hp;have ia:=q1H rv;have hlen:its.length=ns.length:=by rw[<- rv.length,zB]
 refine q9n (items:=its.toArray) (ns:=ns) (I.ok.hd hc) ⟨_,e,rfl,n,rfl⟩ ⇑ia (by rw[zP,hlen];exact hz) λh' tk sv kp=>?_;have hsz:its.toArray.size=ns.length:=by rw[zP,hlen]
 rw[hsz]at sv;refine⟨.ref s.heap.objs.size,_,I.laid (t':=tk) (λb o e=>kp b o (zO e) e) (zM _) (show XF X.prog X.w _ h' _ (.ext (setP X.w s.heap.objs.size ns))from ⟨sv,?_,λh1 h2 a1 a2=>a1.at a2⟩),rfl,q _ (I.hok.fresh (zM _))⟩;obtain⟨_,⟨o,_,_,_,e,_⟩,_⟩:=sv;exact⟨o,e⟩
def qb4(hc:X.calm=true):X6 X (.builtin "sorted") (rSortS X.w):=by
 intro pins s σ H xs us Q I r h;obtain⟨S,ns,rfl,hp,hz,q⟩:=h;obtain⟨u,rfl,rx⟩:=vals1 r;cases rx;obtain⟨⟨zs,SI,hl,hm⟩,_⟩:=I.hok S _ hp;obtain⟨o,es,ep,t,go,gx,gd,T,gl,gb,gg,gv,gn⟩:=id SI;have mz:∀x,x∈zs↔x∈Xh ns:=λx=>by
  rw[hm,q2W]
  constructor
  ·rintro⟨i,hi,rfl⟩
   dsimp only
   rw[zK,zD hi];exact xB hi
  ·intro hx
   obtain⟨i,hi,e⟩:=yF.mp hx;exact⟨i,hi,by dsimp only;rw[zK,zD hi];exact e⟩
 have zl:=((List.perm_ext_iff_of_nodup gn ((q0y (ns:=ns)).imp λh=>∅)).mpr mz).length_eq;refine qbz (I.ok.hd hc) SI (by rw[zl];exact hz.1) λD h' tk d vs ys n kp hD hg ia pm pw=>?_;have ey:ys=Xh ns:=q65 (q9x pw (pm.nodup_iff.mpr gn)) q0y λx=>by rw[pm.mem_iff,mz]
 subst ey;have hvl:vs.length=(Xh ns).length:=PyProof.Rows.IntsAre.length ia;have hsl:(Xh ns).length<=sizeLine:=by
  have:=pm.length_eq;exact yJ (show (Xh ns).length<=64 from yf hz.1) (by decide)
 have I2:=qc7 (I.laid (a:=D) (o:=.lst ((Xh ns).map V.int)) (t':=tk) kp hD (show XF X.prog X.w _ h' _ (.lst _)from ⟨by rw[zB];exact hsl,vs,n,q29 ia,hg⟩)) d;exact⟨.ref D,_,I2,rfl,q _ (I.hok.fresh hD)⟩
noncomputable def intsOf:List D->Option (List Int)
 | []=>some []
 | .int i::r=>(intsOf r).map λl=>i::l
 | _=>none
theorem q1t:∀{ds:List D}{ns:List Int},intsOf ds=some ns->ds=ns.map D.int
 | [],_,e=>by cases e;rfl
 | .int c::r,b,e=>by
  obtain⟨k,q,e⟩:=mpd e;subst e;rw[q1t q];rfl
 | .non::_,_,e=>by cases e
 | .bl _::_,_,e=>by cases e
 | .str _::_,_,e=>by cases e
 | .lst _::_,_,e=>by cases e
 | .tup _::_,_,e=>by cases e
 | .scr _::_,_,e=>by cases e
 | .exc _::_,_,e=>by cases e
 | .dic _ _::_,_,e=>by cases e
theorem q0e:∀(ns:List Int),intsOf (ns.map D.int)=some ns
 | []=>rfl
 | n::r=>by show (intsOf (r.map D.int)).map _=_;rw[q0e r];rfl
noncomputable def Wc:D->Option R
 | .lst ds=>(intsOf ds).bind λns=>if fewS ns then some (.fr ((Xh ns).map D.int))else none
 | _=>none
noncomputable def Xy(f:FD):FE:=λω=>(f ω).bind Wc
def q3F{a:vW}{f:FD}{p1 p2 q1 q2:Pos}(hg1:Gl X "sorted")(hm1:X.mg "sorted" = none)(hg2:Gl X "set")(hm2:X.mg "set" = none)(ha:XV X a f)(hc:X.calm=true:=by rfl)(he1:vL [a] X.env=(false,eval a X.env)::vL [] X.env:=by rfl)(hpl1:(v4 q2 (vL [] X.env)).any (·.1)=false:=by rfl)(he2:vL [.Call (.Name "set" p2) [a] [] q2] X.env=(false,eval (.Call (.Name "set" p2) [a] [] q2) X.env)::vL [] X.env:=by rfl)(hpl2:(v4 q1 (vL [] X.env)).any (·.1)=false:=by rfl):
  XE X (.Call (.Name "sorted" p1) [.Call (.Name "set" p2) [a] [] q2] [] q1) (Xy f):=by
 obtain⟨t,h1,h2⟩:=ha;refine⟨_,q2L (qb4 hc) hg1 hm1 q4v (qA (q7n (qev hc) hg2 hm2 qgj (qA h1 qz he1) (by decide) (by decide) he1 hpl1) qz he2) (by decide) (by decide) he2 hpl2,λG0 H0 G ω σ H r Q o e k=>?_⟩;obtain⟨d,q,e⟩:=bnd e;refine h2 G0 H0 G ω σ H d _ o q λv G1 H1 x1 y1=>?_;cases d with
 | lst ds=>
  obtain⟨ns,e1,e2⟩:=bnd (show (intsOf ds).bind _=some r from e);have hds:=q1t e1;subst hds
  by_cases hz:fewS ns
  ·rw[vC hz]at e2
   cases e2;obtain⟨p,vs,rfl,g1,g2⟩:=y1.lst x1.gh;have hv:=g2.of_ints;subst hv;refine⟨p,ns,rfl,g1,by have:=hz.2;omega,λS hS=>?_⟩;refine⟨S,ns,rfl,qe,hz,λl hl=>?_⟩;have x2:=Ext.hide x1.gh hS (.ext (setP X.w S ns));have x3:=Ext.hide x2.gh hl (.lst ((Xh ns).map V.int));exact k _ G1 _ ((x1.trans x2).trans x3) ⟨l,_,rfl,(x1.trans x2).hh.free hl,x2.gh.free hl,qe,Yx.ints _⟩
  ·rw[vF hz]at e2;cases e2
 | _=>cases e
end
end Hk
namespace PySem.F
end PySem.F
namespace Hk
open PySem PySem.Spec PyProof.Rows
section
variable{prog:vQ}{w:vZ}{A:vb}{E:vB->vG->Prop}{s:vG}
abbrev Xo(h:vn)(z TI TO:vJ)(f0 f1:vB):Prop:=h.get? z=some { cls:=.type "zip", dict:=none,data:=.fields #[f0,f1,.bool false,.ref TI,.ref TO],slots:=#[] }
def q7O{a:vJ}{Q:Option Obj->vG->Prop}(h:Q (s.heap.get? a) s):vN (model prog w) A (sP a) Q E s:=λ_ _ _=>h
def q9J{z TI TO t:vJ}{ot:Obj}{f1:vB}{Q:Bool->vG->Prop}(hz:Xo s.heap z TI TO (v8 t) f1)(ht:s.heap.get? t=some ot)(k:∀h' f1',Xo h' z TI TO (v8 t) f1'->xW z s.heap h'->Q false { s with heap:=h' }):vN (model prog w) A (Builtin.SmallTypes.ownedTupleIsFree (.ref z)) Q E s:=by
 unfold Builtin.SmallTypes.ownedTupleIsFree;refine vA (vt hz rfl (x:=v8 t) rfl ?_);show vN _ _ (sP ((t:Int)).toNat >>= _) _ _ _;rw[yO];refine vA (q7O ?_);rw[ht];show vN _ _ (field (.ref z) 1 >>= _) _ _ _;refine vA (vt hz rfl (x:=f1) rfl ?_);refine vc (λ_=>?_) (λ_=>?_)
 ·refine vA (vg hz (by simp) λh1 e1 sb=>vH (k h1 (.bool true) e1 sb))
 ·exact vH (k s.heap f1 hz (Z7 z s.heap))
def qdc{z TI TO i1 i2 l1 l2 t:vJ}{ot:Obj}{f1:vB}{k1 k2:Nat}{xs ys:Array vB}{x y:vB}{Q:Option vB->vG->Prop}(D:tD z TI TO i1 i2 l1 l2)(hz:Xo s.heap z TI TO (v8 t) f1)(ht:s.heap.get? t=some ot)(hTI:uM s.heap TI (.ref i1) (.ref i2))(h1:s.heap.IsListIter i1 l1 k1)(h2:s.heap.IsListIter i2 l2 k2)(hl1:s.heap.IsList l1 xs)(hl2:s.heap.IsList l2 ys)(hx:xs[k1]?=some x)(hy:ys[k2]?=some y)(hQ:∀h' f1',Xo h' z TI TO (v8 t) f1'->h'.IsListIter i1 l1 (k1+1)->h'.IsListIter i2 l2 (k2+1)->uM h' s.heap.objs.size x y ->
   (∀c o,c≠z->c≠i1->c≠i2->s.heap.get? c=some o->h'.get? c=some o)->Q (some (.ref s.heap.objs.size)) { s with heap:=h' }) :
  vN (model prog w) A (uI (.ref z)) Q E s:=by
 have hT:s.TypeIs (.ref z) "zip" := ⟨_,hz,rfl⟩;unfold uI;refine vA (uJ (wpAny_callSpecial?_slot (name:=Str.ofString "__next__") hT PySem.F.slot_zip_next (ve PySem.F.slot_zip_next hT PySem.F.entry_zip_next ?_ (PySem.F.args_zip_next_1 _))));show vN _ _ (field (.ref z) 2 >>= _) _ _ _;refine vA (vt hz rfl (x:=.bool false) rfl ?_);show vN _ _ (field (.ref z) 3 >>= _) _ _ _;refine vA (vt hz rfl (x:=.ref TI) rfl ?_);refine vA (v6 hTI rfl ?_);show vN _ _ (Builtin.SmallTypes.ownedTupleIsFree (.ref z) >>= _) _ _ _;refine vA (q9J hz ht λh' f1' hz1 sb1=>?_);simp only[ya,if_false];have a1:=h1.extBut sb1.extBut D.i1z;have a2:=h2.extBut sb1.extBut D.i2z;have b1:=hl1.extBut sb1.extBut D.l1z;have b2:=hl2.extBut sb1.extBut D.l2z;rw[<- Zw];simp only[wA,wm];refine vA (vA (vA (vh ?_)));show vN _ _ (Builtin.SmallTypes.nextOf (.ref i1) >>= _) _ _ _;refine vA (v9 a1 b1 hx λh₂ c1 sb2=>vH ?_);refine vH ?_;refine vA (vA (vh ?_));show vN _ _ (Builtin.SmallTypes.nextOf (.ref i2) >>= _) _ _ _;refine vA (v9 (a2.extBut sb2.extBut D.i12.symm) (b2.extBut sb2.extBut D.l2i1) hy λh₃ c2 sb3=>vH ?_);refine vH (vH ?_);show vN _ _ (newTuple [x,y] >>= _) _ _ _;refine vA (u9 ?_);have hsz:h₃.objs.size=s.heap.objs.size:=by rw[sb3.1,sb2.1,sb1.1]
 refine vH ⟨_,rfl,vH ?_⟩
 dsimp only
 rw[hsz];refine hQ _ f1' ?_ ?_ ?_ ?_ ?_
 ·exact zH _ (sb3.extBut _ _ D.i2z.symm (sb2.extBut _ _ D.i1z.symm hz1))
 ·exact(c1.extBut sb3.extBut D.i12).at λo e=>zH _ e
 ·exact c2.at λo e=>zH _ e
 ·have:=zS h₃ (o:={ cls:=.type "tuple", data:=.seq [x,y].toArray }) rfl
  rw[hsz]at this;exact this
 ·exact λc o n1 n2 n3 e=>zH _ (sb3.extBut _ _ n3 (sb2.extBut _ _ n2 (sb1.extBut _ _ n1 e)))
def qdO{z TI TO i1 i2 l1 l2 t:vJ}{ot:Obj}{f1:vB}{k1 k2:Nat}{xs ys:Array vB}{Q:Option vB->vG->Prop}(hh:A.handled=none)(D:tD z TI TO i1 i2 l1 l2)(hz:Xo s.heap z TI TO (v8 t) f1)(ht:s.heap.get? t=some ot)(hTI:uM s.heap TI (.ref i1) (.ref i2))(h1:s.heap.IsListIter i1 l1 k1)(h2:s.heap.IsListIter i2 l2 k2)(hl1:s.heap.IsList l1 xs)(hl2:s.heap.IsList l2 ys)(hend:xs[k1]?=none\/ys[k2]?=none)(hQ:∀h',(∀c o,c≠z->c≠i1->c≠i2->s.heap.get? c=some o->h'.get? c=some o)->Q none { s with heap:=h' }):
  vN (model prog w) A (uI (.ref z)) Q E s:=by
 have hT:s.TypeIs (.ref z) "zip" := ⟨_,hz,rfl⟩;unfold uI;refine vA (uJ (wpAny_callSpecial?_slot (name:=Str.ofString "__next__") hT PySem.F.slot_zip_next (ve PySem.F.slot_zip_next hT PySem.F.entry_zip_next ?_ (PySem.F.args_zip_next_1 _))));show vN _ _ (field (.ref z) 2 >>= _) _ _ _;refine vA (vt hz rfl (x:=.bool false) rfl ?_);show vN _ _ (field (.ref z) 3 >>= _) _ _ _;refine vA (vt hz rfl (x:=.ref TI) rfl ?_);refine vA (v6 hTI rfl ?_);show vN _ _ (Builtin.SmallTypes.ownedTupleIsFree (.ref z) >>= _) _ _ _;refine vA (q9J hz ht λh' f1' hz1 sb1=>?_);simp only[ya,if_false];have a1:=h1.extBut sb1.extBut D.i1z;have a2:=h2.extBut sb1.extBut D.i2z;have b1:=hl1.extBut sb1.extBut D.l1z;have b2:=hl2.extBut sb1.extBut D.l2z;rw[<- Zw];simp only[wA,wm];refine vA (vA (vA (vh ?_)));show vN _ _ (Builtin.SmallTypes.nextOf (.ref i1) >>= _) _ _ _;cases hx:xs[k1]? with
 | none=>
  refine vA (uW hh a1 b1 hx λh₂ e sb2 he=>?_);obtain⟨o,ho,hc⟩:=he;refine vA (uE (T := "StopIteration") (b:=true) ⟨o,ho,hc⟩ uY ?_);exact vH (hQ _ λc o n1 n2 n3 e=>sb2 _ _ n2 (sb1.extBut _ _ n1 e))
 | some x=>
  have hy:ys[k2]?=none:=by rcases hend with h|h;rw[hx]at h;cases h;exact h
  refine vA (v9 a1 b1 hx λh₂ c1 sb2=>vH ?_);refine vH ?_;refine vA (vA (vh ?_));show vN _ _ (Builtin.SmallTypes.nextOf (.ref i2) >>= _) _ _ _;refine vA (uW hh (a2.extBut sb2.extBut D.i12.symm) (b2.extBut sb2.extBut D.l2i1) hy λh₃ e sb3 he=>?_);obtain⟨o,ho,hc⟩:=he;refine vA (uE (T := "StopIteration") (b:=true) ⟨o,ho,hc⟩ uY ?_);exact vH (hQ _ λc o n1 n2 n3 e=>sb3 _ _ n3 (sb2.extBut _ _ n2 (sb1.extBut _ _ n1 e)))
end
end Hk
namespace Hk
open PySem PySem.Spec PySem.W PyProof.Rows
section
variable{prog:vQ}{w:vZ}{A:vb}{E:vB->vG->Prop}{R:t9->vG->Prop}{s:vG}
abbrev zCl(h:vn)(S:vJ)(acc:Array vB)(c:Nat):Prop:=h.get? S=some { cls:=.type "list", dict:=none,data:=.seq acc c,slots:=#[] }
end
end Hk
namespace Hk
open PySem L2
section
variable{X:Cx}{pins:List (vJ×Obj)}{σ:St}{H H':Hp}{s:vG}
theorem q72{K:zA}{G:Hp}:∀{ds:List D}{ts:List vJ},ds.length=ts.length->(∀(j:Nat)d t,ds[j]?=some d->ts[j]?=some t->Rep K G d (.ref t))->Yx K G ds (ts.map V.ref)
 | [],[],_,_=>rfl
 | [],_::_,h,_=>by simp at h
 | _::_,[],h,_=>by simp at h
 | d::ds,t::ts,h,f=>⟨.ref t,_,rfl,f 0 d t rfl rfl,q72 ⇑h λj e u h1 h2=>f (j+1) e u ⇑h1 ⇑h2⟩
end
noncomputable def zAc:List Int->Int
 | []=>0
 | [x]=>x
 | x::y::r=>if x<=zAc (y::r)then zAc (y::r)else x
noncomputable def zAd:List Int->Int
 | []=>0
 | [x]=>x
 | x::y::r=>if zAd (y::r)<=x then zAd (y::r)else x
theorem q9Z:∀{ns:List Int},ns≠[]->zAc ns∈ns/\∀a∈ns,a<=zAc ns
 | [x],_=>⟨by simp[zAc],λa h=>by simp at h;subst h;exact yI _⟩
 | x::y::r,_=>by
  obtain⟨h1,h2⟩:=q9Z (ns:=y::r) (by simp);unfold zAc
  split
  ·rename_i h
   refine⟨zG _ h1,λa ha=>?_⟩;rcases zF.mp ha with rfl|ha
   ·exact h
   ·exact h2 a ha
  ·rename_i h
   refine⟨zI,λa ha=>?_⟩;rcases zF.mp ha with rfl|ha
   ·exact yI _
   ·have:=h2 a ha;omega
theorem qaw:∀{ns:List Int},ns≠[]->zAd ns∈ns/\∀a∈ns,zAd ns<=a
 | [x],_=>⟨by simp[zAd],λa h=>by simp at h;subst h;exact yI _⟩
 | x::y::r,_=>by
  obtain⟨h1,h2⟩:=qaw (ns:=y::r) (by simp);unfold zAd
  split
  ·rename_i h
   refine⟨zG _ h1,λa ha=>?_⟩;rcases zF.mp ha with rfl|ha
   ·exact h
   ·exact h2 a ha
  ·rename_i h
   refine⟨zI,λa ha=>?_⟩;rcases zF.mp ha with rfl|ha
   ·exact yI _
   ·have:=h2 a ha;omega
section
variable{X:Cx}
end
noncomputable def whD(c:FT)(b:FS):Nat->FS
 | 0=>λ_=>none
 | n+1=>λω=>(c ω).bind λk=>if k=true then (b ω).bind (λp=>match p.1 with
   | .nx=>whD c b n p.2
   | .ct=>whD c b n p.2
   | .bk=>some (.nx,p.2)
   | .rt r=>some (.rt r,p.2))else some (.nx,ω)
noncomputable def sWh(n:Nat)(c:FT)(b:FS):FS:=whD c b n
section
variable{X:Cx}{c:vW}{body:List vx}{fc:FT}{fb:FS}{pos:Pos}{n:Nat}
def qdk{K:zA}{t:TT}{u:TS}(h2:zAu K t fc)(h4:SimS K u fb):SimS K (zBl t u) (sWh n fc fb):=by
 intro G0 H0 G ω σ H out ω' E o e k;refine⟨λm σ1 H1=>∃G1 ω1,Own K G0 H0 G1 ω1 σ1 H1/\Y7 G G1/\whD fc fb m ω1=some (out,ω'),⟨n,G,ω,o,Y7.refl _,e⟩,λm σ1 H1 ⟨G1,ω1,o1,g1,e1⟩=>?_⟩;cases m with
 | zero=>cases e1
 | succ m=>
  obtain⟨b,q,e1⟩:=bnd e1;refine h2 G0 H0 G1 ω1 σ1 H1 b _ o1 q λG2 H2 x2=>?_;cases b with
  | false=>cases e1;exact k G2 σ1 H2 (o1.keep x2) (g1.trans x2.gg)
  | true=>
   rw[vC rfl];rw[vC rfl]at e1;obtain⟨⟨o3,ω3⟩,q3,e1⟩:=bnd e1;refine⟨λσ' H'=>∃G1 ω1,Own K G0 H0 G1 ω1 σ' H'/\Y7 G G1/\whD fc fb m ω1=some (out,ω'),λσ' H' z=>⟨m,yY m,z⟩,?_⟩;refine h4 G0 H0 G2 ω1 σ1 H2 o3 ω3 _ (o1.keep x2) q3 λG4 σ4 H4 o4 g4=>?_;have gg:=(g1.trans x2.gg).trans g4;cases o3 with
   | nx=>exact⟨G4,ω3,o4,gg,e1⟩
   | ct=>exact⟨G4,ω3,o4,gg,e1⟩
   | bk=>cases e1;exact k G4 σ4 H4 o4 gg
   | rt r=>cases e1;exact k G4 σ4 H4 o4 gg
def q9c(hp:tL (model X.prog X.w) X.A X.env X.xe)(hc:XT X c fc)(hb:XSs X body fb):XS X (.While c body [] pos) (sWh n fc fb):=by
 obtain⟨t,h1,h2⟩:=hc;obtain⟨u,h3,h4⟩:=hb;exact⟨_,q91 hp h1 h3,qdk h2 h4⟩
end
section
variable{fc:FT}{fb:FS}
end
section
variable{X:Cx}{pos:Pos}{o:vW}{apos cpos:Pos}{i:Nat}
end
noncomputable abbrev FM:=WSt->Option (D×WSt)
def SimM(K:zA)(t:TE)(f:FM):Prop:=∀G0 H0 G ω σ H d ω'(Q:VK),Own K G0 H0 G ω σ H->f ω=some (d,ω') ->
 (∀v G' H',Own K G0 H0 G' ω' σ H'->Y7 G G'->Rep K G' d v->Q v H')->t σ H Q
def XM(X:Cx)(e:vW)(f:FM):Prop:=∃t,PE X e t/\SimM X.K t f
section
variable{X:Cx}{pos:Pos}{o e:vW}{apos cpos pos':Pos}{i:Nat}{fd:FD}{f:FM}
noncomputable def zCB(i:Nat)(f:FM):FS:=λω=>(f ω).map λp=>(.nx,p.2.set i (some (.sh p.1)))
def qfv{x:Str}(hN:X.N.Nodup)(hi:X.N[i]?=some x)(hx:Loc X.env.scope x)(he:XM X e f)(hs:v3 e (some (.Name x pos')) pos.line X.env=pure false:=by rfl)(hf:X.fn x=true\/X.env.scope.names.lookup x=some .local:=by first|exact .inl rfl|exact .inr rfl|assumption):
  XS X (.Assign [.Name x pos'] e pos) (zCB i f):=by
 obtain⟨t,h1,h2⟩:=he;refine⟨_,q0b hN hi hx h1 hs hf,λG0 H0 G ω σ H out ω' E o e k=>?_⟩;unfold zCB at e;cases q:f ω with
 | none=>rw[q]at e;cases e
 | some p=>
  obtain⟨d,ω1⟩:=p;rw[q]at e;cases e;exact h2 G0 H0 G ω σ H d ω1 _ o q λv G1 H1 o1 g1 r1=>k G1 _ H1 (o1.setSh r1) g1
end
section
variable{X:Cx}{a b c:vW}{pos:Pos}{fa fb fc:FD}{op op':sL}{p p':Int->Int->Bool}
end
noncomputable def zC0(x:Int):List Int->List Int
 | []=>[x]
 | y::r=>if x<=y then x::y::r else y::zC0 x r
noncomputable def XJ(ns:List Int):List Int:=ns.foldr zC0 []
theorem q4z{x:Int}:∀{l:List Int},(zC0 x l).Perm (x::l)
 | []=>.refl _
 | y::r=>by
  unfold zC0
  by_cases h:x<=y
  ·rw[vC h]
  ·rw[vF h];exact(q4z.cons y).trans (.swap x y r)
theorem qN:∀{l:List Int},(XJ l).Perm l
 | []=>.refl _
 | y::r=>q4z.trans ((qN (l:=r)).cons y)
theorem q9L{x:Int}:∀{l:List Int},l.Pairwise (· <= ·)->(zC0 x l).Pairwise (· <= ·)
 | [],_=>List.pairwise_singleton _ _
 | y::r,h=>by
  obtain⟨h1,h2⟩:=zZ.mp h;unfold zC0
  by_cases z:x<=y
  ·rw[vC z]
   refine zZ.mpr ⟨λa ha=>?_,h⟩;cases ha with
   | head=>exact z
   | tail _ ha=>exact yW z (h1 a ha)
  ·rw[vF z]
   refine zZ.mpr ⟨λa ha=>?_,q9L h2⟩;cases (q4z.mem_iff.mp ha:a∈x::r)with
   | head=>omega
   | tail _ ha=>exact h1 a ha
theorem q2B:∀{l:List Int},(XJ l).Pairwise (· <= ·)
 | []=>.nil
 | y::r=>q9L (q2B (l:=r))
theorem q2l:∀{l m:List Int},l.Pairwise (· <= ·)->m.Pairwise (· <= ·)->l.Perm m->l=m
 | [],m,_,_,p=>(List.Perm.nil_eq p)
 | a::l,m,h,h',p=>by
  cases m with
  | nil=>exact vK p.length_eq (by simp)
  | cons b m=>
   obtain⟨h1,h2⟩:=zZ.mp h;obtain⟨h3,h4⟩:=zZ.mp h';have hab:a=b:=by
    have x1:a∈b::m:=p.mem_iff.mp (.head _);have x2:b∈a::l:=p.mem_iff.mpr (.head _);cases x1 with
    | head=>rfl
    | tail _ x1=>
     cases x2 with
     | head=>rfl
     | tail _ x2=>have:=h3 a x1;have:=h1 b x2;omega
   subst hab;rw[q2l h2 h4 p.cons_inv]
def q74(l:List Int):(XJ l).length=l.length:=qN.length_eq
def qdQ{l m:List Int}:XJ l=XJ m↔l.Perm m :=
 ⟨λh=>qN.symm.trans (h▸qN),λh=>q2l q2B q2B ((qN.trans h).trans qN.symm)⟩
section
variable{X:Cx}
end
end Hk
namespace Hk
open PySem PySem.Spec PyProof.Rows
def zBu:tS (.type "list_reverseiterator") "__len__" = pure none:=by rw[uU,uB];kernel_rfl
def zCu:tS (.type "list_reverseiterator") "__length_hint__" = pure (some (.builtin "list_reverseiterator.__length_hint__")):=by rw[uU,uB];kernel_rfl
section
variable{prog:vQ}{w:vZ}{A:vb}{E:vB->vG->Prop}{s:vG}
def qdX{r:vJ}{Q:Bool->vG->Prop}(hT:s.TypeIs (.ref r) "list_reverseiterator")(h:Q false s):vN (model prog w) A (Builtin.List.listLengthHint (.ref r)) Q E s:=by
 unfold Builtin.List.listLengthHint;refine vA (uw hT zBu ?_);show vN _ A (specialOf (Value.ref r) (Str.ofString "__length_hint__") >>= _) _ _ _;refine vA (uw hT zCu ?_);generalize hid:("list_reverseiterator.__length_hint__" : String)=id0
 wp_delta
 rw[show splitId id0=some ("list_reverseiterator", "__length_hint__")from by subst hid;decide +kernel];subst hid;refine vA (uE (T := "list_reverseiterator") (b:=true) hT (by rw[uk];kernel_rfl) ?_);refine vc (λhab=>vK hab (by decide)) (λ_=>?_);refine vc (λ_=>?_) (λhab=>vK ⋯ hab);refine vc (λhab=>vK hab ⋯) (λ_=>?_);exact vH h
def qb7{R:t9->vG->Prop}{S I l:vJ}{items:Array vB}{res:vB}{c₀:Nat}(hh:A.handled=none)(hn:items.size<=sizeLine)(hSI:S≠I)(hSl:S≠l)(hne:l≠I)(hit:s.heap.IsRevIter I l ((items.size:Int)-1))(hl:s.heap.IsList l items)(hS:zCl s.heap S #[] c₀)(hR:∀(h':vn)(tk:Nat)(c:Nat),(∀b o,b≠S->b≠I->s.heap.get? b=some o->h'.get? b=some o)->zCl h' S items.reverse c->R (.ok (.ret res)) { s with heap:=h',toks:=tk }):
  vN (model prog w) A.in1 (Builtin.List.listExtendWith (.ref S) (.ref I) res)
   (λfin s'=>match fin with|.done f=>R (.ok f) s'|.again c'=>c'.quiet=true/\uh (model prog w) A c' R s') (λe s'=>R (.error e) s') s:=by
 have W:=Walks.listRev (prog:=prog) (w:=w) (A:=A.in1) hh I l hne items;have hT:=hit.typeIs;have hSf:S∉[I,l]:=by simp[hSI,hSl]
 unfold Builtin.List.listExtendWith;refine vA (uj (T := "list_reverseiterator") hT ?_);rw[show Builtin.List.listSameRef (.ref S) (.ref I)=false by simp[Builtin.List.listSameRef,hSI],show (Value.type "list_reverseiterator" == Value.type "list")=false by decide,show (Value.type "list_reverseiterator" == Value.type "tuple")=false by decide];refine vc (λhab=>vK hab (by decide)) (λ_=>?_);refine vA (wpAny_pyIter_revIter hit ?_);refine vA (vh (qdX hT ?_));refine vc (λhab=>vK hab (by decide)) (λ_=>?_);have st:0<=items.size/\s.heap.IsRevIter I l ((items.size:Int)-1-((0:Nat):Int))/\s.heap.IsList l items:=⟨yE _,by simpa using hit,hl⟩;refine vH ⟨uc PySem.F.plain_extend_loop _,tW W.toS hn S hSf res items.size 0 _ #[] c₀ rfl (yE _) st hS (ItemsOf.nil _) λs' acc' c' hm hS' hacc=>?_⟩;rw[Moved.eq_with hm];have e:acc'=items.reverse:=by
  apply Array.ext_getElem?;intro j;rcases yB j items.size with z|z
  ·have hz:j<acc'.size:=by rw[hacc.1];exact z
   have q:acc'[j]?=some acc'[j]:=yG hz;rw[q,Array.getElem?_reverse z];exact(hacc.2 j _ q).symm
  ·rw[yx (by rw[hacc.1];exact z),yx (by rw[Array.size_reverse];exact z)]
 subst e;exact hR s'.heap s'.toks c' (λb o b1 b2 e=>hm.heap b o (by simp[b1,b2]) e) hS'
def qe1{l:vJ}{items:Array vB}{Q:vB->vG->Prop}(hh:A.handled=none)(hn:items.size<=sizeLine)(hl:s.heap.IsList l items)(hQ:∀(h':vn)(tk:Nat)(S:vJ)(c:Nat),s.heap.objs.size<=S->(∀b o,s.heap.get? b=some o->h'.get? b=some o)->zCl h' S items.reverse c->Q (.ref S) { s with heap:=h',toks:=tk }):
  vN (model prog w) A (call (.type "list") [.ref s.heap.objs.size]) Q E { s with heap:=s.heap.push (revObj l ((items.size:Int)-1)) }:=by
 have hll:l<s.heap.objs.size:=by obtain⟨_,e,_⟩:=hl;exact zO e
 have gI:(s.heap.push (revObj l ((items.size:Int)-1))).get? s.heap.objs.size=some (revObj l ((items.size:Int)-1)):=zS _ rfl;have k1:∀b o,s.heap.get? b=some o->(s.heap.push (revObj l ((items.size:Int)-1))).get? b=some o:=λb o e=>zH _ e;generalize hI:s.heap.objs.size=I at *;generalize hp:s.heap.push (revObj l ((items.size:Int)-1))=h1 at *;have hI1:I<h1.objs.size:=zO gI;have hS:(h1.push { cls:=.type "list", data:=.seq #[] }).get? h1.objs.size=some { cls:=.type "list", data:=.seq #[] }:=zS _ rfl;refine callType_codes (s:={ s with heap:=h1 }) (Q₁:=λobj s₁=>obj=.ref h1.objs.size/\s₁={ s with heap:=h1.push { cls:=.type "list", data:=.seq #[] } }) PySem.F.called_list (PySem.F.typeCall_list_1 _) PySem.F.entry_list_init
  (code_list_new _ ⟨rfl,rfl⟩) λobj s₁ z=>?_
 obtain⟨rfl,rfl⟩:=z;refine⟨⟨_,hS,rfl⟩,PySem.F.args_list_init_2 _ _,?_⟩;generalize hS0:h1.objs.size=S at *;show vN _ _ (do let old <- Builtin.List.listItems (.ref S);Builtin.List.listUpdate (.ref S) (λ_=>#[]);letGo old.toList.reverse;Builtin.List.listExtendWith (.ref S) (.ref I) .none) _ _ _;apply vA;unfold Builtin.List.listItems;refine vA (v6 hS rfl (vH ?_));show vN _ _ (updateSeq S (λ_=>#[]) >>= λ_=>letGo (#[]:Array vB).toList.reverse >>= λ_=>Builtin.List.listExtendWith (.ref S) (.ref I) .none) _ _ _;refine vA (ux hS rfl ?_);have hS2:=get?_update_seq hS (λ_=>(#[]:Array vB));have oth:∀b o,b≠S->h1.get? b=some o->((h1.push { cls:=.type "list", data:=.seq #[] }).update S (Obj.mapSeq (λ_=>(#[]:Array vB)))).get? b=some o :=
  λb o hb e=>(yj _ _ (Ne.symm hb)).trans (zH _ e)
 refine vA (tY ?_);have n1:S≠I:=by simp only[vJ]at *;omega
 have n2:S≠l:=by simp only[vJ]at *;omega
 have n3:l≠I:=by simp only[vJ]at *;omega
 refine qb7 (A:=A.in1) (items:=items) (I:=I) (l:=l) hh hn n1 n2 n3 ⟨_,oth _ _ (Ne.symm n1) gI,rfl,rfl⟩ (hl.at λo e=>oth l o (Ne.symm n2) (k1 l o e)) hS2 λh' tk c kp e=>?_;refine⟨rfl,hQ h' tk S c (by simp only[vJ]at *;omega) (λb o z=>?_) e⟩;have hb:b<I:=hI▸zO z;exact kp b o (by simp only[vJ]at *;omega) (by simp only[vJ]at *;omega) (oth b o (by simp only[vJ]at *;omega) (k1 b o z))
end
open L2
def rLR:List V->Hp->VK->Prop:=λvs H Q=>∃p xs,vs=[.ref p]/\H p=some (.lst xs)/\∀S,H S=none->Q (.ref S) (upd H S (.lst xs.reverse))
section
variable{X:Cx}
def qbe{a:vW}{t:TA}{p1 p2 q1 q2:Pos}(hg1:Gl X "list")(hm1:X.mg "list" = none)(hg2:Gl X "reversed")(hm2:X.mg "reversed" = none)(ha:PA X [a] t)(hc:X.calm=true)(he1:vL [a] X.env=(false,eval a X.env)::vL [] X.env)(hpl1:(v4 q2 (vL [] X.env)).any (·.1)=false)(he2:vL [.Call (.Name "reversed" p2) [a] [] q2] X.env=(false,eval (.Call (.Name "reversed" p2) [a] [] q2) X.env)::vL [] X.env)(hpl2:(v4 q1 (vL [] X.env)).any (·.1)=false):
  PE X (.Call (.Name "list" p1) [.Call (.Name "reversed" p2) [a] [] q2] [] q1) (tCB rLR t):=by
 intro pins s σ H Q I h;refine uR (q1M I hg1 hm1 q3n ?_ (by decide) (by decide));refine PyProof.Rows.callWith_type1 ?_ he2 hpl2;rw[he2];show vN _ _ (spliced ((false,eval _ X.env)::v4 q1 (vL [] X.env))) _ _ s;refine Calls.spliced_cons ?_;refine uR (q1M I hg2 hm2 PyProof.Rows.boot_reversed ?_ (by decide) (by decide));refine PyProof.Rows.callWith_type1 (thn (ha q2 pins s σ H _ I h) λus s1 ⟨vs,H1,I1,r1,z1⟩=>?_) he1 hpl1;obtain⟨p,xs,rfl,hp,k⟩:=z1;obtain⟨u,rfl,e1⟩:=vals1 r1;cases e1;obtain⟨its,n,rv,g1,sz⟩:=I1.lst hp;have il:s1.heap.IsList p its.toArray:=⟨_,g1,rfl,n,rfl⟩;refine call_reversed_list il (Calls.spliced_nil ?_);refine qe1 (I1.ok.hd hc) (by rw[zP,<- rv.length];exact sz) il λh2 tk S c b1 b2 b3=>?_;refine⟨.ref S,_,I1.laid (t':=tk) b2 b1 (show XF X.prog X.w _ h2 S (.lst xs.reverse)from ⟨by rw[List.length_reverse];exact sz,its.reverse,c,rv.reverse,by rw[b3];simp⟩),rfl,k S (I1.hok.fresh b1)⟩
end
end Hk
namespace L2
open PySem PySem.Spec PyProof.Rows
def Inv.turnedL{X:Cx}{pins:List (vJ×Obj)}{σ:List (Option V)}{H:Hp}{s:vG}{h':vn}{t':Nat}{fp:List vJ}(I:Inv X pins σ H s)(k:∀b o,b∉fp->s.heap.get? b=some o->h'.get? b=some o)(hf:∀b∈fp,zBe X pins H b):
  Inv X pins σ H { s with heap:=h',toks:=t' }:=by
 have nit:∀b u,H b=some u->b∉fp:=λb u e z=>by have:=(hf b z).1;rw[e]at this;cases this
 refine I.step (g':=s.gens) (d':=s.drawn) (ch:=fp) (λb hb=>?_) (λb o _ _ hc e _=>k b o hc e) (λb o _ _ hc e _=>⟨o.slots,k b o hc e⟩) (λ_ _ _ _ n=>n)
  (λb o hc e=>⟨o,k b o hc e⟩) (λ_ _ e=>e) (λ_ _ _ e=>e) (λb ps e=>⟨#[],by rw[e];simp⟩) (λm hm=>?_) (λb u e=>?_) I.bare
 ·obtain⟨f0,f1,f2,f3,f4,f5⟩:=hf b hb
  exact⟨f3,f1,f4,f5⟩
 ·obtain⟨o,es,ep,ho,r⟩:=hm
  exact⟨o,es,ep,k _ o (λz=>(hf _ z).2.1 rfl) ho,r⟩
 ·refine(I.hok b u e).stay (λc v hc q=>k c v ?_ q) (λ_ q=>q) λ_ _ q=>q
  rcases hc with z|z
  ·rw[z];exact nit b u e
  ·exact nit c _ z
noncomputable def Itz(K:zA)(a b:vJ):It :=
 ⟨λi H=>∃xs ys x y,SqL K H a xs/\SqL K H b ys/\xs[i]?=some x/\ys[i]?=some y,
  λi H x H'=>∃t x1 y1,H t=none/\x=.ref t/\H'=upd H t (.tup [x1,y1])/\∀xs ys,SqL K H a xs->SqL K H b ys->xs[i]?=some x1/\ys[i]?=some y1,
  λi H=>∃xs ys,SqL K H a xs/\SqL K H b ys/\(xs[i]?=none\/ys[i]?=none)⟩
noncomputable def iZip(K:zA)(ta:TA):TI:=λσ H R=>ta σ H λvs H1=>∃a b xs ys,vs=[.ref a,.ref b]/\SqL K H1 a xs/\SqL K H1 b ys/\R (Itz K a b) H1
end L2
namespace Hk
open PySem L2
noncomputable def zBE:List D->List D->List D
 | a::as,b::bs=>.tup [a,b]::zBE as bs
 | _,_=>[]
theorem q56:∀(as bs:List D),(zBE as bs).length=min as.length bs.length
 | a::as,b::bs=>by show (zBE as bs).length+1=_;rw[q56 as bs,zE,zE];omega
 | [],bs=>by cases bs <;> simp[zBE]
 | a::as,[]=>by simp[zBE]
theorem q8y:∀(as bs:List D)(i:Nat)(d:D),(zBE as bs)[i]?=some d->∃a b,as[i]?=some a/\bs[i]?=some b/\d=.tup [a,b]
 | a::as,b::bs,0,d,h=>by cases h;exact⟨a,b,rfl,rfl,rfl⟩
 | a::as,b::bs,i+1,d,h=>q8y as bs i d h
 | [],bs,i,d,h=>by cases bs <;> cases h
 | a::as,[],i,d,h=>by cases h
def qdM{K:zA}{G:Hp}{a b:vJ}{ds es:List D}{vs us:List V}(h1:G a=some (.lst vs))(h2:Yx K G ds vs)(h3:G b=some (.lst us))(h4:Yx K G es us):IterOf K (Itz K a b) G (zBE ds es):=by
 have l1:=h2.len;have l2:=h4.len;refine⟨λH i s hi=>?_,λG2 H i x H' d s0 s1 hd hy=>?_,λH s=>⟨vs,us,SqL.of (s _ _ h1),SqL.of (s _ _ h3),?_⟩⟩
 ·rw[q56]at hi
  exact⟨vs,us,vs[i]'∅,us[i]'∅,SqL.of (s _ _ h1),SqL.of (s _ _ h3),zD _,zD _⟩
 ·obtain⟨t,x1,y1,ht,rfl,rfl,y⟩:=hy
  obtain⟨e1,e2⟩:=y vs us (SqL.of (s1 _ _ (s0 _ _ h1))) (SqL.of (s1 _ _ (s0 _ _ h3)));obtain⟨p,q,f1,f2,rfl⟩:=q8y ds es i d hd;obtain⟨v,q1,q2⟩:=h2.get f1;obtain⟨u,q3,q4⟩:=h4.get f2;rw[e1]at q1;cases q1;rw[e2]at q3;cases q3;have x2:=Ext.lay s1 ht (.tup [x1,y1]);exact⟨_,x2,⟨t,_,rfl,qe,Yx.cons (q2.mono (s0.trans x2.gg)) (Yx.cons (q4.mono (s0.trans x2.gg)) Yx.nil)⟩⟩
 ·rw[q56]
  rcases Nat.le_total ds.length es.length with h|h
  ·exact .inl (zd ∅)
  ·exact .inr (zd ∅)
noncomputable def iZp(g:FA):FI:=λω=>(g ω).bind λds=>match ds with
 | [.lst a,.lst b]=>some (zBE a b)
 | _=>none
section
open PySem.Spec PyProof.Rows
variable{X:Cx}
end
end Hk
namespace Hk
open PySem L2 PyProof.Rows
section
variable{X:Cx}{pos:Pos}{o e:vW}{apos cpos:Pos}{i:Nat}{fd:FD}
end
end Hk
namespace Hk
open PySem L2
section
variable{X:Cx}{o c:vW}{body:List vx}{pos ipos npos:Pos}{i j:Nat}{fc:FT}{fb:FS}
end
noncomputable def dropW(o:Option R)(ω:WSt):Option (Out×WSt):=o.map λ_=>(.nx,ω)
noncomputable def zipI(o:Option (List D)):Option (List D):=o.bind λds=>match ds with
 | [.lst a,.lst b]=>some (zBE a b)
 | _=>none
section
variable{ω:WSt}{fe:FE}{fd:FD}{fa:FA}{r:R}{ds as bs:List D}{i j:Nat}{f:FS}{ft:FT}{m:List D->List D}
def q6O:zBZ fe ω=dropW (fe ω) ω:=rfl
def e_wd:dropW (some r) ω=some (.nx,ω):=rfl
def q8f:iZp fa ω=zipI (fa ω):=rfl
def e_wz:zipI (some [.lst as,.lst bs])=some (zBE as bs):=rfl
end
end Hk
namespace L2
open PySem PySem.Spec PyProof.Rows
section
variable{κ:Type}[DecidableEq κ]
noncomputable def Ww(kvs:List (κ×V))(k:κ):Option V:=(kvs.find? λkv=>decide (kv.1=k)).map (·.2)
noncomputable def putK(kvs:List (κ×V))(k:κ)(v:V):List (κ×V) :=
 if (kvs.any λkv=>decide (kv.1=k))=true then kvs.map (λkv=>if kv.1=k then (kv.1,v)else kv)else kvs++[(k,v)]
def q3y{p:κ×V}{r:List (κ×V)}{k:κ}(e:p.1=k):Ww (p::r) k=some p.2:=by simp[Ww,xh,e]
def q3A{p:κ×V}{r:List (κ×V)}{k:κ}(e:¬p.1=k):Ww (p::r) k=Ww r k:=by simp[Ww,xh,e]
theorem q5c(k:κ):∀kvs:List (κ×V),(kvs.any λkv=>decide (kv.1=k))=(Ww kvs k).isSome
 | []=>rfl
 | p::r=>by
  rw[xy]
  by_cases e:p.1=k
  ·simp only[q3y e,vS e,ZK,Option.isSome_some]
  ·rw[q3A e,vX e,ww];exact q5c k r
def q38(kvs:List (κ×V))(k:κ)(v:V):(putK kvs k v).length<=kvs.length+1:=by
 unfold putK
 split
 ·rw[zB];omega
 ·rw[zC,zE,yT];omega
def qeh{kvs:List (κ×V)}{k:κ}(v:V)(h:Ww kvs k=none):putK kvs k v=kvs++[(k,v)]:=by
 unfold putK;rw[q5c,h];exact vF (by decide)
def zBF.isSome_eq{o:Option V}{u:Option vB}(r:zBF o u):o.isSome=u.isSome:=by
 cases o with
 | none=>cases u with
  | none=>rfl
  | some _=>exact(show False from r).elim
 | some _=>cases u with
  | none=>exact(show False from r).elim
  | some _=>rfl
theorem zBF.getD{o:Option V}{u:Option vB}{d:V}{d':vB}(r:zBF o u)(rd:RelV d d'):RelV (o.getD d) (u.getD d'):=by
 cases o with
 | none=>cases u with
  | none=>exact rd
  | some _=>exact(show False from r).elim
 | some _=>cases u with
  | none=>exact(show False from r).elim
  | some _=>exact r
def KV.val{kvs:List (κ×V)}{vs:List (κ×vB)}(r:KV kvs vs)(k:κ):zBF (Ww kvs k) (tj vs k):=by
 unfold KV at r
 induction r with
 | nil=>exact True.intro
 | @cons p q ps qs h t ih=>
  obtain⟨h1,h2⟩:=h
  by_cases e:p.1=k
  ·have e':q.1=k:=h1.symm.trans e
   have b:tj (q::qs) k=some q.2:=by simp[tj,xh,e']
   rw[q3y e,b];exact h2
  ·have e':¬q.1=k:=λz=>e (h1.trans z)
   have b:tj (q::qs) k=tj qs k:=by simp[tj,xh,e']
   rw[q3A e,b];exact ih
theorem KV.any{kvs:List (κ×V)}{vs:List (κ×vB)}(r:KV kvs vs)(k:κ):(kvs.any λkv=>decide (kv.1=k))=vs.any λkv=>decide (kv.1=k):=by
 unfold KV at r
 induction r with
 | nil=>rfl
 | cons h t ih=>rw[xy,xy,ih,h.1]
def KV.repl{kvs:List (κ×V)}{vs:List (κ×vB)}(r:KV kvs vs)(k:κ){y:V}{u:vB}(ry:RelV y u):
  KV (kvs.map λkv=>if kv.1=k then (kv.1,y)else kv) (vs.map λkv=>if kv.1=k then (kv.1,u)else kv):=by
 unfold KV at r ⊢
 induction r with
 | nil=>exact .nil
 | @cons p q ps qs h t ih=>
  rw[zY,zY];refine .cons ?_ ih;obtain⟨h1,h2⟩:=h
  by_cases e:p.1=k
  ·rw[vC e,vC (h1.symm.trans e)];exact⟨h1,ry⟩
  ·rw[vF e,vF (λz=>e (h1.trans z))];exact⟨h1,h2⟩
def KV.put{kvs:List (κ×V)}{vs:List (κ×vB)}(r:KV kvs vs)(k:κ){y:V}{u:vB}(ry:RelV y u):KV (putK kvs k y) (stored vs k u):=by
 unfold putK stored;rw[r.any k]
 by_cases e:(vs.any λkv=>decide (kv.1=k))=true
 ·rw[vC e,vC e];exact r.repl k ry
 ·rw[vF e,vF e];exact Paired.snoc r ⟨rfl,ry⟩
def KV.keys{kvs:List (κ×V)}{vs:List (κ×vB)}(r:KV kvs vs):kvs.map (·.1)=vs.map (·.1):=by
 unfold KV at r
 induction r with
 | nil=>rfl
 | cons h t ih=>rw[zY,zY,ih,h.1]
theorem KV.length{kvs:List (κ×V)}{vs:List (κ×vB)}(r:KV kvs vs):kvs.length=vs.length:=Paired.length r
end
def q3R{P:vQ}{w:vZ}{k:Key}{u:vB}(r:RelV (kV k) u):(Y5 P w).is k u=true:=by
 cases k with
 | inl i=>obtain⟨t,e⟩:=(show ∃t,u=Value.int i t from r);subst e;exact q9t P w i t
 | inr x=>obtain⟨t,e⟩:=(show ∃t,u=Value.str x t from r);subst e;exact q9v P w x t
theorem q79{P:vQ}{w:vZ}:∀{ks:List Key}{us:List vB},XB (ks.map kV) us->ItemsAre (Y5 P w) ks us
 | [],_,r=>by rw[yw]at r;cases r;exact .nil
 | k::ks,_,r=>by
  rw[zY]at r;cases r with
  | cons h t=>exact .cons (q3R h) (q79 t)
abbrev KT(H:Hp):List (List Key×V)->List (List Key×vJ×vB)->Prop:=sK λp q=>p.1=q.1/\H q.2.1=some (.tup (p.1.map kV))/\RelV p.2 q.2.2
def KT.val{H:Hp}{kvs:List (List Key×V)}{xs:List (List Key×vJ×vB)}(r:KT H kvs xs)(k:List Key):zBF (Ww kvs k) ((sQ xs k).map (·.2)):=by
 induction r with
 | nil=>exact True.intro
 | @cons p q ps qs h t ih=>
  obtain⟨h1,_,h2⟩:=h
  by_cases e:p.1=k
  ·have e':q.1=k:=h1.symm.trans e
   have b:sQ (q::qs) k=some q.2:=by simp[sQ,xh,e']
   rw[q3y e,b];exact h2
  ·have e':¬q.1=k:=λz=>e (h1.trans z)
   have b:sQ (q::qs) k=sQ qs k:=by simp[sQ,xh,e']
   rw[q3A e,b];exact ih
def KT.repl{H:Hp}{kvs:List (List Key×V)}{xs:List (List Key×vJ×vB)}(r:KT H kvs xs)(k:List Key){y:V}{u:vB}(ry:RelV y u):
  KT H (kvs.map λkv=>if kv.1=k then (kv.1,y)else kv) (xs.map (putAt k u)):=by
 induction r with
 | nil=>exact .nil
 | @cons p q ps qs h t ih=>
  rw[zY,zY];refine .cons ?_ ih;obtain⟨h1,h2,h3⟩:=h;unfold putAt
  by_cases e:p.1=k
  ·rw[vC e,vC (h1.symm.trans e)];exact⟨h1,h2,ry⟩
  ·rw[vF e,vF (λz=>e (h1.trans z))];exact⟨h1,h2,h3⟩
def KT.put{H:Hp}{kvs:List (List Key×V)}{xs:List (List Key×vJ×vB)}(r:KT H kvs xs)(k:List Key){b:vJ}{y:V}{u:vB}(hb:H b=some (.tup (k.map kV)))(ry:RelV y u):
  KT H (putK kvs k y) (storedH xs k b u):=by
 have e:(kvs.any λkv=>decide (kv.1=k))=(sQ xs k).isSome:=by
  rw[q5c,(r.val k).isSome_eq,YB]
 unfold putK storedH;rw[e]
 by_cases q:(sQ xs k).isSome=true
 ·rw[vC q,vC q];exact r.repl k ry
 ·rw[vF q,vF q];exact Paired.snoc r ⟨rfl,hb,ry⟩
def KT.keeps{H H':Hp}{kvs:List (List Key×V)}{xs:List (List Key×vJ×vB)}(r:KT H kvs xs)(ht:∀b ys,H b=some (.tup ys)->H' b=some (.tup ys)):KT H' kvs xs :=
 Paired.mapP r λ_ _ z=>⟨z.1,ht _ _ z.2.1,z.2.2⟩
section
variable{P:vQ}{w:vZ}{H:Hp}{h:vn}{a:vJ}
def qeI{u:HO}(ok:HOk P w H h)(e:Rd H a u):XF P w H h a u:=e.ok ok
def q3I{kvs:List (Key×V)}(ok:HOk P w H h)(e:Rd H a (.dK kvs)):kvs.length<=sizeLine/\(a==uK)=false/\∃vs,KV kvs vs/\h.DictOf (Y5 P w) a vs :=
 show XF P w H h a (.dK kvs)from qeI ok e
def qaZ{kvs:List (Key×V)}(ok:HOk P w H h)(e:H a=some (.dK kvs)):kvs.length<=sizeLine/\(a==uK)=false/\∃vs,KV kvs vs/\h.DictOf (Y5 P w) a vs:=q3I ok (.inl e)
def q4f{ks:List Key}(ok:HOk P w H h)(e:H a=some (.tup (ks.map kV))):(tK (Y5 P w)).is h ks a:=by
 obtain⟨_,its,r,o,h1,h2,n,h3⟩:=(show XF P w H h a (.tup (ks.map kV))from ok a _ e);exact⟨o,its.toArray,n,h1,h2,h3,by simpa using q79 r⟩
def q4N{kvs:List (List Key×V)}(ok:HOk P w H h)(e:Rd H a (.dT kvs)):kvs.length<=sizeLine/\(a==uK)=false /\
  ∃xs,KT H kvs xs/\h.DictOfH (tK (Y5 P w)) a xs:=by
 obtain⟨z,y,xs,r,o,es,ep,h1,h2,h3,h4,h5⟩:=(show XF P w H h a (.dT kvs)from qeI ok e);refine⟨z,y,xs,r,o,es,ep,h1,h2,h3,h4,λx hx=>?_,h5⟩;have all:∀{l:List (List Key×V)}{m:List (List Key×vJ×vB)},KT H l m->∀x∈m,(tK (Y5 P w)).is h x.1 x.2.1:=by
  intro l m q
  induction q with
  | nil=>intro x hx;exact nomatch hx
  | @cons p q ps qs hq t ih=>
   intro x hx;rcases zF.mp hx with e|hx
   ·subst e
    exact q4f ok (by rw[<- hq.1];exact hq.2.1)
   ·exact ih x hx
 exact all r x hx
def qhJ{kvs:List (List Key×V)}(ok:HOk P w H h)(e:H a=some (.dT kvs)):kvs.length<=sizeLine/\(a==uK)=false /\
  ∃xs,KT H kvs xs/\h.DictOfH (tK (Y5 P w)) a xs:=q4N ok (.inl e)
end
def zAO(H:Hp)(a:vJ)(y:V)(r:Option V):Prop :=
 (∃kvs k,Rd H a (.dK kvs)/\y=kV k/\r=Ww kvs k)\/∃kvs k b,Rd H a (.dT kvs)/\y=.ref b/\H b=some (.tup (k.map kV))/\r=Ww kvs k
def zCh(H:Hp)(a:vJ)(y v:V)(H':Hp):Prop :=
 (∃kvs k,H a=some (.dK kvs)/\y=kV k/\kvs.length<sizeLine/\H'=upd H a (.dK (putK kvs k v))) \/
 ∃kvs k b,H a=some (.dT kvs)/\y=.ref b/\H b=some (.tup (k.map kV))/\kvs.length<sizeLine/\H'=upd H a (.dT (putK kvs k v))
def zAO.k{H:Hp}{a:vJ}{kvs:List (Key×V)}{k:Key}(e:H a=some (.dK kvs)):zAO H a (kV k) (Ww kvs k):=.inl ⟨kvs,k,.inl e,rfl,rfl⟩
def zCh.k{H:Hp}{a:vJ}{kvs:List (Key×V)}{k:Key}{v:V}(e:H a=some (.dK kvs))(hl:kvs.length<sizeLine):zCh H a (kV k) v (upd H a (.dK (putK kvs k v))):=.inl ⟨kvs,k,e,rfl,hl,rfl⟩
section
variable{X:Cx}{pins:List (vJ×Obj)}{σ:St}{H:Hp}{s:vG}{a:vJ}{y v:V}{u r:vB}{o:Option V}{A:vb}{E:vB->vG->Prop}
def Inv.big(I:Inv X pins σ H s):uK<s.heap.objs.size:=by
 have h:vY<s.heap.objs.size:=(I.mod.glob.keeps I.bk).lt;exact Z6 (by decide) h
def qcM{Q:vB->vG->Prop}(hu:A.units+1<ub)(I:Inv X pins σ H s)(g:zAO H a y (some v))(ry:RelV y u)(h:∀w' s',Inv X pins σ H s'->RelV v w'->Q w' s'):
  vN (model X.prog X.w) A (uz (.ref a) u) Q E s:=by
 rcases g with⟨kvs,k,e,ey,l⟩|⟨kvs,k,b,e,ey,eb,l⟩
 ·subst ey
  obtain⟨z,hd,vs,rel,dd⟩:=q3I I.hok e;obtain⟨w',hw,rw'⟩:=zBF.some_of (v:=v) (o:=tj vs k) (by rw[l];exact rel.val k);exact wpAny_getItem_of (q3R ry) dd.mapOf hw (h w' _ (I.tok _) rw')
 ·subst ey
  cases (show u=Value.ref b from ry);obtain⟨z,hd,xs,rel,dd⟩:=q4N I.hok e;obtain⟨w',hw,rw'⟩:=zBF.some_of (v:=v) (o:=(sQ xs k).map (·.2)) (by rw[l];exact rel.val k);obtain⟨p,hp,hp2⟩:=wK.mp hw;refine wpAny_getItem_heap (ud hu) (q4f I.hok eb) dd hp ?_;rw[hp2];exact h w' _ (I.tok _) rw'
def qfa{Q:vB->vG->Prop}(hu:A.units+1<ub)(I:Inv X pins σ H s)(g:zAO H a y o)(ry:RelV y u)(h:∀s',Inv X pins σ H s'->Q (.bool (!o.isSome)) s'):
  vN (model X.prog X.w) A (uC .NotIn u (.ref a)) Q E s:=by
 rcases g with⟨kvs,k,e,ey,l⟩|⟨kvs,k,b,e,ey,eb,l⟩
 ·subst ey
  obtain⟨z,hd,vs,rel,dd⟩:=q3I I.hok e;refine wpAny_notIn_of (q3R ry) hd dd.mapOf ?_;rw[<- (rel.val k).isSome_eq,<- l];exact h _ (I.tok _)
 ·subst ey
  cases (show u=Value.ref b from ry);obtain⟨z,hd,xs,rel,dd⟩:=q4N I.hok e;refine wpAny_notIn_heap (ud hu) (q4f I.hok eb) hd dd ?_;have q:=(rel.val k).isSome_eq;rw[YB]at q;rw[<- q,<- l];exact h _ (I.tok _)
def q4E{h':vn}{t':Nat}{ob:HO}(I:Inv X pins σ H s)(mu:Mut (H a))(hs:xW a s.heap h')(he:∃q,h'.get? a=some q)(new:XF X.prog X.w (upd H a ob) h' a ob):
  Inv X pins σ (upd H a ob) { s with heap:=h',toks:=t' } :=
 I.write (x:=a) (e:=a) mu (.inl rfl) (λb q hb z=>(hs.2 b hb).trans z) he new
def q8G{P:vQ}{w:vZ}{H':Hp}{h':vn}{kvs:List (Key×V)}{vs:List (Key×vB)}(z:kvs.length<=sizeLine)(hd:(a==uK)=false)(rel:KV kvs vs)(dd:h'.DictOf (Y5 P w) a vs):
  XF P w H' h' a (.dK kvs):=⟨z,hd,vs,rel,dd⟩
def qcU{H':Hp}{Q:Unit->vG->Prop}(hu:A.units+1<ub)(I:Inv X pins σ H s)(g:zCh H a y v H')(ry:RelV y u)(rv:RelV v r)(h:∀s',Inv X pins σ H' s'->Q () s'):
  vN (model X.prog X.w) A (sT (.ref a) u r) Q E s:=by
 rcases g with⟨kvs,k,e,ey,l,eH⟩|⟨kvs,k,b,e,ey,eb,l,eH⟩
 ·subst ey eH
  obtain⟨z,hd,vs,rel,dd⟩:=qaZ I.hok e;have hz:vs.length<=sizeLine:=by rw[<- rel.length];exact z
  have hl:(putK kvs k v).length<=sizeLine:=by have:=q38 kvs k v;omega
  refine wpAny_setItem_pairs (hsz:=hz) (q3R ry) dd λh' dd' hs=>h _ ?_;have he:∃q,h'.get? a=some q:=let ⟨q,_,_,hq,_⟩:=dd';⟨q,hq⟩
  exact q4E I (by rw[e];exact True.intro) hs he (q8G hl hd (rel.put k rv) dd')
 ·subst ey eH
  cases (show u=Value.ref b from ry);obtain⟨z,hd,xs,rel,dd⟩:=qhJ I.hok e;have hz:xs.length<=sizeLine:=by rw[<- Paired.length rel];exact z
  have hl:(putK kvs k v).length<=sizeLine:=by have:=q38 kvs k v;omega
  refine wpAny_setItem_heap (hsz:=hz) (ud hu) (q4f I.hok eb) dd λh' dd' hs=>h _ ?_;obtain⟨q,es,ep,hq,h2,h3,h4,_,h5⟩:=dd';refine q4E I (by rw[e];exact True.intro) hs ⟨q,hq⟩ ⟨hl,hd,_,(rel.put k eb rv).keeps λc ys ec=>?_,q,es,ep,hq,h2,h3,h4,h5⟩;rw[qd (qhH ec e (λz=>nomatch z))];exact ec
end
section
variable{X:Cx}{pins:List (vJ×Obj)}{σ:St}{H:Hp}{s:vG}{a:vJ}{kvs:List (Key×V)}{k:Key}{u:vB}{A:vb}{E:vB->vG->Prop}
end
def NoSl(i:vW):Prop:=∀ov iv,subscripted i false ov iv=operate [ov,iv] (uz ov iv)
def qf8{prog:vQ}{w:vZ}{A:vb}{E:vB->vG->Prop}{s:vG}{env:Env}{value slice:vW}{pos:Pos}{T id:String}{Q:vB->vG->Prop}(hl:tS (.type T) "__getitem__" = pure (some (.builtin id)))(hs:NoSl slice)(h:vN (model prog w) A (eval value env) (λo s₁=>vN (model prog w) A (eval slice env) (λi s₂=>s₂.TypeIs o T/\vN (model prog w) A (uz o i) Q E s₂) E s₁) E s):
  vN (model prog w) A (eval (.Subscript value slice pos) env) Q E s:=by
 refine Subscript_ (vq h (λo s₁ h₁=>vq h₁ (λi s₂ h₂=>?_) λ_ _ x=>x) λ_ _ x=>x);obtain⟨hT,h₂⟩:=h₂;unfold t4;refine vA ?_;rw[getitemInPython_of_ne hT.not_modules];refine vA (uw hT hl ?_);have fin:vN (model prog w) A (subscripted slice false o i) (λr s₃=>vN (model prog w) A (letTemporaryGo value o r >>= λ_=>pure r) Q E s₃) E s₂:=by
  rw[hs o i];exact wpAny_operating (vq h₂ (λr s₃ h₃=>vA (wpAny_letTemporaryGo (vH h₃))) λ_ _ x=>x)
 first
  | exact vH (vA fin)
  | exact vA (vH (vA fin))
  | exact vA fin
def q9w{X:Cx}{pins:List (vJ×Obj)}{σ:St}{H:Hp}{s:vG}{a:vJ}{y:V}{o:Option V}(I:Inv X pins σ H s)(g:zAO H a y o):s.TypeIs (.ref a) "dict" := by
 rcases g with⟨kvs,k,e,_,_⟩|⟨kvs,k,b,e,_,_,_⟩
 ·obtain⟨_,_,vs,_,dd⟩:=q3I I.hok e
  exact dd.typeIs
 ·obtain⟨_,_,xs,_,dd⟩:=q4N I.hok e
  exact dd.typeIs
noncomputable def zCW(td ty:TE):TE:=λσ H Q=>td σ H λx H1=>ty σ H1 λy H2=>∃a v,x=.ref a/\zAO H2 a y (some v)/\Q v H2
noncomputable def tDIn(ty td:TE):TE:=λσ H Q=>ty σ H λy H1=>td σ H1 λx H2=>∃a o,x=.ref a/\zAO H2 a y o/\Q (.bl o.isSome) H2
noncomputable def zBo(ty td:TE):TE:=λσ H Q=>ty σ H λy H1=>td σ H1 λx H2=>∃a o,x=.ref a/\zAO H2 a y o/\Q (.bl (!o.isSome)) H2
noncomputable def sDPut(td ty tv:TE):TS:=λD σ H=>tv σ H λv H1=>td σ H1 λx H2=>ty σ H2 λy H3=>∃a H4,x=.ref a/\zCh H3 a y v H4/\D.nx σ H4
section
variable{X:Cx}{o i e value:vW}{pos pos' tpos:Pos}{td ty tv:TE}
def q4J(hu:X.A.units+1<ub)(ho:PE X o td)(hi:PE X i ty)(hs:NoSl i):PE X (.Subscript o i pos) (zCW td ty):=by
 intro pins s σ H Q I h;refine qf8 PySem.F.slot_dict_getitem.lookup hs (thn (ho pins s σ H _ I h) λu s1 ⟨x,H1,I1,rx,q1⟩=>thn (hi pins s1 σ H1 _ I1 q1) λiv s2 ⟨y,H2,I2,ry,a,v,ex,g,q2⟩=>?_);subst ex;obtain rfl:u=Value.ref a:=rx;exact⟨q9w I2 g,qcM hu I2 g ry λw' s3 I3 rw'=>⟨v,H2,I3,rw',q2⟩⟩
def qdh(hu:X.A.units+1<ub)(hi:PE X i ty)(ho:PE X o td):PC X .NotIn i o (zBo ty td):=by
 intro pins s σ H Q I h;refine thn (hi pins s σ H _ I h) λiv s1 ⟨y,H1,I1,ry,q1⟩=>thn (ho pins s1 σ H1 _ I1 q1) λu s2 ⟨x,H2,I2,rx,a,ov,ex,g,q2⟩=>?_;subst ex;obtain rfl:u=Value.ref a:=rx;exact qfa hu I2 g ry λs3 I3=>⟨.bl (!ov.isSome),H2,I3,rfl,q2⟩
def q9S(hu:X.A.units+1<ub)(ho:PE X o td)(hi:PE X i ty)(hv:PE X value tv)(hs:v3 value (some (.Subscript o i pos')) pos.line X.env=pure false):
  PS X (.Assign [.Subscript o i pos'] value pos) (sDPut td ty tv):=by
 intro pins s σ H D I h;refine wpAny_Assign_Subscript (thn (hv pins s σ H _ I h) λr s1 ⟨v,H1,I1,rv,q1⟩=>thn (ho pins s1 σ H1 _ I1 q1) λu s2 ⟨x,H2,I2,rx,q2⟩=>thn (hi pins s2 σ H2 _ I2 q2) λiv s3 ⟨y,H3,I3,ry,a,H4,ex,g,q3⟩=>?_) hs;subst ex;obtain rfl:u=Value.ref a:=rx;exact qcU hu I3 g ry rv λs4 I4=>⟨σ,H4,I4,q3⟩
end
def q8Y{P:vQ}{w:vZ}{H:Hp}(h:vn)(hb:uK<h.objs.size):XF P w H (h.push { cls:=.type "dict", data:=.dict #[] }) h.objs.size (.dK []) :=
 ⟨yE _,beq_eq_false_iff_ne.mpr (Ne.symm (zi hb)),[],.nil,Heap.DictOf.new h⟩
noncomputable def tDNewK:TE:=λ_ H Q=>∀p,H p=none->Q (.ref p) (upd H p (.dK []))
section
variable{X:Cx}{pos:Pos}
def q7X:PE X (.Dict [] [] pos) tDNewK:=λpins s σ H Q I h=>
 wpAny_Dict_empty ⟨.ref s.heap.objs.size,_,I.laid (a:=s.heap.objs.size) (o:=.dK []) (t':=s.toks) (λ_ _ q=>zH _ q) (zM _) (q8Y s.heap I.big),rfl,h _ (I.hok.fresh (zM _))⟩
end
def zBQ:List (TE×TE)->St->Hp->(List (V×V)->Hp->Prop)->Prop
 | [],_,H,Q=>Q [] H
 | (tk,tv)::r,σ,H,Q=>tk σ H λx H1=>tv σ H1 λy H2=>zBQ r σ H2 λps H3=>Q ((x,y)::ps) H3
abbrev VV:List (V×V)->List (vB×vB)->Prop:=sK λp q=>RelV p.1 q.1/\RelV p.2 q.2
def PPs(X:Cx)(pos:Pos)(keys:List (Option vW))(values:List vW)(trs:List (TE×TE)):Prop :=
 ∀(pins:List (vJ×Obj))(s:vG)(σ:St)(H:Hp)(Q:List (V×V)->Hp->Prop),Inv X pins σ H s->zBQ trs σ H Q ->
  vN (model X.prog X.w) X.A (evalPairs (pairTrees keys values X.env pos)) (λvs s'=>∃ps H',Inv X pins σ H' s'/\VV ps vs/\Q ps H') X.xe s
def qf6{X:Cx}{pos:Pos}:PPs X pos [] [] []:=λpins s σ H Q I h=>pairTrees_nil_walk ⟨[],H,I,.nil,h⟩
def qdF{X:Cx}{pos:Pos}{k v:vW}{ks:List (Option vW)}{vs:List vW}{tk tv:TE}{trs:List (TE×TE)}(hk:PE X k tk)(hv:PE X v tv)(hr:PPs X pos ks vs trs):
  PPs X pos (some k::ks) (v::vs) ((tk,tv)::trs):=λpins s σ H Q I h=>
 pairTrees_cons_walk (thn (hk pins s σ H _ I h) λu s1 ⟨x,H1,I1,rx,q1⟩=>thn (hv pins s1 σ H1 _ I1 q1) λw2 s2 ⟨y,H2,I2,ry,q2⟩=>
  thn (hr pins s2 σ H2 _ I2 q2) λws s3 ⟨ps,H3,I3,rel,q3⟩=>⟨(x,y)::ps,H3,I3,.cons ⟨rx,ry⟩ rel,q3⟩)
noncomputable def zAD(kvs more:List (Key×V)):List (Key×V):=more.foldl (λacc kv=>putK acc kv.1 kv.2) kvs
def KV.merge:∀{more:List (Key×V)}{rs:List (Key×vB)}{kvs:List (Key×V)}{vs:List (Key×vB)},KV more rs->KV kvs vs->KV (zAD kvs more) (merged vs rs):=by
 intro more rs kvs vs r;unfold KV at r
 induction r generalizing kvs vs with
 | nil=>intro q;exact q
 | @cons p q ps qs h t ih=>
  intro r0;have e:KV (putK kvs p.1 p.2) (stored vs q.1 q.2):=by
   have:=r0.put p.1 h.2;rw[<- h.1];exact this
  exact ih e
theorem q3Z:∀(more kvs:List (Key×V)),(zAD kvs more).length<=kvs.length+more.length
 | [],kvs=>by show kvs.length<=kvs.length+0;omega
 | p::r,kvs=>by
  have h1:=q3Z r (putK kvs p.1 p.2);have h2:=q38 kvs p.1 p.2;show (zAD (putK kvs p.1 p.2) r).length<=_;rw[zE];omega
theorem q5T{P:vQ}{w:vZ}:∀{kvs:List (Key×V)}{ws:List (vB×vB)},VV (kvs.map λkv=>(kV kv.1,kv.2)) ws->∃rs,Carries (Y5 P w) ws rs/\KV kvs rs
 | [],_,r=>by rw[yw]at r;cases r;exact⟨[],True.intro,.nil⟩
 | p::kvs,_,r=>by
  rw[zY]at r;cases r with
  | @cons a b as bs h t=>
   obtain⟨rs,c,q⟩:=q5T (P:=P) (w:=w) t;obtain⟨b1,b2⟩:=b;exact⟨(p.1,b2)::rs,⟨q3R h.1,rfl,c⟩,.cons ⟨rfl,h.2⟩ q⟩
noncomputable def tDisp(trs:List (TE×TE)):TE:=λσ H Q=>∀p,H p=none->zBQ trs σ (upd H p (.dK [])) λps H2=>H2 p=some (.dK [])/\∃kvs:List (Key×V),ps=kvs.map (λkv=>(kV kv.1,kv.2))/\kvs.length<=15/\Q (.ref p) (upd H2 p (.dK (zAD [] kvs)))
def qg4{X:Cx}{pos:Pos}{keys:List (Option vW)}{values:List vW}{trs:List (TE×TE)}(h:PPs X pos keys values trs)(hall:keys.all (·.isSome)=true)(hl:keys.length=values.length)(h0:keys≠[])(h15:keys.length<=15):PE X (.Dict keys values pos) (tDisp trs):=by
 intro pins s σ H Q I q;have hn:=I.hok.fresh (zM s.heap.objs.size);have I1:=I.laid (a:=s.heap.objs.size) (o:=.dK []) (h':=s.heap.push { cls:=.type "dict", data:=.dict #[] }) (t':=s.toks) (λ_ _ q=>zH _ q) (zM _) (q8Y s.heap I.big);refine wpAny_Dict_walk (knd:=Y5 X.prog X.w) hall hl h0 h15 (thn (h pins _ σ _ _ I1 (q _ hn)) λws s2 ⟨ps,H2,I2,rel,e,kvs,ep,lk,q2⟩=>?_);subst ep;obtain⟨rs,c,rk⟩:=q5T (P:=X.prog) (w:=X.w) rel;obtain⟨z,hd,vs0,r0,dd⟩:=qaZ I2.hok e;cases r0;refine⟨rs,c,dd,λh' dd' hs=>⟨.ref s.heap.objs.size,_,?_,rfl,q2⟩⟩;have hz:(zAD [] kvs).length<=sizeLine:=by
  have h1:=q3Z kvs [];rw[yT]at h1;rw[vp];omega
 have he:∃q,h'.get? s.heap.objs.size=some q:=let ⟨q,_,_,hq,_⟩:=dd';⟨q,hq⟩
 exact q4E I2 (by rw[e];exact True.intro) hs he (q8G hz hd (rk.merge .nil) dd')
structure M2 (X:Cx) (o:vW) (m:Str) (apos:Pos) (e f:vW) (cpos:Pos):Prop where
 base:uO o m X.env (eval o X.env)=eval o X.env
 few:((v4 cpos (vL [e,f] X.env)).all (λx=>!x.1)&&(tM cpos (uf [] X.env)).all (λx=>x.1.isSome)
  && decide (([e,f]:List vW).length+([]:List uX).length+(if ([]:List uX).isEmpty then 0 else 1)<30))=true
 line:(apos.endLine==cpos.line)=true
 trees:v4 cpos (vL [e,f] X.env)=[(false,eval e X.env),(false,eval f X.env)]
def IsD(H:Hp)(a:vJ):Prop:=(∃kvs,Rd H a (.dK kvs))\/∃kvs,Rd H a (.dT kvs)
def qcA{X:Cx}{pins:List (vJ×Obj)}{σ:St}{H:Hp}{s:vG}{a:vJ}(I:Inv X pins σ H s)(d:IsD H a):
  s.TypeIs (.ref a) "dict" /\ (∀b,Value.ref a=.ref b->∃ob,s.heap.get? b=some ob/\ob.dict=none)/\(a==uK)=false:=by
 rcases d with⟨kvs,e⟩|⟨kvs,e⟩
 ·obtain⟨_,hd,vs,_,dd⟩:=q3I I.hok e
  refine⟨dd.typeIs,λb q=>?_,hd⟩;cases q;obtain⟨ob,_,_,h1,h2,_⟩:=dd;exact⟨ob,h1,h2.2.1⟩
 ·obtain⟨_,hd,xs,_,dd⟩:=q4N I.hok e
  refine⟨dd.typeIs,λb q=>?_,hd⟩;cases q;obtain⟨ob,_,_,h1,h2,_⟩:=dd;exact⟨ob,h1,h2.2.1⟩
section
variable{X:Cx}{pins:List (vJ×Obj)}{σ:St}{H:Hp}{s:vG}{a:vJ}{y d:V}{u r:vB}{o:Option V}{A:vb}{E:vB->vG->Prop}
def qgl{Q:vB->vG->Prop}(hu:A.units+1<ub)(I:Inv X pins σ H s)(g:zAO H a y o)(ry:RelV y u)(rd:RelV d r)(h:∀w' s',Inv X pins σ H s'->RelV (o.getD d) w'->Q w' s'):
  vN (model X.prog X.w) A (call (.builtin "dict.get") [.ref a,u,r]) Q E s:=by
 rcases g with⟨kvs,k,e,ey,l⟩|⟨kvs,k,b,e,ey,eb,l⟩
 ·subst ey
  obtain⟨z,hd,vs,rel,dd⟩:=q3I I.hok e;refine sJ PySem.F.slot_dict_get dd.typeIs PySem.F.entry_dict_get (PySem.F.args_dict_get_3 _ _ _) (meets_dict_get_default (Y5 X.prog X.w) a (q3R ry) hd r) ⟨_,dd.mapOf,h _ _ (I.tok _) ?_⟩;rw[l];exact(rel.val k).getD rd
 ·subst ey
  cases (show u=Value.ref b from ry);obtain⟨z,hd,xs,rel,dd⟩:=q4N I.hok e;refine sJ PySem.F.slot_dict_get dd.typeIs PySem.F.entry_dict_get (PySem.F.args_dict_get_3 _ _ _) (meetsH_dict_get_default (tK (Y5 X.prog X.w)) a b hd r) ⟨ud hu,k,xs,q4f I.hok eb,dd,h _ _ (I.tok _) ?_⟩;rw[l];exact(rel.val k).getD rd
end
noncomputable def zBc(td ty tx:TE):TE:=λσ H Q=>td σ H λx H1=>∃a,x=.ref a/\IsD H1 a/\ty σ H1 λy H2=>tx σ H2 λz H3=>∃o,zAO H3 a y o/\Q (o.getD z) H3
section
variable{X:Cx}{o e f:vW}{apos cpos:Pos}{td ty tx:TE}
def q9j(hu:X.A.units+1<ub)(ho:PE X o td)(he:PE X e ty)(hf:PE X f tx)(m:M2 X o "get" apos e f cpos):PE X (.Call (.Attribute o "get" apos) [e,f] [] cpos) (zBc td ty tx):=by
 intro pins s σ H Q I h;refine wpAny_Call_method m.base m.few m.line PySem.F.plainAttrs_dict PySem.F.slot_dict_get PySem.F.type_dict_get (thn (ho pins s σ H _ I h) λu s1 ⟨x,H1,I1,rx,a,ex,d,q1⟩=>?_);subst ex;obtain rfl:u=Value.ref a:=rx;obtain⟨t1,t2,_⟩:=qcA I1 d;refine⟨t1,t2,?_⟩;rw[m.trees];refine Calls.callWith_builtin rfl (Calls.evalArgs_plain (Calls.spliced_cons (thn (he pins s1 σ H1 _ I1 q1) λiv s2 ⟨y,H2,I2,ry,q2⟩=>
  Calls.spliced_cons (thn (hf pins s2 σ H2 _ I2 q2) λfv s3 ⟨z,H3,I3,rz,ov,g,q3⟩=>Calls.spliced_nil ?_))))
 exact qgl hu I3 g ry rz λw' s4 I4 rw'=>⟨_,H3,I4,rw',q3⟩
end
section
variable{X:Cx}{pins:List (vJ×Obj)}{σ:St}{H:Hp}{s:vG}{a:vJ}{kvs:List (Key×V)}{A:vb}{E:vB->vG->Prop}
end
section
variable{X:Cx}{pins:List (vJ×Obj)}{σ:St}{H:Hp}{s:vG}{a:vJ}{y:V}{u:vB}{A:vb}{E:vB->vG->Prop}
end
end L2
namespace Hk
open PySem L2
noncomputable def XC{α:Type}:List Int->List α->Int->Option α
 | k'::ks,x::xs,k=>if k'=k then some x else XC ks xs k
 | _,_,_=>none
noncomputable def repA{α:Type}:List Int->List α->Int->α->List α
 | k'::ks,x::xs,k,y=>(if k'=k then y else x)::repA ks xs k y
 | _,xs,_,_=>xs
def Wk(ks:List Int)(k:Int):List Int:=if k∈ks then ks else ks++[k]
noncomputable def putA{α:Type}(ks:List Int)(xs:List α)(k:Int)(y:α):List α:=if k∈ks then repA ks xs k y else xs++[y]
theorem q8e{α:Type}:∀(ks:List Int)(xs:List α)(k:Int)(y:α),(repA ks xs k y).length=xs.length
 | [],xs,_,_=>rfl
 | _::_,[],_,_=>rfl
 | k'::ks,x::xs,k,y=>by show (repA ks xs k y).length+1=xs.length+1;rw[q8e ks xs k y]
def qfc{α:Type}{ks:List Int}{xs:List α}(k:Int)(y:α)(h:ks.length=xs.length):(Wk ks k).length=(putA ks xs k y).length:=by
 unfold Wk putA
 by_cases z:k∈ks
 ·rw[vC z,vC z,q8e];exact h
 ·rw[vF z,vF z,zC,zC,h];rfl
theorem q09:∀{ks:List Int}{vs:List V},ks.length=vs.length->∀k,Ww (kvsOf ks vs) (Sum.inl k)=XC ks vs k
 | [],[],_,k=>rfl
 | [],_::_,h,_=>by simp at h
 | _::_,[],h,_=>by simp at h
 | k'::ks,v::vs,h,k=>by
  show Ww ((Sum.inl k',v)::kvsOf ks vs) (Sum.inl k)=if k'=k then some v else XC ks vs k
  by_cases z:k'=k
  ·rw[vC z,q3y (p:=((Sum.inl k':Key),v)) (by rw[z])]
  ·rw[vF z,q3A (p:=((Sum.inl k':Key),v)) (λe=>z (Sum.inl.inj e))]
   exact q09 ⇑h k
theorem q33:∀{ks:List Int}{vs:List V},ks.length=vs.length->(kvsOf ks vs).length=ks.length
 | [],[],_=>rfl
 | [],_::_,h=>by simp at h
 | _::_,[],h=>by simp at h
 | k'::ks,v::vs,h=>by show (kvsOf ks vs).length+1=_;rw[q33 ⇑h];rfl
theorem q5V:∀{ks:List Int}{vs:List V},ks.length=vs.length->(kvsOf ks vs).map (·.1)=ks.map (Sum.inl:Int->Key)
 | [],[],_=>rfl
 | [],_::_,h=>by simp at h
 | _::_,[],h=>by simp at h
 | k'::ks,v::vs,h=>by show (Sum.inl k':Key)::(kvsOf ks vs).map (·.1)=_;rw[q5V ⇑h];rfl
theorem q7e:∀{ks:List Int}{vs:List V},ks.length=vs.length->∀k,(kvsOf ks vs).any (λkv=>decide (kv.1=(Sum.inl k:Key)))=decide (k∈ks)
 | [],[],_,_=>rfl
 | [],_::_,h,_=>by simp at h
 | _::_,[],h,_=>by simp at h
 | k'::ks,v::vs,h,k=>by
  show (decide ((Sum.inl k':Key)=Sum.inl k) || (kvsOf ks vs).any _)=_;rw[q7e ⇑h k];have e:decide ((Sum.inl k':Key)=Sum.inl k)=decide (k'=k):=by
   by_cases z:k'=k
   ·rw[z];simp
   ·rw[vX z,vX (λe=>z (Sum.inl.inj e))]
  rw[e];simp only[zF]
  by_cases z:k'=k
  ·simp[z]
  ·have:¬k=k':=λy=>z y.symm
   simp[z,this]
theorem q7i:∀{ks:List Int}{vs:List V},ks.length=vs.length->∀(k:Int)(v:V),(kvsOf ks vs).map (λkv=>if kv.1=(Sum.inl k:Key)then (kv.1,v)else kv)=kvsOf ks (repA ks vs k v)
 | [],[],_,_,_=>rfl
 | [],_::_,h,_,_=>by simp at h
 | _::_,[],h,_,_=>by simp at h
 | k'::ks,u::vs,h,k,v=>by
  show (if (Sum.inl k':Key)=Sum.inl k then ((Sum.inl k':Key),v)else (Sum.inl k',u))::(kvsOf ks vs).map _=(Sum.inl k',if k'=k then v else u)::kvsOf ks (repA ks vs k v);rw[q7i ⇑h k v]
  by_cases z:k'=k
  ·rw[vC (by rw[z]),vC z]
  ·rw[vF (λe=>z (Sum.inl.inj e)),vF z]
theorem q5S:∀{ks:List Int}{vs:List V},ks.length=vs.length->∀(k:Int)(v:V),kvsOf ks vs++[(Sum.inl k,v)]=kvsOf (ks++[k]) (vs++[v])
 | [],[],_,_,_=>rfl
 | [],_::_,h,_,_=>by simp at h
 | _::_,[],h,_,_=>by simp at h
 | k'::ks,u::vs,h,k,v=>by show _::(kvsOf ks vs++[(Sum.inl k,v)])=_;rw[q5S ⇑h k v];rfl
def q4h{ks:List Int}{vs:List V}(h:ks.length=vs.length)(k:Int)(v:V):putK (kvsOf ks vs) (Sum.inl k) v=kvsOf (Wk ks k) (putA ks vs k v):=by
 unfold putK Wk putA;rw[q7e h]
 by_cases z:k∈ks
 ·rw[vC (vS z),vC z,vC z];exact q7i h k v
 ·rw[vF (by rw[vX z];decide),vF z,vF z];exact q5S h k v
section
variable{K:zA}{G:Hp}
theorem Yx.val:∀{ks:List Int}{ds:List D}{vs:List V}{k:Int}{d:D},Yx K G ds vs->XC ks ds k=some d->∃v,XC ks vs k=some v/\Rep K G d v
 | [],_,_,_,_,_,e=>by cases e
 | _::_,[],_,_,_,_,e=>by cases e
 | k'::ks,d'::ds,_,k,d,⟨v,r,h1,h2,h3⟩,e=>by
  subst h1;have e:(if k'=k then some d' else XC ks ds k)=some d:=e;show ∃u,(if k'=k then some v else XC ks r k)=some u/\_
  by_cases z:k'=k
  ·rw[vC z]at e ⊢;cases e;exact⟨v,rfl,h2⟩
  ·rw[vF z]at e ⊢;exact Yx.val h3 e
theorem Yx.isVal:∀{ks:List Int}{ds:List D}{vs:List V}(k:Int),Yx K G ds vs->(XC ks vs k).isSome=(XC ks ds k).isSome
 | [],_,_,_,_=>rfl
 | _::_,[],_,_,h=>by cases (show _=[]from h);rfl
 | k'::ks,d'::ds,_,k,⟨v,r,h1,h2,h3⟩=>by
  subst h1;show (if k'=k then some v else XC ks r k).isSome=(if k'=k then some d' else XC ks ds k).isSome
  by_cases z:k'=k
  ·rw[vC z,vC z];rfl
  ·rw[vF z,vF z];exact Yx.isVal k h3
theorem Yx.repA:∀{ks:List Int}{ds:List D}{vs:List V}(k:Int){d:D}{v:V},Yx K G ds vs->Rep K G d v->Yx K G (Hk.repA ks ds k d) (Hk.repA ks vs k v)
 | [],_,_,_,_,_,h,_=>h
 | _::_,[],_,_,_,_,h,_=>by cases (show _=[]from h);rfl
 | k'::ks,d'::ds,_,k,d,v,⟨u,r,h1,h2,h3⟩,hv=>by
  subst h1;refine⟨_,_,rfl,?_,Yx.repA k h3 hv⟩
  by_cases z:k'=k
  ·rw[vC z,vC z];exact hv
  ·rw[vF z,vF z];exact h2
theorem Yx.putA{ks:List Int}{ds:List D}{vs:List V}(k:Int){d:D}{v:V}(h:Yx K G ds vs)(hv:Rep K G d v):Yx K G (Hk.putA ks ds k d) (Hk.putA ks vs k v):=by
 unfold Hk.putA
 by_cases z:k∈ks
 ·rw[vC z,vC z];exact h.repA k hv
 ·rw[vF z,vF z];exact h.app (Yx.cons hv Yx.nil)
end
noncomputable def Wx:Option (Option W)->Option (List Int×List D)
 | some (some (.od ks ds))=>some (ks,ds)
 | some ↥(.dic ks ds)=>some (ks,ds)
 | _=>none
def qad{H H':Hp}{p:vJ}{u:HO}(e:Y7 H H')(h:Rd H p u):Rd H' p u:=by
 rcases h with h|⟨o,h⟩
 ·exact .inl (e _ _ h)
 ·exact .inr ⟨o,e _ _ h⟩
def q9R{H:Hp}{a:vJ}{kvs:List (Key×V)}{k:Key}(e:Rd H a (.dK kvs)):zAO H a (kV k) (Ww kvs k):=.inl ⟨kvs,k,e,rfl,rfl⟩
def Own.dic{K:zA}{G0:Hp}{H0:Fr}{G:Hp}{ω:WSt}{σ:St}{H:Hp}{i:Nat}{ks:List Int}{ds:List D}(o:Own K G0 H0 G ω σ H)(h:Wx ω[i]?=some (ks,ds)):
  ∃p vs,σ[i]?=some (some (.ref p))/\Rd H p (.dK (kvsOf ks vs))/\ks.length=ds.length/\Yx K G ds vs:=by
 unfold Wx at h
 split at h
 ·rename_i q
  cases h;obtain⟨p,vs,h1,h2,_,_,h5,h6,_⟩:=o.od i _ _ q;exact⟨p,vs,h1,.inl h2,h5,h6⟩
 ·rename_i q
  cases h;obtain⟨v,h1,p,vs,rfl,⟨ob,h2⟩,h3,h4⟩:=o.sh i _ q;exact⟨p,vs,h1,.inr ⟨ob,o.gh _ _ h2⟩,h3,h4⟩
 ·cases h
section
variable{X:Cx}{o k e:vW}{pos pos' dpos:Pos}{i:Nat}{fk fv:FD}
def hu1(hu:X.A.units+64<ub):X.A.units+1<ub:=∅
noncomputable def zCb(i:Nat)(fk fv:FD):FS:=λω=>(fv ω).bind λd=>(fk ω).bind λc=>match c,ω[i]? with
 | .int k,some (some (.od ks ds))=>if ks.length<1000000 then some (.nx,ω.set i (some (.od (Wk ks k) (putA ks ds k d))))else none
 | _,_=>none
def qfm(hu:X.A.units+64<ub)(ho:PE X o (Xg i))(hk:XD X k fk)(hv:XD X e fv)(hs:v3 e (some (.Subscript o k pos')) pos.line X.env=pure false:=by rfl):XS X (.Assign [.Subscript o k pos'] e pos) (zCb i fk fv):=by
 obtain⟨tk,h1,h2⟩:=hk;obtain⟨tv,h3,h4⟩:=hv;refine⟨_,q9S (hu1 hu) ho h1 h3 hs,λG0 H0 G ω σ H out ω' E ow e kk=>?_⟩;obtain⟨d,q1,e⟩:=bnd e;obtain⟨c,q2,e⟩:=bnd e;refine h4 G0 H0 G ω σ H d _ ow q1 λv G1 H1 x1 y1=>?_;cases c with
 | int k=>
  split at e
  ·rename_i _ _ _ k' ks ds ek q3
   cases ek
   by_cases z:ks.length<1000000
   ·rw[vC z]at e
    cases e;have o1:=ow.keep x1;obtain⟨p,vs,r1,r2,r3,r4,r5,r6,r7⟩:=o1.od i ks ds q3;refine⟨.ref p,r1,h2 G0 H0 G1 ω σ H1 _ _ o1 q2 λu G2 H2 x2 y2=>?_⟩;cases (show u=.int k from y2);have o2:=o1.keep x2;have hl:ks.length=vs.length:=by rw[r5];exact r6.len
    refine⟨p,_,rfl,zCh.k (k:=Sum.inl k) (x2.hh _ _ r2) (by rw[q33 hl,vp];omega),?_⟩;rw[q4h hl];exact kk G2 σ _ (o2.mutD q3 r1 (x2.hh _ _ r2) (x2.new p r3 (by rw[r2];exact λz=>by cases z)) r4 (qfc k d r5) ((r6.mono x2.gg).putA k (y1.mono x2.gg))) (x1.gg.trans x2.gg)
   ·rw[vF z]at e;cases e
  ·cases e
 | _=>cases e
noncomputable def zCf(i:Nat)(fk:FD):FE:=λω=>(Wx ω[i]?).bind λp=>(fk ω).bind λc=>match c with
 | .int k=>(XC p.1 p.2 k).map R.sh
 | _=>none
def qfx(hu:X.A.units+64<ub)(ho:PE X o (Xg i))(hk:XD X k fk)(hs:NoSl k:=by intro _ _;rfl):XE X (.Subscript o k pos) (zCf i fk):=by
 obtain⟨tk,h1,h2⟩:=hk;refine⟨_,q4J (hu1 hu) ho h1 hs,λG0 H0 G ω σ H r Q ow e kk=>?_⟩;obtain⟨⟨ks,ds⟩,q1,e⟩:=bnd e;obtain⟨c,q2,e⟩:=bnd e;obtain⟨p,vs,r1,r2,r3,r4⟩:=ow.dic q1;refine⟨.ref p,r1,h2 G0 H0 G ω σ H c _ ow q2 λu G1 H1 x1 y1=>?_⟩;cases c with
 | int k=>
  cases (show u=.int k from y1);obtain⟨d,q3,e⟩:=mpd e;subst e;obtain⟨v,z1,z2⟩:=r4.val q3;have hl:ks.length=vs.length:=by rw[r3];exact r4.len
  have g:=q9R (k:=(Sum.inl k:Key)) (qad x1.hh r2);rw[q09 hl,z1]at g;exact⟨p,v,rfl,g,kk v G1 H1 x1 (z2.mono x1.gg)⟩
 | _=>cases e
noncomputable def zB8(neg:Bool)(i:Nat)(fk:FD):FT:=λω=>(fk ω).bind λc=>(Wx ω[i]?).bind λp=>match c with
 | .int k=>some (if neg then !(XC p.1 p.2 k).isSome else (XC p.1 p.2 k).isSome)
 | _=>none
def qfX{tk:TE}{neg:Bool}(h2:zBi X.K tk fk):zAu X.K (tB (if neg then zBo tk (Xg i)else L2.tDIn tk (Xg i))) (zB8 neg i fk):=by
 intro G0 H0 G ω σ H b Q ow e kk;obtain⟨c,q2,e⟩:=bnd e;obtain⟨⟨ks,ds⟩,q1,e⟩:=bnd e;cases c with
 | int k=>
  have fin:∀(u:V)G1 H1,Ext G H G1 H1->u=.int k->∃p vs,σ[i]?=some (some (.ref p))/\zAO H1 p u (XC ks vs k)/\(XC ks vs k).isSome=(XC ks ds k).isSome:=λu G1 H1 x1 hu=>by
   subst hu;obtain⟨p,vs,r1,r2,r3,r4⟩:=ow.dic q1;have hl:ks.length=vs.length:=by rw[r3];exact r4.len
   have g:=q9R (k:=(Sum.inl k:Key)) (qad x1.hh r2);rw[q09 hl]at g;exact⟨p,vs,r1,g,Yx.isVal k r4⟩
  cases neg with
  | true=>
   refine h2 G0 H0 G ω σ H _ _ ow q2 λu G1 H1 x1 y1=>?_;obtain⟨p,vs,r1,g,hs⟩:=fin u G1 H1 x1 y1;refine⟨.ref p,r1,p,_,rfl,g,_,rfl,?_⟩;cases e;rw[hs];exact kk G1 H1 x1
  | false=>
   refine h2 G0 H0 G ω σ H _ _ ow q2 λu G1 H1 x1 y1=>?_;obtain⟨p,vs,r1,g,hs⟩:=fin u G1 H1 x1 y1;refine⟨.ref p,r1,p,_,rfl,g,_,rfl,?_⟩;cases e;rw[hs];exact kk G1 H1 x1
 | _=>cases e
def qdo(hu:X.A.units+64<ub)(hk:XD X k fk)(ho:PE X o (Xg i))(hb:v5 .NotIn o=false:=by rfl):XT X (.Compare k [.NotIn] [o] pos) (zB8 true i fk):=by
 obtain⟨tk,h1,h2⟩:=hk;exact⟨_,qgG (qdh (hu1 hu) h1 ho) hb,qfX (neg:=true) h2⟩
end
section
variable{X:Cx}{o k e:vW}{pos pos' dpos:Pos}{i:Nat}{fk fv:FD}
noncomputable def zBL(i:Nat)(fk fv:FD):FS:=λω=>(fk ω).bind λc=>(fv ω).bind λd=>match c with
 | .int k=>some (.nx,ω.set i (some (.od [k] [d])))
 | _=>none
def qeb{x:Str}(hN:X.N.Nodup)(hi:X.N[i]?=some x)(hx:Loc X.env.scope x)(hk:XD X k fk)(hv:XD X e fv)(hs:v3 (.Dict [some k] [e] dpos) (some (.Name x pos')) pos.line X.env=pure false:=by rfl)(hf:X.fn x=true\/X.env.scope.names.lookup x=some .local:=by first|exact .inl rfl|exact .inr rfl|assumption):
  XS X (.Assign [.Name x pos'] (.Dict [some k] [e] dpos) pos) (zBL i fk fv):=by
 obtain⟨tk,h1,h2⟩:=hk;obtain⟨tv,h3,h4⟩:=hv;refine⟨_,q0b hN hi hx (qg4 (qdF h1 h3 qf6) rfl rfl (by simp) (by show 1<=15;decide)) hs hf,λG0 H0 G ω σ H out ω' E ow e kk=>?_⟩;obtain⟨c,q1,e⟩:=bnd e;obtain⟨d,q2,e⟩:=bnd e;cases c with
 | int k=>
  cases e;intro p hp;have x0:=Ext.hide ow.gh hp (.dK []);have o1:=ow.keep x0;refine h2 G0 H0 G ω σ _ _ _ o1 q1 λu G1 H1 x1 y1=>?_;cases (show u=.int k from y1);have o2:=o1.keep x1;refine h4 G0 H0 G1 ω σ H1 d _ o2 q2 λv G2 H2 x2 y2=>?_;have o3:=o2.keep x2;have hp2:H2 p=some (.dK []):=x2.hh _ _ (x1.hh _ _ qe);have gp1:G1 p=none:=x1.new p (ow.gh.free hp) (by rw[qe];exact λz=>by cases z);have gp2:G2 p=none:=x2.new p gp1 (by rw[x1.hh _ _ qe];exact λz=>by cases z);have h0p:H0 p=none:=ow.ext.hh.free hp;refine⟨hp2,[(Sum.inl k,v)],rfl,by show 1<=15;decide,?_⟩;have em:zAD [] [((Sum.inl k:Key),v)]=kvsOf [k] [v]:=by
   show putK [] (Sum.inl k:Key) v=_;unfold putK;rw[vF (by simp)];rfl
  rw[em];have ext4:Ext G0 H0.hp G2 (upd H2 p (.dK (kvsOf [k] [v]))):=⟨o3.ext.gg,Y3 o3.ext.gh gp2 _,Y3 o3.ext.hh h0p _,o3.ext.new⟩;have np:∀(j:Nat)ds',ω[j]?=some (some (.ow ds'))->∀l vs,σ[j]?=some (some (.ref l))->H2 l=some (.lst vs)->l≠p:=λj ds' hj l vs _ h z=>by rw[z,hp2]at h;cases h
  have npd:∀(j:Nat)ks' es,ω[j]?=some (some (.od ks' es))->σ[j]?≠some (some (.ref p)):=λj ks' es hj z=>by
   obtain⟨q,us,w1,w2,_⟩:=ow.od j ks' es hj;rw[w1]at z;cases z;rw[hp]at w2;cases w2
  have o4:Own X.K G0 H0 G2 ω σ (upd H2 p (.dK (kvsOf [k] [v]))):=by
   refine⟨ext4,o3.len,o3.sh,λj ds' hj=>?_,o3.nd,λj ks' es hj=>?_,o3.pw.upd (o3.pw.ne_ob λvs z=>by rw[hp2]at z;cases z)⟩
   ·obtain⟨l,vs,w1,w2,w3,w4,w5⟩:=o3.ow j ds' hj
    exact⟨l,vs,w1,by rw[qd (np j ds' hj l vs w1 w2)];exact w2,w3,w4,w5⟩
   ·obtain⟨q,us,w1,w2,w3,w4,w5,w6,w7⟩:=o3.od j ks' es hj
    have nq:q≠p:=λz=>npd j ks' es hj (by rw[<- z];exact w1);exact⟨q,us,w1,by rw[qd nq];exact w2,w3,w4,w5,w6,w7⟩
  exact kk G2 _ _ (o4.setOd (ks:=[k]) (ds:=[d]) (vs:=[v]) qe gp2 h0p rfl (Yx.cons y2 Yx.nil) npd) (x1.gg.trans x2.gg)
 | _=>cases e
end
section
open PySem.Spec PyProof.Rows PySem.W
theorem qa7:∀(vs:List vB)(ns:List Int),vs.length=ns.length->(∀(j:Nat)v n,vs[j]?=some v->ns[j]?=some n->∃t,v=.int n t)->uH vs ns
 | [],[],_,_=>.nil
 | [],_::_,h,_=>by simp at h
 | _::_,[],h,_=>by simp at h
 | v::vs,n::ns,h,f=>by
  obtain⟨t,rfl⟩:=f 0 v n rfl rfl;exact .cons _ _ (qa7 vs ns ⇑h λj a b e1 e2=>f (j+1) a b ⇑e1 ⇑e2)
variable{prog:vQ}{w:vZ}{A:vb}{E:vB->vG->Prop}{s:vG}
def q9r{a:vJ}{kvs:List (Key×vB)}{ns:List Int}{Q:vB->vG->Prop}(hh:A.handled=none)(lo:(a==uK)=false)(dd:s.heap.DictOf (Y5 prog w) a kvs)(hk:kvs.map (·.1)=ns.map (Sum.inl:Int->Key))(h64:ns.length<64)(h:∀(h1 h':vn)(tk:Nat)(vs:List vB)(ys:List Int)(n:Nat),(∀b o,s.heap.get? b=some o->h1.get? b=some o)->(∀b o,h1.get? b=some o->h'.get? b=some o)->h'.get? h1.objs.size=some (uV "list" vs.toArray n)->uH vs ys->ys.Perm ns->ys.Pairwise (· <= ·)->Q (.ref h1.objs.size) { s with heap:=h',toks:=tk }):
  vN (model prog w) A (call (.builtin "sorted") [.ref a]) Q E s:=by
 obtain⟨ep,hat⟩:=dd.dictAt;have hkl:kvs.length=ns.length:=by have:=uA xg hk;simpa using this
 refine Calls.call_function_entry sO sG sH (sI _) ?_;unfold Builtin.«sorted»;refine vA (m:=checkCount "sorted" 1 1 _) (vH ?_);refine vA (kdu_collect (A:=A.in1) (kdl_dict (knd:=Y5 prog w) (kvs:=kvs) (ep:=ep) lo) hh hat (by rw[hkl];exact yJ (yf h64) (by decide)) λh1 tk acc hk1 hacc=>?_);have y1:uH acc.toList ns:=by
  refine qa7 _ _ (by rw[zQ,hacc.1,hkl]) λj v n e1 e2=>?_;obtain⟨k,x,hx,hi⟩:=hacc.2 j v (by rw[<- zo];exact e1);have e3:(kvs.map (·.1))[j]?=some k:=by rw[zX,hx];rfl
  rw[hk,zX,e2]at e3;cases e3;rcases qH (k:=(Sum.inl n:Key)) hi with⟨i,t,e4,rfl⟩|⟨x,t,e4,_⟩
  ·cases e4;exact⟨t,rfl⟩
  ·cases e4
 have hlen:acc.toList.length=ns.length:=IntsAre.length y1;refine vA (tH ?_ (yJ (by rw[hlen];exact yf h64) (by decide)));generalize acc.toList=vs at y1 hlen;have hoL:(h1.push (uV "list" vs.toArray 0)).get? h1.objs.size=some (uV "list" vs.toArray 0):=zS _ rfl;refine vA (vh (ve slot_list_sort ⟨_,hoL,rfl⟩ entry_list_sort (list_sort_tree hoL y1 (by rw[hlen];exact h64) λout ns' a1 a2 a3=>⟨_,rfl,?_⟩) (tX _)));obtain⟨n,hn⟩:=sortedHeap_at (vs:=vs) (out:=out) hoL;refine vH ⟨_,rfl,h h1 _ tk out.toList ns' n hk1 (λb o e1=>?_) ?_ a1 a2 a3⟩
 ·rw[sortedHeap_old (zi (zO e1)) (by rw[yc];exact yR (zO e1))]
  exact zH _ e1
 ·rw[wY];exact hn
end
def rSortD:List V->Hp->VK->Prop:=λxs H Q=>∃p kvs ns,xs=[.ref p]/\Rd H p (.dK kvs)/\kvs.map (·.1)=ns.map (Sum.inl:Int->Key)/\ns.length<64/\∀l,H l=none->Q (.ref l) (upd H l (.lst ((XJ ns).map V.int)))
section
variable{X:Cx}{o:vW}{i:Nat}
def qbO(hc:X.calm=true):X6 X (.builtin "sorted") rSortD:=by
 intro pins s σ H xs us Q I r h;obtain⟨p,kvs,ns,rfl,hp,hk,hz,q⟩:=h;obtain⟨u,rfl,rx⟩:=vals1 r;cases rx;obtain⟨_,lo,vs,rel,dd⟩:=q3I I.hok hp;refine q9r (I.ok.hd hc) lo dd (by rw[<- rel.keys];exact hk) hz λh1 h' tk us ys n k1 k2 g1 a1 a2 a3=>?_;have en:ys=XJ ns:=q2l a3 q2B (a2.trans qN.symm);subst en;have I1:Inv X pins σ H { s with heap:=h1,toks:=tk }:=I.kept k1;have hsl:(XJ ns).length<=sizeLine:=by rw[q74];exact yJ (yf hz) (by decide)
 have I2:=I1.laid (a:=h1.objs.size) (o:=.lst ((XJ ns).map V.int)) (t':=tk) (h':=h') k2 (zM _)
  (show XF X.prog X.w _ h' _ (.lst _)from ⟨by rw[zB];exact hsl,us,n,q29 a1,g1⟩)
 exact⟨.ref _,_,I2,rfl,q _ (I1.hok.fresh (zM _))⟩
noncomputable def zBW(i:Nat):FE:=λω=>(Wx ω[i]?).bind λp=>if p.1.length<64 then some (.fr ((XJ p.1).map D.int))else none
def qec{p q:Pos}(hc:X.calm=true)(hg:Gl X "sorted")(hm:X.mg "sorted" = none)(ho:PE X o (Xg i))(he:vL [o] X.env=(false,eval o X.env)::vL [] X.env:=by rfl)(hpl:(v4 q (vL [] X.env)).any (·.1)=false:=by rfl):XE X (.Call (.Name "sorted" p) [o] [] q) (zBW i):=by
 refine⟨_,q2L (qbO hc) hg hm q4v (qA ho qz he) (by decide) (by decide) he hpl,λG0 H0 G ω σ H r Q ow e k=>?_⟩;obtain⟨⟨ks,ds⟩,q1,e⟩:=bnd e;obtain⟨p,vs,r1,r2,r3,r4⟩:=ow.dic q1
 by_cases hz:ks.length<64
 ·have e:(if ks.length<64 then some (R.fr ((XJ ks).map D.int))else none)=some r:=e
  rw[vC hz]at e;cases e;refine⟨.ref p,r1,p,_,ks,rfl,r2,q5V (by rw[r3];exact r4.len),hz,λl hl=>?_⟩;have x2:=Ext.hide ow.gh hl (.lst ((XJ ks).map V.int));exact k _ G _ x2 ⟨l,_,rfl,hl,ow.gh.free hl,qe,Yx.ints _⟩
 ·have e:(if ks.length<64 then some (R.fr ((XJ ks).map D.int))else none)=some r:=e
  rw[vF hz]at e;cases e
noncomputable def zBv(i:Nat):FM:=λω=>match ω[i]? with
 | some (some (.ow ds))=>(ds[ds.length-1]?).map λd=>(d,ω.set i (some (.ow ds.dropLast)))
 | _=>none
theorem Yx.dropLast{K:zA}{H:Hp}{ds:List D}{vs:List V}(h:Yx K H ds vs):Yx K H ds.dropLast vs.dropLast:=by
 rw[ZV,ZV,h.len];exact h.take _
def qfw{apos cpos:Pos}(ho:PE X o (Xg i))(hbase:uO o "pop" X.env (eval o X.env)=eval o X.env:=by rfl)(hline:(apos.endLine==cpos.line)=true:=by rfl):
  XM X (.Call (.Attribute o "pop" apos) [] [] cpos) (zBv i):=by
 refine⟨_,q8D PySem.F.plainAttrs_list PySem.F.slot_list_pop PySem.F.type_list_pop q8z ho hbase hline,λG0 H0 G ω σ H d ω' Q ow e k=>?_⟩;unfold zBv at e
 split at e
 ·rename_i ds q2
  obtain⟨d1,hd,e⟩:=mpd e;cases e;obtain⟨l,vs,r1,r2,r3,r4,r5⟩:=ow.ow i ds q2;obtain⟨y,hy,ry⟩:=r5.get hd;refine⟨.ref l,r1,.inl ⟨rfl,vs,SqL.of r2⟩,l,vs,y,rfl,rfl,r2,by rw[<- r5.len];exact hy,k y G _ (ow.mut q2 r1 r2 r3 r4 r5.dropLast) (Y7.refl _) ry⟩
 ·cases e
end
noncomputable def Wm:List Int->List (List Int)->Int->Int->List (List Int)
 | k::ks,x::xs,a,b=>if k=a then (x++[b])::xs else x::Wm ks xs a b
 | _,xs,_,_=>xs
theorem q5a:∀(ks:List Int)(xs:List (List Int))(a b:Int),(Wm ks xs a b).length=xs.length
 | [],_,_,_=>rfl
 | _::_,[],_,_=>rfl
 | k::ks,x::xs,a,b=>by
  unfold Wm
  by_cases z:k=a
  ·rw[vC z];rfl
  ·rw[vF z,zE,zE,q5a ks xs a b]
structure Tab (G H0 H:Hp) (p:vJ) (ks:List Int) (ls:List vJ) (xss:List (List Int)):Prop where
 dict:H p=some (.dK (kvsOf ks (ls.map V.ref)))
 gp:G p=none
 hp:H0 p=none
 len:ks.length=ls.length
 len2:ls.length=xss.length
 lst:∀(j:Nat)l xs,ls[j]?=some l->xss[j]?=some xs->H l=some (.lst (xs.map V.int))
 gl:∀l∈ls,G l=none/\H0 l=none
 nd:ls.Nodup
def Tab.inn{G H0 H:Hp}{p:vJ}{ks:List Int}{ls:List vJ}{xss:List (List Int)}(T:Tab G H0 H p ks ls xss){l:vJ}(h:l∈ls):∃xs:List Int,H l=some (.lst (xs.map V.int)):=by
 obtain⟨j,hj,rfl⟩:=yF.mp h;have hj2:j<xss.length:=by rw[<- T.len2];exact hj
 exact⟨xss[j],T.lst j _ _ (zD hj) (zD hj2)⟩
def Tab.pl{G H0 H:Hp}{p:vJ}{ks:List Int}{ls:List vJ}{xss:List (List Int)}(T:Tab G H0 H p ks ls xss):p∉ls:=λh=>by
 obtain⟨xs,e⟩:=T.inn h;rw[T.dict]at e;cases e
def Tab.keep{G G' H0 H H':Hp}{p:vJ}{ks:List Int}{ls:List vJ}{xss:List (List Int)}(T:Tab G H0 H p ks ls xss)(x:Ext G H G' H'):Tab G' H0 H' p ks ls xss :=
 ⟨x.hh _ _ T.dict,x.new p T.gp (by rw[T.dict];exact λz=>by cases z),T.hp,T.len,T.len2,λj l xs h1 h2=>x.hh _ _ (T.lst j l xs h1 h2),λl h=>by
  obtain⟨xs,e⟩:=T.inn h;exact⟨x.new l (T.gl l h).1 (by rw[e];exact λz=>by cases z),(T.gl l h).2⟩,T.nd⟩
theorem qcw:∀{ks:List Int}{ls:List vJ}{a:Int},ks.length=ls.length->a∈ks->∃(j:Nat) (l:vJ),ks[j]?=some a/\ls[j]?=some l/\XC ks (ls.map V.ref) a=some (.ref l)/\∀(xss:List (List Int))(b:Int),xss.length=ls.length->∃xs,xss[j]?=some xs/\Wm ks xss a b=xss.set j (xs++[b])
 | [],_,_,_,h=>by simp at h
 | _::_,[],_,h,_=>by simp at h
 | k::ks,l::ls,a,h,ha=>by
  by_cases z:k=a
  ·refine⟨0,l,by rw[z];rfl,rfl,vC z,λxss b hx=>?_⟩
   cases xss with
   | nil=>simp at hx
   | cons x xs=>exact⟨x,rfl,vC z⟩
  ·have ha':a∈ks:=(zF.mp ha).resolve_left λe=>z e.symm
   obtain⟨j,l',e1,e2,e3,e4⟩:=qcw (ks:=ks) (ls:=ls) ⇑h ha';refine⟨j+1,l',e1,e2,?_,λxss b hx=>?_⟩
   ·show (if k=a then _ else _)=_
    rw[vF z];exact e3
   ·cases xss with
    | nil=>simp at hx
    | cons x xs=>
     obtain⟨y,h1,h2⟩:=e4 xs b ⇑hx;refine⟨y,h1,?_⟩;show (if k=a then _ else x::Wm ks xs a b)=_;rw[vF z,h2];rfl
def Tab.app{G H0 H:Hp}{p:vJ}{ks:List Int}{ls:List vJ}{xss:List (List Int)}(T:Tab G H0 H p ks ls xss){a:Int}(b:Int)(ha:a∈ks):
  ∃(l:vJ) (xs:List Int),l∈ls/\xs∈xss/\XC ks (ls.map V.ref) a=some (.ref l)/\zAO H p (.int a) (some (.ref l))/\H l=some (.lst (xs.map V.int))/\Tab G H0 (upd H l (.lst ((xs++[b]).map V.int))) p ks ls (Wm ks xss a b):=by
 obtain⟨j,l,e1,e2,e3,e4⟩:=qcw T.len ha;obtain⟨xs,e5,e6⟩:=e4 xss b T.len2.symm;have hl:l∈ls:=yN e2;have hlp:p≠l:=λz=>T.pl (z▸hl);have g:=zAO.k (k:=(Sum.inl a:Key)) T.dict;rw[q09 (by rw[zB];exact T.len),e3]at g;refine⟨l,xs,hl,yN e5,e3,g,T.lst j l xs e2 e5,?_⟩;rw[e6];refine⟨by rw[qd hlp];exact T.dict,T.gp,T.hp,T.len,by rw[yC];exact T.len2,λi m ys h1 h2=>?_,T.gl,T.nd⟩;rcases qc h2 with⟨rfl,_,rfl⟩|⟨ne,h3⟩
 ·rw[e2]at h1
  cases h1;exact qe
 ·have hm:m≠l:=λz=>by
   subst z;obtain⟨i1,i2⟩:=zh.mp h1;obtain⟨j1,j2⟩:=zh.mp e2;exact ne ((wR T.nd).mp (j2.trans i2.symm))
  rw[qd hm];exact T.lst i m ys h1 h3
def Own.free{K:zA}{G0:Hp}{H0:Fr}{G:Hp}{ω:WSt}{σ:St}{H:Hp}{q:vJ}{ob:HO}(o:Own K G0 H0 G ω σ H)(no:WJ ω)(hG:G q=none)(h0:H0 q=none):Own K G0 H0 G ω σ (upd H q ob) :=
 ⟨⟨o.ext.gg,Y3 o.ext.gh hG _,Y3 o.ext.hh h0 _,o.ext.new⟩,o.len,o.sh,λi ds h=>vK h (no.ow i ds),o.nd,λi ks ds h=>vK h (no.od i ks ds),X4.no no.pw⟩
def Tab.put{G H0 H:Hp}{p:vJ}{ks:List Int}{ls:List vJ}{xss:List (List Int)}(T:Tab G H0 H p ks ls xss){k:Int}{l:vJ}(hk:k∉ks)(hl:H l=none)(sg:Y7 G H)(s0:Y7 H0 H)(hz:ks.length<1000000):
  ∃H4,zCh (upd H l (.lst [])) p (.int k) (.ref l) H4/\H4=upd (upd H l (.lst [])) p (.dK (kvsOf (ks++[k]) ((ls++[l]).map V.ref)))/\Tab G H0 H4 p (ks++[k]) (ls++[l]) (xss++[[]]):=by
 have hpl:p≠l:=λz=>by rw[<- z,T.dict]at hl;cases hl
 have hlen:ks.length=(ls.map V.ref).length:=by rw[zB];exact T.len
 have e:putK (kvsOf ks (ls.map V.ref)) (Sum.inl k) (.ref l)=kvsOf (ks++[k]) ((ls++[l]).map V.ref):=by
  rw[q4h hlen];unfold Wk putA;rw[vF hk,vF hk,zc];rfl
 have d:=zCh.k (H:=upd H l (.lst [])) (a:=p) (kvs:=kvsOf ks (ls.map V.ref)) (k:=(Sum.inl k:Key)) (v:=.ref l) (by rw[qd hpl];exact T.dict) (by rw[q33 hlen,vp];omega);rw[e]at d;refine⟨_,d,rfl,qe,T.gp,T.hp,by rw[zC,zC,T.len];rfl,by rw[zC,zC,T.len2];rfl,λj m xs h1 h2=>?_,λm hm=>?_,?_⟩
 ·rcases yB j ls.length with z|z
  ·rw[zt z]at h1
   rw[zt (by rw[<- T.len2];exact z)]at h2;have e1:=T.lst j m xs h1 h2;have n1:m≠p:=λy=>T.pl (y▸yN h1);have n2:m≠l:=λy=>by rw[y,hl]at e1;cases e1
   rw[qd n1,qd n2];exact e1
  ·rw[zf z]at h1
   rw[zf (by rw[<- T.len2];exact z),<- T.len2]at h2;cases hj:j-ls.length with
   | zero=>
    rw[hj]at h1 h2;cases h1;cases h2;rw[qd (Ne.symm hpl)];exact qe
   | succ n=>rw[hj]at h1;cases h1
 ·rcases zT.mp hm with h|h
  ·exact T.gl m h
  ·cases zb.mp h;exact⟨sg.free hl,s0.free hl⟩
 ·rw[xl]
  refine⟨T.nd,by simp,λa ha b hb z=>?_⟩;cases zb.mp hb;obtain⟨xs,e1⟩:=T.inn ha;rw[z,hl]at e1;cases e1
noncomputable def pairsOf:List D->Option (List (Int×Int))
 | []=>some []
 | .tup [.int a,.int b]::r=>(pairsOf r).map λl=>(a,b)::l
 | _=>none
def pairD2(e:Int×Int):D:=.tup [.int e.1,.int e.2]
theorem q3X:∀{ds:List D}{es:List (Int×Int)},pairsOf ds=some es->ds=es.map pairD2
 | [],_,h=>by cases h;rfl
 | d::r,es,h=>by
  unfold pairsOf at h
  split at h
  ·rename_i e;cases e
  ·rename_i e
   cases e;obtain⟨l,h1,h2⟩:=mpd h;subst h2;rw[q3X h1];rfl
  ·cases h
theorem q3f:∀es:List (Int×Int),pairsOf (es.map pairD2)=some es
 | []=>rfl
 | e::r=>by show (pairsOf (r.map pairD2)).map _=_;rw[q3f r];rfl
noncomputable def WS(ks:List Int)(xss:List (List Int))(e:Int×Int):List (List Int):=Wm ks (Wm ks xss e.1 e.2) e.2 e.1
noncomputable def nbT(ts:List Int)(es:List (Int×Int)):List (List Int):=es.foldl (WS ts) (ts.map λ_=>[])
noncomputable def nbM(a b:List D):Option D:=(intsOf a).bind λts=>(pairsOf b).bind λes=>if ts.Nodup/\(∀e∈es,e.1∈ts/\e.2∈ts)/\ts.length<=1000/\es.length<=1000 then some (.dic ts ((nbT ts es).map λxs=>.lst (xs.map D.int)))else none
noncomputable def sNb:FS:=λω=>match ω with
 | [↥(.lst a),↥(.lst b),none,none,none]=>(nbM a b).map λd=>(.rt (.sh d),ω)
 | _=>none
def zCa{a b:D}{x:Option D}:WJ [↥a,↥b,none,none,x.map W.sh]:=by
 intro i w e
 match i,e with
 | 0,e=>cases e;exact⟨_,rfl⟩
 | 1,e=>cases e;exact⟨_,rfl⟩
 | 2,e=>cases e
 | 3,e=>cases e
 | 4,e=>
  cases x with
  | none=>cases e
  | some d=>cases e;exact⟨d,rfl⟩
 | i+5,e=>simp at e
def Own.other{K:zA}{G0:Hp}{H0:Fr}{G:Hp}{ω:WSt}{σ:St}{H:Hp}{i:Nat}{v:Option V}(o:Own K G0 H0 G ω σ H)(no:WJ ω)(hi:∀w,ω[i]?≠some (some w)):Own K G0 H0 G ω (σ.set i v) H :=
 ⟨o.ext,by rw[yC];exact o.len,λj d h=>by
  obtain⟨u,h1,h2⟩:=o.sh j d h;exact⟨u,by rw[zJ (λz=>hi _ (z▸h))];exact h1,h2⟩,λi ds h=>vK h (no.ow i ds),λi j ds es l h=>vK h (no.ow i ds),λi ks ds h=>vK h (no.od i ks ds),X4.no no.pw⟩
theorem q3u(n:Nat):∀(ks:List Int)(xss:List (List Int))(a b:Int),(∀x∈xss,x.length<=n)->∀x∈Wm ks xss a b,x.length<=n+1
 | [],xss,_,_,h,x,hx=>wM (h x hx)
 | _::_,[],_,_,h,x,hx=>by cases hx
 | k::ks,y::xss,a,b,h,x,hx=>by
  unfold Wm at hx
  by_cases z:k=a
  ·rw[vC z]at hx
   rcases zF.mp hx with rfl|hx
   ·have:=h y zI
    rw[zC,zx];omega
   ·exact wM (h x (zG _ hx))
  ·rw[vF z]at hx
   rcases zF.mp hx with rfl|hx
   ·exact wM (h _ zI)
   ·exact q3u n ks xss a b (λx h'=>h x (zG _ h')) x hx
def Tab.told{K:zA}{G0 G:Hp}{H0:Fr}{H:Hp}{ω:WSt}{σ:St}{p:vJ}{ks:List Int}{ls:List vJ}{xss:List (List Int)}(T:Tab G H0 H p ks ls xss)(o:Own K G0 H0 G ω σ H)(no:WJ ω)(ob:Obj):
  ∃G',Y7 G G'/\Own K G0 H0 G' ω σ (upd H p (.frz ob (.dK (kvsOf ks (ls.map V.ref)))))/\Rep K G' (.dic ks (xss.map λxs=>.lst (xs.map D.int))) (.ref p):=by
 obtain⟨H',hH⟩:∃H':Hp,H'=upd H p (.frz ob (.dK (kvsOf ks (ls.map V.ref)))):=⟨_,rfl⟩;rw[<- hH];have hp':H' p=some (.frz ob (.dK (kvsOf ks (ls.map V.ref)))):=by rw[hH];exact qe
 have hn':∀b,b≠p->H' b=H b:=λb h=>by rw[hH];exact qd h
 let G':Hp:=λb=>if b=p\/b∈ls then H' b else G b
 have hin:∀b,(b=p\/b∈ls)->G' b=H' b:=λb h=>vC h;have hout:∀b,¬(b=p\/b∈ls)->G' b=G b:=λb h=>vF h;have gn:∀b,(b=p\/b∈ls)->G b=none/\H0 b=none:=λb h=>by
  rcases h with rfl|h
  ·exact⟨T.gp,T.hp⟩
  ·exact T.gl b h
 have gg:Y7 G G':=λb u z=>by
  by_cases y:b=p\/b∈ls
  ·rw[(gn b y).1]at z;cases z
  ·rw[hout b y];exact z
 have gh:Y7 G' H':=λb u z=>by
  by_cases y:b=p\/b∈ls
  ·rw[hin b y]at z;exact z
  ·rw[hout b y]at z;rw[hn' b λw=>y (.inl w)];exact o.gh b u z
 have hh:Y7 H0.hp H':=λb u z=>by
  rw[hn' b λw=>by rw[w,T.hp]at z;cases z];exact o.ext.hh b u z
 refine⟨G',gg,⟨⟨o.ext.gg.trans gg,gh,hh,λb z1 z2=>?_⟩,o.len,λi d h=>?_,λi ds h=>vK h (no.ow i ds),o.nd,λi ks ds h=>vK h (no.od i ks ds),X4.no no.pw⟩,p,ls.map V.ref,rfl,⟨ob,by rw[hin p (.inl rfl)];exact hp'⟩,by rw[zB,<- T.len2];exact T.len,?_⟩
 ·by_cases y:b=p\/b∈ls
  ·exact vK (gn b y).2 z2
  ·rw[hout b y];exact o.ext.new b z1 z2
 ·obtain⟨v,h1,h2⟩:=o.sh i d h
  exact⟨v,h1,h2.mono gg⟩
 ·refine q72 (by rw[zB];exact T.len2.symm) λj d t h1 h2=>?_
  rw[zX]at h1;cases q:xss[j]? with
  | none=>rw[q]at h1;cases h1
  | some xs=>
   rw[q]at h1;cases h1;have hl:=T.lst j t xs h2 q;exact⟨t,_,rfl,by rw[hin t (.inr (yN h2)),hn' t λw=>by rw[w,T.dict]at hl;cases hl];exact hl,Yx.ints xs⟩
def qdd{K:zA}{ta tb:TE}{g0 g1:FD}(k2:zBi K ta g0)(k4:zBi K tb g1){G0:Hp}{H0:Fr}{G:Hp}{ω:WSt}{σ:St}{H:Hp}{p:vJ}{ks:List Int}{ls:List vJ}{xss:List (List Int)}{a b:Int}{Q:VK}(o:Own K G0 H0 G ω σ H)(no:WJ ω)(hσ:σ[2]?=some (some (.ref p)))(T:Tab G H0 H p ks ls xss)(h0:g0 ω=some (.int a))(h1:g1 ω=some (.int b))(ha:a∈ks)(hz:∀xs∈xss,xs.length<1000000)(h:∀G' H',Own K G0 H0 G' ω σ H'->Y7 G G'->Tab G' H0 H' p ks ls (Wm ks xss a b)->Q .non H'):tBM K "list" WM (zCW (Xg 2) ta) (zAG tb zAw) σ H Q:=by
 refine⟨.ref p,hσ,k2 G0 H0 G ω σ H _ _ o h0 λu G1 H1 x1 y1=>?_⟩;cases (show u=.int a from y1);have o1:=o.keep x1;have T1:=T.keep x1;obtain⟨l,xs,m1,m2,m3,m4,m5,_⟩:=T1.app b ha;refine⟨p,.ref l,rfl,m4,.inl ⟨rfl,_,SqL.of m5⟩,k4 G0 H0 G1 ω σ H1 _ _ o1 h1 λu G2 H2 x2 y2=>?_⟩;cases (show u=.int b from y2);have o2:=o1.keep x2;have T2:=T1.keep x2;obtain⟨l',xs',n1,n2,n3,n4,n5,n6⟩:=T2.app b ha;rw[m3]at n3;cases n3;refine⟨l,_,.int b,rfl,rfl,n5,by rw[zB,vp];have:=hz xs' n2;omega,?_⟩;rw[show xs'.map V.int++[V.int b]=(xs'++[b]).map V.int by rw[zc];rfl];exact h G2 _ (o2.free no (T2.gl l n1).1 (T2.gl l n1).2) (x1.gg.trans x2.gg) n6
def qcb{a b:vW}{p:Pos}{n:Str}{env:Env}(m:Sem vB):uO (.Subscript a b p) n env m=m:=rfl
section
variable{X:Cx}
def qgx{x2 x3 x4:Str}{o0 o1 o2 o3 o4 o4b e0 e1 e0b e1b e0':vW}{q1 q2 q3 q4 q5 q6 q7 q8 q9 q10 q11 q12 q13 q14 q15 a1 a2 c1 c2:Pos}{g0 g1:FD}(hu:X.A.units+64<ub)(hp:tL (model X.prog X.w) X.A X.env X.xe)(hc:X.calm=true)(hN:X.N.Nodup)(i2:X.N[2]?=some x2)(i3:X.N[3]?=some x3)(i4:X.N[4]?=some x4)(l2:Loc X.env.scope x2)(l3:Loc X.env.scope x3)(l4:Loc X.env.scope x4)(f2:X.fn x2=true\/X.env.scope.names.lookup x2=some .local)(f3:X.fn x3=true\/X.env.scope.names.lookup x3=some .local)(f4:X.fn x4=true\/X.env.scope.names.lookup x4=some .local)(h0:PE X o0 (Xg 0))(h1:PE X o1 (Xg 1))(h2:PE X o2 (Xg 2))(h2':PE X o4 (Xg 2))(h2b:PE X o4b (Xg 2))(h3:PE X o3 (Xg 3))(h5:PE X e0' (Xg 2))(ha:XD X e0 g0)(hb:XD X e1 g1)(hab:XD X e0b g0)(hbb:XD X e1b g1)(hg0:∀(ω:WSt)e,ω[4]?=some (some (.sh (pairD2 e)))->g0 ω=some (.int e.1))(hg1:∀(ω:WSt)e,ω[4]?=some (some (.sh (pairD2 e)))->g1 ω=some (.int e.2))(s1:v3 (.Dict [] [] q1) (some (.Name x2 q2)) q3.line X.env=pure false:=by rfl)(s2:v3 (.List [] q4) (some (.Subscript o2 o3 q5)) q6.line X.env=pure false:=by rfl)(n0:NoSl e0:=by intro _ _;rfl)(n1:NoSl e1b:=by intro _ _;rfl)(w1:((v4 c1 (vL [e1] X.env)).all (λx=>!x.1)&&(tM c1 (uf [] X.env)).all (λx=>x.1.isSome)&&decide (([e1]:List vW).length+([]:List uX).length+(if ([]:List uX).isEmpty then 0 else 1)<30))=true:=by rfl)(w2:((v4 c2 (vL [e0b] X.env)).all (λx=>!x.1)&&(tM c2 (uf [] X.env)).all (λx=>x.1.isSome)&&decide (([e0b]:List vW).length+([]:List uX).length+(if ([]:List uX).isEmpty then 0 else 1)<30))=true:=by rfl)(z1:(a1.endLine==c1.line)=true:=by rfl)(z2:(a2.endLine==c2.line)=true:=by rfl)(t1:vL [e1] X.env=(false,eval e1 X.env)::vL [] X.env:=by rfl)(t2:vL [e0b] X.env=(false,eval e0b X.env)::vL [] X.env:=by rfl)(p1:(v4 c1 (vL [] X.env)).any (·.1)=false:=by rfl)(p2:(v4 c2 (vL [] X.env)).any (·.1)=false:=by rfl)(v1:v3 (.Call (.Attribute (.Subscript o4 e0 q7) "append" a1) [e1] [] c1) none q9.line X.env=pure false:=by rfl)(v2:v3 (.Call (.Attribute (.Subscript o4b e1b q8) "append" a2) [e0b] [] c2) none q10.line X.env=pure false:=by rfl)(y1:∀x,vz o0 X.env x=pure x:=by intro _;rfl)(y2:∀x,vz o1 X.env x=pure x:=by intro _;rfl):
  XSs X [.Assign [.Name x2 q2] (.Dict [] [] q1) q3,.For (.Name x3 q11) o0 [.Assign [.Subscript o2 o3 q5] (.List [] q4) q6] [] q12,
   .For (.Name x4 q13) o1 [.Expr (.Call (.Attribute (.Subscript o4 e0 q7) "append" a1) [e1] [] c1) q9,.Expr (.Call (.Attribute (.Subscript o4b e1b q8) "append" a2) [e0b] [] c2) q10] [] q14,.Return (some e0') q15] sNb:=by
 obtain⟨ta,k1,k2⟩:=ha;obtain⟨tb,k3,k4⟩:=hb;obtain⟨ta',k1',k2'⟩:=hab;obtain⟨tb',k3',k4'⟩:=hbb;have hu:=hu1 hu;refine⟨_,qC (q0b hN i2 l2 q7X s1 f2) (qC (q5z hp hc (q6D h0) (q3o hN i3 l3 f3) (q0E (q9S hu h2 h3 (q2J qz) s2)) y1)
  (qC (q5z hp hc (q6D h1) (q3o hN i4 l4 f4) (qC (q1r (q3O PySem.F.plainAttrs_list PySem.F.slot_list_append PySem.F.type_list_append q0R (q4J hu h2' k1 n0) (qA k3 qz t1) (qcb _) w1 z1 t1 p1) v1)
   (q0E (q1r (q3O PySem.F.plainAttrs_list PySem.F.slot_list_append PySem.F.type_list_append q0R (q4J hu h2b k3' n1) (qA k1' qz t2) (qcb _) w2 z2 t2 p2) v2))) y2) (q5O 2 (q0E (q49 h5))))),λG0 H0 G ω σ H out ω' E ow e kk=>?_⟩
 unfold sNb at e
 split at e
 case h_2=>cases e
 case h_1 _ a b=>
 obtain⟨d,e2,e3⟩:=mpd e;clear e;cases e3;obtain⟨ts,e4,e5⟩:=bnd e2;obtain⟨es,e6,e7⟩:=bnd e5;clear e2 e5
 by_cases cond:ts.Nodup/\(∀e∈es,e.1∈ts/\e.2∈ts)/\ts.length<=1000/\es.length<=1000
 case neg=>rw[vF cond]at e7;cases e7
 rw[vC cond]at e7;cases e7;obtain⟨cd1,cd2,cd3,cd4⟩:=cond;have ha':=q1t e4;have hb':=q3X e6;subst ha' hb';clear e4 e6;have no:WJ [some (W.sh (.lst (ts.map D.int))),↥(.lst (es.map pairD2)),none,none,none]:=zCa (x:=none);have hlen:σ.length=5:=ow.len.symm;obtain⟨v0,r0,A0,vs0,rfl,r1,r2⟩:=ow.sh 0 _ rfl;obtain⟨v1,r3,A1,vs1,rfl,r4,r5⟩:=ow.sh 1 _ rfl;have hvs0:=r2.of_ints;subst hvs0;intro p hpn;have o1:Own X.K G0 H0 G [some (W.sh (.lst (ts.map D.int))),↥(.lst (es.map pairD2)),none,none,none] (σ.set 2 (some (.ref p))) (upd H p (.dK [])):=(ow.free no (ow.gh.free hpn) (ow.ext.hh.free hpn)).other no λw z=>by cases z
 have T0:Tab G H0 (upd H p (.dK [])) p (ts.take 0) [] ((ts.take 0).map λ_=>[]):=⟨qe,ow.gh.free hpn,ow.ext.hh.free hpn,rfl,rfl,λj l xs h=>(by simp at h),λl h=>(by cases h),ZY⟩;refine⟨.ref A0,by rw[zJ (by decide)];exact r0,A0,rfl,⟨_,SqL.of (o1.gh _ _ r1)⟩,λn m σ2 H2=>∃ls,Own X.K G0 H0 G [some (W.sh (.lst (ts.map D.int))),↥(.lst (es.map pairD2)),none,none,none] σ2 H2/\σ2[2]?=some (some (.ref p))/\Tab G H0 H2 p (ts.take n) ls ((ts.take n).map λ_=>[])/\n<=ts.length/\m=ts.length-n,
  ⟨_,[],o1,yU (by rw[hlen];decide),T0,yE _,rfl⟩,?_⟩
 rintro n m σ2 H2 ⟨ls,o2,s22,T2,hn,rfl⟩
 by_cases hlt:n<ts.length
 ·have hq:=o2.gh _ _ r1
  refine .inr ⟨⟨_,.int ts[n],SqL.of hq,by rw[zX,zD hlt];rfl⟩,λσ3 H3=>∃ls,Own X.K G0 H0 G [some (W.sh (.lst (ts.map D.int))),↥(.lst (es.map pairD2)),none,none,none] σ3 H3/\σ3[2]?=some (some (.ref p))/\Tab G H0 H3 p (ts.take (n+1)) ls ((ts.take (n+1)).map λ_=>[]),
   λσ3 H3 ⟨ls,b1,b2,b3⟩=>⟨ts.length-(n+1),∅,ls,b1,b2,b3,hlt,rfl⟩,λy H3 hy=>?_⟩
  obtain⟨rfl,hy⟩:=hy;have hy:=hy _ (SqL.of hq);rw[zX,zD hlt]at hy;cases hy;have hl2:σ2.length=5:=o2.len.symm;refine⟨by show 0<=sizeLine;exact yE _,λl hl=>?_⟩;refine⟨.ref p,by rw[zJ (by decide)];exact s22,.int ts[n],yU (by rw[hl2];decide),?_⟩;have nk:ts[n]∉ts.take n:=λz=>by
   obtain⟨j,hj,ej⟩:=yF.mp z;rw[xI]at ej;have hj':j<n:=by rw[z0]at hj;omega
   have:=(wR cd1).mp ej;omega
  obtain⟨H4,d1,d2,T4⟩:=T2.put nk hl o2.gh o2.ext.hh (by rw[z0];omega);refine⟨p,H4,rfl,d1,ls++[l],?_,by rw[zJ (by decide)];exact s22,?_⟩
  ·subst d2
   exact((o2.free no (o2.gh.free hl) (o2.ext.hh.free hl)).free no T2.gp T2.hp).other no λw z=>by cases z
  ·rw[(wx hlt).symm,zc]
   exact T4
 ·have en:n=ts.length:=∅
  subst en;rw[wS]at T2;refine .inl ⟨⟨_,SqL.of (o2.gh _ _ r1),by rw[zB];exact zM _⟩,?_⟩;obtain⟨v1',r3',A1',vs1',rfl,r4',r5'⟩:=o2.sh 1 _ rfl;have hl5:es.length=vs1'.length:=by have:=r5'.len;rw[zB]at this;exact this
  refine⟨.ref A1',r3',A1',rfl,⟨_,SqL.of (o2.gh _ _ r4')⟩,λn m σ3 H3=>∃G3 x4,Own X.K G0 H0 G3 [some (W.sh (.lst (ts.map D.int))),↥(.lst (es.map pairD2)),none,none,x4.map W.sh] σ3 H3/\Y7 G G3/\σ3[2]?=some (some (.ref p))/\Tab G3 H0 H3 p ts ls ((es.take n).foldl (WS ts) (ts.map λ_=>[])) /\
   (∀xs∈(es.take n).foldl (WS ts) (ts.map λ_=>[]),xs.length<=2*n)/\n<=es.length/\m=es.length-n,
   ⟨_,G,none,o2,Y7.refl _,s22,T2,λxs hx=>by obtain⟨_,_,rfl⟩:=yA.mp hx;exact zM _,yE _,rfl⟩,?_⟩
  rintro n m σ3 H3 ⟨G3,x4,o3,g3,s32,T3,b3,hn3,rfl⟩
  by_cases hlt3:n<es.length
  ·have hq3:=o3.gh _ _ (g3 _ _ r4')
   have hlv:n<vs1'.length:=by rw[<- hl5];exact hlt3
   refine .inr ⟨⟨_,vs1'[n],SqL.of hq3,zD hlv⟩,λσ4 H4=>∃G4 x4,Own X.K G0 H0 G4 [some (W.sh (.lst (ts.map D.int))),↥(.lst (es.map pairD2)),none,none,x4.map W.sh] σ4 H4/\Y7 G G4/\σ4[2]?=some (some (.ref p))/\Tab G4 H0 H4 p ts ls ((es.take (n+1)).foldl (WS ts) (ts.map λ_=>[])) /\
    (∀xs∈(es.take (n+1)).foldl (WS ts) (ts.map λ_=>[]),xs.length<=2*(n+1)),
    λσ4 H4 ⟨G4,x4,b1,b2,b4,b5,b6⟩=>⟨es.length-(n+1),∅,G4,x4,b1,b2,b4,b5,b6,hlt3,rfl⟩,λy H4 hy=>?_⟩
   obtain⟨rfl,hy⟩:=hy;have hy:=hy _ (SqL.of hq3);rw[zD hlv]at hy;cases hy;have hd:(es.map pairD2)[n]?=some (pairD2 es[n]):=by rw[zX,zD hlt3];rfl
   obtain⟨v,hv1,hv2⟩:=r5'.get hd;rw[zD hlv]at hv1;cases hv1;have hl3:σ3.length=5:=o3.len.symm;have o4:Own X.K G0 H0 G3 [some (W.sh (.lst (ts.map D.int))),↥(.lst (es.map pairD2)),none,none,↥(pairD2 es[n])] (σ3.set 4 (some vs1'[n])) H4:=o3.setSh (i:=4) (hv2.mono g3);have no4:WJ [some (W.sh (.lst (ts.map D.int))),↥(.lst (es.map pairD2)),none,none,↥(pairD2 es[n])]:=zCa (x:=some (pairD2 es[n]));have s42:(σ3.set 4 (some vs1'[n]))[2]?=some (some (.ref p)):=by rw[zJ (by decide)];exact s32
   obtain⟨in1,in2⟩:=cd2 es[n] (xB hlt3);refine qdd k2 k4 o4 no4 s42 T3 (hg0 _ es[n] rfl) (hg1 _ es[n] rfl) in1 (λxs hx=>by have:=b3 xs hx;omega) λG5 H5 o5 g5 T5=>?_;have b5:=q3u (2*n) ts _ es[n].1 es[n].2 b3;refine qdd k4' k2' o5 no4 s42 T5 (hg1 _ es[n] rfl) (hg0 _ es[n] rfl) in2 (λxs hx=>by have:=b5 xs hx;omega) λG6 H6 o6 g6 T6=>?_;have b6:=q3u (2*n+1) ts _ es[n].2 es[n].1 b5;have et:es.take (n+1)=es.take n++[es[n]]:=(wx hlt3).symm;refine⟨G6,some (pairD2 es[n]),o6,(g3.trans g5).trans g6,s42,?_,?_⟩
   ·rw[et,YC];exact T6
   ·rw[et,YC]
    intro xs hx;have:=b6 xs hx;omega
  ·have en3:n=es.length:=∅
   subst en3;rw[wS]at T3;refine .inl ⟨⟨_,SqL.of (o3.gh _ _ (g3 _ _ r4')),by rw[hl5];exact zM _⟩,?_⟩;have no3:WJ [some (W.sh (.lst (ts.map D.int))),↥(.lst (es.map pairD2)),none,none,x4.map W.sh]:=zCa;refine⟨p,_,s32,T3.dict,λob=>?_⟩;obtain⟨G',g',o',rp⟩:=T3.told o3 no3 ob;generalize upd H3 p (.frz ob _)=H4 at o' ⊢;refine⟨.ref p,s32,?_⟩;have oF:Own X.K G0 H0 G' [some (W.sh (.lst (ts.map D.int))),↥(.lst (es.map pairD2)),none,none,none] σ3 H4:=by
    refine⟨o'.ext,o'.len,λi d h=>?_,λi ds h=>vK h (no.ow i ds),λi j ds es l h=>vK h (no.ow i ds),λi ks ds h=>vK h (no.od i ks ds),X4.no no.pw⟩
    match i,h with
    | 0,h=>exact o'.sh 0 d h
    | 1,h=>exact o'.sh 1 d h
    | 2,h=>cases h
    | 3,h=>cases h
    | 4,h=>cases h
    | i+5,h=>simp at h
   exact kk G' σ3 H4 oF (g3.trans g') (.ref p) rp
end
def qgk{ω:WSt}{e:Int×Int}(h:ω[4]?=some ↥(pairD2 e)):dOf (Yv oIx (vOf (Yr 4)) (fC (.int 0))) ω=some (.int e.1):=by
 unfold dOf Yv vOf Yr fC;rw[h];rfl
def qga{ω:WSt}{e:Int×Int}(h:ω[4]?=some ↥(pairD2 e)):dOf (Yv oIx (vOf (Yr 4)) (fC (.int 1))) ω=some (.int e.2):=by
 unfold dOf Yv vOf Yr fC;rw[h];rfl
noncomputable def zCD(i:Nat)(ω:WSt)(c d:Option D):Option (Out×WSt):=c.bind λc=>d.bind λd=>match c with
 | .int k=>some (.nx,ω.set i (some (.od [k] [d])))
 | _=>none
noncomputable def dsetS(i:Nat)(ω:WSt)(v c:Option D)(w:Option (Option W)):Option (Out×WSt):=v.bind λd=>c.bind λc=>match c,w with
 | .int k,some (some (.od ks ds))=>if ks.length<1000000 then some (.nx,ω.set i (some (.od (Wk ks k) (putA ks ds k d))))else none
 | _,_=>none
noncomputable def dgetR(o:Option (List Int×List D))(c:Option D):Option R:=o.bind λp=>c.bind λc=>match c with
 | .int k=>(XC p.1 p.2 k).map R.sh
 | _=>none
noncomputable def dhasT(neg:Bool)(c:Option D)(o:Option (List Int×List D)):Option Bool:=c.bind λc=>o.bind λp=>match c with
 | .int k=>some (if neg then !(XC p.1 p.2 k).isSome else (XC p.1 p.2 k).isSome)
 | _=>none
noncomputable def zCN(o:Option (List Int×List D)):Option R:=o.bind λp=>if p.1.length<64 then some (.fr ((XJ p.1).map D.int))else none
noncomputable def pop0(i:Nat)(ω:WSt)(w:Option (Option W)):Option (D×WSt):=match w with
 | some (some (.ow ds))=>(ds[ds.length-1]?).map λd=>(d,ω.set i (some (.ow ds.dropLast)))
 | _=>none
noncomputable def zCS(j i:Nat)(ω:WSt)(w:Option (Option W)):Option (Out×WSt):=(pop0 i ω w).map λp=>(.nx,p.2.set j (some (.sh p.1)))
section
variable{ω:WSt}{fk fv:FD}{i j:Nat}{ks:List Int}{ds:List D}{k:Int}{d:D}{neg:Bool}
def q6W:zBL i fk fv ω=zCD i ω (fk ω) (fv ω):=rfl
def qbg:zCD i ω (some (.int k)) (some d)=some (.nx,ω.set i (some (.od [k] [d]))):=rfl
def q8X:zCb i fk fv ω=dsetS i ω (fv ω) (fk ω) ω[i]?:=rfl
def q8S:zCf i fk ω=dgetR (Wx ω[i]?) (fk ω):=rfl
def qaK:dgetR (some (ks,ds)) (some (.int k))=(XC ks ds k).map R.sh:=rfl
def qbs:Wx (some (some (.od ks ds)))=some (ks,ds):=rfl
def qb3:Wx (some ↥(.dic ks ds))=some (ks,ds):=rfl
def q7R:zB8 neg i fk ω=dhasT neg (fk ω) (Wx ω[i]?):=rfl
def qax:dhasT true (some (.int k)) (some (ks,ds))=some (!(XC ks ds k).isSome):=rfl
def q6r:zBW i ω=zCN (Wx ω[i]?):=rfl
def q6b:zCB j (zBv i) ω=zCS j i ω ω[i]?:=rfl
end
def qfQ{i:Nat}{ω:WSt}{ks:List Int}{ds:List D}{k:Int}{d:D}(h:ks.length<1000000):dsetS i ω (some d) (some (.int k)) (some (some (.od ks ds)))=some (.nx,ω.set i (some (.od (Wk ks k) (putA ks ds k d)))):=vC h
def qet{ks:List Int}{ds:List D}(h:ks.length<64):zCN (some (ks,ds))=some (.fr ((XJ ks).map D.int)):=vC h
def qg5{j i:Nat}{ω:WSt}{ds:List D}{d:D}:zCS j i ω (some (some (.ow (ds++[d]))))=some (.nx,(ω.set i (some (.ow ds))).set j ↥d):=by
 unfold zCS pop0;have e1:(ds++[d])[(ds++[d]).length-1]?=some d:=by
  rw[zC,zx,xS,zf (zM _),wg];rfl
 have e2:(ds++[d]).dropLast=ds:=by simp
 show Yc _ (((ds++[d])[(ds++[d]).length-1]?).map _)=_;rw[e1,e2];rfl
section
variable{X:Cx}{o k e:vW}{pos pos':Pos}{i:Nat}{fk fv:FD}
noncomputable def zCn(i:Nat)(fk fv:FD):FS:=λω=>(fv ω).bind λd=>(fk ω).bind λc=>match c,ω[i]? with
 | .int k,some (some (.ow ds))=>(ixN ds.length k).map λj=>(.nx,ω.set i (some (.ow (ds.set j d))))
 | _,_=>none
theorem Yx.set{K:zA}{H:Hp}:∀{ds:List D}{vs:List V}(n:Nat){d:D}{v:V},Yx K H ds vs->Rep K H d v->Yx K H (ds.set n d) (vs.set n v)
 | [],_,_,_,_,h,_=>by cases (show _=_ from h);rfl
 | _::_,_,0,_,_,⟨v,r,h1,h2,h3⟩,hv=>by rw[h1];exact⟨_,_,rfl,hv,h3⟩
 | _::_,_,n+1,_,_,⟨v,r,h1,h2,h3⟩,hv=>by rw[h1];exact⟨v,_,rfl,h2,Yx.set n h3 hv⟩
def qfZ(ho:PE X o (Xg i))(hk:XD X k fk)(hv:XD X e fv)(hs:tt [.Subscript o k pos'] e pos.line X.env=pure false:=by rfl)(hw:tu [.Subscript o k pos'] e X.env=pure none:=by rfl)(h1':(uL [.Subscript o k pos'] X.env).map (·.2)=[assign (.Subscript o k pos') X.env]:=by rfl)(ha:∀v,assign (.Subscript o k pos') X.env v=(do
   let ov <- holding [v] (eval o X.env)
   let iv <- holding [v,ov] (eval k X.env)
   sU pos'
   holding [v,ov,iv] (sT ov iv v)
   release [v,ov,iv] []):=by intro _;rfl):XS X (.Assign [.Subscript o k pos'] e pos) (zCn i fk fv):=by
 obtain⟨tk,h1,h2⟩:=hk;obtain⟨tv,h3,h4⟩:=hv;refine⟨_,qcZ h3 (qcD ho h1 q8F ha) hs hw h1',λG0 H0 G ω σ H out ω' E ow e kk=>?_⟩;obtain⟨d,q1,e⟩:=bnd e;obtain⟨c,q2,e⟩:=bnd e;refine h4 G0 H0 G ω σ H d _ ow q1 λv G1 H1 x1 y1=>?_;cases c with
 | int m=>
  split at e
  ·rename_i _ _ _ m' ds ek q3
   cases ek;obtain⟨j,hj,e⟩:=mpd e;cases e;have o1:=ow.keep x1;obtain⟨l,vs,r1,r2,r3,r4,r5⟩:=o1.ow i ds q3;refine⟨.ref l,r1,h2 G0 H0 G1 ω σ H1 _ _ o1 q2 λu G2 H2 x2 y2=>?_⟩;cases (show u=.int m from y2);have o2:=o1.keep x2;refine⟨l,vs,m,j,rfl,rfl,x2.hh _ _ r2,by rw[<- r5.len];exact hj,?_⟩;exact kk G2 σ _ (o2.mut q3 r1 (x2.hh _ _ r2) (x2.new l r3 (by rw[r2];exact λz=>by cases z)) r4 ((r5.mono x2.gg).set j (y1.mono x2.gg))) (x1.gg.trans x2.gg)
  ·cases e
 | _=>cases e
end
section
variable{X:Cx}{e:vW}{pos pos':Pos}{i:Nat}{fe:FD}
end
section
open PySem.Spec PyProof.Rows
variable{X:Cx}
noncomputable def mx3(i j k:Int):Int:=if k>(if j>i then j else i)then k else if j>i then j else i
end
end Hk
namespace L2
open PySem PySem.Spec PyProof.Rows
end L2
namespace Hk
open PySem L2
noncomputable def lsetS(i:Nat)(ω:WSt)(v c:Option D)(w:Option (Option W)):Option (Out×WSt):=v.bind λd=>c.bind λc=>match c,w with
 | .int k,some (some (.ow ds))=>(ixN ds.length k).map λj=>(.nx,ω.set i (some (.ow (ds.set j d))))
 | _,_=>none
section
variable{ω:WSt}{fk fv:FD}{fa:FA}{i j:Nat}{ds:List D}{a b c:Int}{d:D}{g:Int->Int->Int}
def q8Q:zCn i fk fv ω=lsetS i ω (fv ω) (fk ω) ω[i]?:=rfl
end
def qfK{i:Nat}{ω:WSt}{ds:List D}{d:D}{k:Int}(h0:0<=k)(h1:k<ds.length):lsetS i ω (some d) (some (.int k)) (some (some (.ow ds)))=some (.nx,ω.set i (some (.ow (ds.set k.toNat d)))):=by
 show (ixN ds.length k).map _=_;have e:ixN ds.length k=some k.toNat:=by unfold ixN;rw[vC h0,vC h1]
 rw[e];rfl
end Hk
namespace L2
open PySem PySem.Spec PyProof.Rows
noncomputable def Ite(K:zA)(a:vJ):It :=
 ⟨λi H=>∃xs x,SqL K H a xs/\xs[i]?=some x,
  λi H x H'=>∃t x1,H t=none/\x=.ref t/\H'=upd H t (.tup [.int i,x1])/\∀xs,SqL K H a xs->xs[i]?=some x1,
  λi H=>∃xs,SqL K H a xs/\xs[i]?=none⟩
def qcW{P:vQ}{w:vZ}{K:zA}{elts:List vW}{kx}{tpos:Pos}(a e it:vJ)(hne:e≠it)(hae:a≠e)(hai:a≠it):
  Turn P w K (.Tuple elts kx tpos) (Ite K a) [e,it] e (λi h=>(∃old,IsEnum h e it (i:Int) old)/\h.IsListIter it a i) where
 mem:=by simp
 obj:=λi h st c hc=>by
  obtain⟨⟨old,s1⟩,⟨o4,e4,c4,d4⟩⟩:=st;simp only[zF,zg,or_false]at hc;rcases hc with rfl|rfl
  ·exact⟨_,s1,λv y=>by cases (show Data.fields _=Data.cell v from y)⟩
  ·exact⟨_,e4,λv y=>by rw[d4]at y;cases y⟩
 keep:=λi h h' st k=>by
  obtain⟨⟨old,s1⟩,s4⟩:=st;exact⟨⟨old,k _ (by simp) _ s1⟩,s4.at λo e=>k _ (by simp) o e⟩
 item:=by
  intro X hP hw hK hc i pins s σ H E I hf st hg;subst hP hw hK;obtain⟨xs,x,hq,hx⟩:=hg;obtain⟨its,rv,p,hz⟩:=I.list hq;obtain⟨u,hu,ru⟩:=rv.get hx;obtain⟨⟨old,s1⟩,s4⟩:=st;have ex:∀c∈[e,it],∃o,s.heap.get? c=some o:=λc hc=>by
   simp only[zF,zg,or_false]at hc;rcases hc with rfl|rfl
   ·exact⟨_,s1⟩
   ·obtain⟨o,e,_⟩:=s4;exact⟨o,e⟩
  have nt:∀c∈[e,it],c≠s.heap.objs.size:=λc hc=>by
   obtain⟨o,e⟩:=ex c hc;exact zi (zO e)
  refine wpAny_pyNext_enum_item s1 s4 p.isList (x:=u) (by simpa using hu) hne λh' a1 a2 a3 a4 hk=>?_;have hn:H s.heap.objs.size=none:=I.hok.fresh (zM _);have I1:Inv X pins σ (upd H s.heap.objs.size (.tup [.int i,x])) { s with heap:=s.heap.push { cls:=.type "tuple", data:=.seq #[.int i s.toks,u] },toks:=s.toks+1 } :=
   I.laid (λb o e=>zH _ e) (zM _) (show XF X.prog X.w _ _ _ (.tup [.int i,x])from ⟨by show 2<=sizeLine;decide,[.int i s.toks,u],.cons ⟨_,rfl⟩ (.cons ru .nil),⟨_,zS _ rfl,rfl,_,rfl⟩⟩)
  have hf':∀c∈[e,it],zBe X pins (upd H s.heap.objs.size (.tup [.int i,x])) c:=λc hc=>by
   obtain⟨f0,f⟩:=hf c hc;exact⟨by rw[qd (nt c hc)];exact f0,f⟩
  have I2:Inv X pins σ (upd H s.heap.objs.size (.tup [.int i,x])) { s with heap:=h',toks:=s.toks+1 }:=I1.turnedL (λb o hb e=>by
   simp only[zF,zg,or_false,not_or]at hb
   by_cases q:b=s.heap.objs.size
   ·subst q
    rw[zS _ rfl]at e;cases e;exact a3
   ·have e':s.heap.get? b=some o:=by
     rcases yB b s.heap.objs.size with l|l
     ·obtain⟨z1,z2⟩:=wE.mp e
      refine wE.mpr ⟨?_,z2⟩;rw[<- z1];show s.heap.objs[b]?=(s.heap.objs.push _)[b]?;rw[Ze,vF q]
     ·have:=zO e
      rw[yc]at this;exact vK (by simp only[vJ]at *;omega) q
    exact hk b o hb.1 hb.2 e') hf'
  refine⟨_,rfl,wpAny_letOwnedTupleGo_enum a1 λh2 b1 sb=>?_⟩;have I3:Inv X pins σ (upd H s.heap.objs.size (.tup [.int i,x])) { s with heap:=h2,toks:=s.toks+1 }:=I2.turnedL (λb o hb e=>(sb.2 b (λq=>hb (by simp[q]))).trans e) hf';have hi:((i+1:Nat):Int)=(i:Int)+1:=by push_cast;rfl
  refine⟨.ref s.heap.objs.size,_,I3,rfl,⟨_,x,hn,rfl,rfl,λxs' q1=>by rw[I.list_inj q1 hq];exact hx⟩,⟨⟨u,by rw[hi];exact b1⟩,a2.extBut sb.extBut (Ne.symm hne)⟩,λc hc=>(hf' c hc).1⟩
 done:=by
  intro X hP hw hK hc i pins s σ H E I hf st hg;subst hP hw hK;obtain⟨xs,hq,hx⟩:=hg;obtain⟨its,rv,p,hz⟩:=I.list hq;obtain⟨⟨old,s1⟩,s4⟩:=st;have l1:=rv.length;refine wpAny_pyNext_enum_end (I.ok.hd hc) s1 s4 p.isList ?_ λh' hk=>⟨rfl,I.turnedL (t':=s.toks) (λb o hb e=>?_) hf⟩
  ·rw[xr]at hx;simp;omega
  ·simp only[zF,zg,or_false,not_or]at hb
   exact hk b o hb.2 e
 self:=λ_ _ _ _ _ st h=>by
  obtain⟨⟨old,s1⟩,s4⟩:=st;exact wpAny_pyIter_enum s1 h
noncomputable def iEnum(K:zA)(ta:TA):TI:=λσ H R=>ta σ H λvs H1=>∃a xs,vs=[.ref a]/\SqL K H1 a xs/\R (Ite K a) H1
def qan{X:Cx}{a:vW}{ta:TA}{p pos tpos:Pos}{elts:List vW}{kx}(hg:Gl X "enumerate")(hm:X.mg "enumerate" = none)(ha:PA X [a] ta)(hs:vL [a] X.env=[(false,eval a X.env)]:=by rfl):
  PI X (.Tuple elts kx tpos) (.Call (.Name "enumerate" p) [a] [] pos) (iEnum X.K ta):=by
 intro pins s σ H R I h;refine Call_ (q1M I hg hm PyProof.Rows.boot_enumerate (PyProof.Rows.callWith_type1 (thn (ha pos pins s σ H _ I h) λus s1 ⟨vs,H1,I1,r1,q1⟩=>?_) hs rfl));obtain⟨l,xs,e,hq,q⟩:=q1;subst e;cases r1 with
 | cons r rr=>
  cases rr;cases r;obtain⟨its,rv,p1,hz⟩:=I1.list hq;have hlt:l<s1.heap.objs.size:=by obtain⟨_,_,e,_⟩:=p1;exact zO e
  refine call_enumerate_list p1.isList λh' a1 a2 a3 hk=>?_;refine wpAny_pyIter_enum a1 ?_;refine⟨s1.heap.objs.size+1,[s1.heap.objs.size+1,s1.heap.objs.size],_,_,H1,rfl,I1.kept (t':=s1.toks) hk,qcW l _ _ (Nat.succ_ne_self _) (zi (yR hlt)) (zi hlt),⟨⟨_,a1⟩,a2⟩,λc hc=>?_,q⟩;have hle:s1.heap.objs.size<=c:=by
   simp only[zF,zg,or_false]at hc;simp only[vJ]at *;omega
  exact I1.fpOk hle (I1.hok.fresh hle)
end L2
namespace Hk
open PySem L2
noncomputable def Wa:Nat->List D->List D
 | i,a::as=>.tup [.int i,a]::Wa (i+1) as
 | _,[]=>[]
theorem q4q:∀(i:Nat)(as:List D),(Wa i as).length=as.length
 | i,a::as=>by show (Wa (i+1) as).length+1=_;rw[q4q];rfl
 | i,[]=>rfl
theorem q75:∀(k:Nat)(as:List D)(i:Nat)(d:D),(Wa k as)[i]?=some d->∃a,as[i]?=some a/\d=.tup [.int ((k+i:Nat):Int),a]
 | k,a::as,0,d,h=>by cases h;exact⟨a,rfl,rfl⟩
 | k,a::as,i+1,d,h=>by
  obtain⟨b,h1,h2⟩:=q75 (k+1) as i d h;exact⟨b,h1,by rw[h2];congr 4;omega⟩
 | k,[],i,d,h=>by cases h
def qcY{K:zA}{G:Hp}{a:vJ}{ds:List D}{vs:List V}(h1:G a=some (.lst vs))(h2:Yx K G ds vs):IterOf K (Ite K a) G (Wa 0 ds):=by
 have l1:=h2.len;refine⟨λH i s hi=>?_,λG2 H i x H' d s0 s1 hd hy=>?_,λH s=>⟨vs,SqL.of (s _ _ h1),?_⟩⟩
 ·rw[q4q]at hi
  exact⟨vs,vs[i]'∅,SqL.of (s _ _ h1),zD _⟩
 ·obtain⟨t,x1,ht,rfl,rfl,y⟩:=hy
  have e1:=y vs (SqL.of (s1 _ _ (s0 _ _ h1)));obtain⟨p,f1,rfl⟩:=q75 0 ds i d hd;obtain⟨v,q1,q2⟩:=h2.get f1;rw[e1]at q1;cases q1;have x2:=Ext.lay s1 ht (.tup [.int i,x1]);exact⟨_,x2,⟨t,_,rfl,qe,Yx.cons (by show (.int i:V)=.int ((0+i:Nat):Int);rw[yr]) (Yx.cons (q2.mono (s0.trans x2.gg)) Yx.nil)⟩⟩
 ·rw[q4q];exact zd ∅
noncomputable def iEn(g:FA):FI:=λω=>(g ω).bind λds=>match ds with
 | [.lst a]=>some (Wa 0 a)
 | _=>none
def q9K{X:Cx}{a:vW}{g:FA}{p pos tpos:Pos}{elts:List vW}{kx}(hg:Gl X "enumerate")(hm:X.mg "enumerate" = none)(ha:XA X [a] g)(hs:vL [a] X.env=[(false,eval a X.env)]:=by rfl):
  XI X (.Tuple elts kx tpos) (.Call (.Name "enumerate" p) [a] [] pos) (iEn g):=by
 obtain⟨⟨t,h1,h2⟩,_⟩:=ha;refine⟨_,qan hg hm h1 hs,λG0 H0 G ω σ H ds R o e k=>?_⟩;obtain⟨vs,q,e⟩:=bnd e;refine h2 G0 H0 G ω σ H vs _ o q λus G1 H1 x1 y1=>?_
 match vs,e with
 | [.lst as],e=>
  cases e;obtain⟨v1,r1,rfl,z1,z2⟩:=y1;cases (show r1=[]from z2);obtain⟨a1,ws1,rfl,f1,f2⟩:=z1;exact⟨a1,ws1,rfl,SqL.of (x1.gh _ _ f1),k _ G1 H1 x1 (qcY f1 f2)⟩
noncomputable def enI(o:Option (List D)):Option (List D):=o.bind λds=>match ds with
 | [.lst a]=>some (Wa 0 a)
 | _=>none
def qba{fa:FA}{ω:WSt}:iEn fa ω=enI (fa ω):=rfl
def qb5{ds:List D}:enI (some [.lst ds])=some (Wa 0 ds):=rfl
section
open PyProof.Rows PySem.Spec
variable{prog:vQ}{w:vZ}{A:vb}{E:vB->vG->Prop}{s:vG}{l:vJ}{xs:Array (Int×Tok)}
def q51{Q:vB->vG->Prop}(hl:s.heap.IsTuple l (uZ xs))(h:∀s₂:vG,s₂={ s with heap:=s.heap.push { cls:=.type "tuple_iterator", data:=.fields #[.ref l,.int 0 0] } } ->
   (s₂.heap.IsTupleIter s.heap.objs.size l 0/\s₂.heap.IsTuple l (uZ xs))->(∀b∈[s.heap.objs.size,l],b<s₂.heap.objs.size)->l≠s.heap.objs.size->Q (.ref s.heap.objs.size) s₂) :
  vN (model prog w) A (t6 (.ref l)) Q E s:=by
 have hlt:l<s.heap.objs.size:=by obtain⟨_,e,_⟩:=hl;exact zO e
 refine t7 hl (h _ rfl ⟨⟨_,zS _ rfl,rfl,rfl⟩,hl.at λo e=>zH _ e⟩ (λb hb=>?_) (zi hlt));show b<(s.heap.push _).objs.size;rw[yc];rcases zF.mp hb with rfl|hb
 ·exact yY _
 ·rcases zF.mp hb with rfl|hb
  ·exact yR hlt
  ·cases hb
def q8L{h':vn}(hk:∀b o,b∉[s.heap.objs.size]->(s.heap.push { cls:=.type "tuple_iterator", data:=.fields #[.ref l,.int 0 0] }).get? b=some o->h'.get? b=some o):
  ∀b o,s.heap.get? b=some o->h'.get? b=some o:=λb o e=>by
 refine hk b o (λhm=>?_) (zH _ e);rcases zF.mp hm with e1|hm
 ·exact vK (e1▸zO e) (xP _)
 ·cases hm
def qbf{Q:vB->vG->Prop}(hh:A.handled=none)(hl:s.heap.IsTuple l (uZ xs))(hne:0<xs.size)(h:∀v h' tk,(uZ xs)[argBest (λi j=>decide (tO xs i>tO xs j)) (xs.size-1)]?=some v->(∀b o,s.heap.get? b=some o->h'.get? b=some o)->Q v { s with heap:=h',toks:=tk }):
  vN (model prog w) A (call (.builtin "max") [.ref l]) Q E s:=by
 refine call_max_walk (q51 hl λs₂ e st hfp hlI=>?_);subst e;refine⟨_,_,_,_,_,_,_,rfl,Walks.tuple (A:=A.in1) hh _ l hlI (uZ xs),st,hfp,by simpa [uZ]using hne,CmpOf.ints_gt (tO xs) (λ_ _=>tZ),λv h' tk hP hk=>?_⟩;exact h v h' tk (by simpa [uZ]using hP) (q8L hk)
def qbr{Q:vB->vG->Prop}(hh:A.handled=none)(hl:s.heap.IsTuple l (uZ xs))(hne:0<xs.size)(h:∀v h' tk,(uZ xs)[argBest (λi j=>decide (tO xs i<tO xs j)) (xs.size-1)]?=some v->(∀b o,s.heap.get? b=some o->h'.get? b=some o)->Q v { s with heap:=h',toks:=tk }):
  vN (model prog w) A (call (.builtin "min") [.ref l]) Q E s:=by
 refine call_min_walk (q51 hl λs₂ e st hfp hlI=>?_);subst e;refine⟨_,_,_,_,_,_,_,rfl,Walks.tuple (A:=A.in1) hh _ l hlI (uZ xs),st,hfp,by simpa [uZ]using hne,CmpOf.ints_lt (tO xs) (λ_ _=>tZ),λv h' tk hP hk=>?_⟩;exact h v h' tk (by simpa [uZ]using hP) (q8L hk)
end
def rMaxT(K:zA):List V->Hp->VK->Prop:=λxs H Q=>∃(p:vJ) (ns:List Int),xs=[.ref p]/\SqT K H p (ns.map V.int)/\ns≠[]/\Q (.int (zAc ns)) H
def rMinT(K:zA):List V->Hp->VK->Prop:=λxs H Q=>∃(p:vJ) (ns:List Int),xs=[.ref p]/\SqT K H p (ns.map V.int)/\ns≠[]/\Q (.int (zAd ns)) H
section
variable{X:Cx}
open PyProof.Rows PySem.Spec
def q4C(hc:X.calm=true):X6 X (.builtin "max") (rMaxT X.K):=by
 intro pins s σ H xs us Q I r h;obtain⟨p,ns,rfl,hp,hne,q⟩:=h;obtain⟨u,rfl,rx⟩:=vals1 r;cases rx;obtain⟨its,rv,e,hz⟩:=I.tuple hp;have hi:=q1H rv;obtain⟨ys,ey⟩:=hi.allInts.items;have hns:ns=ys.toList.map (·.1):=by rw[<- hi.numsOf,<- nums_intItems,<- ey]
 have hl:s.heap.IsTuple p its.toArray:=e;rw[ey]at hl;have hsz:0<ys.size:=by
  have h3:=Zf.mpr hne;rw[hns,zB,zQ]at h3;exact h3
 refine qbf (I.ok.hd hc) hl hsz λv h' tk hv hk=>?_;obtain⟨t,rfl⟩:=tZ hv;obtain⟨h1,h2⟩:=argBest_gt (tO ys) (ys.size-1);have em:tO ys (argBest (λi j=>decide (tO ys i>tO ys j)) (ys.size-1))=zAc ns:=by
  obtain⟨m1,m2⟩:=q9Z hne;apply YW
  ·apply m2
   rw[hns,sn];exact getD_mem (by rw[zB,zQ];omega)
  ·rw[hns]at m1
   obtain⟨j,hj,ej⟩:=mem_getD m1;rw[zB,zQ]at hj;rw[<- hns]at ej;rw[<- ej,hns,<- sn];exact h2 j ∅
 rw[em];exact⟨.int _,H,I.kept (t':=tk) hk,⟨_,rfl⟩,q⟩
def q6Z(hc:X.calm=true):X6 X (.builtin "min") (rMinT X.K):=by
 intro pins s σ H xs us Q I r h;obtain⟨p,ns,rfl,hp,hne,q⟩:=h;obtain⟨u,rfl,rx⟩:=vals1 r;cases rx;obtain⟨its,rv,e,hz⟩:=I.tuple hp;have hi:=q1H rv;obtain⟨ys,ey⟩:=hi.allInts.items;have hns:ns=ys.toList.map (·.1):=by rw[<- hi.numsOf,<- nums_intItems,<- ey]
 have hl:s.heap.IsTuple p its.toArray:=e;rw[ey]at hl;have hsz:0<ys.size:=by
  have h3:=Zf.mpr hne;rw[hns,zB,zQ]at h3;exact h3
 refine qbr (I.ok.hd hc) hl hsz λv h' tk hv hk=>?_;obtain⟨t,rfl⟩:=tZ hv;obtain⟨h1,h2⟩:=argBest_lt (tO ys) (ys.size-1);have em:tO ys (argBest (λi j=>decide (tO ys i<tO ys j)) (ys.size-1))=zAd ns:=by
  obtain⟨m1,m2⟩:=qaw hne;apply YW
  ·rw[hns]at m1
   obtain⟨j,hj,ej⟩:=mem_getD m1;rw[zB,zQ]at hj;rw[<- hns]at ej;rw[<- ej,hns,<- sn];exact h2 j ∅
  ·apply m2
   rw[hns,sn];exact getD_mem (by rw[zB,zQ];omega)
 rw[em];exact⟨.int _,H,I.kept (t':=tk) hk,⟨_,rfl⟩,q⟩
noncomputable def zAU:List D->Option R
 | [.tup ds]=>(intsOf ds).bind λns=>if ns=[]then none else ↥(.int (zAc ns))
 | _=>none
noncomputable def zBB:List D->Option R
 | [.tup ds]=>(intsOf ds).bind λns=>if ns=[]then none else ↥(.int (zAd ns))
 | _=>none
def q6m{K:zA}:Wq K (rMaxT K) zAU:=by
 intro G H ds vs d Q s e hv k
 match ds,e with
 | [.tup ds],e=>
  obtain⟨ns,e1,e2⟩:=bnd (show (intsOf ds).bind _=some d from e);have hds:=q1t e1;subst hds
  by_cases hz:ns=[]
  ·rw[vC hz]at e2;cases e2
  ·rw[vF hz]at e2
   cases e2;obtain⟨v,rfl,h⟩:=hv.one;rcases h with⟨p,us,rfl,h1,h2⟩|⟨ds',l,vs,e3,_⟩
   ·exact⟨p,ns,rfl,by rw[<- h2.of_ints];exact SqT.of (s _ _ h1),hz,k _ G H (Ext.refl s) rfl⟩
   ·cases e3
def q9Y{K:zA}:Wq K (rMinT K) zBB:=by
 intro G H ds vs d Q s e hv k
 match ds,e with
 | [.tup ds],e=>
  obtain⟨ns,e1,e2⟩:=bnd (show (intsOf ds).bind _=some d from e);have hds:=q1t e1;subst hds
  by_cases hz:ns=[]
  ·rw[vC hz]at e2;cases e2
  ·rw[vF hz]at e2
   cases e2;obtain⟨v,rfl,h⟩:=hv.one;rcases h with⟨p,us,rfl,h1,h2⟩|⟨ds',l,vs,e3,_⟩
   ·exact⟨p,ns,rfl,by rw[<- h2.of_ints];exact SqT.of (s _ _ h1),hz,k _ G H (Ext.refl s) rfl⟩
   ·cases e3
def q6J{ns:List Int}(h:ns≠[]):zAU [.tup (ns.map D.int)]=↥(.int (zAc ns)):=by
 show (intsOf (ns.map D.int)).bind _=_;rw[q0e];exact vF h
def qab{ns:List Int}(h:ns≠[]):zBB [.tup (ns.map D.int)]=↥(.int (zAd ns)):=by
 show (intsOf (ns.map D.int)).bind _=_;rw[q0e];exact vF h
end
end Hk
namespace Hk
open PySem PySem.Spec PyProof.Rows L2
section
variable{prog:vQ}{w:vZ}{A:vb}{E:vB->vG->Prop}{s:vG}
def q9i{z TI TO:vJ}{f0 f1:vB}{Q:Bool->vG->Prop}(hz:Xo s.heap z TI TO f0 f1)(hf:f0=.none\/∃t:vJ,f0=v8 t/\s.heap.get? t=none)(k:Q true s):
  vN (model prog w) A (Builtin.SmallTypes.ownedTupleIsFree (.ref z)) Q E s:=by
 unfold Builtin.SmallTypes.ownedTupleIsFree;rcases hf with rfl|⟨t,rfl,ht⟩
 ·exact vA (vt hz rfl (x:=.none) rfl (vH k))
 ·refine vA (vt hz rfl (x:=v8 t) rfl ?_)
  show vN _ _ (sP ((t:Int)).toNat >>= _) _ _ _;rw[yO];refine vA (q7O ?_);rw[ht];exact vH k
def qdr{z TI TO i1 i2 l1 l2:vJ}{k1 k2:Nat}{xs ys:Array vB}{x y a b f0 f1:vB}{Q:Option vB->vG->Prop}(Z:tD z TI TO i1 i2 l1 l2)(hz:Xo s.heap z TI TO f0 f1)(hf:f0=.none\/∃t:vJ,f0=v8 t/\s.heap.get? t=none)(hTI:uM s.heap TI (.ref i1) (.ref i2))(hTO:uM s.heap TO a b)(h1:s.heap.IsListIter i1 l1 k1)(h2:s.heap.IsListIter i2 l2 k2)(hl1:s.heap.IsList l1 xs)(hl2:s.heap.IsList l2 ys)(hx:xs[k1]?=some x)(hy:ys[k2]?=some y)(hQ:∀g,Xo g z TI TO (v8 s.heap.objs.size) (.bool false)->uM g TO x y->g.IsListIter i1 l1 (k1+1)->g.IsListIter i2 l2 (k2+1)->uM g s.heap.objs.size x y ->
   (∀c o,c≠z->c≠TO->c≠i1->c≠i2->s.heap.get? c=some o->g.get? c=some o)->Q (some (.ref s.heap.objs.size)) { s with heap:=g }) :
  vN (model prog w) A (uI (.ref z)) Q E s:=by
 have tz:s.TypeIs (.ref z) "zip" := ⟨_,hz,rfl⟩;unfold uI;refine vA (uJ (wpAny_callSpecial?_slot (name:=Str.ofString "__next__") tz PySem.F.slot_zip_next (ve PySem.F.slot_zip_next tz PySem.F.entry_zip_next ?_ (PySem.F.args_zip_next_1 _))));show vN _ _ (field (.ref z) 2 >>= _) _ _ _;refine vA (vt hz rfl (x:=.bool false) rfl ?_);show vN _ _ (field (.ref z) 3 >>= _) _ _ _;refine vA (vt hz rfl (x:=.ref TI) rfl ?_);refine vA (v6 hTI rfl ?_);show vN _ _ (Builtin.SmallTypes.ownedTupleIsFree (.ref z) >>= _) _ _ _;refine vA (q9i hz hf ?_);simp only[if_true];refine vA (uD (vA (vt hz rfl (x:=.ref TO) rfl ?_)));refine vA (vg hz (by simp) λg1 z1 b1=>?_);replace z1:Xo g1 z TI TO .ellipsis f1:=z1;refine vA ?_;simp only[ZC,YX,wA,wm];refine vA (vA (tJ ?_));show vN _ _ (Builtin.SmallTypes.nextOf (.ref i1) >>= _) _ _ _;refine vA (v9 (h1.extBut b1.extBut Z.i1z) (hl1.extBut b1.extBut Z.l1z) hx λg2 it1 b2=>vH ?_);have o2:uM g2 TO a b:=b2.extBut _ _ Z.TOi1 (b1.extBut _ _ Z.TOz hTO);refine vA (v6 o2 rfl (vA (ut o2 λg3 o3 b3=>?_)));replace o3:uM g3 TO x b:=o3;refine vA (tY (vH (vA (vA (tJ ?_)))));show vN _ _ (Builtin.SmallTypes.nextOf (.ref i2) >>= _) _ _ _;have h2':=((h2.extBut b1.extBut Z.i2z).extBut b2.extBut Z.i12.symm).extBut b3.extBut Z.TOi2.symm;have hl2':=((hl2.extBut b1.extBut Z.l2z).extBut b2.extBut Z.l2i1).extBut b3.extBut Z.l2TO;refine vA (v9 h2' hl2' hy λg4 it2 b4=>vH ?_);have o4:uM g4 TO x b:=b4.extBut _ _ Z.TOi2 o3;refine vA (v6 o4 rfl (vA (ut o4 λg5 o5 b5=>?_)));replace o5:uM g5 TO x y:=o5;refine vA (tY (vH (vH ?_)));refine vA (v6 o5 rfl (vA (u9 ?_)));have sz:g5.objs.size=s.heap.objs.size:=by rw[b5.1,b4.1,b3.1,b2.1,b1.1]
 have z5:Xo g5 z TI TO .ellipsis f1:=b5.extBut _ _ Z.TOz.symm (b4.extBut _ _ Z.i2z.symm (b3.extBut _ _ Z.TOz.symm (b2.extBut _ _ Z.i1z.symm z1)));have k5:∀c o,c≠z->c≠TO->c≠i1->c≠i2->s.heap.get? c=some o->g5.get? c=some o:=λc o n1 n2 n3 n4 e=>b5.extBut _ _ n2 (b4.extBut _ _ n4 (b3.extBut _ _ n2 (b2.extBut _ _ n3 (b1.extBut _ _ n1 e))));have j1:g5.IsListIter i1 l1 (k1+1):=((it1.extBut b3.extBut Z.TOi1.symm).extBut b4.extBut Z.i12).extBut b5.extBut Z.TOi1.symm;have j2:g5.IsListIter i2 l2 (k2+1):=it2.extBut b5.extBut Z.TOi2.symm;have zl:z<g5.objs.size:=zO z5;show vN _ _ (Builtin.SmallTypes.ownedTupleHandOut (.ref z) (.ref g5.objs.size) >>= _) _ _ _;refine vA ?_;unfold Builtin.SmallTypes.ownedTupleHandOut;have z6:Xo (g5.push { cls:=.type "tuple", data:=.seq #[x,y] }) z TI TO .ellipsis f1:=zH _ z5;refine vA (vg z6 (by simp) λg7 z7 b7=>?_);replace z7:Xo g7 z TI TO (v8 g5.objs.size) f1:=z7;refine vg z7 (by simp) λg8 z8 b8=>?_;replace z8:Xo g8 z TI TO (v8 g5.objs.size) (.bool false):=z8;have up:∀c o,c≠z->g5.get? c=some o->g8.get? c=some o:=λc o n e=>b8.extBut _ _ n (b7.extBut _ _ n (zH _ e));have t8:uM g8 g5.objs.size x y:=b8.extBut _ _ (wI zl) (b7.extBut _ _ (wI zl) (zS _ rfl));rw[sz]at z8 t8;refine vH ⟨_,rfl,vH ?_⟩;show Q (some (.ref g5.objs.size)) _;rw[sz];exact hQ g8 z8 (up _ _ Z.TOz o5) (j1.at λo e=>up _ o Z.i1z e) (j2.at λo e=>up _ o Z.i2z e) t8 λc o n1 n2 n3 n4 e=>up c o n1 (k5 c o n1 n2 n3 n4 e)
def qdK{z TI TO i1 i2 l1 l2:vJ}{k1 k2:Nat}{xs ys:Array vB}{a b f0 f1:vB}{Q:Option vB->vG->Prop}(hh:A.handled=none)(Z:tD z TI TO i1 i2 l1 l2)(hz:Xo s.heap z TI TO f0 f1)(hf:f0=.none\/∃t:vJ,f0=v8 t/\s.heap.get? t=none)(hTI:uM s.heap TI (.ref i1) (.ref i2))(hTO:uM s.heap TO a b)(h1:s.heap.IsListIter i1 l1 k1)(h2:s.heap.IsListIter i2 l2 k2)(hl1:s.heap.IsList l1 xs)(hl2:s.heap.IsList l2 ys)(hend:xs[k1]?=none\/ys[k2]?=none)(hQ:∀g,(∀c o,c≠z->c≠TO->c≠i1->c≠i2->s.heap.get? c=some o->g.get? c=some o)->Q none { s with heap:=g }):
  vN (model prog w) A (uI (.ref z)) Q E s:=by
 have tz:s.TypeIs (.ref z) "zip" := ⟨_,hz,rfl⟩;unfold uI;refine vA (uJ (wpAny_callSpecial?_slot (name:=Str.ofString "__next__") tz PySem.F.slot_zip_next (ve PySem.F.slot_zip_next tz PySem.F.entry_zip_next ?_ (PySem.F.args_zip_next_1 _))));show vN _ _ (field (.ref z) 2 >>= _) _ _ _;refine vA (vt hz rfl (x:=.bool false) rfl ?_);show vN _ _ (field (.ref z) 3 >>= _) _ _ _;refine vA (vt hz rfl (x:=.ref TI) rfl ?_);refine vA (v6 hTI rfl ?_);show vN _ _ (Builtin.SmallTypes.ownedTupleIsFree (.ref z) >>= _) _ _ _;refine vA (q9i hz hf ?_);simp only[if_true];refine vA (uD (vA (vt hz rfl (x:=.ref TO) rfl ?_)));refine vA (vg hz (by simp) λg1 z1 b1=>?_);replace z1:Xo g1 z TI TO .ellipsis f1:=z1;refine vA ?_;simp only[ZC,YX,wA,wm];refine vA (vA (tJ ?_));show vN _ _ (Builtin.SmallTypes.nextOf (.ref i1) >>= _) _ _ _;cases hx:xs[k1]? with
 | none=>
  refine vA (uW hh (h1.extBut b1.extBut Z.i1z) (hl1.extBut b1.extBut Z.l1z) hx λg2 e b2 he=>?_);obtain⟨oe,q1,q2⟩:=he;have z2:Xo g2 z TI TO .ellipsis f1:=b2 _ _ Z.i1z.symm z1;have ne:e≠z:=λv=>by subst v;rw[z2]at q1;cases q1;simp at q2
  refine vg z2 (by simp) λg3 _ b3=>?_;refine vA (uE (T := "StopIteration") (b:=true) ⟨oe,b3.extBut _ _ ne q1,q2⟩ uY ?_);exact vH (hQ _ λc o n1 _ n3 _ v=>b3.extBut _ _ n1 (b2 _ _ n3 (b1.extBut _ _ n1 v)))
 | some x=>
  have hy:ys[k2]?=none:=by rcases hend with h|h;rw[hx]at h;cases h;exact h
  refine vA (v9 (h1.extBut b1.extBut Z.i1z) (hl1.extBut b1.extBut Z.l1z) hx λg2 it1 b2=>vH ?_);have o2:uM g2 TO a b:=b2.extBut _ _ Z.TOi1 (b1.extBut _ _ Z.TOz hTO);refine vA (v6 o2 rfl (vA (ut o2 λg3 o3 b3=>?_)));refine vA (tY (vH (vA (vA (tJ ?_)))));show vN _ _ (Builtin.SmallTypes.nextOf (.ref i2) >>= _) _ _ _;have h2':=((h2.extBut b1.extBut Z.i2z).extBut b2.extBut Z.i12.symm).extBut b3.extBut Z.TOi2.symm;have hl2':=((hl2.extBut b1.extBut Z.l2z).extBut b2.extBut Z.l2i1).extBut b3.extBut Z.l2TO;refine vA (uW hh h2' hl2' hy λg4 e b4 he=>?_);obtain⟨oe,q1,q2⟩:=he;have z4:Xo g4 z TI TO .ellipsis f1:=b4 _ _ Z.i2z.symm (b3.extBut _ _ Z.TOz.symm (b2.extBut _ _ Z.i1z.symm z1));have ne:e≠z:=λv=>by subst v;rw[z4]at q1;cases q1;simp at q2
  refine vg z4 (by simp) λg5 _ b5=>?_;refine vA (uE (T := "StopIteration") (b:=true) ⟨oe,b5.extBut _ _ ne q1,q2⟩ uY ?_);exact vH (hQ _ λc o n1 n2 n3 n4 v=>b5.extBut _ _ n1 (b4 _ _ n4 (b3.extBut _ _ n2 (b2.extBut _ _ n3 (b1.extBut _ _ n1 v)))))
def qcs{z TI TO i1 i2 l1 l2:vJ}{k1 k2:Nat}{xs ys:Array vB}{x y a b f0 f1:vB}{Q:Option vB->vG->Prop}(Z:tD z TI TO i1 i2 l1 l2)(hz:Xo s.heap z TI TO f0 f1)(hf:f0=.none\/∃t:vJ,f0=v8 t)(hTI:uM s.heap TI (.ref i1) (.ref i2))(hTO:uM s.heap TO a b)(h1:s.heap.IsListIter i1 l1 k1)(h2:s.heap.IsListIter i2 l2 k2)(hl1:s.heap.IsList l1 xs)(hl2:s.heap.IsList l2 ys)(hx:xs[k1]?=some x)(hy:ys[k2]?=some y)(hQ:∀(g:vn)(t:vJ)(f1':vB),Xo g z TI TO (v8 t) f1'->(∃a b,uM g TO a b)->g.IsListIter i1 l1 (k1+1)->g.IsListIter i2 l2 (k2+1)->uM g s.heap.objs.size x y ->
   (∀c o,c≠z->c≠TO->c≠i1->c≠i2->s.heap.get? c=some o->g.get? c=some o)->Q (some (.ref s.heap.objs.size)) { s with heap:=g }) :
  vN (model prog w) A (uI (.ref z)) Q E s:=by
 have dead:(f0=.none\/∃t:vJ,f0=v8 t/\s.heap.get? t=none)->vN (model prog w) A (uI (.ref z)) Q E s:=λhd=>
  qdr Z hz hd hTI hTO h1 h2 hl1 hl2 hx hy λg a1 a2 a3 a4 a5 a6=>hQ g _ _ a1 ⟨_,_,a2⟩ a3 a4 a5 a6
 rcases hf with hf|⟨t,rfl⟩
 ·exact dead (.inl hf)
 ·cases ht:s.heap.get? t with
  | none=>exact dead (.inr ⟨t,rfl,ht⟩)
  | some ot=>exact qdc Z hz ht hTI h1 h2 hl1 hl2 hx hy λg f1' a1 a2 a3 a4 a5=>hQ g t f1' a1 ⟨a,b,a5 _ _ Z.TOz Z.TOi1 Z.TOi2 hTO⟩ a2 a3 a4 λc o n1 _ n3 n4 e=>a5 c o n1 n3 n4 e
def qe9{z TI TO i1 i2 l1 l2:vJ}{k1 k2:Nat}{xs ys:Array vB}{a b f0 f1:vB}{Q:Option vB->vG->Prop}(hh:A.handled=none)(Z:tD z TI TO i1 i2 l1 l2)(hz:Xo s.heap z TI TO f0 f1)(hf:f0=.none\/∃t:vJ,f0=v8 t)(hTI:uM s.heap TI (.ref i1) (.ref i2))(hTO:uM s.heap TO a b)(h1:s.heap.IsListIter i1 l1 k1)(h2:s.heap.IsListIter i2 l2 k2)(hl1:s.heap.IsList l1 xs)(hl2:s.heap.IsList l2 ys)(hend:xs[k1]?=none\/ys[k2]?=none)(hQ:∀g,(∀c o,c≠z->c≠TO->c≠i1->c≠i2->s.heap.get? c=some o->g.get? c=some o)->Q none { s with heap:=g }):
  vN (model prog w) A (uI (.ref z)) Q E s:=by
 have dead:(f0=.none\/∃t:vJ,f0=v8 t/\s.heap.get? t=none)->vN (model prog w) A (uI (.ref z)) Q E s:=λhd=>qdK hh Z hz hd hTI hTO h1 h2 hl1 hl2 hend hQ;rcases hf with hf|⟨t,rfl⟩
 ·exact dead (.inl hf)
 ·cases ht:s.heap.get? t with
  | none=>exact dead (.inr ⟨t,rfl,ht⟩)
  | some ot=>exact qdO hh Z hz ht hTI h1 h2 hl1 hl2 hend λg k=>hQ g λc o n1 _ n3 n4 e=>k c o n1 n3 n4 e
def qck{z TI TO:vJ}{f0 f1:vB}{Q:vB->vG->Prop}(hz:Xo s.heap z TI TO f0 f1)(h:Q (.ref z) s):vN (model prog w) A (t6 (.ref z)) Q E s:=by
 have tz:s.TypeIs (.ref z) "zip" := ⟨_,hz,rfl⟩;refine tF tz PySem.F.slot_zip_iter (ve PySem.F.slot_zip_iter tz PySem.F.entry_zip_iter ?_ (PySem.F.args_zip_iter_1 _));show vN _ _ (ret (.ref z)) _ _ s;exact vH ⟨_,rfl, "zip", _,tz,PySem.F.slot_zip_next.lookup,h⟩
end
end Hk
namespace L2
open PySem PySem.Spec PyProof.Rows Hk
def qcJ{P:vQ}{w:vZ}{K:zA}{y:Str}{tpos:Pos}(a b z TI TO i1 i2:vJ)(D:tD z TI TO i1 i2 a b):
  Turn P w K (.Name y tpos) (Itz K a b) [z,TI,TO,i1,i2] z (λi h=>(∃f0 f1,Xo h z TI TO f0 f1/\(f0=.none\/∃t:vJ,f0=v8 t))/\uM h TI (.ref i1) (.ref i2)/\(∃x y,uM h TO x y)/\h.IsListIter i1 a i/\h.IsListIter i2 b i) where
 mem:=by simp
 obj:=λi h st c hc=>by
  obtain⟨⟨_,_,s1,_⟩,s2,⟨_,_,s3⟩,⟨o4,e4,c4,d4⟩,⟨o5,e5,c5,d5⟩⟩:=st;simp only[zF,zg,or_false]at hc;rcases hc with rfl|rfl|rfl|rfl|rfl
  ·exact⟨_,s1,λv y=>by cases (show Data.fields _=Data.cell v from y)⟩
  ·exact⟨_,s2,λv y=>by cases (show Data.seq _ _=Data.cell v from y)⟩
  ·exact⟨_,s3,λv y=>by cases (show Data.seq _ _=Data.cell v from y)⟩
  ·exact⟨_,e4,λv y=>by rw[d4]at y;cases y⟩
  ·exact⟨_,e5,λv y=>by rw[d5]at y;cases y⟩
 keep:=λi h h' st k=>by
  obtain⟨⟨f0,f1,s1,hf⟩,s2,⟨x,y,s3⟩,s4,s5⟩:=st;exact⟨⟨f0,f1,k _ (by simp) _ s1,hf⟩,k _ (by simp) _ s2,⟨x,y,k _ (by simp) _ s3⟩,s4.at λo e=>k _ (by simp) o e,s5.at λo e=>k _ (by simp) o e⟩
 item:=by
  intro X hP hw hK hc i pins s σ H E I hf st hg;subst hP hw hK;obtain⟨xs,ys,x,y,hq1,hq2,hx,hy⟩:=hg;obtain⟨its1,rv1,p1,hz1⟩:=I.list hq1;obtain⟨its2,rv2,p2,hz2⟩:=I.list hq2;obtain⟨u1,hu1,ru1⟩:=rv1.get hx;obtain⟨u2,hu2,ru2⟩:=rv2.get hy;obtain⟨⟨f0,f1,s1,hf0⟩,s2,⟨_,_,s3⟩,s4,s5⟩:=st;have ex:∀c∈[z,TI,TO,i1,i2],∃o,s.heap.get? c=some o:=λc hc=>by
   simp only[zF,zg,or_false]at hc;rcases hc with rfl|rfl|rfl|rfl|rfl
   ·exact⟨_,s1⟩
   ·exact⟨_,s2⟩
   ·exact⟨_,s3⟩
   ·obtain⟨o,e,_⟩:=s4;exact⟨o,e⟩
   ·obtain⟨o,e,_⟩:=s5;exact⟨o,e⟩
  have nt:∀c∈[z,TI,TO,i1,i2],c≠s.heap.objs.size:=λc hc=>by
   obtain⟨o,e⟩:=ex c hc;exact zi (zO e)
  refine qcs D s1 hf0 s2 s3 s4 s5 p1.isList p2.isList (x:=u1) (y:=u2) (by simpa using hu1) (by simpa using hu2) λh' t' f1' a1 a2 a3 a4 a5 hk=>?_;have hn:H s.heap.objs.size=none:=I.hok.fresh (zM _);have I1:Inv X pins σ (upd H s.heap.objs.size (.tup [x,y])) { s with heap:=s.heap.push { cls:=.type "tuple", data:=.seq #[u1,u2] },toks:=s.toks } :=
   I.laid (λb o e=>zH _ e) (zM _) (show XF X.prog X.w _ _ _ (.tup [x,y])from ⟨by show 2<=sizeLine;decide,[u1,u2],.cons ru1 (.cons ru2 .nil),⟨_,zS _ rfl,rfl,_,rfl⟩⟩)
  have hf':∀c∈[z,TI,TO,i1,i2],zBe X pins (upd H s.heap.objs.size (.tup [x,y])) c:=λc hc=>by
   obtain⟨q0,q⟩:=hf c hc;exact⟨by rw[qd (nt c hc)];exact q0,q⟩
  have I2:Inv X pins σ (upd H s.heap.objs.size (.tup [x,y])) { s with heap:=h',toks:=s.toks }:=I1.turnedL (λb o hb e=>by
   simp only[zF,zg,or_false,not_or]at hb
   by_cases q:b=s.heap.objs.size
   ·subst q
    rw[zS _ rfl]at e;cases e;exact a5
   ·have e':s.heap.get? b=some o:=by
     rcases yB b s.heap.objs.size with l|l
     ·obtain⟨z1,z2⟩:=wE.mp e
      refine wE.mpr ⟨?_,z2⟩;rw[<- z1];show s.heap.objs[b]?=(s.heap.objs.push _)[b]?;rw[Ze,vF q]
     ·have:=zO e
      rw[yc]at this;exact vK (by simp only[vJ]at *;omega) q
    exact hk b o hb.1 hb.2.2.1 hb.2.2.2.1 hb.2.2.2.2 e') hf'
  refine⟨_,rfl,vH ?_⟩;exact⟨.ref s.heap.objs.size,_,I2,rfl,⟨_,x,y,hn,rfl,rfl,λxs' ys' q1 q2=>⟨by rw[I.list_inj q1 hq1];exact hx,by rw[I.list_inj q2 hq2];exact hy⟩⟩,⟨⟨_,_,a1,.inr ⟨_,rfl⟩⟩,hk _ _ D.TIz D.TITO D.TIi1 D.TIi2 s2,a2,a3,a4⟩,λc hc=>(hf' c hc).1⟩
 done:=by
  intro X hP hw hK hc i pins s σ H E I hf st hg;subst hP hw hK;obtain⟨xs,ys,hq1,hq2,hx⟩:=hg;obtain⟨its1,rv1,p1,hz1⟩:=I.list hq1;obtain⟨its2,rv2,p2,hz2⟩:=I.list hq2;obtain⟨⟨f0,f1,s1,hf0⟩,s2,⟨_,_,s3⟩,s4,s5⟩:=st;have l1:=rv1.length;have l2:=rv2.length;refine qe9 (I.ok.hd hc) D s1 hf0 s2 s3 s4 s5 p1.isList p2.isList ?_ λh' hk=>⟨rfl,I.turnedL (t':=s.toks) (λb o hb e=>?_) hf⟩
  ·rcases hx with hx|hx
   ·exact .inl (by rw[xr]at hx;simp;omega)
   ·exact .inr (by rw[xr]at hx;simp;omega)
  ·simp only[zF,zg,or_false,not_or]at hb
   exact hk b o hb.1 hb.2.2.1 hb.2.2.2.1 hb.2.2.2.2 e
 self:=λ_ _ _ _ _ st h=>by
  obtain⟨⟨f0,f1,s1,hf⟩,_⟩:=st;exact qck s1 h
def qfr{X:Cx}{a b:vW}{ta:TA}{p pos tpos:Pos}{y:Str}(hg:Gl X "zip")(hm:X.mg "zip" = none)(ha:PA X [a,b] ta)(hs:vL [a,b] X.env=[(false,eval a X.env),(false,eval b X.env)]:=by rfl)(hs2:vL [b] X.env=[(false,eval b X.env)]:=by rfl):
  PI X (.Name y tpos) (.Call (.Name "zip" p) [a,b] [] pos) (iZip X.K ta):=by
 intro pins s σ H R I h;refine Call_ (q1M I hg hm PyProof.Rows.boot_zip (PyProof.Rows.callWith_type1 (thn (ha pos pins s σ H _ I h) λus s1 ⟨vs,H1,I1,r1,q1⟩=>?_) (by rw[hs,hs2]) (by rw[hs2];rfl)));obtain⟨l1,l2,xs,ys,e,hq1,hq2,q⟩:=q1;subst e;cases r1 with
 | cons r rr=>
  cases rr with
  | cons r' rr=>
   cases rr;cases r;cases r';obtain⟨its1,rv1,p1,hz1⟩:=I1.list hq1;obtain⟨its2,rv2,p2,hz2⟩:=I1.list hq2;have e1:l1<s1.heap.objs.size:=by obtain⟨_,_,e,_⟩:=p1;exact zO e
   have e2:l2<s1.heap.objs.size:=by obtain⟨_,_,e,_⟩:=p2;exact zO e
   refine call_zip_2 p1.isList p2.isList λh' a1 a2 a3 a4 a5 a6 hk=>?_;refine wpAny_pyIter_zip a1 ?_;have D:tD (s1.heap.objs.size+4) (s1.heap.objs.size+2) (s1.heap.objs.size+3) s1.heap.objs.size (s1.heap.objs.size+1) l1 l2:=by
    generalize s1.heap.objs.size=n at *
    constructor <;> (intro q;simp only[vJ]at *;omega)
   refine⟨s1.heap.objs.size+4,[s1.heap.objs.size+4,s1.heap.objs.size+2,s1.heap.objs.size+3,s1.heap.objs.size,s1.heap.objs.size+1],_,_,H1,rfl,I1.kept (t':=s1.toks) hk,qcJ l1 l2 _ _ _ _ _ D,⟨⟨_,_,a1,.inl rfl⟩,a2,⟨_,_,a3⟩,a4,a5⟩,λc hc=>?_,q⟩;have hle:s1.heap.objs.size<=c:=by
    simp only[zF,zg,or_false]at hc;simp only[vJ]at *;omega
   exact I1.fpOk hle (I1.hok.fresh hle)
end L2
namespace Hk
open PySem L2
def qfj{X:Cx}{a b:vW}{g:FA}{p pos tpos:Pos}{y:Str}(hg:Gl X "zip")(hm:X.mg "zip" = none)(ha:XA X [a,b] g)(hs:vL [a,b] X.env=[(false,eval a X.env),(false,eval b X.env)]:=by rfl)(hs2:vL [b] X.env=[(false,eval b X.env)]:=by rfl):
  XI X (.Name y tpos) (.Call (.Name "zip" p) [a,b] [] pos) (iZp g):=by
 obtain⟨⟨t,h1,h2⟩,_⟩:=ha;refine⟨_,qfr hg hm h1 hs hs2,λG0 H0 G ω σ H ds R o e k=>?_⟩;obtain⟨vs,q,e⟩:=bnd e;refine h2 G0 H0 G ω σ H vs _ o q λus G1 H1 x1 y1=>?_
 match vs,e with
 | [.lst as,.lst bs],e=>
  cases e;obtain⟨v1,r1,rfl,z1,z2⟩:=y1;obtain⟨v2,r2,rfl,z3,z4⟩:=z2;cases (show r2=[]from z4);obtain⟨a1,ws1,rfl,f1,f2⟩:=z1;obtain⟨a2,ws2,rfl,f3,f4⟩:=z3;exact⟨a1,a2,ws1,ws2,rfl,SqL.of (x1.gh _ _ f1),SqL.of (x1.gh _ _ f3),k _ G1 H1 x1 (qdM f1 f2 f3 f4)⟩
end Hk
namespace L2
open PySem PySem.Spec PyProof.Rows
end L2
namespace Hk
open PySem L2
noncomputable def zCr:Option (Option W)->Option (List D)
 | some ↥(.dic ks _)=>some (ks.map D.int)
 | _=>none
noncomputable def iDk(i:Nat):FI:=λω=>zCr ω[i]?
end Hk
namespace L2
open PySem PySem.Spec PyProof.Rows
section
variable{X:Cx}{pins:List (vJ×Obj)}{σ:St}{H:Hp}{s:vG}{a:vJ}{A:vb}{E:vB->vG->Prop}{kvs:List (Key×V)}{k:Key}{u r:vB}{z:V}
def qdG{Q:vB->vG->Prop}(I:Inv X pins σ H s)(e:H a=some (.dK kvs))(hz:kvs.length<sizeLine)(ry:RelV (kV k) u)(rz:RelV z r)(h1:∀v w' s',Ww kvs k=some v->Inv X pins σ H s'->RelV v w'->Q w' s')(h2:Ww kvs k=none->∀s',Inv X pins σ (upd H a (.dK (putK kvs k z))) s'->Q r s'):
  vN (model X.prog X.w) A (call (.builtin "dict.setdefault") [.ref a,u,r]) Q E s:=by
 obtain⟨zl,hd,vs,rel,dd⟩:=qaZ I.hok e;have rv:=rel.val k;refine sJ PySem.F.slot_dict_setdefault dd.typeIs PySem.F.entry_dict_setdefault (PySem.F.args_dict_setdefault_3 _ _ _) (kt_meets_setdefault (Y5 X.prog X.w) a (q3R ry) hd r)
  ⟨vs,dd,by rw[<- rel.length];exact zl,λv hv=>?_,λhn h' dd' hs=>?_⟩
 ·rw[hv]at rv
  cases q:Ww kvs k with
  | none=>rw[q]at rv;exact rv.elim
  | some v0=>rw[q]at rv;exact h1 v0 v _ q (I.tok _) rv
 ·rw[hn]at rv
  cases q:Ww kvs k with
  | some v0=>rw[q]at rv;exact rv.elim
  | none=>
   refine h2 q _ ?_;have he:∃q,h'.get? a=some q:=let ⟨q,_,_,hq,_⟩:=dd';⟨q,hq⟩
   have hl:(putK kvs k z).length<=sizeLine:=by rw[qeh z q,zC,zx];exact hz
   exact q4E I (by rw[e];exact True.intro) hs he (q8G hl hd (rel.put k rz) dd')
end
noncomputable def tDSd(td ty tx:TE):TE:=λσ H Q=>td σ H λx H1=>∃a,x=.ref a/\IsD H1 a/\ty σ H1 λy H2=>tx σ H2 λz H3=>∃kvs k,H3 a=some (.dK kvs)/\y=kV k/\kvs.length<sizeLine /\
 (∀v,Ww kvs k=some v->Q v H3)/\(Ww kvs k=none->Q z (upd H3 a (.dK (putK kvs k z))))
def qgn{X:Cx}{o e f:vW}{apos cpos:Pos}{td ty tx:TE}(ho:PE X o td)(he:PE X e ty)(hf:PE X f tx)(m:M2 X o "setdefault" apos e f cpos):PE X (.Call (.Attribute o "setdefault" apos) [e,f] [] cpos) (tDSd td ty tx):=by
 intro pins s σ H Q I h;refine wpAny_Call_method m.base m.few m.line PySem.F.plainAttrs_dict PySem.F.slot_dict_setdefault PySem.F.type_dict_setdefault (thn (ho pins s σ H _ I h) λu s1 ⟨x,H1,I1,rx,a,ex,d,q1⟩=>?_);subst ex;obtain rfl:u=Value.ref a:=rx;obtain⟨t1,t2,_⟩:=qcA I1 d;refine⟨t1,t2,?_⟩;rw[m.trees];refine Calls.callWith_builtin rfl (Calls.evalArgs_plain (Calls.spliced_cons (thn (he pins s1 σ H1 _ I1 q1) λiv s2 ⟨y,H2,I2,ry,q2⟩=>
  Calls.spliced_cons (thn (hf pins s2 σ H2 _ I2 q2) λfv s3 ⟨z,H3,I3,rz,kvs,k,ea,ey,hz,g1,g2⟩=>Calls.spliced_nil ?_))))
 subst ey;exact qdG I3 ea hz ry rz (λv w' s4 hv I4 rw'=>⟨v,H3,I4,rw',g1 v hv⟩) λhn s4 I4=>⟨z,_,I4,rz,g2 hn⟩
end L2
namespace Hk
open PySem L2
theorem q0F{α:Type}:∀{ks:List Int}{xs:List α}{k:Int},ks.length=xs.length->(XC ks xs k).isSome=decide (k∈ks)
 | [],[],k,_=>by simp[XC]
 | [],_::_,_,h=>by simp at h
 | _::_,[],_,h=>by simp at h
 | k'::ks,x::xs,k,h=>by
  show (if k'=k then some x else XC ks xs k).isSome=_
  by_cases z:k'=k
  ·rw[vC z,vS (by rw[z];exact zI)];rfl
  ·rw[vF z,q0F ⇑h]
   have:(k∈k'::ks)↔k∈ks:=⟨λm=>(zF.mp m).resolve_left λe=>z e.symm,zG _⟩;rw[decide_eq_decide.mpr this]
theorem q7j{α:Type}{v:α}:∀{ks:List Int}{xs:List α}{k:Int},ks.length=xs.length->k∉ks->XC (ks++[k]) (xs++[v]) k=some v
 | [],[],k,_,_=>vC rfl
 | [],_::_,_,h,_=>by simp at h
 | _::_,[],_,h,_=>by simp at h
 | k'::ks,x::xs,k,h,hk=>by
  show (if k'=k then some x else XC (ks++[k]) (xs++[v]) k)=some v;rw[vF (λz=>hk (by rw[z];exact zI))];exact q7j ⇑h λm=>hk (zG _ m)
noncomputable def Xu(st:List Int×List (List Int))(n:Int)(a:Int):List Int×List (List Int) :=
 if a∈st.1 then (st.1,Wm st.1 st.2 a n)else (st.1++[a],Wm (st.1++[a]) (st.2++[[]]) a n)
noncomputable def byS(as:List (Int×Int)):Nat->List Int×List (List Int)
 | 0=>([],[])
 | n+1=>match as[n]? with
  | some a=>Xu (byS as n) n a.1
  | none=>byS as n
noncomputable def spT(K:zA):Sp:=λvs H Q _=>∃(G:Hp) (as:List (Int×Int)),Y7 G H/\Yx K G [.lst (as.map pairD2)] vs/\as.length<=9000 /\
 ∀G' p ls H',Ext G H G' H'->Tab G' H H' p (byS as as.length).1 ls (byS as as.length).2->Q (.ref p) H'
theorem qeP(as:List (Int×Int)):∀n:Nat,(byS as n).1.length<=n/\∀xs∈(byS as n).2,xs.length<=n
 | 0=>⟨zM _,λxs h=>by cases h⟩
 | n+1=>by
  obtain⟨h1,h2⟩:=qeP as n;unfold byS;cases q:as[n]? with
  | none=>exact⟨by show (byS as n).1.length<=_;omega,λxs hx=>by have:=h2 xs hx;omega⟩
  | some a=>
   show (Xu (byS as n) n a.1).1.length<=_/\∀xs∈(Xu (byS as n) n a.1).2,_;unfold Xu
   split
   ·exact⟨by show (byS as n).1.length<=_;omega,q3u n _ _ _ _ h2⟩
   ·refine⟨by show ((byS as n).1++[a.1]).length<=_;rw[zC,zx];omega,q3u n _ _ _ _ λxs hx=>?_⟩
    rcases zT.mp hx with y|y
    ·exact h2 xs y
    ·cases zb.mp y;exact yE _
section
variable{K:zA}{G0:Hp}{H0:Fr}{G:Hp}{ω:WSt}{σ:St}{H:Hp}
end
def noOw4{d0 d2 d3:Option D}:WJ [d0.map W.sh,none,d2.map W.sh,d3.map W.sh]:=by
 intro i w h
 match i,h with
 | 0,h=>cases d0 <;> cases h;exact⟨_,rfl⟩
 | 1,h=>cases h
 | 2,h=>cases d2 <;> cases h;exact⟨_,rfl⟩
 | 3,h=>cases d3 <;> cases h;exact⟨_,rfl⟩
 | i+4,h=>simp at h
section
variable{X:Cx}
def qfu{ta:TE}{g0:FD}(k2:zBi X.K ta g0){G0:Hp}{H0:Fr}{G:Hp}{ω:WSt}{σ:St}{H:Hp}{p:vJ}{ks:List Int}{ls:List vJ}{xss:List (List Int)}{a n:Int}{Q:VK}(o:Own X.K G0 H0 G ω σ H)(no:WJ ω)(s1:σ[1]?=some (some (.ref p)))(s2:σ[2]?=some (some (.int n)))(T:Tab G H0 H p ks ls xss)(h0:g0 ω=some (.int a))(hk:ks.length<1000000)(hz:∀xs∈xss,xs.length<1000000)(h:∀G' H' ls',Own X.K G0 H0 G' ω σ H'->Y7 G G'->Tab G' H0 H' p (Xu (ks,xss) n a).1 ls' (Xu (ks,xss) n a).2->Q .non H'):
  tBM X.K "list" WM (tDSd (Xg 1) ta (zCx zAw)) (zAG (Xg 2) zAw) σ H Q:=by
 have hlen:ks.length=(ls.map V.ref).length:=by rw[zB];exact T.len
 refine⟨.ref p,s1,p,rfl,.inl ⟨_,.inl T.dict⟩,k2 G0 H0 G ω σ H _ _ o h0 λu G1 H1 x1 y1=>?_⟩;cases (show u=.int a from y1);have o1:=o.keep x1;have T1:=T.keep x1;refine⟨by show 0<=sizeLine;exact yE _,λq hq=>?_⟩;have hpq:p≠q:=λz=>by rw[<- z,T1.dict]at hq;cases hq
 have x2:=Ext.hide o1.gh hq (.lst []);have o2:=o1.keep x2;have T2:=T1.keep x2;have vv:Ww (kvsOf ks (ls.map V.ref)) (Sum.inl a:Key)=XC ks (ls.map V.ref) a:=q09 hlen a;refine⟨kvsOf ks (ls.map V.ref),Sum.inl a,T2.dict,rfl,by rw[q33 hlen,vp];omega,λv hv=>?_,λhn=>?_⟩
 ·
  have ha:a∈ks:=by
   have:=q0F (ks:=ks) (xs:=ls.map V.ref) (k:=a) hlen;rw[vv]at hv;rw[hv]at this;exact of_decide_eq_true this.symm
  obtain⟨l,xs,n1,n2,n3,n4,n5,n6⟩:=T2.app n ha;rw[vv,n3]at hv;cases hv;refine⟨.inl ⟨rfl,_,SqL.of n5⟩,.int n,s2,l,_,.int n,rfl,rfl,n5,by rw[zB,vp];have:=hz xs n2;omega,?_⟩;rw[show xs.map V.int++[V.int n]=(xs++[n]).map V.int by rw[zc];rfl];refine h G1 _ ls (o2.free no (T2.gl l n1).1 (T2.gl l n1).2) x1.gg ?_;unfold Xu;rw[vC ha];exact n6
 ·have ha:a∉ks:=λha=>by
   have:=q0F (ks:=ks) (xs:=ls.map V.ref) (k:=a) hlen;rw[vv]at hn;rw[hn,vS ha]at this;cases this
  obtain⟨H4,_,e4,T4⟩:=T1.put (l:=q) ha hq o1.gh o1.ext.hh hk;have ep:putK (kvsOf ks (ls.map V.ref)) (Sum.inl a) (.ref q)=kvsOf (ks++[a]) ((ls++[q]).map V.ref):=by
   rw[q4h hlen];unfold Wk putA;rw[vF ha,vF ha,zc];rfl
  rw[ep,<- e4];have gp:=T1.gp;have gq:G1 q=none:=o1.gh.free hq;have h0q:H0 q=none:=o1.ext.hh.free hq;have o4:Own X.K G0 H0 G1 ω σ H4:=by rw[e4];exact o2.free no T1.gp T1.hp
  obtain⟨l,xs,n1,n2,n3,n4,n5,n6⟩:=T4.app n (a:=a) (by simp);have hq4:H4 q=some (.lst []):=by rw[e4,qd (Ne.symm hpq)];exact qe
  have lq:l=q:=by
   have:XC (ks++[a]) ((ls++[q]).map V.ref) a=some (.ref q):=by
    rw[zc];exact q7j hlen ha
   rw[this]at n3;cases n3;rfl
  subst lq;rw[hq4]at n5;have xe:xs=[]:=by
   cases xs with
   | nil=>rfl
   | cons y ys=>cases n5
  subst xe;refine⟨.inl ⟨rfl,_,SqL.of hq4⟩,.int n,s2,l,_,.int n,rfl,rfl,hq4,by show 0<sizeLine;rw[vp];omega,?_⟩;refine h G1 _ (ls++[l]) (o4.free no gq h0q) x1.gg ?_;unfold Xu;rw[vF ha];exact n6
def qfP{x1 x2 x3:Str}{o0 o1 e0 e1 e2:vW}{q1 q2 q3 q4 q5 q6 q9 q12 q15 a1 a2 c1 c2 ep ec tp:Pos}{kx}{g0:FD}(hp:tL (model X.prog X.w) X.A X.env X.xe)(hc:X.calm=true)(hN:X.N.Nodup)(i1:X.N[1]?=some x1)(i2:X.N[2]?=some x2)(i3:X.N[3]?=some x3)(l1:Loc X.env.scope x1)(l2:Loc X.env.scope x2)(l3:Loc X.env.scope x3)(f1:X.fn x1=true\/X.env.scope.names.lookup x1=some .local)(f2:X.fn x2=true\/X.env.scope.names.lookup x2=some .local)(f3:X.fn x3=true\/X.env.scope.names.lookup x3=some .local)(hge:Gl X "enumerate")(hme:X.mg "enumerate" = none)(h0:PE X o0 (Xg 0))(h1:PE X o1 (Xg 1))(h2:PE X e1 (Xg 2))(h3:PE X e2 (Xg 1))(ha:XD X e0 g0)(hg0:∀(ω:WSt)e,ω[3]?=some (some (.sh (pairD2 e)))->g0 ω=some (.int e.1))(hl:X.N.length=4)(m2:M2 X o1 "setdefault" a1 e0 (.List [] q4) c1)(s1:v3 (.Dict [] [] q1) (some (.Name x1 q2)) q3.line X.env=pure false)(sE:vL [o0] X.env=[(false,eval o0 X.env)])(ab:uO (.Call (.Attribute o1 "setdefault" a1) [e0,.List [] q4] [] c1) "append" X.env (eval (.Call (.Attribute o1 "setdefault" a1) [e0,.List [] q4] [] c1) X.env)=eval (.Call (.Attribute o1 "setdefault" a1) [e0,.List [] q4] [] c1) X.env)(w1:((v4 c2 (vL [e1] X.env)).all (λx=>!x.1)&&(tM c2 (uf [] X.env)).all (λx=>x.1.isSome)&&decide (([e1]:List vW).length+([]:List uX).length+(if ([]:List uX).isEmpty then 0 else 1)<30))=true)(z1:(a2.endLine==c2.line)=true)(t1:vL [e1] X.env=(false,eval e1 X.env)::vL [] X.env)(p1:(v4 c2 (vL [] X.env)).any (·.1)=false)(v1:v3 (.Call (.Attribute (.Call (.Attribute o1 "setdefault" a1) [e0,.List [] q4] [] c1) "append" a2) [e1] [] c2) none q9.line X.env=pure false)(pg:∀t,PGs X [.Name x2 q5,.Name x3 q6] t->PG X (.Tuple [.Name x2 q5,.Name x3 q6] kx tp) (gTup X.K 2 t))(y1:∀x,vz (.Call (.Name "enumerate" ep) [o0] [] ec) X.env x=pure x){vs:List V}{H:Hp}{Q:VK}{E:XK}(sp:spT X.K vs H Q E):
  ∃t,PSs X [.Assign [.Name x1 q2] (.Dict [] [] q1) q3,.For (.Tuple [.Name x2 q5,.Name x3 q6] kx tp) (.Call (.Name "enumerate" ep) [o0] [] ec) [.Expr (.Call (.Attribute (.Call (.Attribute o1 "setdefault" a1) [e0,.List [] q4] [] c1) "append" a2) [e1] [] c2) q9] [] q12,.Return (some e2) q15] t /\
   t { nx:=λ_ H'=>Q .non H',rt:=Q } (L2.start X.N vs) H:=by
 obtain⟨ta,k1,k2⟩:=ha;refine⟨_,qC (q0b hN i1 l1 q7X s1 f1) (qC (q5z hp hc (qan hge hme (qA h0 qz sE) sE) (pg _ (q5f (q3o hN i2 l2 f2) (q5f (q3o hN i3 l3 f3) q9U)))
  (q0E (q1r (q3O PySem.F.plainAttrs_list PySem.F.slot_list_append PySem.F.type_list_append q0R (qgn h1 k1 (q2J qz) m2) (qA h2 qz t1) ab w1 z1 t1 p1) v1)) y1) (q0E (q49 h3))),?_⟩
 obtain⟨G,as,sg,rp,hlen,fin⟩:=sp;obtain⟨v0,rfl,A0,vs0,rfl,r1,r2⟩:=rp.one;have hl0:as.length=vs0.length:=by have:=r2.len;rw[zB]at this;exact this
 have hst:L2.start X.N [V.ref A0]=[some (.ref A0),none,none,none]:=by
  unfold L2.start;rw[hl];rfl
 rw[hst];intro p hp0;have no0:WJ [some (W.sh (.lst (as.map pairD2))),none,none,none]:=noOw4 (d0:=some (.lst (as.map pairD2))) (d2:=none) (d3:=none);have o0:Own X.K G (fr H) G [some (W.sh (.lst (as.map pairD2))),none,none,none] [some (.ref A0),none,none,none] H:=by
  refine⟨Ext.refl sg,rfl,λi d h=>?_,λi ds h=>vK h (no0.ow i ds),λi j ds es l h=>vK h (no0.ow i ds),λi ks ds h=>vK h (no0.od i ks ds),X4.no no0.pw⟩
  match i,h with
  | 0,h=>cases h;exact⟨_,rfl,A0,vs0,rfl,r1,r2⟩
  | 1,h=>cases h
  | 2,h=>cases h
  | 3,h=>cases h
  | i+4,h=>simp at h
 have o1:Own X.K G (fr H) G [some (W.sh (.lst (as.map pairD2))),none,none,none] [some (.ref A0),some (.ref p),none,none] (upd H p (.dK [])):=(o0.free no0 (sg.free hp0) hp0).other (i:=1) no0 λw z=>by cases z
 have T0:Tab G H (upd H p (.dK [])) p (byS as 0).1 [] (byS as 0).2:=⟨qe,sg.free hp0,hp0,rfl,rfl,λj l xs h=>(by simp at h),λl h=>(by cases h),ZY⟩;refine⟨.ref A0,rfl,A0,vs0,rfl,SqL.of (o1.gh _ _ r1),λi m σ' H'=>∃(G':Hp) (ls:List vJ) (y2 y3:Option D),Own X.K G (fr H) G' [some (W.sh (.lst (as.map pairD2))),none,y2.map W.sh,y3.map W.sh] σ' H'/\Y7 G G'/\σ'[1]?=some (some (.ref p))/\Tab G' H H' p (byS as i).1 ls (byS as i).2/\i<=as.length/\m=as.length-i,
  ⟨_,G,[],none,none,o1,Y7.refl _,rfl,T0,yE _,rfl⟩,?_⟩
 rintro i m σ' H' ⟨G',ls,y2,y3,o2,g2,s12,T2,hi,rfl⟩;have hq:=o2.gh _ _ (g2 _ _ r1)
 by_cases hlt:i<as.length
 ·refine .inr ⟨⟨vs0,vs0[i]'∅,SqL.of hq,zD _⟩,λσ3 H3=>∃(G':Hp) (ls:List vJ) (y2 y3:Option D),Own X.K G (fr H) G' [some (W.sh (.lst (as.map pairD2))),none,y2.map W.sh,y3.map W.sh] σ3 H3/\Y7 G G'/\σ3[1]?=some (some (.ref p))/\Tab G' H H3 p (byS as (i+1)).1 ls (byS as (i+1)).2,
   λσ3 H3 ⟨G3,ls3,z2,z3,b1,b2,b3,b4⟩=>⟨as.length-(i+1),∅,G3,ls3,z2,z3,b1,b2,b3,b4,hlt,rfl⟩,λx H3 hy=>?_⟩
  obtain⟨t,w1',ht,rfl,rfl,hy⟩:=hy;have hy:=hy _ (SqL.of hq);have x3:=Ext.hide o2.gh ht (.tup [.int i,w1']);have o3:=o2.keep x3;have T3:=T2.keep x3;refine⟨t,_,rfl,SqT.of qe,rfl,.int i,_,rfl,?_⟩;refine⟨w1',_,rfl,rfl,?_⟩;obtain⟨u,e1,e2⟩:=r2.get (i:=i) (d:=pairD2 as[i]) (by rw[zX,zD hlt];rfl);rw[hy]at e1;cases e1;have o4:=(o3.setSh (i:=2) (d:=.int i) (v:=.int i) rfl).setSh (i:=3) (d:=pairD2 as[i]) (v:=w1') (e2.mono g2);have o4':Own X.K G (fr H) G' [some (W.sh (.lst (as.map pairD2))),none,(some (D.int i)).map W.sh,(some (pairD2 as[i])).map W.sh] ((σ'.set 2 (some (.int i))).set 3 (some w1')) (upd H' t (.tup [.int i,w1'])):=o4;have hl4:σ'.length=4:=o2.len.symm;have bd:=qeP as i;refine qfu k2 o4' (noOw4 (d0:=some (.lst (as.map pairD2))) (d2:=some _) (d3:=some _)) (by rw[zJ (by decide),zJ (by decide)];exact s12) (by rw[zJ (by decide)];exact yU (by rw[hl4];decide)) T3 (hg0 _ as[i] rfl) ∅ (λxs hx=>by have:=bd.2 xs hx;omega) λG5 H5 ls5 o5 g5 T5=>?_;have eb:byS as (i+1)=Xu (byS as i) i as[i].1:=by
   show (match as[i]? with|some a=>Xu (byS as i) i a.1|none=>byS as i)=_;rw[zD hlt]
  refine⟨G5,ls5,_,_,o5,g2.trans g5,by rw[zJ (by decide),zJ (by decide)];exact s12,?_⟩;rw[eb];exact T5
 ·have en:i=as.length:=∅
  subst en;refine .inl ⟨⟨vs0,SqL.of hq,zd ∅⟩,.ref p,s12,fin G' p ls H' ?_ T2⟩;exact⟨g2,o2.ext.gh,o2.ext.hh,o2.ext.new⟩
end
noncomputable def WI:List Int->List (List Int)->Int->List (List Int)
 | k::ks,x::xs,a=>if k=a then x.dropLast::xs else x::WI ks xs a
 | _,xs,_=>xs
noncomputable def X1(ks:List Int)(xss:List (List Int))(h:Int):List Int:=(XC ks xss h).getD []
theorem q6M:∀{ks:List Int}{ls:List vJ}{a:Int},ks.length=ls.length->a∈ks->∃(j:Nat) (l:vJ),ls[j]?=some l/\XC ks (ls.map V.ref) a=some (.ref l)/\∀(xss:List (List Int)),xss.length=ls.length->∃xs,xss[j]?=some xs/\XC ks xss a=some xs/\WI ks xss a=xss.set j xs.dropLast
 | [],_,_,_,h=>by simp at h
 | _::_,[],_,h,_=>by simp at h
 | k::ks,l::ls,a,h,ha=>by
  by_cases z:k=a
  ·refine⟨0,l,rfl,vC z,λxss hx=>?_⟩
   cases xss with
   | nil=>simp at hx
   | cons x xs=>exact⟨x,rfl,vC z,vC z⟩
  ·have ha':a∈ks:=(zF.mp ha).resolve_left λe=>z e.symm
   obtain⟨j,l',e2,e3,e4⟩:=q6M (ks:=ks) (ls:=ls) ⇑h ha';refine⟨j+1,l',e2,?_,λxss hx=>?_⟩
   ·show (if k=a then _ else _)=_
    rw[vF z];exact e3
   ·cases xss with
    | nil=>simp at hx
    | cons x xs=>
     obtain⟨y,h1,h2,h3⟩:=e4 xs ⇑hx;refine⟨y,h1,?_,?_⟩
     ·show (if k=a then _ else _)=_
      rw[vF z];exact h2
     ·show (if k=a then _ else x::WI ks xs a)=_
      rw[vF z,h3];rfl
def Tab.pop{G H0 H:Hp}{p:vJ}{ks:List Int}{ls:List vJ}{xss:List (List Int)}(T:Tab G H0 H p ks ls xss){a:Int}(ha:a∈ks):
  ∃(l:vJ) (xs:List Int),l∈ls/\XC ks xss a=some xs/\zAO H p (.int a) (some (.ref l))/\H l=some (.lst (xs.map V.int))/\Tab G H0 (upd H l (.lst (xs.dropLast.map V.int))) p ks ls (WI ks xss a):=by
 obtain⟨j,l,e2,e3,e4⟩:=q6M T.len ha;obtain⟨xs,e5,e7,e6⟩:=e4 xss T.len2.symm;have hl:l∈ls:=yN e2;have hlp:p≠l:=λz=>T.pl (z▸hl);have g:=zAO.k (k:=(Sum.inl a:Key)) T.dict;rw[q09 (by rw[zB];exact T.len),e3]at g;refine⟨l,xs,hl,e7,g,T.lst j l xs e2 e5,?_⟩;rw[e6];refine⟨by rw[qd hlp];exact T.dict,T.gp,T.hp,T.len,by rw[yC];exact T.len2,λi m ys h1 h2=>?_,T.gl,T.nd⟩;rcases qc h2 with⟨rfl,_,rfl⟩|⟨ne,h3⟩
 ·rw[e2]at h1
  cases h1;exact qe
 ·have hm:m≠l:=λz=>by
   subst z;obtain⟨i1,i2⟩:=zh.mp h1;obtain⟨j1,j2⟩:=zh.mp e2;exact ne ((wR T.nd).mp (j2.trans i2.symm))
  rw[qd hm];exact T.lst i m ys h1 h3
def Tab.beside{G H0 H:Hp}{p q:vJ}{ob:HO}{ks:List Int}{ls:List vJ}{xss:List (List Int)}(T:Tab G H0 H p ks ls xss)(h1:q≠p)(h2:q∉ls):Tab G H0 (upd H q ob) p ks ls xss :=
 ⟨by rw[qd (Ne.symm h1)];exact T.dict,T.gp,T.hp,T.len,T.len2,λj l xs e1 e2=>by
  have hn:l≠q:=λz=>h2 (by rw[<- z];exact yN e1);rw[qd hn];exact T.lst j l xs e1 e2,T.gl,T.nd⟩
noncomputable def WC(as:List (Int×Int))(ks:List Int):Nat->List (List Int)->List Int->List Int->Int->Option (List Int)
 | 0,_,_,_,_=>none
 | n+1,xss,T,B,h=>match (X1 ks xss h).getLast? with
  | some k=>if 0<=k/\k<as.length/\T.length<1000000 then WC as ks n (WI ks xss h) (T++[k]) B (as.getD k.toNat (0,0)).2 else none
  | none=>match T.getLast? with
   | some k=>if 0<=k/\k<as.length/\B.length<1000000 then WC as ks n xss T.dropLast (B++[k]) (as.getD k.toNat (0,0)).1 else none
   | none=>some B.reverse
structure RfS (K:zA) (G0:Hp) (H0:Fr) (G:Hp) (s:Int) (as:List (Int×Int)) (p t b:vJ) (ks:List Int) (ls:List vJ) (xss:List (List Int)) (T B:List Int) (h:Int) (y:Option D) (σ:St) (H:Hp):Prop where
 o:Own K G0 H0 G [some (W.sh (.int s)),↥(.lst (as.map pairD2)),none,none,none,↥(.int h),y.map W.sh] σ H
 s2:σ[2]?=some (some (.ref p))
 s3:σ[3]?=some (some (.ref t))
 s4:σ[4]?=some (some (.ref b))
 s5:σ[5]?=some (some (.int h))
 tab:Tab G H0 H p ks ls xss
 ht:H t=some (.lst (T.map V.int))
 gt:G t=none
 ht0:H0 t=none
 hb:H b=some (.lst (B.map V.int))
 gb:G b=none
 hb0:H0 b=none
 tb:t≠b
 tl:t∉ls
 bl:b∉ls
def noOw7{d0 d1 d5 d6:Option D}:WJ [d0.map W.sh,d1.map W.sh,none,none,none,d5.map W.sh,d6.map W.sh]:=by
 intro i w h
 match i,h with
 | 0,h=>cases d0 <;> cases h;exact⟨_,rfl⟩
 | 1,h=>cases d1 <;> cases h;exact⟨_,rfl⟩
 | 2,h=>cases h
 | 3,h=>cases h
 | 4,h=>cases h
 | 5,h=>cases d5 <;> cases h;exact⟨_,rfl⟩
 | 6,h=>cases d6 <;> cases h;exact⟨_,rfl⟩
 | i+7,h=>simp at h
section
variable{K:zA}{G0:Hp}{H0:Fr}{G:Hp}{s:Int}{as:List (Int×Int)}{p t b:vJ}{ks:List Int}{ls:List vJ}{xss:List (List Int)}{T B:List Int}{h:Int}{y:Option D}{σ:St}{H:Hp}
def RfS.no(S:RfS K G0 H0 G s as p t b ks ls xss T B h y σ H):WJ [some (W.sh (.int s)),↥(.lst (as.map pairD2)),none,none,none,↥(.int h),y.map W.sh] :=
 noOw7 (d0:=some (.int s)) (d1:=some (.lst (as.map pairD2))) (d5:=some (.int h)) (d6:=y)
theorem RfS.keep{G' H':Hp}(S:RfS K G0 H0 G s as p t b ks ls xss T B h y σ H)(x:Ext G H G' H'):RfS K G0 H0 G' s as p t b ks ls xss T B h y σ H' :=
 ⟨S.o.keep x,S.s2,S.s3,S.s4,S.s5,S.tab.keep x,x.hh _ _ S.ht,x.new t S.gt (by rw[S.ht];exact λz=>by cases z),S.ht0,x.hh _ _ S.hb,x.new b S.gb (by rw[S.hb];exact λz=>by cases z),S.hb0,S.tb,S.tl,S.bl⟩
def RfS.tp(S:RfS K G0 H0 G s as p t b ks ls xss T B h y σ H):t≠p/\b≠p:=by
 have h1:=S.ht;have h2:=S.hb;have h3:=S.tab.dict;refine⟨λz=>?_,λz=>?_⟩
 ·rw[z,h3]at h1;cases h1
 ·rw[z,h3]at h2;cases h2
def RfS.setT{T':List Int}(S:RfS K G0 H0 G s as p t b ks ls xss T B h y σ H):RfS K G0 H0 G s as p t b ks ls xss T' B h y σ (upd H t (.lst (T'.map V.int))) :=
 ⟨S.o.free S.no S.gt S.ht0,S.s2,S.s3,S.s4,S.s5,S.tab.beside S.tp.1 S.tl,qe,S.gt,S.ht0,by rw[qd (Ne.symm S.tb)];exact S.hb,S.gb,S.hb0,S.tb,S.tl,S.bl⟩
def RfS.setB{B':List Int}(S:RfS K G0 H0 G s as p t b ks ls xss T B h y σ H):RfS K G0 H0 G s as p t b ks ls xss T B' h y σ (upd H b (.lst (B'.map V.int))) :=
 ⟨S.o.free S.no S.gb S.hb0,S.s2,S.s3,S.s4,S.s5,S.tab.beside S.tp.2 S.bl,by rw[qd S.tb];exact S.ht,S.gt,S.ht0,qe,S.gb,S.hb0,S.tb,S.tl,S.bl⟩
theorem RfS.len(S:RfS K G0 H0 G s as p t b ks ls xss T B h y σ H):σ.length=7:=S.o.len.symm
def RfS.setN(S:RfS K G0 H0 G s as p t b ks ls xss T B h y σ H)(k:Int):RfS K G0 H0 G s as p t b ks ls xss T B h (some (.int k)) (σ.set 6 (some (.int k))) H :=
 ⟨S.o.setSh (i:=6) (d:=.int k) (v:=.int k) rfl,by rw[zJ (by decide)];exact S.s2,by rw[zJ (by decide)];exact S.s3,by rw[zJ (by decide)];exact S.s4,by rw[zJ (by decide)];exact S.s5,S.tab,S.ht,S.gt,S.ht0,S.hb,S.gb,S.hb0,S.tb,S.tl,S.bl⟩
def RfS.setH(S:RfS K G0 H0 G s as p t b ks ls xss T B h y σ H)(k:Int):RfS K G0 H0 G s as p t b ks ls xss T B k y (σ.set 5 (some (.int k))) H :=
 ⟨S.o.setSh (i:=5) (d:=.int k) (v:=.int k) rfl,by rw[zJ (by decide)];exact S.s2,by rw[zJ (by decide)];exact S.s3,by rw[zJ (by decide)];exact S.s4,yU (by rw[S.len];decide),S.tab,S.ht,S.gt,S.ht0,S.hb,S.gb,S.hb0,S.tb,S.tl,S.bl⟩
def RfS.popW(S:RfS K G0 H0 G s as p t b ks ls xss T B h y σ H){l:vJ}{H':HO}(hl:l∈ls){xss':List (List Int)}(T':Tab G H0 (upd H l H') p ks ls xss'):RfS K G0 H0 G s as p t b ks ls xss' T B h y σ (upd H l H') :=
 have n1:t≠l:=λz=>S.tl (by rw[z];exact hl);have n2:b≠l:=λz=>S.bl (by rw[z];exact hl)
 ⟨S.o.free S.no (S.tab.gl l hl).1 (S.tab.gl l hl).2,S.s2,S.s3,S.s4,S.s5,T',by rw[qd n1];exact S.ht,S.gt,S.ht0,by rw[qd n2];exact S.hb,S.gb,S.hb0,S.tb,S.tl,S.bl⟩
def qcB(S:RfS K G0 H0 G s as p t b ks ls xss T B h y σ H){Q:Bool->Hp->Prop}(q:∀H',RfS K G0 H0 G s as p t b ks ls xss T B h y σ H'->Q (!(X1 ks xss h).isEmpty) H'):
  (zBc (Xg 2) (Xg 5) (zCx zAw)) σ H λx H'=>∃k,TruV K x H' k/\Q k H':=by
 refine⟨.ref p,S.s2,p,rfl,.inl ⟨_,.inl S.tab.dict⟩,.int h,S.s5,by show 0<=sizeLine;exact yE _,λr hr=>?_⟩;have S1:=S.keep (Ext.hide S.o.gh hr (.lst []));have hlen:ks.length=(ls.map V.ref).length:=by rw[zB];exact S.tab.len
 have g:=zAO.k (k:=(Sum.inl h:Key)) S1.tab.dict;rw[q09 hlen]at g;refine⟨_,g,?_⟩
 by_cases hk:h∈ks
 ·obtain⟨l,xs,e1,e2,e3,e4,_⟩:=S1.tab.pop hk
  have ev:XC ks (ls.map V.ref) h=some (.ref l):=by
   obtain⟨j,l',f2,f3,f4⟩:=q6M S.tab.len hk;obtain⟨xs',f5,f7,f6⟩:=f4 xss S.tab.len2.symm;have g2:=zAO.k (k:=(Sum.inl h:Key)) S1.tab.dict;rw[q09 hlen,f3]at g2;rcases e3 with⟨kvs,k,d1,d2,d3⟩|⟨kvs,k,b,d1,d2,_⟩
   ·rcases d1 with d1|⟨ob,d1⟩
    ·rw[S1.tab.dict]at d1
     cases d1;cases k with
     | inl i=>cases d2;rw[q09 hlen]at d3;exact d3.symm
     | inr x=>cases d2
    ·rw[S1.tab.dict]at d1;cases d1
   ·cases d2
  rw[ev];refine⟨!xs.isEmpty,?_,?_⟩
  ·refine .inl ⟨_,SqL.of e4,?_⟩
   rw[List.isEmpty_map]
  ·have:X1 ks xss h=xs:=by unfold X1;rw[e2];rfl
   rw[<- this];exact q _ S1
 ·have ev:XC ks (ls.map V.ref) h=none:=by
   have:=q0F (ks:=ks) (xs:=ls.map V.ref) (k:=h) hlen;rw[vX hk]at this;cases z:XC ks (ls.map V.ref) h with
   | none=>rfl
   | some v=>rw[z]at this;cases this
  have ev2:X1 ks xss h=[]:=by
   have:=q0F (ks:=ks) (xs:=xss) (k:=h) (by rw[S.tab.len];exact S.tab.len2);rw[vX hk]at this;unfold X1;cases z:XC ks xss h with
   | none=>rfl
   | some v=>rw[z]at this;cases this
  rw[ev];refine⟨false,?_,by have:=q _ S1;rw[ev2]at this;exact this⟩;exact .inl ⟨_,SqL.of qe,rfl⟩
end
def trT(K:zA)(t:TE):TT:=λσ H Q=>t σ H λx H'=>∃k,TruV K x H' k/\Q k H'
noncomputable def zCc:TE:=zBc (Xg 2) (Xg 5) (zCx zAw)
noncomputable def zBf(K:zA)(td:TE):TS:=zBJ (zA0 (tBM0 K "list" rPop (zCW (Xg 2) (Xg 5))) (WF 6)) (zBJ (zBX (tBM K "list" WM (Xg 3) (zAG (Xg 6) zAw))) (zA0 td (WF 5)))
noncomputable def zBP(K:zA)(td:TE):TS:=zBJ (zA0 (tBM0 K "list" rPop (Xg 3)) (WF 6)) (zBJ (zBX (tBM K "list" WM (Xg 4) (zAG (Xg 6) zAw))) (zA0 td (WF 5)))
section
variable{K:zA}{G0:Hp}{H0:Fr}{G:Hp}{s:Int}{as:List (Int×Int)}{p t b:vJ}{ks:List Int}{ls:List vJ}{xss:List (List Int)}{T B:List Int}{h:Int}{y:Option D}{σ:St}{H:Hp}
def q6Y{xs:List Int}{k:Int}(e:xs.getLast?=some k):(xs.map V.int)[(xs.map V.int).length-1]?=some (.int k)/\(xs.map V.int).dropLast=xs.dropLast.map V.int:=by
 rw[List.getLast?_eq_getElem?]at e;refine⟨by rw[zB,zX,e];rfl,by rw[List.map_dropLast]⟩
def RfS.s6(S:RfS K G0 H0 G s as p t b ks ls xss T B h y σ H)(k:Int):(σ.set 6 (some (.int k)))[6]?=some (some (.int k)):=yU (by rw[S.len];decide)
def qf1{td:TE}{f:FD}(hd:zBi K td f)(hf:∀(ω:WSt)(k:Int),ω[1]?=some ↥(.lst (as.map pairD2))->ω[6]?=some ↥(.int k)->0<=k->k<as.length->f ω=some (.int (as.getD k.toNat (0,0)).2))(S:RfS K G0 H0 G s as p t b ks ls xss T B h y σ H){k:Int}(e:(X1 ks xss h).getLast?=some k)(k0:0<=k)(k1:k<as.length)(hT:T.length<1000000){D0:Ends}(q:∀G' σ' H',RfS K G0 H0 G' s as p t b ks ls (WI ks xss h) (T++[k]) B (as.getD k.toNat (0,0)).2 (some (.int k)) σ' H'->D0.nx σ' H'):zBf K td D0 σ H:=by
 have hk:h∈ks:=by
  have:=q0F (ks:=ks) (xs:=xss) (k:=h) (by rw[S.tab.len];exact S.tab.len2);unfold X1 at e;cases z:XC ks xss h with
  | none=>rw[z]at e;cases e
  | some v=>rw[z]at this;exact of_decide_eq_true this.symm
 obtain⟨l,xs,e1,e2,e3,e4,e5⟩:=S.tab.pop hk;have ex:xs.getLast?=some k:=by unfold X1 at e;rw[e2]at e;exact e
 obtain⟨m1,m2⟩:=q6Y ex;refine⟨.ref p,S.s2,.int h,S.s5,p,.ref l,rfl,e3,.inl ⟨rfl,_,SqL.of e4⟩,l,_,.int k,rfl,rfl,e4,m1,?_⟩;rw[m2];have S1:=(S.popW e1 e5).setN k;show zBJ (zBX (tBM K "list" WM (Xg 3) (zAG (Xg 6) zAw))) (zA0 td (WF 5)) D0 (σ.set 6 (some (.int k))) _;refine⟨.ref t,S1.s3,.inl ⟨rfl,_,SqL.of S1.ht⟩,.int k,S.s6 k,t,_,.int k,rfl,rfl,S1.ht,by rw[zB,vp];omega,?_⟩;rw[show T.map V.int++[V.int k]=(T++[k]).map V.int by rw[zc];rfl];have S2:=S1.setT (T':=T++[k]);show td _ _ _;refine hd G0 H0 G _ _ _ _ _ S2.o (hf _ k rfl rfl k0 k1) λu G1 H1 x1 y1=>?_;cases (show u=.int _ from y1);exact q G1 _ H1 ((S2.keep x1).setH _)
def qfE{td:TE}{f:FD}(hd:zBi K td f)(hf:∀(ω:WSt)(k:Int),ω[1]?=some ↥(.lst (as.map pairD2))->ω[6]?=some ↥(.int k)->0<=k->k<as.length->f ω=some (.int (as.getD k.toNat (0,0)).1))(S:RfS K G0 H0 G s as p t b ks ls xss T B h y σ H){k:Int}(e:T.getLast?=some k)(k0:0<=k)(k1:k<as.length)(hB:B.length<1000000){D0:Ends}(q:∀G' σ' H',RfS K G0 H0 G' s as p t b ks ls xss T.dropLast (B++[k]) (as.getD k.toNat (0,0)).1 (some (.int k)) σ' H'->D0.nx σ' H'):zBP K td D0 σ H:=by
 obtain⟨m1,m2⟩:=q6Y e;refine⟨.ref t,S.s3,.inl ⟨rfl,_,SqL.of S.ht⟩,t,_,.int k,rfl,rfl,S.ht,m1,?_⟩;rw[m2];have S1:=(S.setT (T':=T.dropLast)).setN k;show zBJ (zBX (tBM K "list" WM (Xg 4) (zAG (Xg 6) zAw))) (zA0 td (WF 5)) D0 (σ.set 6 (some (.int k))) _;refine⟨.ref b,S1.s4,.inl ⟨rfl,_,SqL.of S1.hb⟩,.int k,S.s6 k,b,_,.int k,rfl,rfl,S1.hb,by rw[zB,vp];omega,?_⟩;rw[show B.map V.int++[V.int k]=(B++[k]).map V.int by rw[zc];rfl];have S2:=S1.setB (B':=B++[k]);show td _ _ _;refine hd G0 H0 G _ _ _ _ _ S2.o (hf _ k rfl rfl k0 k1) λu G1 H1 x1 y1=>?_;cases (show u=.int _ from y1);exact q G1 _ H1 ((S2.keep x1).setH _)
end
noncomputable def tRF(K:zA)(E:XK)(td1 td0:TE):TS :=
 zBJ (zA0 (zCY (spT K) [] E (zAG (Xg 1) zAw)) (WF 2)) (zBJ (zA0 (zCx zAw) (WF 3)) (zBJ (zA0 (zCx zAw) (WF 4)) (zBJ (zA0 (Xg 0) (WF 5))
  (zBJ (zBl (tOr (trT K (Xg 3)) (trT K zCc)) (tIfS (trT K zCc) (zBf K td1) (zBP K td0))) (tRet (tCB rLR (zAG (Xg 4) zAw)))))))
noncomputable def W8(s:Int)(as:List (Int×Int)):Option (List Int):=if as.length<=9000 then WC as (byS as as.length).1 100000 (byS as as.length).2 [] [] s else none
noncomputable def mRF:List D->Option O
 | [.int s,.lst ds]=>(pairsOf ds).bind λas=>(W8 s as).map λrow=>.fr (row.map D.int)
 | _=>none
def qhF{K:zA}{E E':XK}{td1 td0:TE}{f1 f0:FD}(h1:zBi K td1 f1)(h0:zBi K td0 f0)(hf1:∀(as:List (Int×Int))(ω:WSt)(k:Int),ω[1]?=some ↥(.lst (as.map pairD2))->ω[6]?=some ↥(.int k)->0<=k->k<as.length->f1 ω=some (.int (as.getD k.toNat (0,0)).2))(hf0:∀(as:List (Int×Int))(ω:WSt)(k:Int),ω[1]?=some ↥(.lst (as.map pairD2))->ω[6]?=some ↥(.int k)->0<=k->k<as.length->f0 ω=some (.int (as.getD k.toNat (0,0)).1)){N:List Str}(hN:N.length=7){vs:List V}{H:Hp}{Q:VK}(sp:spD K 2 mRF vs H Q E'):tRF K E td1 td0 { nx:=λ_ H'=>Q .non H',rt:=Q } (L2.start N vs) H:=by
 obtain⟨G,ds,r,e,hl,sg,rp,fin⟩:=sp
 match ds,e with
 | [.int s,.lst ds],e=>
  obtain⟨as,ea,e⟩:=bnd e;obtain⟨row,er,e⟩:=mpd e;subst e;have hds:=q3X ea;subst hds;clear ea;unfold W8 at er
  by_cases hlen:as.length<=9000
  case neg=>rw[vF hlen]at er;cases er
  rw[vC hlen]at er;obtain⟨v0,v1,rfl,r0,r1⟩:=rp.two;cases (show v0=.int s from r0);have hst:L2.start N [V.int s,v1]=[some (.int s),some v1,none,none,none,none,none]:=by
   unfold L2.start;rw[hN];rfl
  rw[hst];have no0:WJ [some (W.sh (.int s)),↥(.lst (as.map pairD2)),none,none,none,none,none]:=noOw7 (d0:=some (.int s)) (d1:=some (.lst (as.map pairD2))) (d5:=none) (d6:=none);have o0:Own K G (fr H) G [some (W.sh (.int s)),↥(.lst (as.map pairD2)),none,none,none,none,none] [some (.int s),some v1,none,none,none,none,none] H:=by
   refine⟨Ext.refl sg,rfl,λi d h=>?_,λi ds h=>vK h (no0.ow i ds),λi j ds es l h=>vK h (no0.ow i ds),λi ks ds h=>vK h (no0.od i ks ds),X4.no no0.pw⟩
   match i,h with
   | 0,h=>cases h;exact⟨_,rfl,rfl⟩
   | 1,h=>cases h;exact⟨_,rfl,r1⟩
   | 2,h=>cases h
   | 3,h=>cases h
   | 4,h=>cases h
   | 5,h=>cases h
   | 6,h=>cases h
   | i+7,h=>simp at h
  refine⟨v1,rfl,G,as,sg,Yx.cons r1 Yx.nil,hlen,λG1 p ls H1 x1 T1=>?_⟩;have o1:=(o0.keep x1).other (i:=2) (v:=some (.ref p)) no0 λw z=>by cases z
  refine⟨by show 0<=sizeLine;exact yE _,λt ht=>?_⟩;have x2:=Ext.hide o1.gh ht (.lst []);have o2:=(o1.keep x2).other (i:=3) (v:=some (.ref t)) no0 λw z=>by cases z
  have T2:=T1.keep x2;refine⟨by show 0<=sizeLine;exact yE _,λb hb=>?_⟩;have x3:=Ext.hide o2.gh hb (.lst []);have o3:=(o2.keep x3).other (i:=4) (v:=some (.ref b)) no0 λw z=>by cases z
  have T3:=T2.keep x3;have tb:t≠b:=λz=>by rw[<- z,qe]at hb;cases hb
  have tl:t∉ls:=λz=>by
   obtain⟨xs,w⟩:=T1.inn z;rw[ht]at w;cases w
  have bl:b∉ls:=λz=>by
   obtain⟨xs,w⟩:=T2.inn z;rw[hb]at w;cases w
  have o4:=o3.setSh (i:=5) (d:=.int s) (v:=.int s) rfl;have S0:RfS K G (fr H) G1 s as p t b (byS as as.length).1 ls (byS as as.length).2 [] [] s none [some (.int s),some v1,some (.ref p),some (.ref t),some (.ref b),some (.int s),none] (upd (upd H1 t (.lst [])) b (.lst [])) :=
   ⟨o4,rfl,rfl,rfl,rfl,T3,by rw[qd tb];exact qe,o1.gh.free ht,o1.ext.hh.free ht,qe,o2.gh.free hb,o2.ext.hh.free hb,tb,tl,bl⟩
  refine⟨.int s,rfl,?_⟩;generalize (byS as as.length).1=ks at S0 er;generalize (byS as as.length).2=xss at S0 er;refine⟨λm σ' H'=>∃G' xss T B h y,RfS K G (fr H) G' s as p t b ks ls xss T B h y σ' H'/\WC as ks m xss T B h=some row,⟨100000,G1,xss,[],[],s,none,S0,er⟩,?_⟩;rintro m σ' H' ⟨G',xss,T,B,h,y,S,run⟩;cases m with
  | zero=>cases run
  | succ n=>
   have body:∀Hx,RfS K G (fr H) G' s as p t b ks ls xss T B h y σ' Hx->(T≠[]\/X1 ks xss h≠[])->∀D0:Ends,∃NN:St->Hp->Prop,(∀σ2 H2,NN σ2 H2->∃m',m'<n+1/\∃G' xss T B h y,RfS K G (fr H) G' s as p t b ks ls xss T B h y σ2 H2/\WC as ks m' xss T B h=some row)/\tIfS (trT K zCc) (zBf K td1) (zBP K td0) { D0 with nx:=NN,ct:=NN,bk:=D0.nx } σ' Hx:=by
    intro Hx Sx hne D0;refine⟨λσ2 H2=>∃G' xss T B h y,RfS K G (fr H) G' s as p t b ks ls xss T B h y σ2 H2/\WC as ks n xss T B h=some row,λσ2 H2 z=>⟨n,yY n,z⟩,?_⟩;refine qcB Sx λHy Sy=>?_;unfold WC at run;cases eg:(X1 ks xss h).getLast? with
    | some k=>
     rw[eg]at run;have run:(if 0<=k/\k<as.length/\T.length<1000000 then WC as ks n (WI ks xss h) (T++[k]) B (as.getD k.toNat (0,0)).2 else none)=some row:=run;have hne:(X1 ks xss h).isEmpty=false:=by
      cases z:X1 ks xss h with
      | nil=>rw[z]at eg;cases eg
      | cons a r=>rfl
     rw[hne];show (if (!false)=true then _ else _);rw[vC (show (!false)=true from rfl)]
     by_cases c:0<=k/\k<as.length/\T.length<1000000
     ·rw[vC c]at run
      exact qf1 h1 (hf1 as) Sy eg c.1 c.2.1 c.2.2 λG2 σ2 H2 S2=>⟨G2,_,_,_,_,_,S2,run⟩
     ·rw[vF c]at run;cases run
    | none=>
     rw[eg]at run;have hem:X1 ks xss h=[]:=xt.mp eg;rw[hem];show (if (!true)=true then _ else _);rw[vF (by decide)];cases et:T.getLast? with
     | none=>exact vK (xt.mp et) (hne.resolve_right λz=>z hem)
     | some k=>
      have run:(match T.getLast? with
       | some k=>if 0<=k/\k<as.length/\B.length<1000000 then WC as ks n xss T.dropLast (B++[k]) (as.getD k.toNat (0,0)).1 else none
       | none=>some B.reverse)=some row:=run
      rw[et]at run;have run:(if 0<=k/\k<as.length/\B.length<1000000 then WC as ks n xss T.dropLast (B++[k]) (as.getD k.toNat (0,0)).1 else none)=some row:=run
      by_cases c:0<=k/\k<as.length/\B.length<1000000
      ·rw[vC c]at run
       exact qfE h0 (hf0 as) Sy et c.1 c.2.1 c.2.2 λG2 σ2 H2 S2=>⟨G2,_,_,_,_,_,S2,run⟩
      ·rw[vF c]at run;cases run
   refine⟨.ref t,S.s3,!(T.map V.int).isEmpty,.inl ⟨_,SqL.of S.ht,rfl⟩,?_⟩;cases T with
   | cons a r=>
    show (if (!false)=true then _ else _);rw[vC (show (!false)=true from rfl)];show (if true=true then _ else _);rw[vC rfl];exact body H' S (.inl (by simp)) _
   | nil=>
    show (if (!true)=true then _ else _);rw[vF (by decide)];refine qcB S λHx Sx=>?_;cases eg:X1 ks xss h with
    | cons a r=>
     show (if (!false)=true then _ else _);rw[vC (show (!false)=true from rfl)];exact body Hx Sx (.inr (by rw[eg];simp)) _
    | nil=>
     show (if (!true)=true then _ else _);rw[vF (by decide)];have rw0:row=B.reverse:=by
      unfold WC at run;rw[eg]at run;have run:some B.reverse=some row:=run;exact(zj run).symm
     subst rw0;refine⟨.ref b,Sx.s4,b,_,rfl,Sx.hb,λSa hS=>?_⟩;have x9:=Ext.hide Sx.o.gh hS (.lst (B.map V.int).reverse);have o9:=Sx.o.keep x9;refine fin (.ref Sa) G' _ o9.ext ⟨Sa,_,rfl,Sx.o.ext.hh.free hS,Sx.o.gh.free hS,qe,?_⟩;rw[<- YO];exact Yx.ints _
def qgi{ω:WSt}{e:Int×Int}(h:ω[3]?=some ↥(pairD2 e)):dOf (Yv oIx (vOf (Yr 3)) (fC (.int 0))) ω=some (.int e.1):=by
 unfold dOf Yv vOf Yr fC;rw[h];rfl
def q7G{as:List (Int×Int)}{k:Int}(k0:0<=k)(k1:k<as.length):atI (as.map pairD2) k=some (pairD2 (as.getD k.toNat (0,0))):=by
 rw[q0l k0 (by rw[zB];exact k1)];have hk:k.toNat<as.length:=∅
 rw[yu,zK,zD hk];rfl
def qgY{as:List (Int×Int)}{ω:WSt}{k:Int}(h1:ω[1]?=some ↥(.lst (as.map pairD2)))(h6:ω[6]?=some ↥(.int k))(k0:0<=k)(k1:k<as.length):
  dOf (Yv oIx (vOf (Yv oIx (vOf (Yr 1)) (vOf (Yr 6)))) (fC (.int 1))) ω=some (.int (as.getD k.toNat (0,0)).2):=by
 have e:=q7G (as:=as) k0 k1;show dR (op2 oIx (vR (op2 oIx (vR (zCM ω[1]?)) (vR (zCM ω[6]?)))) (some (.int 1)))=_;rw[h1,h6];show dR (op2 oIx (vR ((atI (as.map pairD2) k).map R.sh)) (some (.int 1)))=_;rw[e];rfl
def qgS{as:List (Int×Int)}{ω:WSt}{k:Int}(h1:ω[1]?=some ↥(.lst (as.map pairD2)))(h6:ω[6]?=some ↥(.int k))(k0:0<=k)(k1:k<as.length):
  dOf (Yv oIx (vOf (Yv oIx (vOf (Yr 1)) (vOf (Yr 6)))) (fC (.int 0))) ω=some (.int (as.getD k.toNat (0,0)).1):=by
 have e:=q7G (as:=as) k0 k1;show dR (op2 oIx (vR (op2 oIx (vR (zCM ω[1]?)) (vR (zCM ω[6]?)))) (some (.int 0)))=_;rw[h1,h6];show dR (op2 oIx (vR ((atI (as.map pairD2) k).map R.sh)) (some (.int 0)))=_;rw[e];rfl
def qgO{X:Cx}{e1 e0:vW}{E E':XK}{f1 f0:FD}(h1:XD X e1 f1)(h0:XD X e0 f0)(hf1:∀(as:List (Int×Int))(ω:WSt)(k:Int),ω[1]?=some ↥(.lst (as.map pairD2))->ω[6]?=some ↥(.int k)->0<=k->k<as.length->f1 ω=some (.int (as.getD k.toNat (0,0)).2))(hf0:∀(as:List (Int×Int))(ω:WSt)(k:Int),ω[1]?=some ↥(.lst (as.map pairD2))->ω[6]?=some ↥(.int k)->0<=k->k<as.length->f0 ω=some (.int (as.getD k.toNat (0,0)).1)){N:List Str}(hN:N.length=7){vs:List V}{H:Hp}{Q:VK}(sp:spD X.K 2 mRF vs H Q E'){sts:List vx}(hb:∀{td1 td0:TE},PE X e1 td1->PE X e0 td0->PSs X sts (tRF X.K E td1 td0)):
  ∃t,PSs X sts t/\t { nx:=λ_ H'=>Q .non H',rt:=Q } (L2.start N vs) H:=by
 obtain⟨td1,p1,q1⟩:=h1;obtain⟨td0,p0,q0⟩:=h0;exact⟨_,hb p1 p0,qhF q1 q0 hf1 hf0 hN sp⟩
abbrev Cal(P:vQ)(w:vZ)(K:zA)(mg:Str->Option vB)(base:vn)(k:Nat)(f:vJ)(d:vP)(x:Str)(ps:List Str)(n:Nat)(m:List D->Option O):Prop :=
 FnOk P w K mg base CX0 k f d ps (spD K n m)/\mg x=some (.ref f)/\xQ K (.ref f)=true/\Binds K d ps []
section
variable{X:Cx}{x:Str}{pos:Pos}
def xc{e:vW}{es:List vW}{k k0:Nat}{f:vJ}{fd:vP}{ps:List Str}{m:List D->Option O}{p:Pos}{g:FA}(c:Cal X.prog X.w X.K X.mg X.base k f fd x ps (e::es).length m)(hr:Room k0 X.A)(ha:XA X (e::es) g)(hk:k<=k0:=by decide)(hg:Gl X x:=by exact rfl)(hdb:(x==("__debug__" : Str))=false:=by decide)(he:vL (e::es) X.env=(false,eval e X.env)::vL es X.env:=by rfl)(hpl:(v4 pos (vL es X.env)).any (·.1)=false:=by rfl):
  XE X (.Call (.Name x p) (e::es) [] pos) (Y1 m g):=zCP c.1 (hr.mono hk) hg c.2.1 c.2.2.1 c.2.2.2 zCj ha hdb he hpl
def vE(i:Nat)(hN:X.N[i]?=some x:=by rfl)(hv:Vis X.env.scope x:=by first|exact Or.inl rfl|exact Or.inr (Or.inl rfl)|exact Or.inr (Or.inr rfl))(hd:(x==("__debug__" : Str))=false:=by decide)(hcd:(x==("__classdict__" : Str))=false:=by decide):XE X (.Name x pos) (Yr i):=zBT i (pv i hN hv hd hcd)
def vV(i:Nat)(hN:X.N[i]?=some x:=by rfl)(hv:Vis X.env.scope x:=by first|exact Or.inl rfl|exact Or.inr (Or.inl rfl)|exact Or.inr (Or.inr rfl))(hd:(x==("__debug__" : Str))=false:=by decide)(hcd:(x==("__classdict__" : Str))=false:=by decide):XV X (.Name x pos) (vOf (Yr i)):=XE.toV (zBT i (pv i hN hv hd hcd))
def vD(i:Nat)(hN:X.N[i]?=some x:=by rfl)(hv:Vis X.env.scope x:=by first|exact Or.inl rfl|exact Or.inr (Or.inl rfl)|exact Or.inr (Or.inr rfl))(hd:(x==("__debug__" : Str))=false:=by decide)(hcd:(x==("__classdict__" : Str))=false:=by decide):XD X (.Name x pos) (dOf (Yr i)):=XE.toD (zBT i (pv i hN hv hd hcd))
end
def Fd(K:zA)(x:Str)(st:vx)(f:vJ):Prop:=yM K vY x=some (some (.ref f))/\∃fd,Fun K x x st f fd
section
variable{P:vQ}{w:vZ}{K:zA}{mg:Str->Option vB}{base h:vn}{x:Str}{st:vx}{f:vJ}{fd:vP}
def qhx{oc:vB}{od an:Option vJ}{osl:Array (Option vB)}{kV doc pm cdv ct:vB}(a:yM K vY x=some (some (.ref f)))(l:K.lookup f=some ⟨oc,od,.func (xX x x (WL st) (Xq st) (Yt st) .none kV doc pm an cdv ct),osl⟩)(c:wj K cdv x=true)(k:xQ K (.ref f)=true):Fd K x st f:=⟨a,_,qgt l c k⟩
def qo(P:vQ)(w:vZ)(base:vn)(X:K.In h)(G:h.Ns vY mg){x:Str}{st:vx}{f:vJ}{fd:vP}{k n:Nat}{ps:List Str}{m:List D->Option O}(D:Fd K x st f)(F:Fun K x x st f fd)(o:FnOk P w K mg base CX0 k f fd ps (spD K n m))(b:∀(kV doc pm:vB)(an:Option vJ)(cdv ct:vB)(us:List vB),us.length=ps.length->bindArgs (xX x x (WL st) (Xq st) (Yt st) .none kV doc pm an cdv ct) ⟨us,[]⟩=pure (ps.zip us)):Cal P w K mg base k f fd x ps n m :=
 ⟨o,wV X G D.1,F.kp,F.binds b⟩
end
noncomputable def zBd(i:Nat)(fk fv:FD):FS:=λω=>(fv ω).bind λd=>(fk ω).bind λc=>match c,ω[i]? with
 | .int k,some (some (.pw ds))=>(ixN ds.length k).map λj=>(.nx,ω.set i (some (.pw (ds.set j d))))
 | _,_=>none
section
variable{X:Cx}{o e k:vW}{pos pos' apos cpos:Pos}{i:Nat}{fd fk fv:FD}
def qdS(ho:PE X o (Xg i))(hk:XD X k fk)(hv:XD X e fv)(hs:tt [.Subscript o k pos'] e pos.line X.env=pure false:=by rfl)(hw:tu [.Subscript o k pos'] e X.env=pure none:=by rfl)(h1':(uL [.Subscript o k pos'] X.env).map (·.2)=[assign (.Subscript o k pos') X.env]:=by rfl)(ha:∀v,assign (.Subscript o k pos') X.env v=(do
   let ov <- holding [v] (eval o X.env)
   let iv <- holding [v,ov] (eval k X.env)
   sU pos'
   holding [v,ov,iv] (sT ov iv v)
   release [v,ov,iv] []):=by intro _;rfl):XS X (.Assign [.Subscript o k pos'] e pos) (zBd i fk fv):=by
 obtain⟨tk,h1,h2⟩:=hk;obtain⟨tv,h3,h4⟩:=hv;refine⟨_,qcZ h3 (qcD ho h1 q8F ha) hs hw h1',λG0 H0 G ω σ H out ω' E ow e kk=>?_⟩;obtain⟨d,q1,e⟩:=bnd e;obtain⟨c,q2,e⟩:=bnd e;refine h4 G0 H0 G ω σ H d _ ow q1 λv G1 H1 x1 y1=>?_;cases c with
 | int m=>
  split at e
  ·rename_i _ _ _ m' ds ek q3
   cases ek;obtain⟨j,hj,e⟩:=mpd e;cases e;have o1:=ow.keep x1;obtain⟨vs,r1,r2,r3,r4,r5,r6⟩:=o1.pw i ds q3;refine⟨.ref _,r1,h2 G0 H0 G1 ω σ H1 _ _ o1 q2 λu G2 H2 x2 y2=>?_⟩;cases (show u=.int m from y2);have o2:=o1.keep x2;refine⟨_,vs,m,j,rfl,rfl,x2.hh _ _ r2,by rw[<- r5.len];exact hj,?_⟩;exact kk G2 σ _ (o2.mutP q3 ((r5.mono x2.gg).set j (y1.mono x2.gg))) (x1.gg.trans x2.gg)
  ·cases e
 | _=>cases e
end
structure ArgW (K:zA) (G H:Hp) (ws:List W) (vs:List V):Prop where
 len:ws.length=vs.length
 sh:∀(j:Nat)d,ws[j]?=↥d->∃v,vs[j]?=some v/\Rep K G d v
 pw:∀(j:Nat)ds,ws[j]?=some (.pw ds)->∃l us,vs[j]?=some (.ref l)/\H l=some (.lst us)/\G l=none/\Yx K G ds us
 no:∀(j:Nat)w,ws[j]?=some w->(∃d,w=.sh d)\/∃ds,w=.pw ds
structure ArgI (ω:WSt) (σ:St) (is:List (Option Nat)) (ws:List W) (vs:List V):Prop where
 pw:∀(j:Nat)ds,ws[j]?=some (.pw ds)->∃i l,is[j]?=some (some i)/\vs[j]?=some (.ref l)/\σ[i]?=some (some (.ref l))/\(ω[i]?=some (some (.ow ds))\/ω[i]?=some (some (.pw ds)))
 is:∀(j:Nat)i,is[j]?=some (some i)->∃ds,ws[j]?=some (.pw ds)
noncomputable abbrev FW:=WSt->Option (List W)
def SimWA(K:zA)(t:TA)(is:List (Option Nat))(f:FW):Prop:=∀G0 H0 G ω σ H ws(Q:List V->Hp->Prop),Own K G0 H0 G ω σ H->f ω=some ws ->
 (∀vs G' H',Ext G H G' H'->ArgW K G' H' ws vs->ArgI ω σ is ws vs->Q vs H')->t σ H Q
def XWA(X:Cx)(es:List vW)(is:List (Option Nat))(f:FW):Prop:=(∃t,PA X es t/\SimWA X.K t is f)/\∀ω ws,f ω=some ws->ws.length=es.length
noncomputable def wNil:FW:=λ_=>some []
noncomputable def wSh(f:FD)(g:FW):FW:=λω=>(f ω).bind λd=>(g ω).map λws=>.sh d::ws
noncomputable def pwOf(w:Option (Option W)):Option (List D):=match w with
 | some (some (.ow ds))=>some ds
 | some (some (.pw ds))=>some ds
 | _=>none
noncomputable def wPw(i:Nat)(g:FW):FW:=λω=>(pwOf ω[i]?).bind λds=>(g ω).map λws=>.pw ds::ws
def qcr{w:Option (Option W)}{ds:List D}(h:pwOf w=some ds):w=some (some (.ow ds))\/w=some (some (.pw ds)):=by
 unfold pwOf at h
 split at h
 ·cases h;exact .inl rfl
 ·cases h;exact .inr rfl
 ·cases h
section
variable{X:Cx}{e:vW}{es:List vW}{is:List (Option Nat)}{g:FW}
def qfD:XWA X [] [] wNil:=⟨⟨_,qz,λG0 H0 G ω σ H ds Q o e k=>by
 cases e;exact k [] G H (Ext.refl o.gh) ⟨rfl,λj d h=>by simp at h,λj d h=>by simp at h,λj w h=>by simp at h⟩ ⟨λj d h=>by simp at h,λj d h=>by simp at h⟩⟩,λω ds e=>by cases e;rfl⟩
def qcF{f:FD}(h:XD X e f)(hr:XWA X es is g)(hs:vL (e::es) X.env=(false,eval e X.env)::vL es X.env:=by rfl):XWA X (e::es) (none::is) (wSh f g):=by
 obtain⟨t,h1,h2⟩:=h;obtain⟨⟨u,h3,h4⟩,h5⟩:=hr;refine⟨⟨_,qA h1 h3 hs,λG0 H0 G ω σ H ds Q o e k=>?_⟩,λω ds e=>?_⟩
 ·obtain⟨d,q,e⟩:=bnd e
  obtain⟨r,q2,e⟩:=mpd e;subst e;refine h2 G0 H0 G ω σ H d _ o q λv G1 H1 x1 y1=>?_;refine h4 G0 H0 G1 ω σ H1 r _ (o.keep x1) q2 λvs G2 H2 x2 a2 i2=>?_;refine k _ G2 H2 (x1.trans x2) ⟨by rw[zE,zE,a2.len],λj d' hj=>?_,λj ds hj=>?_,λj w hj=>?_⟩ ⟨λj ds hj=>?_,λj i hj=>?_⟩
  ·cases j with
   | zero=>simp at hj;subst hj;exact⟨v,rfl,y1.mono x2.gg⟩
   | succ j=>exact a2.sh j d' ⇑hj
  ·cases j with
   | zero=>simp at hj
   | succ j=>exact a2.pw j ds ⇑hj
  ·cases j with
   | zero=>simp at hj;subst hj;exact .inl ⟨_,rfl⟩
   | succ j=>exact a2.no j w ⇑hj
  ·cases j with
   | zero=>simp at hj
   | succ j=>exact i2.pw j ds ⇑hj
  ·cases j with
   | zero=>simp at hj
   | succ j=>exact i2.is j i ⇑hj
 ·obtain⟨d,q,e⟩:=bnd e
  obtain⟨r,q2,e⟩:=mpd e;subst e;rw[zE,zE,h5 ω r q2]
def qgf{i:Nat}(h:PE X e (Xg i))(hr:XWA X es is g)(hs:vL (e::es) X.env=(false,eval e X.env)::vL es X.env:=by rfl):XWA X (e::es) (some i::is) (wPw i g):=by
 obtain⟨⟨u,h3,h4⟩,h5⟩:=hr;refine⟨⟨_,qA h h3 hs,λG0 H0 G ω σ H ds Q o e k=>?_⟩,λω ds e=>?_⟩
 ·obtain⟨d,q,e⟩:=bnd e
  obtain⟨r,q2,e⟩:=mpd e;subst e;have hw:=qcr q;obtain⟨l,us,r1,r2,r3,r4⟩:∃l us,σ[i]?=some (some (.ref l))/\H l=some (.lst us)/\G l=none/\Yx X.K G d us:=by
   rcases hw with hw|hw
   ·obtain⟨l,vs,z1,z2,z3,z4,z5⟩:=o.ow i d hw
    exact⟨l,vs,z1,z2,z3,z5⟩
   ·obtain⟨vs,z1,z2,z3,z4,z5,_⟩:=o.pw i d hw
    exact⟨_,vs,z1,z2,z3,z5⟩
  refine⟨.ref l,r1,?_⟩;refine h4 G0 H0 G ω σ H r _ o q2 λvs G2 H2 x2 a2 i2=>?_;refine k _ G2 H2 x2 ⟨by rw[zE,zE,a2.len],λj d' hj=>?_,λj ds hj=>?_,λj w hj=>?_⟩ ⟨λj ds hj=>?_,λj i' hj=>?_⟩
  ·cases j with
   | zero=>simp at hj
   | succ j=>exact a2.sh j d' ⇑hj
  ·cases j with
   | zero=>simp at hj;subst hj;exact⟨l,us,rfl,x2.hh _ _ r2,x2.new l r3 (by rw[r2];exact λz=>by cases z),r4.mono x2.gg⟩
   | succ j=>exact a2.pw j ds ⇑hj
  ·cases j with
   | zero=>simp at hj;subst hj;exact .inr ⟨_,rfl⟩
   | succ j=>exact a2.no j w ⇑hj
  ·cases j with
   | zero=>simp at hj;subst hj;exact⟨i,l,rfl,rfl,r1,hw⟩
   | succ j=>exact i2.pw j ds ⇑hj
  ·cases j with
   | zero=>exact⟨d,rfl⟩
   | succ j=>exact i2.is j i' ⇑hj
 ·obtain⟨d,q,e⟩:=bnd e
  obtain⟨r,q2,e⟩:=mpd e;subst e;rw[zE,zE,h5 ω r q2]
end
def Pn(ws:List W)(vs:List V)(b:vJ):Prop:=∃(j:Nat) (ds:List D),ws[j]?=some (.pw ds)/\vs[j]?=some (.ref b)
open Classical in
noncomputable def WZ(P:vJ->Prop)(H:Hp):Hp:=λb=>if P b then none else H b
def qa4{P:vJ->Prop}{H:Hp}{b:vJ}(h:P b):WZ P H b=none:=vC h
def q1Q{P:vJ->Prop}{H:Hp}{b:vJ}(h:¬P b):WZ P H b=H b:=vF h
def qcl{P:vJ->Prop}{H:Hp}:Y7 (WZ P H) H:=λb u z=>by
 by_cases h:P b
 ·rw[qa4 h]at z;cases z
 ·rw[q1Q h]at z;exact z
def NdW(ws:List W)(vs:List V):Prop:=∀(j k:Nat)ds es l,ws[j]?=some (.pw ds)->ws[k]?=some (.pw es)->vs[j]?=some (.ref l)->vs[k]?=some (.ref l)->j=k
noncomputable def spW(K:zA)(n:Nat)(m:List W->Option (D×WSt)):Sp:=λvs H Q _=>∃G ws d ω',m ws=some (d,ω')/\ws.length=n/\Y7 G H/\ArgW K G H ws vs/\NdW ws vs /\
 ∀v G' H',Ext G (WZ (Pn ws vs) H) G' H'->(∀(j:Nat)ds ds' l,ws[j]?=some (.pw ds)->vs[j]?=some (.ref l)->ω'[j]?=some (some (.pw ds'))->∃us,H' l=some (.lst us)/\G' l=none/\Yx K G' ds' us)->Rep K G' d v->Q v H'
noncomputable def WE(n:Nat)(ws:List W):WSt:=ws.map some++ze (n-ws.length) none
noncomputable def mirW(n:Nat)(body:FS)(ws:List W):Option (D×WSt):=match body (WE n ws)with
 | some (.rt (.sh d),ω')=>some (d,ω')
 | some (.nx,ω')=>some (.non,ω')
 | _=>none
def qO{n:Nat}{ws:List W}{i:Nat}{w:W}(e:(WE n ws)[i]?=some (some w)):ws[i]?=some w:=by
 unfold WE at e;rcases yB i ws.length with y|y
 ·rw[zt ⇑y,zX]at e
  cases q:ws[i]? with
  | none=>rw[q]at e;cases e
  | some d'=>rw[q]at e;cases e;rfl
 ·rw[zf ⇑y,yh]at e
  split at e <;> cases e
def q7k{N:List Str}{vs:List V}{i:Nat}{v:V}(h:vs[i]?=some v):(L2.start N vs)[i]?=some (some v):=by
 unfold L2.start;have hl:i<vs.length:=(zh.mp h).1;rw[zt ⇑hl,zX,h];rfl
noncomputable def refOf(v:Option V):vJ:=match v with
 | some (.ref l)=>l
 | _=>0
def fnW{P:vQ}{w:vZ}{K:zA}{mg:Str->Option vB}{base:vn}{x qual:Str}{st:vx}{f:vJ}{fd:vP}{N ps:List Str}{k:Nat}{body:FS}(F:Fun K x qual st f fd)(S:FnScope N ps (Yt st))(hb:∀(cdv:vB)(A:vb)(outer:List Env)(s:vG)(H:Hp)(E:XK),Room k (A.deeper (PyProof.Rows.envOfC qual (Yt st) s.heap.objs.size f cdv))->XSs (zBS CX0 P w K mg base N qual (Yt st) f cdv A outer s H E).nox (Xq st) body):
  FnOk P w K mg base CX0 (k+1) f fd ps (spW K ps.length (mirW N.length body)):=by
 refine F.ok S (λvs H Q E h=>?_) (λcdv A outer s H vs Q E hr h=>?_)
 ·obtain⟨G,ws,d,ω',_,h2,_,h4,_⟩:=h
  rw[<- h4.len];exact h2
 ·obtain⟨G,ws,d,ω',h1,h2,h3,h4,hnd,h5⟩:=h
  obtain⟨t,p1,p2⟩:=hb cdv A outer s H E hr;refine⟨t,p1,?_⟩;unfold mirW at h1;have hl:=h4.len;have hpl:ps.length<=N.length:=by have:=uA xg S.pre;rw[z0]at this;omega
  have o0:Own K G ⟨WZ (Pn ws vs) H,λi=>refOf vs[i]?⟩ G (WE N.length ws) (L2.start N vs) H:=by
   refine⟨⟨Y7.refl _,h3,qcl,λb z _=>z⟩,?_,λi d e=>?_,λi es e=>?_,λi j es fs l e=>?_,λi ks es e=>?_,λi ds e=>?_⟩
   ·unfold WE L2.start
    simp only[zC,zB,zw];omega
   ·obtain⟨v,e1,e2⟩:=h4.sh i d (qO e)
    exact⟨v,q7k e1,e2⟩
   ·rcases h4.no i _ (qO e)with⟨_,z⟩|⟨_,z⟩ <;> cases z
   ·rcases h4.no i _ (qO e)with⟨_,z⟩|⟨_,z⟩ <;> cases z
   ·rcases h4.no i _ (qO e)with⟨_,z⟩|⟨_,z⟩ <;> cases z
   ·obtain⟨l,us,e1,e2,e3,e4⟩:=h4.pw i ds (qO e)
    have er:(⟨WZ (Pn ws vs) H,λi=>refOf vs[i]?⟩:Fr).pin i=l:=by show refOf vs[i]?=l;rw[e1];rfl
    rw[er];refine⟨us,q7k e1,e2,e3,qa4 ⟨i,ds,qO e,e1⟩,e4,λj es hj y=>?_,λj es hj=>?_⟩
    ·obtain⟨l',us',f1,_⟩:=h4.pw j es (qO hj)
     have er':(⟨WZ (Pn ws vs) H,λi=>refOf vs[i]?⟩:Fr).pin j=l':=by show refOf vs[j]?=l';rw[f1];rfl
     rw[er']at y;exact hnd j i es ds l (qO hj) (qO e) (by rw[<- y];exact f1) e1
    ·rcases h4.no j _ (qO hj)with⟨_,z⟩|⟨_,z⟩ <;> cases z
  have fin:∀G' σ' H' v,Own K G ⟨WZ (Pn ws vs) H,λi=>refOf vs[i]?⟩ G' ω' σ' H'->Rep K G' d v->Q v H':=λG' σ' H' v o' y=>by
   refine h5 v G' H' o'.ext (λj ds ds' l a1 a2 a3=>?_) y;obtain⟨us,_,b2,b3,_,b5,_⟩:=o'.pw j ds' a3;have er:refOf vs[j]?=l:=by rw[a2];rfl
   refine⟨us,?_,?_,b5⟩
   ·rw[<- er];exact b2
   ·rw[<- er];exact b3
  cases q:body (WE N.length ws)with
  | none=>rw[q]at h1;cases h1
  | some p=>
   obtain⟨out,ω1⟩:=p;rw[q]at h1;refine p2 G _ G _ _ H out ω1 _ o0 q λG' σ' H' o' s'=>?_;cases out with
   | nx=>cases h1;exact fin G' σ' H' _ o' rfl
   | bk=>cases h1
   | ct=>cases h1
   | rt r'=>
    cases r' with
    | sh d'=>cases h1;exact λv y=>fin G' σ' H' v o' y
    | fr ds=>cases h1
noncomputable def zAj(c:Option (List D))(w:Option W):Option W:=match c,w with
 | some ds,some (.ow _)=>some (.ow ds)
 | some ds,some (.pw _)=>some (.pw ds)
 | _,w=>w
noncomputable def WP(I:Nat->Option (List D))(ω:WSt):WSt:=ω.mapIdx λi w=>zAj (I i) w
def q06{I:Nat->Option (List D)}{ω:WSt}{i:Nat}{w:Option W}(h:(WP I ω)[i]?=some w):∃u,ω[i]?=some u/\zAj (I i) u=w:=by
 unfold WP at h;rw[List.getElem?_mapIdx]at h;exact mpd h
def q4u{w:Option W}:zAj none w=w:=by unfold zAj;split <;> first|rfl|(rename_i h;cases h)
def qft{c:Option (List D)}{u:Option W}{d:D}(h:zAj c u=↥d):u=↥d:=by
 unfold zAj at h;split at h <;> first|exact h|cases h
def qaa{c:Option (List D)}{u:Option W}{ks:List Int}{ds:List D}(h:zAj c u=some (.od ks ds)):u=some (.od ks ds):=by
 unfold zAj at h;split at h <;> first|exact h|cases h
def q4P{c:Option (List D)}{u:Option W}{ds:List D}(h:zAj c u=some (.ow ds)):(c=some ds/\∃es,u=some (.ow es))\/(c=none/\u=some (.ow ds)):=by
 cases c with
 | none=>rw[q4u]at h;exact .inr ⟨rfl,h⟩
 | some es=>
  unfold zAj at h
  split at h
  ·rename_i hc;cases hc;cases h;exact .inl ⟨rfl,_,rfl⟩
  ·cases h
  ·rename_i z1 z2;subst h;exact vK rfl (z1 _ _ rfl)
def q6d{c:Option (List D)}{u:Option W}{ds:List D}(h:zAj c u=some (.pw ds)):(c=some ds/\∃es,u=some (.pw es))\/(c=none/\u=some (.pw ds)):=by
 cases c with
 | none=>rw[q4u]at h;exact .inr ⟨rfl,h⟩
 | some es=>
  unfold zAj at h
  split at h
  ·cases h
  ·rename_i hc;cases hc;cases h;exact .inl ⟨rfl,_,rfl⟩
  ·rename_i z1 z2;subst h;exact vK rfl (z2 _ _ rfl)
section
variable{K:zA}{G0:Hp}{F:Fr}{G G' H H':Hp}{ω:WSt}{σ:St}{I:Nat->Option (List D)}{P:vJ->Prop}
def Own.at(o:Own K G0 F G ω σ H){i:Nat}{es:List D}(h:ω[i]?=some (some (.ow es))\/ω[i]?=some (some (.pw es))):∃l vs,σ[i]?=some (some (.ref l))/\H l=some (.lst vs)/\G l=none/\F.hp l=none:=by
 rcases h with h|h
 ·obtain⟨l,vs,z1,z2,z3,z4,z5⟩:=o.ow i es h
  exact⟨l,vs,z1,z2,z3,z4⟩
 ·obtain⟨vs,z1,z2,z3,z4,z5,_⟩:=o.pw i es h
  exact⟨_,vs,z1,z2,z3,z4⟩
def Own.apart(o:Own K G0 F G ω σ H){i j:Nat}{es fs:List D}{l:vJ}(h:ω[i]?=some (some (.ow es))\/ω[i]?=some (some (.pw es)))(h':ω[j]?=some (some (.ow fs))\/ω[j]?=some (some (.pw fs)))(s:σ[i]?=some (some (.ref l)))(s':σ[j]?=some (some (.ref l))):i=j:=by
 rcases h with h|h
 ·rcases h' with h'|h'
  ·exact o.nd i j es fs l h h' s s'
  ·obtain⟨vs,z1,z2,z3,z4,z5,z6,z7⟩:=o.pw j fs h'
   rw[s']at z1;cases z1;exact vK s (z7 i es h)
 ·rcases h' with h'|h'
  ·obtain⟨vs,z1,z2,z3,z4,z5,z6,z7⟩:=o.pw i es h
   rw[s]at z1;cases z1;exact vK s' (z7 j fs h')
  ·obtain⟨vs,z1,z2,z3,z4,z5,z6,z7⟩:=o.pw i es h
   obtain⟨vs',y1,_⟩:=o.pw j fs h';rw[s]at z1;rw[s']at y1;have e1:l=F.pin i:=by cases z1;rfl
   have e2:l=F.pin j:=by cases y1;rfl
   exact(z6 j fs h' (e2.symm.trans e1)).symm
def Own.back(o:Own K G0 F G ω σ H)(hI:∀(i:Nat)ds,I i=some ds->∃es,ω[i]?=some (some (.ow es))\/ω[i]?=some (some (.pw es)))(hP:∀b,P b->∃i ds,I i=some ds/\σ[i]?=some (some (.ref b)))(x:Ext G (WZ P H) G' H')(hn:∀(i:Nat)ds l,I i=some ds->σ[i]?=some (some (.ref l))->∃us,H' l=some (.lst us)/\G' l=none/\Yx K G' ds us):Own K G0 F G' (WP I ω) σ H':=by
 have nP:∀{i:Nat}{es:List D}{l:vJ},I i=none->(ω[i]?=some (some (.ow es))\/ω[i]?=some (some (.pw es)))->σ[i]?=some (some (.ref l))->¬P l:=λ{i es l} h1 h2 h3 z=>by
  obtain⟨j,ds,a1,a2⟩:=hP l z;obtain⟨fs,a3⟩:=hI j ds a1;have:=o.apart h2 a3 h3 a2;subst this;rw[h1]at a1;cases a1
 have Pl:∀{b:vJ},P b->∃vs,H b=some (.lst vs)/\F.hp b=none:=λ{b} z=>by
  obtain⟨j,ds,a1,a2⟩:=hP b z;obtain⟨fs,a3⟩:=hI j ds a1;obtain⟨l,vs,b1,b2,b3,b4⟩:=o.at a3;rw[a2]at b1;cases b1;exact⟨vs,b2,b4⟩
 refine⟨⟨o.ext.gg.trans x.gg,x.gh,λb u z=>?_,λb z1 z2=>?_⟩,?_,λi d h=>?_,λi ds h=>?_,λi j ds es l h h' s s'=>?_,λi ks ds h=>?_,λi ds h=>?_⟩
 ·refine x.hh b u ?_
  rw[q1Q λp=>by obtain⟨_,_,e⟩:=Pl p;rw[e]at z;cases z];exact o.ext.hh b u z
 ·refine x.new b (o.ext.new b z1 z2) ?_
  rw[q1Q λp=>z2 (Pl p).choose_spec.2];exact λe=>z2 (o.ext.hh.free e)
 ·unfold WP;rw[List.length_mapIdx,o.len]
 ·obtain⟨u,e1,e2⟩:=q06 h
  have:=qft e2;subst this;obtain⟨v,a1,a2⟩:=o.sh i d e1;exact⟨v,a1,a2.mono x.gg⟩
 ·obtain⟨u,e1,e2⟩:=q06 h
  rcases q4P e2 with⟨c1,es,rfl⟩|⟨c1,rfl⟩
  ·obtain⟨l,vs,a1,a2,a3,a4,a5⟩:=o.ow i es e1
   obtain⟨us,b1,b2,b3⟩:=hn i ds l c1 a1;exact⟨l,us,a1,b1,b2,a4,b3⟩
  ·obtain⟨l,vs,a1,a2,a3,a4,a5⟩:=o.ow i ds e1
   have np:=nP c1 (.inl e1) a1;have hl:WZ P H l=some (.lst vs):=by rw[q1Q np];exact a2
   exact⟨l,vs,a1,x.hh _ _ hl,x.new l a3 (by rw[hl];exact λz=>by cases z),a4,a5.mono x.gg⟩
 ·obtain⟨u,e1,e2⟩:=q06 h
  obtain⟨u',e1',e2'⟩:=q06 h';have w:∃es,ω[i]?=some (some (.ow es)):=by rcases q4P e2 with⟨c1,es,rfl⟩|⟨c1,rfl⟩ <;> exact⟨_,e1⟩
  have w':∃es,ω[j]?=some (some (.ow es)):=by rcases q4P e2' with⟨c1,es,rfl⟩|⟨c1,rfl⟩ <;> exact⟨_,e1'⟩
  obtain⟨a,w⟩:=w;obtain⟨b,w'⟩:=w';exact o.nd i j a b l w w' s s'
 ·obtain⟨u,e1,e2⟩:=q06 h
  have:=qaa e2;subst this;obtain⟨p,vs,a1,a2,a3,a4,a5,a6,a7⟩:=o.od i ks ds e1;have np:¬P p:=λz=>by obtain⟨_,e,_⟩:=Pl z;rw[a2]at e;cases e
  have hl:WZ P H p=some (.dK (kvsOf ks vs)):=by rw[q1Q np];exact a2
  refine⟨p,vs,a1,x.hh _ _ hl,x.new p a3 (by rw[hl];exact λz=>by cases z),a4,a5,a6.mono x.gg,λj ks' es h' s'=>?_⟩;obtain⟨u',e1',e2'⟩:=q06 h';have:=qaa e2';subst this;exact a7 j ks' es e1' s'
 ·obtain⟨u,e1,e2⟩:=q06 h
  obtain⟨es,w⟩:∃es,ω[i]?=some (some (.pw es)):=by rcases q6d e2 with⟨c1,es,rfl⟩|⟨c1,rfl⟩ <;> exact⟨_,e1⟩
  obtain⟨vs,a1,a2,a3,a4,a5,a6,a7⟩:=o.pw i es w;have uq:∀(j:Nat)es',(WP I ω)[j]?=some (some (.pw es'))->F.pin j=F.pin i->j=i:=λj es' h' y=>by
   obtain⟨u',e1',e2'⟩:=q06 h';rcases q6d e2' with⟨c1,fs,rfl⟩|⟨c1,rfl⟩
   ·exact a6 j _ e1' y
   ·exact a6 j _ e1' y
  have ap:∀(j:Nat)es',(WP I ω)[j]?=some (some (.ow es'))->σ[j]?≠some (some (.ref (F.pin i))):=λj es' h'=>by
   obtain⟨u',e1',e2'⟩:=q06 h';rcases q4P e2' with⟨c1,fs,rfl⟩|⟨c1,rfl⟩
   ·exact a7 j _ e1'
   ·exact a7 j _ e1'
  rcases q6d e2 with⟨c1,fs,rfl⟩|⟨c1,rfl⟩
  ·obtain⟨us,b1,b2,b3⟩:=hn i ds _ c1 a1
   exact⟨us,a1,b1,b2,a4,b3,uq,ap⟩
  ·rw[w]at e1
   cases e1;have np:=nP c1 (.inr w) a1;have hl:WZ P H (F.pin i)=some (.lst vs):=by rw[q1Q np];exact a2
   exact⟨vs,a1,x.hh _ _ hl,x.new _ a3 (by rw[hl];exact λz=>by cases z),a4,a5.mono x.gg,uq,ap⟩
end
noncomputable def Xd:List (Option Nat)->WSt->Nat->Option (List D)
 | some k::is,some (.pw ds)::r,i=>if i=k then some ds else Xd is r i
 | _::is,_::r,i=>Xd is r i
 | _,_,_=>none
noncomputable def XL:List (Option Nat)->WSt->Bool
 | some _::is,some (.pw _)::r=>XL is r
 | some _::_,_=>false
 | none::is,_::r=>XL is r
 | none::is,[]=>XL is []
 | [],_=>true
noncomputable def XZ:List (Option Nat)->Bool
 | some i::is=>!is.contains (some i)&&XZ is
 | none::is=>XZ is
 | []=>true
theorem q0a:∀{is:List (Option Nat)}{ω:WSt}{i:Nat}{ds:List D},Xd is ω i=some ds->∃j:Nat,is[j]?=some (some i)/\ω[j]?=some (some (.pw ds))
 | some k::is,some (.pw es)::r,i,ds,h=>by
  unfold Xd at h
  by_cases z:i=k
  ·rw[vC z]at h;cases h;subst z;exact⟨0,rfl,rfl⟩
  ·rw[vF z]at h
   obtain⟨j,a,b⟩:=q0a h;exact⟨j+1,by simpa using a,by simpa using b⟩
 | some k::is,none::r,i,ds,h=>by
  obtain⟨j,a,b⟩:=q0a (is:=is) (ω:=r) (i:=i) (ds:=ds) (by unfold Xd at h;exact h);exact⟨j+1,by simpa using a,by simpa using b⟩
 | some k::is,↥d::r,i,ds,h=>by
  obtain⟨j,a,b⟩:=q0a (is:=is) (ω:=r) (i:=i) (ds:=ds) (by unfold Xd at h;exact h);exact⟨j+1,by simpa using a,by simpa using b⟩
 | some k::is,some (.ow d)::r,i,ds,h=>by
  obtain⟨j,a,b⟩:=q0a (is:=is) (ω:=r) (i:=i) (ds:=ds) (by unfold Xd at h;exact h);exact⟨j+1,by simpa using a,by simpa using b⟩
 | some k::is,some (.od ks d)::r,i,ds,h=>by
  obtain⟨j,a,b⟩:=q0a (is:=is) (ω:=r) (i:=i) (ds:=ds) (by unfold Xd at h;exact h);exact⟨j+1,by simpa using a,by simpa using b⟩
 | none::is,w::r,i,ds,h=>by
  obtain⟨j,a,b⟩:=q0a (is:=is) (ω:=r) (i:=i) (ds:=ds) (by unfold Xd at h;exact h);exact⟨j+1,by simpa using a,by simpa using b⟩
 | [],_,_,_,h=>by unfold Xd at h;cases h
 | some _::_,[],_,_,h=>by unfold Xd at h;cases h
 | none::_,[],_,_,h=>by unfold Xd at h;cases h
theorem q30:∀{is:List (Option Nat)}{ω:WSt},XL is ω=true->XZ is=true->∀{j i:Nat},is[j]?=some (some i)->∃ds,Xd is ω i=some ds/\ω[j]?=some (some (.pw ds))
 | some k::is,some (.pw es)::r,hb,hs,j,i,h=>by
  rw[XZ,zU]at hs;rw[XL]at hb;cases j with
  | zero=>
   have:k=i:=by simpa using h
   subst this;exact⟨es,by unfold Xd;rw[vC rfl],rfl⟩
  | succ j=>
   have h':is[j]?=some (some i):=by simpa using h
   obtain⟨ds,a,b⟩:=q30 hb hs.2 h';refine⟨ds,?_,by simpa using b⟩;unfold Xd;rw[vF λz=>?_]
   ·exact a
   ·have:=hs.1
    rw[<- z]at this;have m:some i∈is:=yN h';simp[m]at this
 | none::is,w::r,hb,hs,j,i,h=>by
  rw[XZ]at hs;rw[XL]at hb;cases j with
  | zero=>simp at h
  | succ j=>
   obtain⟨ds,a,b⟩:=q30 hb hs (j:=j) (i:=i) ⇑h;exact⟨ds,by unfold Xd;exact a,by simpa using b⟩
 | none::is,[],hb,hs,j,i,h=>by
  rw[XZ]at hs;rw[XL]at hb;cases j with
  | zero=>simp at h
  | succ j=>
   obtain⟨ds,a,b⟩:=q30 hb hs (j:=j) (i:=i) ⇑h;simp at b
 | [],_,_,_,j,i,h=>by simp at h
 | some _::_,[],hb,_,_,_,_=>by unfold XL at hb;cases hb
 | some _::_,none::_,hb,_,_,_,_=>by unfold XL at hb;cases hb
 | some _::_,↥_::_,hb,_,_,_,_=>by unfold XL at hb;cases hb
 | some _::_,some (.ow _)::_,hb,_,_,_,_=>by unfold XL at hb;cases hb
 | some _::_,some (.od _ _)::_,hb,_,_,_,_=>by unfold XL at hb;cases hb
theorem q5p:∀{is:List (Option Nat)},XZ is=true->∀{j k i:Nat},is[j]?=some (some i)->is[k]?=some (some i)->j=k
 | [],_,j,k,i,h,_=>by simp at h
 | none::is,hs,0,k,i,h,h'=>by simp at h
 | none::is,hs,j+1,0,i,h,h'=>by simp at h'
 | none::is,hs,j+1,k+1,i,h,h'=>by
  rw[XZ]at hs;rw[q5p hs (j:=j) (k:=k) (i:=i) ⇑h ⇑h']
 | some a::is,hs,0,0,i,h,h'=>rfl
 | some a::is,hs,0,k+1,i,h,h'=>by
  rw[XZ,zU]at hs;have e:a=i:=by simpa using h
  have m:some i∈is:=yN (i:=k) ⇑h';have:=hs.1;rw[e]at this;simp[m]at this
 | some a::is,hs,j+1,0,i,h,h'=>by
  rw[XZ,zU]at hs;have e:a=i:=by simpa using h'
  have m:some i∈is:=yN (i:=j) ⇑h;have:=hs.1;rw[e]at this;simp[m]at this
 | some a::is,hs,j+1,k+1,i,h,h'=>by
  rw[XZ,zU]at hs;rw[q5p hs.2 (j:=j) (k:=k) (i:=i) ⇑h ⇑h']
noncomputable def zB4(is:List (Option Nat))(m:List W->Option (D×WSt))(g:FW)(ω:WSt):Option (D×WSt):=(g ω).bind λws=>(m ws).bind λp=>if XL is p.2=true then some (p.1,WP (Xd is p.2) ω)else none
noncomputable def zCV(i:Nat)(is:List (Option Nat))(m:List W->Option (D×WSt))(g:FW):FS:=λω=>(zB4 is m g ω).map λp=>(.nx,p.2.set i (some (.sh p.1)))
section
variable{X:Cx}{e:vW}{es:List vW}{is:List (Option Nat)}{g:FW}{m:List W->Option (D×WSt)}{k k0:Nat}{f:vJ}{fd:vP}{ps:List Str}{x:Str}{p pos pos' spos:Pos}
abbrev CalW(P:vQ)(w:vZ)(K:zA)(mg:Str->Option vB)(base:vn)(k:Nat)(f:vJ)(d:vP)(x:Str)(ps:List Str)(n:Nat)(m:List W->Option (D×WSt)):Prop :=
 FnOk P w K mg base CX0 k f d ps (spW K n m)/\mg x=some (.ref f)/\xQ K (.ref f)=true/\Binds K d ps []
def qcX{E:XK}{n:Nat}{t:TA}(hs:XZ is=true)(h2:SimWA X.K t is g)(h5:∀ω ws,g ω=some ws->ws.length=n){G0:Hp}{H0:Fr}{G:Hp}{ω:WSt}{σ:St}{H:Hp}{d:D}{ω':WSt}{Q:VK}(o:Own X.K G0 H0 G ω σ H)(ec:zB4 is m g ω=some (d,ω'))(kk:∀v G' H',Own X.K G0 H0 G' ω' σ H'->Y7 G G'->Rep X.K G' d v->Q v H'):zCY (spW X.K n m) [] E t σ H Q:=by
 obtain⟨ws,q,ec⟩:=bnd ec;obtain⟨⟨d1,ω1⟩,q2,ec⟩:=bnd ec
 by_cases hb:XL is ω1=true
 case neg=>rw[vF hb]at ec;cases ec
 rw[vC hb]at ec;cases ec;refine h2 G0 H0 G ω σ H ws _ o q λvs G1 H1 x1 a1 i1=>?_;have o1:=o.keep x1;refine⟨G1,ws,_,ω1,q2,h5 ω ws q,x1.gh,by rw[zn];exact a1,?_,λv G2 H2 x2 y2 y3=>kk v G2 H2 ?_ (x1.gg.trans x2.gg) y3⟩
 ·rw[zn]
  intro j k ds es l hj hk vj vk;obtain⟨ij,lj,b1,b2,b3,b4⟩:=i1.pw j ds hj;obtain⟨ik,lk,c1,c2,c3,c4⟩:=i1.pw k es hk;rw[vj]at b2;cases b2;rw[vk]at c2;cases c2;have:=o.apart b4 c4 b3 c3;subst this;exact q5p hs b1 c1
 ·rw[zn]at x2 y2
  refine o1.back (P:=Pn ws vs) (λi ds hi=>?_) (λb ⟨j,ds,hj,hv⟩=>?_) x2 λi ds l hi hl=>?_
  ·obtain⟨j,b1,b2⟩:=q0a hi
   obtain⟨es,b3⟩:=i1.is j i b1;obtain⟨i',l,c1,c2,c3,c4⟩:=i1.pw j es b3;rw[b1]at c1;cases c1;exact⟨es,c4⟩
  ·obtain⟨i,l,c1,c2,c3,c4⟩:=i1.pw j ds hj
   rw[hv]at c2;cases c2;obtain⟨es,e1,e2⟩:=q30 hb hs c1;exact⟨i,es,e1,c3⟩
  ·obtain⟨j,b1,b2⟩:=q0a hi
   obtain⟨es,b3⟩:=i1.is j i b1;obtain⟨i',l',c1,c2,c3,c4⟩:=i1.pw j es b3;rw[b1]at c1;cases c1;rw[hl]at c3;cases c3;exact y2 j es ds l b3 c2 b2
def qfo{i:Nat}{y:Str}(hN:X.N.Nodup)(hi:X.N[i]?=some y)(hx:Loc X.env.scope y)(c:CalW X.prog X.w X.K X.mg X.base k f fd x ps (e::es).length m)(hr:Room k0 X.A)(ha:XWA X (e::es) is g)(hs:XZ is=true:=by rfl)(hk:k<=k0:=by decide)(hg:Gl X x:=by exact rfl)(hdb:(x==("__debug__" : Str))=false:=by decide)(he:vL (e::es) X.env=(false,eval e X.env)::vL es X.env:=by rfl)(hpl:(v4 pos (vL es X.env)).any (·.1)=false:=by rfl)(hsw:v3 (.Call (.Name x p) (e::es) [] pos) (some (.Name y pos')) spos.line X.env=pure false:=by rfl)(hf:X.fn y=true\/X.env.scope.names.lookup y=some .local:=by first|exact .inl rfl|exact .inr rfl|assumption):XS X (.Assign [.Name y pos'] (.Call (.Name x p) (e::es) [] pos) spos) (zCV i is m g):=by
 obtain⟨⟨t,h1,h2⟩,h5⟩:=ha;refine⟨_,q0b hN hi hx (q6a c.1 (hr.mono hk) hg c.2.1 c.2.2.1 c.2.2.2 .nil zCj h1 hdb he hpl) hsw hf,λG0 H0 G ω σ H out ω' E o ec kk=>?_⟩;obtain⟨⟨d,ω1⟩,q,ec⟩:=mpd ec;cases ec;exact qcX hs h2 h5 o q λv G' H' o' s' y'=>kk G' _ H' (o'.setSh y') s'
end
noncomputable def lsetP(i:Nat)(ω:WSt)(v c:Option D)(w:Option (Option W)):Option (Out×WSt):=v.bind λd=>c.bind λc=>match c,w with
 | .int k,some (some (.pw ds))=>(ixN ds.length k).map λj=>(.nx,ω.set i (some (.pw (ds.set j d))))
 | _,_=>none
noncomputable def wshR(a:Option D)(b:Option (List W)):Option (List W):=a.bind λd=>b.map λws=>.sh d::ws
noncomputable def wpwR(a:Option (Option W))(b:Option (List W)):Option (List W):=(pwOf a).bind λds=>b.map λws=>.pw ds::ws
noncomputable def cwR(is:List (Option Nat))(m:List W->Option (D×WSt))(ω:WSt)(a:Option (List W)):Option (D×WSt):=a.bind λws=>(m ws).bind λp=>if XL is p.2=true then some (p.1,WP (Xd is p.2) ω)else none
noncomputable def cwB(is:List (Option Nat))(ω:WSt)(a:Option (D×WSt)):Option (D×WSt):=a.bind λp=>if XL is p.2=true then some (p.1,WP (Xd is p.2) ω)else none
noncomputable def setPw(i:Nat)(a:Option (D×WSt)):Option (Out×WSt):=a.map λp=>(.nx,p.2.set i (some (.sh p.1)))
noncomputable def outW(a:Option (Out×WSt)):Option (D×WSt):=match a with
 | some (.rt (.sh d),ω')=>some (d,ω')
 | some (.nx,ω')=>some (.non,ω')
 | _=>none
section
variable{i k:Nat}{ω r:WSt}{d:D}{ds es:List D}{fd fk fv:FD}{g:FW}{ws:List W}{is:List (Option Nat)}{m:List W->Option (D×WSt)}{w:Option W}{I:Nat->Option (List D)}{b:FS}{n:Nat}
def q6H:zBd i fk fv ω=lsetP i ω (fv ω) (fk ω) ω[i]?:=rfl
def p_ls{k:Int}(h0:0<=k)(h1:k<ds.length):lsetP i ω (some d) (some (.int k)) (some (some (.pw ds)))=some (.nx,ω.set i (some (.pw (ds.set k.toNat d)))):=by
 show Yc _ (ixN ds.length k)=_;have:ixN ds.length k=some k.toNat:=by
  unfold ixN;simp only[h0,h1,Yd.mpr h0]
  first|rfl|(simp;omega)
 rw[this];rfl
def q6n:zCM (some (some (.pw ds)))=some (.vw ds):=rfl
def q9f:wNil ω=some []:=rfl
def qbn:wSh fd g ω=wshR (fd ω) (g ω):=rfl
def qbB:wshR (some d) (some ws)=some (.sh d::ws):=rfl
def qaD:wPw i g ω=wpwR ω[i]? (g ω):=rfl
def q6y:wpwR (some (some (.ow ds))) (some ws)=some (.pw ds::ws):=rfl
def e_cw:zB4 is m g ω=cwR is m ω (g ω):=rfl
def qaY:cwR is m ω (some ws)=cwB is ω (m ws):=rfl
def qb8:cwB is ω (some (d,r))=if XL is r=true then some (d,WP (Xd is r) ω)else none:=rfl
def qbT:zCV i is m g ω=setPw i (zB4 is m g ω):=rfl
def e_sp:setPw i (some (d,r))=some (.nx,r.set i ↥d):=rfl
def qaX:XL (some k::is) (some (.pw ds)::r)=XL is r:=rfl
def qb1:XL (none::is) (w::r)=XL is r:=rfl
def qbp:XL [] r=true:=by cases r <;> rfl
def qbH:WP I (w::r)=zAj (I 0) w::WP (λi=>I (i+1)) r:=by unfold WP;rw[List.mapIdx_cons]
def qbP:WP I []=[]:=rfl
def qbX{j:Nat}:Xd (some k::is) (some (.pw ds)::r) j=if j=k then some ds else Xd is r j:=rfl
def qaB{j:Nat}:Xd (none::is) (w::r) j=Xd is r j:=by
 cases w with
 | none=>rfl
 | some w=>cases w <;> rfl
def qbY{j:Nat}:Xd [] r j=none:=by cases r <;> rfl
def qbx:zAj none w=w:=q4u
def qbq:zAj (some ds) (some (.ow es))=some (.ow ds):=rfl
def q7Z:mirW n b ws=outW (b (WE n ws)):=rfl
def q68:outW (some (.rt (.sh d),r))=some (d,r):=rfl
end
end Hk
namespace Hk
open PySem PyProof.Rows
section
variable{prog:vQ}{w:vZ}{A:vb}{E:vB->vG->Prop}{s:vG}{a₀:Array vT}
end
section
variable{α β:Type}
end
end Hk
namespace Hk
open PySem PySem.Spec PyProof.Rows L2
section
variable{X:Cx}{pins:List (vJ×Obj)}{σ:L2.St}{H:Hp}{s:vG}
end
section
variable{X:Cx}{pins:List (vJ×Obj)}{σ:L2.St}{G H:Hp}{s:vG}{a kS:vJ}{xs:List V}{vs:List vB}{ds:List D}{kf:D->Int}
noncomputable def apart(pins:List (vJ×Obj))(a kS:vJ)(e1:Nat)(ks:Array vB)(e:Nat):List (vJ×Obj):=pins++[(kS,uV "list" ks e),(a,uV "list" #[] e1)]
end
section
variable{X:Cx}{pins:List (vJ×Obj)}{σ:L2.St}{G H:Hp}{s:vG}{a:vJ}{xs:List V}{vs:List vB}{ds:List D}{kf:D->Int}{k:Nat}{f:vJ}{fd:vP}{ps:List Str}{m:List D->Option O}
end
end Hk
namespace Hk
open PySem L2
section
variable{m:List D->Option O}{f:FD}{ω:WSt}{d:D}{i:Nat}{ks:List Int}{ds:List D}
def q8d:iDk i ω=zCr ω[i]?:=rfl
def q7L:zCr (some ↥(.dic ks ds))=some (ks.map D.int):=rfl
end
noncomputable def zBC:D->D->Option R
 | .lst xs,.int k=>if (0<=k/\k<=1000)/\xs.length<=1000 then some (.fr (ze k.toNat xs).flatten)else none
 | _,_=>none
theorem Yx.rep{K:zA}{H:Hp}{ds:List D}{vs:List V}(h:Yx K H ds vs):∀n:Nat,Yx K H (ze n ds).flatten (ze n vs).flatten
 | 0=>rfl
 | n+1=>by
  rw[yH,yH,yP,yP];exact h.app (h.rep n)
def qfG{K:zA}:OpV K rRep zBC:=by
 intro G H x y d v u Q s e hx hy k
 match x,y,e with
 | .lst xs,.int n,e=>
  unfold zBC at e
  dsimp only at e
  by_cases z:(0<=n/\n<=1000)/\xs.length<=1000
  ·rw[vC z]at e
   cases e;obtain⟨a,vs,rfl,h1,h2⟩:=hx.lst s;cases hy.int;have hz:vs.length*n.toNat<=sizeLine:=by
    rw[<- h2.len];have:=Nat.mul_le_mul z.2 (show n.toNat<=1000 by omega);rw[vp];omega
   refine⟨a,n,vs,rfl,rfl,h1,∅,∅,hz,λp hp=>?_⟩;exact k _ G _ (Ext.hide s hp _) ⟨p,_,rfl,hp,s.free hp,qe,h2.rep _⟩
  ·rw[vF z]at e;cases e
section
variable{X:Cx}{a b:vW}{pos:Pos}{f g:FD}
def qcG(ha:XV X a f)(hb:XV X b g):XE X (.BinOp a .Mult b pos) (Yv zBC f g):=q2T qgD qfG ha hb
end
def qcm{ds:List D}{k:Int}(h0:0<=k)(h1:k<=1000)(h2:ds.length<=1000):zBC (.lst ds) (.int k)=some (.fr (ze k.toNat ds).flatten):=vC ⟨⟨h0,h1⟩,h2⟩
end Hk
namespace So
open PySem PyProof.Rows
noncomputable def zCq:Bool->vT->Array vT->Nat->Nat->Nat->StateT vm Sem (Option Nat):=sortPriv% PySem.Builtin.gallop
noncomputable def bey(left:Bool)(k:Int)(arr:Array vT)(i:Nat):Bool:=if left=true then decide (K arr i<k)else !decide (k<K arr i)
section
variable{prog:vQ}{w:vZ}{A:vb}{E:vB->vG->Prop}{s:vG}
def q7V{arr:Array vT}(h0:IntKeys arr){i:Nat}(hi:i<arr.size):∃p t q,arr[i]?=some p/\p=(Value.int (K arr i) t,q):=by
 have hm:arr[i]∈arr.toList:=by simp
 obtain⟨n,t,hn⟩:=h0 _ hm;have e:arr[i]?=some arr[i]:=getElem?_pos _ i hi;have e2:arr[i]=(Value.int n t,arr[i].2):=Prod.ext hn rfl;refine⟨_,t,arr[i].2,e,?_⟩;unfold K;rw[e,e2];rfl
def zAt{st:vm}{a b:Int}{t u:Tok}{p q:vB}{Q:Option Bool->vm->Prop}(hk:kindOf st=v7)(h:Q (some (decide (a<b))) st):wpS (model prog w) A E s (lt' (.int a t,p) (.int b u,q)) Q st:=by
 rw[lt'_eq];refine vM (tG ?_);rw[hk,keyLt'_oneType];refine vM (tP (uJ (oneLt_int ⟨rfl,?_⟩)));exact vO h
def Y2{st:vm}{arr:Array vT}{i:Nat}{p:vT}{Q:vT->vm->Prop}(h:arr[i]?=some p)(hq:Q p st):wpS (model prog w) A E s (elem' arr i) Q st:=by
 rw[elem'_eq,h];exact vO hq
def Wu{st:vm}{left:Bool}{k:Int}{t:Tok}{q:vB}{arr:Array vT}{i:Nat}{Q:Option Bool->vm->Prop}(h0:IntKeys arr)(hi:i<arr.size)(hk:kindOf st=v7)(h:Q (some (bey left k arr i)) st):
  wpS (model prog w) A E s (do let x <- elem' arr i;if left=true then lt' x (.int k t,q)else do let l <- lt' (.int k t,q) x;pure (Yc (λx=>!x) l)) Q st:=by
 obtain⟨p,u,r,e1,rfl⟩:=q7V h0 hi;refine vM (Y2 e1 ?_);cases left with
 | true=>exact zAt hk h
 | false=>exact vM (zAt hk (vO h))
def Xp{left:Bool}{k:Int}{arr:Array vT}{i j:Nat}(h:K arr i<=K arr j)(hj:bey left k arr j=true):bey left k arr i=true:=by
 unfold bey at *;cases left with
 | true=>simp only[if_true,decide_eq_true_eq]at *;omega
 | false=>simp only[ya,if_false,YD,decide_eq_false_iff_not]at *;omega
def Xl{left:Bool}{k:Int}{t:Tok}{q:vB}{arr:Array vT}{base n hint:Nat}{st:vm}{Q:Option Nat->vm->Prop}(h0:IntKeys arr)(hk:kindOf st=v7)(hsz:base+n<=arr.size)(hh:hint<n)(hs:∀i j,i<=j->j<n->K arr (base+i)<=K arr (base+j))(h:∀m,m<=n->(∀i,i<m->bey left k arr (base+i)=true)->(∀i,m<=i->i<n->bey left k arr (base+i)=false)->Q (some m) st):wpS (model prog w) A E s (zCq left (.int k t,q) arr base n hint) Q st:=by
 refine vM (Wu (k:=k) h0 ∅ hk ?_)
 dsimp only
 cases hr:bey left k arr (base+hint)with
 | true=>
  rw[vC rfl];refine vM (uF (vo (I:=λx c st'=>st'=st/\∃lo of,c=(none,lo,of)/\hint+lo<n/\bey left k arr (base+(hint+lo))=true/\lo<of/\x+1<=of) (Q:=λc st'=>st'=st/\∃lo of,c=(none,lo,of)/\hint+lo<n/\bey left k arr (base+(hint+lo))=true/\lo<of/\(of>=n-hint\/bey left k arr (base+(hint+of))=false)) ?_ ?_ ⟨rfl,0,1,rfl,∅,hr,∅,∅⟩) ?_)
  ·rintro x c st' _ hx ⟨rfl,lo,of,rfl,b1,b2,b3,b4⟩
   dsimp only
   by_cases z:of>=n-hint
   ·rw[vC z]
    exact vO ⟨rfl,lo,of,rfl,b1,b2,b3,.inl z⟩
   ·rw[vF z]
    refine vM (Wu (k:=k) h0 ∅ hk ?_)
    dsimp only
    cases hb:bey left k arr (base+(hint+of))with
    | true=>
     rw[vF (by decide)];exact vO ⟨rfl,of,2*of+1,rfl,∅,hb,∅,∅⟩
    | false=>
     rw[vC (by decide)];exact vO ⟨rfl,lo,of,rfl,b1,b2,b3,.inr hb⟩
  ·rintro c st' ⟨rfl,lo,of,rfl,b1,b2,b3,b4⟩
   exact⟨rfl,lo,of,rfl,b1,b2,b3,.inl ∅⟩
  ·rintro c st' ⟨rfl,lo,of,rfl,b1,b2,b3,b4⟩
   dsimp only
   refine vM (uF (Q:=λc st2=>st2=st'/\∃lo hi,c=(none,lo,hi)/\lo<=hi/\hi<=n/\hi-lo<=0/\(∀i,i<lo->bey left k arr (base+i)=true)/\(∀i,hi<=i->i<n->bey left k arr (base+i)=false)) ?_ ?_)
   ·refine vo (I:=λx c st2=>st2=st'/\∃lo hi,c=(none,lo,hi)/\lo<=hi/\hi<=n/\hi-lo<=n-x/\(∀i,i<lo->bey left k arr (base+i)=true)/\(∀i,hi<=i->i<n->bey left k arr (base+i)=false)) ?_ ?_ ?_
    ·rintro x c st2 _ hx ⟨e2,lo,hi,rfl,b1,b2,b3,b4,b5⟩
     subst e2
     dsimp only
     by_cases z:lo>=hi
     ·rw[vC z]
      exact vO ⟨rfl,lo,hi,rfl,∅,b2,∅,b4,b5⟩
     ·rw[vF z]
      refine vM (Wu (k:=k) h0 ∅ hk ?_)
      dsimp only
      cases hb:bey left k arr (base+(lo+(hi-lo)/2))with
      | true=>
       rw[vC rfl];refine vO ⟨rfl,_,_,rfl,∅,b2,∅,λi hi'=>?_,b5⟩;exact Xp (hs _ _ (show i<=lo+(hi-lo)/2 by omega) ∅) hb
      | false=>
       rw[vF (by decide)];refine vO ⟨rfl,_,_,rfl,∅,∅,∅,b4,λi hi' hin=>?_⟩;cases hc:bey left k arr (base+i)with
       | false=>rfl
       | true=>rw[Xp (hs _ _ hi' hin) hc]at hb;cases hb
    ·rintro c st2 ⟨e2,lo,hi,rfl,b1,b2,b3,b4,b5⟩
     exact⟨e2,lo,hi,rfl,b1,b2,∅,b4,b5⟩
    refine⟨rfl,_,_,rfl,∅,∅,∅,λi hi=>?_,λi hi hin=>?_⟩
    ·exact Xp (hs _ _ ∅ b1) b2
    ·rcases b4 with b4|b4
     ·omega
     ·cases hc:bey left k arr (base+i)with
      | false=>rfl
      | true=>rw[Xp (hs (hint+of) i ∅ hin) hc]at b4;cases b4
   ·rintro c st2 ⟨e2,lo,hi,rfl,c1,c2,c3,c4,c5⟩
    subst e2;exact vO (h hi c2 (λi hi'=>c4 i ∅) c5)
 | false=>
  rw[vF (by decide)];refine vM (uF (vo (I:=λx c st'=>st'=st/\∃lo of,c=(none,lo,of)/\lo<=hint/\bey left k arr (base+(hint-lo))=false/\lo<of/\x+1<=of) (Q:=λc st'=>st'=st/\∃lo of,c=(none,lo,of)/\lo<=hint/\bey left k arr (base+(hint-lo))=false/\lo<of/\(of>=hint+1\/bey left k arr (base+(hint-of))=true)) ?_ ?_ ⟨rfl,0,1,rfl,∅,hr,∅,∅⟩) ?_)
  ·rintro x c st' _ hx ⟨rfl,lo,of,rfl,b1,b2,b3,b4⟩
   dsimp only
   by_cases z:of>=hint+1
   ·rw[vC z]
    exact vO ⟨rfl,lo,of,rfl,b1,b2,b3,.inl z⟩
   ·rw[vF z]
    refine vM (Wu (k:=k) h0 ∅ hk ?_)
    dsimp only
    cases hb:bey left k arr (base+(hint-of))with
    | true=>
     rw[vC rfl];exact vO ⟨rfl,lo,of,rfl,b1,b2,b3,.inr hb⟩
    | false=>
     rw[vF (by decide)];exact vO ⟨rfl,of,2*of+1,rfl,∅,hb,∅,∅⟩
  ·rintro c st' ⟨rfl,lo,of,rfl,b1,b2,b3,b4⟩
   exact⟨rfl,lo,of,rfl,b1,b2,b3,.inl ∅⟩
  ·rintro c st' ⟨rfl,lo,of,rfl,b1,b2,b3,b4⟩
   dsimp only
   refine vM (uF (Q:=λc st2=>st2=st'/\∃lo hi,c=(none,lo,hi)/\lo<=hi/\hi<=n/\hi-lo<=0/\(∀i,i<lo->bey left k arr (base+i)=true)/\(∀i,hi<=i->i<n->bey left k arr (base+i)=false)) ?_ ?_)
   ·refine vo (I:=λx c st2=>st2=st'/\∃lo hi,c=(none,lo,hi)/\lo<=hi/\hi<=n/\hi-lo<=n-x/\(∀i,i<lo->bey left k arr (base+i)=true)/\(∀i,hi<=i->i<n->bey left k arr (base+i)=false)) ?_ ?_ ?_
    ·rintro x c st2 _ hx ⟨e2,lo,hi,rfl,b1,b2,b3,b4,b5⟩
     subst e2
     dsimp only
     by_cases z:lo>=hi
     ·rw[vC z]
      exact vO ⟨rfl,lo,hi,rfl,∅,b2,∅,b4,b5⟩
     ·rw[vF z]
      refine vM (Wu (k:=k) h0 ∅ hk ?_)
      dsimp only
      cases hb:bey left k arr (base+(lo+(hi-lo)/2))with
      | true=>
       rw[vC rfl];refine vO ⟨rfl,_,_,rfl,∅,b2,∅,λi hi'=>?_,b5⟩;exact Xp (hs _ _ (show i<=lo+(hi-lo)/2 by omega) ∅) hb
      | false=>
       rw[vF (by decide)];refine vO ⟨rfl,_,_,rfl,∅,∅,∅,b4,λi hi' hin=>?_⟩;cases hc:bey left k arr (base+i)with
       | false=>rfl
       | true=>rw[Xp (hs _ _ hi' hin) hc]at hb;cases hb
    ·rintro c st2 ⟨e2,lo,hi,rfl,b1,b2,b3,b4,b5⟩
     exact⟨e2,lo,hi,rfl,b1,b2,∅,b4,b5⟩
    refine⟨rfl,_,_,rfl,∅,∅,∅,λi hi=>?_,λi hi hin=>?_⟩
    ·rcases b4 with b4|b4
     ·omega
     ·exact Xp (hs _ _ ∅ ∅) b4
    ·cases hc:bey left k arr (base+i)with
     | false=>rfl
     | true=>rw[Xp (hs (hint-lo) i ∅ hin) hc]at b2;cases b2
   ·rintro c st2 ⟨e2,lo,hi,rfl,c1,c2,c3,c4,c5⟩
    subst e2;exact vO (h hi c2 (λi hi'=>c4 i ∅) c5)
end
def ke(p:vT):Int:=numOf p.1
abbrev Le(x y:vT):Prop:=ke x<=ke y
abbrev Srt(l:List vT):Prop:=l.Pairwise Le
structure Mg (al bl out:List vT) (i j:Nat):Prop where
 perm:(out++(al.drop i++bl.drop j)).Perm (al++bl)
 srt:Srt out
 lea:∀x∈out,∀y∈al.drop i,Le x y
 leb:∀x∈out,∀y∈bl.drop j,Le x y
structure Done (al bl r:List vT):Prop where
 perm:r.Perm (al++bl)
 srt:Srt r
variable{al bl out:List vT}{i j:Nat}
def Xi(h:Srt al)(k:Nat):Srt (al.drop k):=h.sublist (Z5 k al)
def zA2(l:List vT)(i k:Nat):l.drop i=(l.drop i).take k++l.drop (i+k):=by
 rw[<- Ye,yS]
def Mg.a(m:Mg al bl out i j)(sa:Srt al)(k:Nat)(h:∀x∈(al.drop i).take k,∀y∈bl.drop j,Le x y):Mg al bl (out++(al.drop i).take k) (i+k) j:=by
 have e:=zA2 al i k;have sd:Srt ((al.drop i).take k++al.drop (i+k)):=by rw[<- e];exact Xi sa i
 obtain⟨s1,s2,s3⟩:=zV.mp sd;have hin:∀y∈(al.drop i).take k,y∈al.drop i:=λy hy=>xa hy;have hout:∀y∈al.drop (i+k),y∈al.drop i:=λy hy=>by rw[e];exact zW _ hy
 refine⟨?_,?_,λx hx y hy=>?_,λx hx y hy=>?_⟩
 ·have:out++(al.drop i).take k++(al.drop (i+k)++bl.drop j)=out++(al.drop i++bl.drop j):=by
   rw[zN,<- zN ((al.drop i).take k),<- e]
  rw[this];exact m.perm
 ·exact zV.mpr ⟨m.srt,s1,λx hx y hy=>m.lea x hx y (hin y hy)⟩
 ·rcases zT.mp hx with hx|hx
  ·exact m.lea x hx y (hout y hy)
  ·exact s3 x hx y hy
 ·rcases zT.mp hx with hx|hx
  ·exact m.leb x hx y hy
  ·exact h x hx y hy
def Mg.b(m:Mg al bl out i j)(sb:Srt bl)(k:Nat)(h:∀x∈(bl.drop j).take k,∀y∈al.drop i,Le x y):Mg al bl (out++(bl.drop j).take k) i (j+k):=by
 have e:=zA2 bl j k;have sd:Srt ((bl.drop j).take k++bl.drop (j+k)):=by rw[<- e];exact Xi sb j
 obtain⟨s1,s2,s3⟩:=zV.mp sd;have hin:∀y∈(bl.drop j).take k,y∈bl.drop j:=λy hy=>xa hy;have hout:∀y∈bl.drop (j+k),y∈bl.drop j:=λy hy=>by rw[e];exact zW _ hy
 refine⟨?_,?_,λx hx y hy=>?_,λx hx y hy=>?_⟩
 ·refine yz ?_ m.perm
  rw[zN];refine yL out ?_;refine yz ?_ (yL (al.drop i) (List.Perm.of_eq e.symm));rw[<- zN,<- zN];exact yy _ xA
 ·exact zV.mpr ⟨m.srt,s1,λx hx y hy=>m.leb x hx y (hin y hy)⟩
 ·rcases zT.mp hx with hx|hx
  ·exact m.lea x hx y hy
  ·exact h x hx y hy
 ·rcases zT.mp hx with hx|hx
  ·exact m.leb x hx y (hout y hy)
  ·exact s3 x hx y hy
def Mg.done(m:Mg al bl out i j)(sa:Srt al)(sb:Srt bl)(h:∀x∈al.drop i,∀y∈bl.drop j,Le x y):Done al bl (out++al.drop i++bl.drop j):=by
 refine⟨by rw[zN];exact m.perm,?_⟩;rw[zN];exact zV.mpr ⟨m.srt,zV.mpr ⟨Xi sa i,Xi sb j,h⟩,λx hx y hy=>(zT.mp hy).elim (m.lea x hx y) (m.leb x hx y)⟩
def Mg.last(m:Mg al bl out i j)(sa:Srt al)(sb:Srt bl)(h:∀y∈bl.drop j,∀x∈al.drop i,Le y x):Done al bl (out++bl.drop j++al.drop i):=by
 refine⟨?_,?_⟩
 ·rw[zN]
  exact(yL out xA).trans m.perm
 ·rw[zN]
  exact zV.mpr ⟨m.srt,zV.mpr ⟨Xi sb j,Xi sa i,h⟩,λx hx y hy=>(zT.mp hy).elim (m.leb x hx y) (m.lea x hx y)⟩
noncomputable def zB0:Array vT->Array vT->StateT vm Sem (Array vT):=sortPriv% PySem.Builtin.mergeLo
structure Kp (st st':vm):Prop where
 kind:kindOf st'=kindOf st
 arr:vU st'=vU st
 pend:va st'=va st
 fail:uQ st'=uQ st
def Kp.refl(st:vm):Kp st st:=⟨rfl,rfl,rfl,rfl⟩
def zBh{xs:Array vT}{i:Nat}{p:vT}(h:xs[i]?=some p):K xs i=ke p:=by unfold K ke;rw[h]
def drop_one{xs:Array vT}{i:Nat}{p:vT}(h:xs[i]?=some p):xs.toList.drop i=p::xs.toList.drop (i+1):=by
 obtain⟨hi,e⟩:=wo.mp h;rw[xV ⇑hi]
 congr 1
def W2{xs:Array vT}{i:Nat}:(xs.extract i xs.size).toList=xs.toList.drop i:=by
 rw[xY,xu];exact yZ (by simp)
def zA5{xs:Array vT}{i k:Nat}:(xs.extract i (i+k)).toList=(xs.toList.drop i).take k:=by
 simp[xY,List.extract_eq_drop_take]
def Wd{l:List vT}(s:Srt l){i:Nat}{p:vT}{t:List vT}(h:l.drop i=p::t):∀y∈l.drop i,Le p y:=by
 have:=Xi s i;rw[h]at this ⊢;intro y hy;rcases zF.mp hy with rfl|hy
 ·exact yI _
 ·exact(zZ.mp this).1 y hy
def zA4{xs:Array vT}{i:Nat}(h:xs.size<=i):xs.toList.drop i=[]:=List.drop_eq_nil_of_le ⇑h
def Mg.b1{a b out:Array vT}{i j:Nat}{p q:vT}(m:Mg a.toList b.toList out.toList i j)(sa:Srt a.toList)(sb:Srt b.toList)(hp:b[j]?=some p)(hq:a[i]?=some q)(h:Le p q):Mg a.toList b.toList (out.push p).toList i (j+1):=by
 have e:=drop_one hp;have:=m.b sb 1 (by
  rw[e];intro x hx y hy;have:x=p:=by simpa using hx
  subst this;exact yW h (Wd sa (drop_one hq) y hy))
 rw[e]at this;simpa using this
def Mg.a1{a b out:Array vT}{i j:Nat}{p q:vT}(m:Mg a.toList b.toList out.toList i j)(sa:Srt a.toList)(sb:Srt b.toList)(hp:a[i]?=some p)(hq:b[j]?=some q)(h:Le p q):Mg a.toList b.toList (out.push p).toList (i+1) j:=by
 have e:=drop_one hp;have:=m.a sa 1 (by
  rw[e];intro x hx y hy;have:x=p:=by simpa using hx
  subst this;exact yW h (Wd sb (drop_one hq) y hy))
 rw[e]at this;simpa using this
def Mg.dB{a b out:Array vT}{i j:Nat}(m:Mg a.toList b.toList out.toList i j)(sa:Srt a.toList)(sb:Srt b.toList)(h:b.size<=j):Done a.toList b.toList (out++a.extract i a.size++b.extract j b.size).toList:=by
 have:=m.done sa sb (λx _ y hy=>by rw[zA4 h]at hy;cases hy);rw[yD,yD,W2,W2];exact this
def Mg.dA{a b out:Array vT}{i j:Nat}(m:Mg a.toList b.toList out.toList i j)(sa:Srt a.toList)(sb:Srt b.toList)(h:a.size<=i):Done a.toList b.toList (out++a.extract i a.size++b.extract j b.size).toList:=by
 have:=m.done sa sb (λx hx=>by rw[zA4 h]at hx;cases hx);rw[yD,yD,W2,W2];exact this
def Mg.dL{a b out:Array vT}{i j:Nat}(m:Mg a.toList b.toList out.toList i j)(sa:Srt a.toList)(sb:Srt b.toList)(hl:∀y∈b.toList,∀x∈a.toList.drop (a.size-1),Le y x)(h:i+1=a.size):Done a.toList b.toList (out++b.extract j b.size++a.extract i a.size).toList:=by
 have:=m.last sa sb (λy hy x hx=>hl y (xG hy) x (by rw[show a.size-1=i by omega];exact hx));rw[yD,yD,W2,W2];exact this
end So
set_option maxHeartbeats 1000000
namespace So
open PySem PyProof.Rows
section
variable{prog:vQ}{w:vZ}{A:vb}{E:vB->vG->Prop}{s:vG}
def Y8{xs:Array vT}{i:Nat}(h0:IntKeys xs)(h:i<xs.size):∃t q,xs[i]?=some (Value.int (K xs i) t,q):=by
 obtain⟨p,t,q,e,rfl⟩:=q7V h0 h;exact⟨t,q,e⟩
def zBb{xs:Array vT}(hs:Srt xs.toList){i j:Nat}(h1:i<=j)(h2:j<xs.size):K xs i<=K xs j:=by
 have e1:xs[i]?=some xs[i]:=getElem?_pos _ i ∅;have e2:xs[j]?=some xs[j]:=getElem?_pos _ j h2;rw[zBh e1,zBh e2];rcases yB i j with z|z
 ·exact y0.mp hs i j (by simp;omega) ⇑h2 z
 ·have:i=j:=∅
  subst this;exact yI _
def zCm:Nat->StateT vm Sem Unit:=sortPriv% PySem.Builtin.setMinGallop
theorem Kp.trans{a b c:vm}(h:Kp a b)(h':Kp b c):Kp a c:=⟨h'.kind.trans h.kind,h'.arr.trans h.arr,h'.pend.trans h.pend,h'.fail.trans h.fail⟩
def X8{g:Nat}{st:vm}{Q:Unit->vm->Prop}(h:∀st',Kp st st'->Q () st'):wpS (model prog w) A E s (zCm g) Q st:=ur (h _ ⟨rfl,rfl,rfl,rfl⟩)
def zAr{xs:Array vT}{i k:Nat}{v:Int}(h:∀t,t<k->i+t<xs.size->K xs (i+t)<=v):∀x∈(xs.toList.drop i).take k,ke x<=v:=by
 intro x hx;obtain⟨t,ht,e⟩:=yF.mp hx;rw[xI,xZ]at e;rw[z0,yX]at ht;have hl:i+t<xs.size:=by simp at ht;omega
 have e2:xs[i+t]?=some x:=by rw[getElem?_pos xs (i+t) hl,<- e];rfl
 have:=h t ∅ hl;rw[zBh e2]at this;exact this
def zAT{k:Int}{xs:Array vT}{i:Nat}:(bey false k xs i=true->K xs i<=k)/\(bey false k xs i=false->k<K xs i):=by
 unfold bey;simp only[ya,if_false,YD,decide_eq_false_iff_not,Bool.not_eq_false',decide_eq_true_eq];exact⟨λh=>∅,id⟩
def zAX{k:Int}{xs:Array vT}{i:Nat}:(bey true k xs i=true->K xs i<k)/\(bey true k xs i=false->k<=K xs i):=by
 unfold bey;simp only[if_true,decide_eq_true_eq,decide_eq_false_iff_not];exact⟨id,λh=>∅⟩
def zAm{a b:Array vT}{st:vm}{Q:Array vT->vm->Prop}(ha:IntKeys a)(hb:IntKeys b)(sa:Srt a.toList)(sb:Srt b.toList)(na:1<=a.size)(nb:1<=b.size)(h1:K b 0<=K a 0)(hl:∀y∈b.toList,∀x∈a.toList.drop (a.size-1),Le y x)(hk:kindOf st=v7)(h:∀r st',Done a.toList b.toList r.toList->Kp st st'->Q r st'):wpS (model prog w) A E s (zB0 a b) Q st:=by
 refine vM (tP (uD ⟨rfl,?_⟩));obtain⟨t0,q0,eb0⟩:=Y8 hb (show 0<b.size by omega);obtain⟨u0,r0,ea0⟩:=Y8 ha (show 0<a.size by omega);refine vM (Y2 eb0 ?_);have m0:Mg a.toList b.toList (#[]:Array vT).toList 0 0:=⟨by simp,xH,λx hx=>by simp at hx,λx hx=>by simp at hx⟩;have m1:=m0.b1 sa sb eb0 ea0 (show K b 0<=K a 0 from h1);have m1:Mg a.toList b.toList (#[(Value.int (K b 0) t0,q0)]:Array vT).toList 0 1:=m1
 dsimp only
 by_cases z1:b.size=1
 ·rw[vC (by rw[z1];rfl)]
  exact vO (h _ st (m1.dB sa sb ∅) (Kp.refl st))
 rw[vF (by simp;omega)]
 by_cases z2:a.size=1
 ·rw[vC (by rw[z2];rfl)]
  exact vO (h _ st (m1.dL sa sb hl ∅) (Kp.refl st))
 rw[vF (by simp;omega)];refine vM (tG ?_);refine vM (uF (vo
  (I:=λx c st'=>∃o i j g,c=(none,o,i,j,g)/\Mg a.toList b.toList o.toList i j/\i+1<a.size/\j<b.size/\x+1<=i+j/\Kp st st')
  (Q:=λc st'=>∃r z,c=(some r,z)/\Done a.toList b.toList r.toList/\Kp st st') ?_ ?_ ⟨_,_,_,_,rfl,m1,∅,∅,∅,Kp.refl st⟩) ?_)
 ·rintro x c st1 _ hx ⟨o,i,j,g,rfl,m,b1,b2,b3,kp⟩
  dsimp only
  refine vM (uF (vo
   (I:=λy c st'=>∃o' i' j' ac bc,c=(none,o',i',j',ac,bc)/\Mg a.toList b.toList o'.toList i' j'/\i'+1<a.size/\j'<b.size/\i+j+y<=i'+j'/\Kp st st')
   (Q:=λc st'=>(∃r z,c=(some r,z)/\Done a.toList b.toList r.toList/\Kp st st')\/∃o' i' j' ac bc,c=(none,o',i',j',ac,bc)/\Mg a.toList b.toList o'.toList i' j'/\i'+1<a.size/\j'<b.size/\i+j+1<=i'+j'/\Kp st st') ?_ ?_ ⟨_,_,_,_,_,rfl,m,b1,b2,∅,kp⟩) ?_)
  ·rintro y c st2 _ hy ⟨o',i',j',ac,bc,rfl,m',d1,d2,d3,kp'⟩
   dsimp only
   obtain⟨t1,q1,eb⟩:=Y8 hb d2;obtain⟨u1,r1,ea⟩:=Y8 ha (show i'<a.size by omega);have hk':kindOf st2=v7:=kp'.kind.trans hk;refine vM (Y2 eb (vM (Y2 ea (vM (zAt hk' ?_)))))
   dsimp only
   by_cases hw:K b j'<K a i'
   ·rw[vS hw,vC rfl]
    have m2:=m'.b1 sa sb eb ea (show K b j'<=K a i' by omega);refine vM (Y2 eb ?_)
    by_cases z:j'+1=b.size
    ·rw[vC (by rw[z];exact beq_self_eq_true _)]
     exact vO (.inl ⟨_,_,rfl,m2.dB sa sb ∅,kp'⟩)
    ·rw[vF ⇑z]
     split
     ·exact vO (.inr ⟨_,_,_,_,_,rfl,m2,d1,∅,∅,kp'⟩)
     ·exact vO ⟨_,_,_,_,_,rfl,m2,d1,∅,∅,kp'⟩
   ·rw[vX hw,vF (by decide)]
    have m2:=m'.a1 sa sb ea eb (show K a i'<=K b j' by omega);refine vM (Y2 ea ?_)
    by_cases z:i'+1+1=a.size
    ·rw[vC (by rw[z];exact beq_self_eq_true _)]
     exact vO (.inl ⟨_,_,rfl,m2.dL sa sb hl z,kp'⟩)
    ·rw[vF ⇑z]
     split
     ·exact vO (.inr ⟨_,_,_,_,_,rfl,m2,∅,d2,∅,kp'⟩)
     ·exact vO ⟨_,_,_,_,_,rfl,m2,∅,d2,∅,kp'⟩
  ·rintro c st2 ⟨o',i',j',ac,bc,rfl,m',d1,d2,d3,kp'⟩
   omega
  ·rintro c st2 (⟨r,z,rfl,dn,kp'⟩|⟨o',i',j',ac,bc,rfl,m',d1,d2,d3,kp'⟩)
   ·exact vO ⟨r,_,rfl,dn,kp'⟩
   ·dsimp only
    refine vM (tP (uD ⟨rfl,?_⟩));refine vM (uF (vo
     (I:=λy c st'=>∃o2 i2 j2 g2 ac bc,c=(none,o2,i2,j2,g2,ac,bc)/\Mg a.toList b.toList o2.toList i2 j2/\i2+1<a.size/\j2<b.size/\i'+j'+y<=i2+j2/\Kp st st')
     (Q:=λc st'=>(∃r z,c=(some r,z)/\Done a.toList b.toList r.toList/\Kp st st')\/∃o2 i2 j2 g2 ac bc,c=(none,o2,i2,j2,g2,ac,bc)/\Mg a.toList b.toList o2.toList i2 j2/\i2+1<a.size/\j2<b.size/\i'+j'<=i2+j2/\Kp st st') ?_ ?_ ⟨_,_,_,_,_,_,rfl,m',d1,d2,∅,kp'⟩) ?_)
    ·rintro y c st3 _ hy ⟨o2,i2,j2,g2,ac2,bc2,rfl,m2,e1,e2,e3,kp3⟩
     dsimp only
     obtain⟨t2,q2,eb⟩:=Y8 hb e2;obtain⟨u2,r2,ea⟩:=Y8 ha (show i2<a.size by omega);refine' (λ(key:∀gg,(_:Nat->Prop) gg)=>_) _
     rotate_left
     ·by_cases hg:g2>1
      ·rw[vC hg]
       generalize g2-1=gg;exact key gg
      ·rw[vF hg]
       exact key g2
     ·intro gg
      refine vM (X8 λst4 kp4=>?_);replace kp4:=kp3.trans kp4;have hk4:kindOf st4=v7:=kp4.kind.trans hk;refine vM (Y2 eb ?_);refine vM (Xl (k:=K b j2) ha hk4 ∅ ∅ (λs t h1 h2=>zBb sa ∅ ∅) λk g1 g2 g3=>?_)
      dsimp only
      refine' (λ(key:∀(oA:Array vT)(iA:Nat),Mg a.toList b.toList oA.toList iA j2->iA+1<a.size->K b j2<=K a iA->i2<=iA->(_:Array vT->Nat->Prop) oA iA)=>_) _
      rotate_left
      ·by_cases hk0:k>0
       ·rw[vC hk0]
        have mA:=m2.a sa k (λx hx y hy=>yW (zAr (v:=K b j2) (λt h1 h2=>zAT.1 (g2 t h1)) x hx) (Wd sb (drop_one eb) y hy));have mA:Mg a.toList b.toList (o2++a.extract i2 (i2+k)).toList (i2+k) j2:=by rw[yD,zA5];exact mA
        by_cases z:i2+k+1=a.size
        ·rw[vC (by rw[z];exact beq_self_eq_true _)]
         exact vO (.inl ⟨_,_,rfl,mA.dL sa sb hl z,kp4⟩)
        rw[vF ⇑z]
        by_cases z':i2+k=a.size
        ·rw[vC (by rw[z'];exact beq_self_eq_true _)]
         exact vO (.inl ⟨_,_,rfl,mA.dA sa sb ∅,kp4⟩)
        rw[vF ⇑z'];have i1:i2+k+1<a.size:=∅
        have hlt:K b j2<=K a (i2+k):=xD (zAT.2 (g3 k (zM _) ∅));have le1:i2<=i2+k:=∅
        generalize o2++a.extract i2 (i2+k)=oA at mA ⊢;generalize i2+k=iA at mA i1 hlt le1 ⊢;exact key _ _ mA i1 hlt le1
       ·rw[vF hk0]
        have mA:=m2;have i1:i2+1<a.size:=e1;have hlt:K b j2<=K a i2:=xD (zAT.2 (g3 0 ∅ ∅));generalize o2=oA at mA ⊢;generalize hiA:i2=iA at mA i1 hlt ⊢;have le1:i2<=iA:=∅
        exact key _ _ mA i1 hlt le1
      ·intro oA iA mA i1 hlt le1
       obtain⟨u3,r3,eA⟩:=Y8 ha (show iA<a.size by omega);have mB:=mA.b1 sa sb eb eA hlt;refine vM (Y2 eb ?_)
       by_cases z3:j2+1=b.size
       ·rw[vC (by rw[z3];exact beq_self_eq_true _)]
        exact vO (.inl ⟨_,_,rfl,mB.dB sa sb ∅,kp4⟩)
       rw[vF ⇑z3];refine vM (Y2 eA ?_);refine vM (Xl (k:=K a iA) hb hk4 ∅ ∅ (λs t h1 h2=>zBb sb ∅ ∅) λk2 p1 p2 p3=>?_)
       dsimp only
       refine' (λ(key2:∀(oB:Array vT)(jB:Nat),Mg a.toList b.toList oB.toList iA jB->jB<b.size->K a iA<=K b jB->j2+1<=jB->(_:Array vT->Nat->Prop) oB jB)=>_) _
       rotate_left
       ·by_cases hk2:k2>0
        ·rw[vC hk2]
         have mC:=mB.b sb k2 (λx hx y hy=>yW (zAr (v:=K a iA) (λt h1 h2=>xD (zAX.1 (p2 t h1))) x hx) (Wd sa (drop_one eA) y hy));rw[<- zA5,<- yD]at mC
         by_cases z4:j2+1+k2=b.size
         ·rw[vC (by rw[z4];exact beq_self_eq_true _)]
          exact vO (.inl ⟨_,_,rfl,mC.dB sa sb ∅,kp4⟩)
         rw[vF ⇑z4];have j1:j2+1+k2<b.size:=∅
         have hle:K a iA<=K b (j2+1+k2):=zAX.2 (p3 k2 (zM _) ∅);have le2:j2+1<=j2+1+k2:=∅
         generalize oA.push (Value.int (K b j2) t2,q2)++b.extract (j2+1) (j2+1+k2)=oB at mC ⊢;generalize j2+1+k2=jB at mC j1 hle le2 ⊢;exact key2 _ _ mC j1 hle le2
        ·rw[vF hk2]
         have mC:=mB;have j1:j2+1<b.size:=∅
         have hle:K a iA<=K b (j2+1):=zAX.2 (p3 0 ∅ ∅);generalize oA.push (Value.int (K b j2) t2,q2)=oB at mC ⊢;generalize hjB:j2+1=jB at mC j1 hle ⊢;have le2:j2+1<=jB:=∅
         exact key2 _ _ mC j1 hle le2
       ·intro oB jB mC j1 hle le2
        obtain⟨t5,q5,eB⟩:=Y8 hb j1;have mD:=mC.a1 sa sb eA eB hle;refine vM (Y2 eA ?_)
        by_cases z5:iA+1+1=a.size
        ·rw[vC (by rw[z5];exact beq_self_eq_true _)]
         exact vO (.inl ⟨_,_,rfl,mD.dL sa sb hl z5,kp4⟩)
        rw[vF ⇑z5]
        by_cases z6:(decide (k<7)&&decide (k2<7))=true
        ·rw[vC z6]
         exact vO (.inr ⟨_,_,_,_,_,_,rfl,mD,∅,j1,∅,kp4⟩)
        ·rw[vF z6]
         exact vO ⟨_,_,_,_,_,_,rfl,mD,∅,j1,∅,kp4⟩
    ·rintro c st3 ⟨o2,i2,j2,g2,ac2,bc2,rfl,m2,e1,e2,e3,kp3⟩
     omega
    ·rintro c st3 (⟨r,z,rfl,dn,kp3⟩|⟨o2,i2,j2,g2,ac2,bc2,rfl,m2,e1,e2,e3,kp3⟩)
     ·exact vO ⟨r,_,rfl,dn,kp3⟩
     ·dsimp only
      refine vM (X8 λst4 kp4=>?_);exact vO ⟨_,_,_,_,rfl,m2,e1,e2,∅,kp3.trans kp4⟩
 ·rintro c st1 ⟨o,i,j,g,rfl,m,b1,b2,b3,kp⟩
  omega
 ·rintro c st1 ⟨r,z,rfl,dn,kp⟩
  exact vO (h r st1 dn kp)
end
end So
set_option maxHeartbeats 1000000
namespace So
open PySem PyProof.Rows
structure Mh (al bl out:List vT) (i j:Nat):Prop where
 perm:(al.take i++(bl.take j++out.reverse)).Perm (al++bl)
 srt:Srt out.reverse
 lea:∀x∈al.take i,∀y∈out,Le x y
 leb:∀x∈bl.take j,∀y∈out,Le x y
def Xk{l:List vT}(h:Srt l)(k:Nat):Srt (l.take k):=h.sublist (wu k l)
def zBN(l:List vT){i k:Nat}(h:k<=i):l.take i=l.take k++(l.take i).drop k:=by
 have:=(yS k (l.take i)).symm;rw[ZZ,ZS h]at this;exact this
variable{al bl out:List vT}{i j:Nat}
def Mh.a(m:Mh al bl out i j)(sa:Srt al){k:Nat}(hk:k<=i)(h:∀x∈bl.take j,∀y∈(al.take i).drop k,Le x y):Mh al bl (out++((al.take i).drop k).reverse) k j:=by
 have e:=zBN al hk;have sd:Srt (al.take k++(al.take i).drop k):=by rw[<- e];exact Xk sa i
 obtain⟨s1,s2,s3⟩:=zV.mp sd;refine⟨?_,?_,λx hx y hy=>?_,λx hx y hy=>?_⟩
 ·rw[xf,xo]
  refine yz ?_ m.perm;have e2:al.take i++(bl.take j++out.reverse)=al.take k++((al.take i).drop k++(bl.take j++out.reverse)):=by rw[<- zN (al.take k),<- e]
  rw[e2];refine yL _ ?_;rw[<- zN,<- zN];exact yy _ xA
 ·rw[xf,xo]
  exact zV.mpr ⟨s2,m.srt,λx hx y hy=>m.lea x (xG hx) y (ye.mp hy)⟩
 ·rcases zT.mp hy with hy|hy
  ·exact m.lea x (by rw[e];exact za _ hx) y hy
  ·exact s3 x hx y (ye.mp hy)
 ·rcases zT.mp hy with hy|hy
  ·exact m.leb x hx y hy
  ·exact h x hx y (ye.mp hy)
def Mh.b(m:Mh al bl out i j)(sb:Srt bl){k:Nat}(hk:k<=j)(h:∀x∈al.take i,∀y∈(bl.take j).drop k,Le x y):Mh al bl (out++((bl.take j).drop k).reverse) i k:=by
 have e:=zBN bl hk;have sd:Srt (bl.take k++(bl.take j).drop k):=by rw[<- e];exact Xk sb j
 obtain⟨s1,s2,s3⟩:=zV.mp sd;refine⟨?_,?_,λx hx y hy=>?_,λx hx y hy=>?_⟩
 ·rw[xf,xo]
  have e2:bl.take k++((bl.take j).drop k++out.reverse)=bl.take j++out.reverse:=by rw[<- zN (bl.take k),<- e]
  rw[e2];exact m.perm
 ·rw[xf,xo]
  exact zV.mpr ⟨s2,m.srt,λx hx y hy=>m.leb x (xG hx) y (ye.mp hy)⟩
 ·rcases zT.mp hy with hy|hy
  ·exact m.lea x hx y hy
  ·exact h x hx y (ye.mp hy)
 ·rcases zT.mp hy with hy|hy
  ·exact m.leb x (by rw[e];exact za _ hx) y hy
  ·exact s3 x hx y (ye.mp hy)
def Mh.done(m:Mh al bl out i j)(sa:Srt al)(sb:Srt bl)(h:∀x∈al.take i,∀y∈bl.take j,Le x y):Done al bl (al.take i++bl.take j++out.reverse):=by
 refine⟨by rw[zN];exact m.perm,?_⟩;refine zV.mpr ⟨zV.mpr ⟨Xk sa i,Xk sb j,h⟩,m.srt,λx hx y hy=>?_⟩;exact(zT.mp hx).elim (λhx=>m.lea x hx y (ye.mp hy)) (λhx=>m.leb x hx y (ye.mp hy))
def Mh.first(m:Mh al bl out i j)(sa:Srt al)(sb:Srt bl)(h:∀y∈bl.take j,∀x∈al.take i,Le y x):Done al bl (bl.take j++al.take i++out.reverse):=by
 refine⟨?_,?_⟩
 ·refine yz ?_ m.perm
  rw[<- zN];exact yy _ xA
 ·refine zV.mpr ⟨zV.mpr ⟨Xk sb j,Xk sa i,h⟩,m.srt,λx hx y hy=>?_⟩
  exact(zT.mp hx).elim (λhx=>m.leb x hx y (ye.mp hy)) (λhx=>m.lea x hx y (ye.mp hy))
def q1k{xs:Array vT}{i:Nat}{p:vT}(h:xs[i]?=some p):(xs.toList.take (i+1)).drop i=[p]:=by
 obtain⟨hi,e⟩:=wo.mp h;rw[Yf,xV ⇑hi];simp[e]
def Wi{xs:Array vT}(s:Srt xs.toList){i:Nat}{p:vT}(h:xs[i]?=some p):∀y∈xs.toList.take (i+1),Le y p:=by
 have sd:=Xk s (i+1);have e:=zBN xs.toList (show i<=i+1 by omega);rw[q1k h]at e;rw[e]at sd ⊢;intro y hy;rcases zT.mp hy with hy|hy
 ·exact(zV.mp sd).2.2 y hy p (by simp)
 ·have:y=p:=by simpa using hy
  rw[this];exact yI _
def Mh.a1{a b out:Array vT}{i j:Nat}{p q:vT}(m:Mh a.toList b.toList out.toList (i+1) (j+1))(sa:Srt a.toList)(sb:Srt b.toList)(hp:a[i]?=some p)(hq:b[j]?=some q)(h:Le q p):Mh a.toList b.toList (out.push p).toList i (j+1):=by
 have:=m.a sa (k:=i) ∅ (by
  rw[q1k hp];intro x hx y hy;have:y=p:=by simpa using hy
  subst this;exact yW (Wi sb hq x hx) h)
 rw[q1k hp]at this;simpa using this
def Mh.b1{a b out:Array vT}{i j:Nat}{p q:vT}(m:Mh a.toList b.toList out.toList (i+1) (j+1))(sa:Srt a.toList)(sb:Srt b.toList)(hp:b[j]?=some p)(hq:a[i]?=some q)(h:Le q p):Mh a.toList b.toList (out.push p).toList (i+1) j:=by
 have:=m.b sb (k:=j) ∅ (by
  rw[q1k hp];intro x hx y hy;have:y=p:=by simpa using hy
  subst this;exact yW (Wi sa hq x hx) h)
 rw[q1k hp]at this;simpa using this
def zB9{xs:Array vT}{i:Nat}:(xs.extract 0 i).toList=xs.toList.take i:=by
 rw[xY,xu];simp
def zAi{xs:Array vT}{i k:Nat}:(xs.extract k i).toList=(xs.toList.take i).drop k:=by
 rw[xY,xu,Yf]
def Mh.d0{a b out:Array vT}{i j:Nat}(m:Mh a.toList b.toList out.toList i j)(sa:Srt a.toList)(sb:Srt b.toList)(h:i=0\/j=0):Done a.toList b.toList (a.extract 0 i++b.extract 0 j++out.reverse).toList:=by
 have:=m.done sa sb (λx hx y hy=>by
  rcases h with rfl|rfl
  ·simp at hx
  ·simp at hy)
 rw[yD,yD,zB9,zB9,xp];exact this
def Mh.dF{a b out:Array vT}{i j:Nat}(m:Mh a.toList b.toList out.toList i j)(sa:Srt a.toList)(sb:Srt b.toList)(hf:∀y∈b.toList.take 1,∀x∈a.toList,Le y x)(h:j=1):Done a.toList b.toList (b.extract 0 j++a.extract 0 i++out.reverse).toList:=by
 have:=m.first sa sb (λy hy x hx=>hf y (by rw[h]at hy;exact hy) x (xa hx))
 rw[yD,yD,zB9,zB9,xp];exact this
end So
set_option maxHeartbeats 1000000
namespace So
open PySem PyProof.Rows
noncomputable def zCA:Array vT->Array vT->StateT vm Sem (Array vT):=sortPriv% PySem.Builtin.mergeHi
section
variable{prog:vQ}{w:vZ}{A:vb}{E:vB->vG->Prop}{s:vG}
def zA6{xs:Array vT}{i k:Nat}{v:Int}(h:∀t,k<=t->t<i->v<=K xs t):∀x∈(xs.toList.take i).drop k,v<=ke x:=by
 intro x hx;obtain⟨t,ht,e⟩:=yF.mp hx;rw[xZ,xI]at e;rw[yX,z0]at ht;have hl:k+t<xs.size:=by simp at ht;omega
 have e2:xs[k+t]?=some x:=by rw[getElem?_pos xs (k+t) hl,<- e];rfl
 have:=h (k+t) ∅ ∅;rw[zBh e2]at this;exact this
def zAf{a b:Array vT}{st:vm}{Q:Array vT->vm->Prop}(ha:IntKeys a)(hb:IntKeys b)(sa:Srt a.toList)(sb:Srt b.toList)(na:1<=a.size)(nb:1<=b.size)(h1:K b (b.size-1)<=K a (a.size-1))(hf:∀y∈b.toList.take 1,∀x∈a.toList,Le y x)(hk:kindOf st=v7)(h:∀r st',Done a.toList b.toList r.toList->Kp st st'->Q r st'):wpS (model prog w) A E s (zCA a b) Q st:=by
 refine vM (tP (uD ⟨rfl,?_⟩));obtain⟨t0,q0,ea0⟩:=Y8 ha (show a.size-1<a.size by omega);obtain⟨u0,r0,eb0⟩:=Y8 hb (show b.size-1<b.size by omega);refine vM (Y2 ea0 ?_);have m0:Mh a.toList b.toList (#[]:Array vT).toList (a.size-1+1) (b.size-1+1):=by
  rw[show a.size-1+1=a.size by omega,show b.size-1+1=b.size by omega];refine⟨?_,xH,λx _ y hy=>by simp at hy,λx _ y hy=>by simp at hy⟩;rw[yZ (by simp),yZ (by simp)];simp
 have m1:=m0.a1 sa sb ea0 eb0 (show K b (b.size-1)<=K a (a.size-1)from h1);rw[show b.size-1+1=b.size by omega]at m1;have m1:Mh a.toList b.toList (#[(Value.int (K a (a.size-1)) t0,q0)]:Array vT).toList (a.size-1) b.size:=m1
 dsimp only
 by_cases z1:a.size-1=0
 ·rw[vC (by rw[z1];rfl)]
  exact vO (h _ st (m1.d0 sa sb (.inl z1)) (Kp.refl st))
 rw[vF ⇑z1]
 by_cases z2:b.size=1
 ·rw[vC (by rw[z2];rfl)]
  exact vO (h _ st (m1.dF sa sb hf z2) (Kp.refl st))
 rw[vF ⇑z2];refine vM (tG ?_);refine vM (uF (vo
  (I:=λx c st'=>∃o i j g,c=(none,i,j,o,g)/\Mh a.toList b.toList o.toList i j/\1<=i/\2<=j/\i<=a.size/\j<=b.size/\x+1+i+j<=a.size+b.size/\Kp st st')
  (Q:=λc st'=>∃r z,c=(some r,z)/\Done a.toList b.toList r.toList/\Kp st st') ?_ ?_ ⟨_,_,_,_,rfl,m1,∅,∅,∅,∅,∅,Kp.refl st⟩) ?_)
 ·rintro x c st1 _ hx ⟨o,i,j,g,rfl,m,b1,b2,b3,b4,b5,kp⟩
  dsimp only
  refine vM (uF (vo
   (I:=λy c st'=>∃o' i' j' ac bc,c=(none,i',j',o',ac,bc)/\Mh a.toList b.toList o'.toList i' j'/\1<=i'/\2<=j'/\i'<=a.size/\j'<=b.size/\y+i'+j'<=i+j/\Kp st st')
   (Q:=λc st'=>(∃r z,c=(some r,z)/\Done a.toList b.toList r.toList/\Kp st st')\/∃o' i' j' ac bc,c=(none,i',j',o',ac,bc)/\Mh a.toList b.toList o'.toList i' j'/\1<=i'/\2<=j'/\i'<=a.size/\j'<=b.size/\1+i'+j'<=i+j/\Kp st st') ?_ ?_ ⟨_,_,_,_,_,rfl,m,b1,b2,b3,b4,∅,kp⟩) ?_)
  ·rintro y c st2 _ hy ⟨o',i',j',ac,bc,rfl,m',c1,c2,c3,c4,c5,kp'⟩
   dsimp only
   obtain⟨i',rfl⟩:∃n,i'=n+1:=⟨i'-1,∅⟩;obtain⟨j',rfl⟩:∃n,j'=n+1:=⟨j'-1,∅⟩;simp only[xS];obtain⟨t1,q1,eb⟩:=Y8 hb (show j'<b.size by omega);obtain⟨u1,r1,ea⟩:=Y8 ha (show i'<a.size by omega);have hk':kindOf st2=v7:=kp'.kind.trans hk;refine vM (Y2 eb (vM (Y2 ea (vM (zAt hk' ?_)))))
   dsimp only
   by_cases hw:K b j'<K a i'
   ·rw[vS hw,vC rfl]
    have m2:=m'.a1 sa sb ea eb (show K b j'<=K a i' by omega);refine vM (Y2 ea ?_)
    by_cases z:i'=0
    ·rw[vC (by rw[z];rfl)]
     exact vO (.inl ⟨_,_,rfl,m2.d0 sa sb (.inl z),kp'⟩)
    ·rw[vF ⇑z]
     split
     ·exact vO (.inr ⟨_,_,_,_,_,rfl,m2,∅,∅,∅,∅,∅,kp'⟩)
     ·exact vO ⟨_,_,_,_,_,rfl,m2,∅,∅,∅,∅,∅,kp'⟩
   ·rw[vX hw,vF (by decide)]
    have m2:=m'.b1 sa sb eb ea (show K a i'<=K b j' by omega);refine vM (Y2 eb ?_)
    by_cases z:j'=1
    ·rw[vC (by rw[z];rfl)]
     exact vO (.inl ⟨_,_,rfl,m2.dF sa sb hf z,kp'⟩)
    ·rw[vF ⇑z]
     split
     ·exact vO (.inr ⟨_,_,_,_,_,rfl,m2,∅,∅,∅,∅,∅,kp'⟩)
     ·exact vO ⟨_,_,_,_,_,rfl,m2,∅,∅,∅,∅,∅,kp'⟩
  ·rintro c st2 ⟨o',i',j',ac,bc,rfl,m',c1,c2,c3,c4,c5,kp'⟩
   omega
  ·rintro c st2 (⟨r,z,rfl,dn,kp'⟩|⟨o',i',j',ac,bc,rfl,m',c1,c2,c3,c4,c5,kp'⟩)
   ·exact vO ⟨r,_,rfl,dn,kp'⟩
   ·dsimp only
    refine vM (tP (uD ⟨rfl,?_⟩));refine vM (uF (vo
     (I:=λy c st'=>∃o2 i2 j2 g2 ac bc,c=(none,i2,j2,o2,g2,ac,bc)/\Mh a.toList b.toList o2.toList i2 j2/\1<=i2/\2<=j2/\i2<=a.size/\j2<=b.size/\y+i2+j2<=i'+j'/\Kp st st')
     (Q:=λc st'=>(∃r z,c=(some r,z)/\Done a.toList b.toList r.toList/\Kp st st')\/∃o2 i2 j2 g2 ac bc,c=(none,i2,j2,o2,g2,ac,bc)/\Mh a.toList b.toList o2.toList i2 j2/\1<=i2/\2<=j2/\i2<=a.size/\j2<=b.size/\i2+j2<=i'+j'/\Kp st st') ?_ ?_ ⟨_,_,_,_,_,_,rfl,m',c1,c2,c3,c4,∅,kp'⟩) ?_)
    ·rintro y c st3 _ hy ⟨o2,i2,j2,g2,ac2,bc2,rfl,m2,e1,e2,e3,e4,e5,kp3⟩
     dsimp only
     obtain⟨jB,rfl⟩:∃n,j2=n+1:=⟨j2-1,∅⟩;simp only[xS];obtain⟨t2,q2,eb⟩:=Y8 hb (show jB<b.size by omega);refine' (λ(key:∀gg,(_:Nat->Prop) gg)=>_) _
     rotate_left
     ·by_cases hg:g2>1
      ·rw[vC hg]
       generalize g2-1=gg;exact key gg
      ·rw[vF hg]
       exact key g2
     ·intro gg
      refine vM (X8 λst4 kp4=>?_);replace kp4:=kp3.trans kp4;have hk4:kindOf st4=v7:=kp4.kind.trans hk;refine vM (Y2 eb ?_);refine vM (Xl (k:=K b jB) ha hk4 ∅ ∅ (λs t h1 h2=>zBb sa ∅ ∅) λk g1 g2 g3=>?_);simp only[yr]at g2 g3
      dsimp only
      refine' (λ(key:∀(oA:Array vT)(kA iA:Nat),Mh a.toList b.toList oA.toList iA (jB+1)->K a (iA-1)<=K b jB->(1<=iA/\iA<=i2)->(_:Array vT->Nat->Nat->Prop) oA kA iA)=>_) _
      rotate_left
      ·by_cases hk0:i2-k>0
       ·rw[vC hk0]
        have mA:=m2.a sa g1 (λx hx y hy=>yW (Wi sb eb x hx) (zA6 (v:=K b jB) (λt h1 h2=>xD (zAT.2 (g3 t h1 h2))) y hy));have mA:Mh a.toList b.toList (o2++(a.extract k i2).reverse).toList k (jB+1):=by rw[yD,xp,zAi];exact mA
        by_cases z:k=0
        ·rw[vC (by rw[z];rfl)]
         exact vO (.inl ⟨_,_,rfl,mA.d0 sa sb (.inl z),kp4⟩)
        rw[vF ⇑z];have hle:K a (k-1)<=K b jB:=zAT.1 (g2 (k-1) ∅);have i1:1<=k/\k<=i2:=⟨∅,g1⟩;generalize o2++(a.extract k i2).reverse=oA at mA ⊢;generalize i2-k=kA;generalize k=iA at mA hle i1 ⊢;exact key oA kA iA mA hle i1
       ·rw[vF hk0]
        have mA:=m2;have hle:K a (i2-1)<=K b jB:=zAT.1 (g2 (i2-1) ∅);have i1:1<=i2/\i2<=i2:=⟨e1,zM _⟩;generalize o2=oA at mA ⊢;generalize i2-k=kA;generalize hiA:i2=iA at mA hle ⊢;rw[hiA]at i1;have i1:1<=iA/\iA<=i2:=⟨i1.1,∅⟩;exact key oA kA iA mA hle i1
      ·intro oA kA iA mA hle i1
       obtain⟨iB,rfl⟩:∃n,iA=n+1:=⟨iA-1,∅⟩;simp only[xS]at hle ⊢;obtain⟨u3,r3,eA⟩:=Y8 ha (show iB<a.size by omega);have mB:=mA.b1 sa sb eb eA hle;refine vM (Y2 eb ?_)
       by_cases z3:jB=1
       ·rw[vC (by rw[z3];rfl)]
        exact vO (.inl ⟨_,_,rfl,mB.dF sa sb hf z3,kp4⟩)
       rw[vF ⇑z3];refine vM (Y2 eA ?_);refine vM (Xl (k:=K a iB) hb hk4 ∅ ∅ (λs t h1 h2=>zBb sb ∅ ∅) λk2 p1 p2 p3=>?_);simp only[yr]at p2 p3
       dsimp only
       refine' (λ(key2:∀(oB:Array vT)(kB jC:Nat),Mh a.toList b.toList oB.toList (iB+1) jC->K b (jC-1)<=K a iB->(2<=jC/\jC<=jB)->(_:Array vT->Nat->Nat->Prop) oB kB jC)=>_) _
       rotate_left
       ·by_cases hk2:jB-k2>0
        ·rw[vC hk2]
         have mC:=mB.b sb p1 (λx hx y hy=>yW (Wi sa eA x hx) (zA6 (v:=K a iB) (λt h1 h2=>zAX.2 (p3 t h1 h2)) y hy));rw[<- zAi,<- xp,<- yD]at mC
         by_cases z4:k2=1
         ·rw[vC (by rw[z4];rfl)]
          exact vO (.inl ⟨_,_,rfl,mC.dF sa sb hf z4,kp4⟩)
         rw[vF ⇑z4]
         by_cases z4':k2=0
         ·rw[vC (by rw[z4'];rfl)]
          exact vO (.inl ⟨_,_,rfl,mC.d0 sa sb (.inr z4'),kp4⟩)
         rw[vF ⇑z4'];have hle2:K b (k2-1)<=K a iB:=xD (zAX.1 (p2 (k2-1) ∅));have j1:2<=k2/\k2<=jB:=⟨∅,p1⟩;generalize oA.push (Value.int (K b jB) t2,q2)++(b.extract k2 jB).reverse=oB at mC ⊢;generalize jB-k2=kB;generalize k2=jC at mC hle2 j1 ⊢;exact key2 oB kB jC mC hle2 j1
        ·rw[vF hk2]
         have mC:=mB;have hle2:K b (jB-1)<=K a iB:=xD (zAX.1 (p2 (jB-1) ∅));generalize oA.push (Value.int (K b jB) t2,q2)=oB at mC ⊢;generalize jB-k2=kB;generalize hjC:jB=jC at mC hle2 ⊢;have j1:2<=jC/\jC<=jB:=⟨∅,∅⟩;exact key2 oB kB jC mC hle2 j1
       ·intro oB kB jC mC hle2 j1
        obtain⟨jD,rfl⟩:∃n,jC=n+1:=⟨jC-1,∅⟩;simp only[xS]at hle2;obtain⟨t5,q5,eB⟩:=Y8 hb (show jD<b.size by omega);have mD:=mC.a1 sa sb eA eB hle2;refine vM (Y2 eA ?_)
        by_cases z5:iB=0
        ·rw[vC (by rw[z5];rfl)]
         exact vO (.inl ⟨_,_,rfl,mD.d0 sa sb (.inl z5),kp4⟩)
        rw[vF ⇑z5]
        by_cases z6:(decide (kA<7)&&decide (kB<7))=true
        ·rw[vC z6]
         exact vO (.inr ⟨_,_,_,_,_,_,rfl,mD,∅,∅,∅,∅,∅,kp4⟩)
        ·rw[vF z6]
         exact vO ⟨_,_,_,_,_,_,rfl,mD,∅,∅,∅,∅,∅,kp4⟩
    ·rintro c st3 ⟨o2,i2,j2,g2,ac2,bc2,rfl,m2,e1,e2,e3,e4,e5,kp3⟩
     omega
    ·rintro c st3 (⟨r,z,rfl,dn,kp3⟩|⟨o2,i2,j2,g2,ac2,bc2,rfl,m2,e1,e2,e3,e4,e5,kp3⟩)
     ·exact vO ⟨r,_,rfl,dn,kp3⟩
     ·dsimp only
      refine vM (X8 λst4 kp4=>?_);exact vO ⟨_,_,_,_,rfl,m2,e1,e2,e3,e4,∅,kp3.trans kp4⟩
 ·rintro c st1 ⟨o,i,j,g,rfl,m,b1,b2,b3,b4,b5,kp⟩
  omega
 ·rintro c st1 ⟨r,z,rfl,dn,kp⟩
  exact vO (h r st1 dn kp)
end
end So
set_option maxHeartbeats 1000000
namespace So
open PySem PyProof.Rows
def zCp{P:List vT}{x y:vT}{S:List vT}{n:Nat}(h:n=P.length):(P++x::S).set n y=P++y::S:=by
 subst h;rw[List.set_append_right _ _ (zM _),wg];rfl
theorem zAx(s:Nat):∀(ys:List vT)(n:Nat)(xs:Array vT)(P M S:List vT),xs.toList=P++M++S->P.length=s+n->M.length=ys.length ->
  ((ys.zipIdx n).foldl (λa p=>a.setIfInBounds (s+p.2) p.1) xs).toList=P++ys++S
 | [],n,xs,P,M,S,h,hp,hm=>by
  have:M=[]:=ZD.mp hm;subst this;exact h
 | y::ys,n,xs,P,M,S,h,hp,hm=>by
  cases M with
  | nil=>cases hm
  | cons x M=>
   rw[ZC,YT];have h2:(xs.setIfInBounds (s+n) y).toList=(P++[y])++M++S:=by
    rw[wp,h];have:P++x::M++S=P++x::(M++S):=by simp
    rw[this,zCp ∅];simp
   rw[zAx s ys (n+1) _ (P++[y]) M S h2 (by simp;omega) ⇑hm];simp
section
variable{prog:vQ}{w:vZ}{A:vb}{E:vB->vG->Prop}{s:vG}
def Wn{xs ys:Array vT}(h:IntKeys xs)(hs:∀p∈ys.toList,p∈xs.toList):IntKeys ys:=λp hp=>h p (hs p hp)
def zBg{X M Y:List vT}(h1:Srt X)(h2:Srt M)(h3:Srt Y)(h12:∀x∈X,∀y∈M,Le x y)(h13:∀x∈X,∀y∈Y,Le x y)(h23:∀x∈M,∀y∈Y,Le x y):Srt (X++M++Y) :=
 zV.mpr ⟨zV.mpr ⟨h1,h2,h12⟩,h3,λx hx y hy=>(zT.mp hx).elim (λhx=>h13 x hx y hy) (λhx=>h23 x hx y hy)⟩
def zCd{σ:Type}{M:Model}{x:σ}{Q:PUnit->σ->Prop}{st:σ}(h:Q ⟨⟩ x):wpS M A E s (set x:StateT σ Sem PUnit) Q st:=by
 unfold wpS;rw[StateT.run_set];exact vH ⟨rfl,h⟩
def zCU{arr:Array vT}{P X S:List vT}{s0 t:Nat}(hl:arr.toList=P++X++S)(hp:P.length=s0)(ht:t<X.length):arr[s0+t]?=X[t]?:=by
 rw[<- zo,hl,zN,zf ∅,show s0+t-P.length=t by omega,zt ht]
def Wy{arr:Array vT}{P X S:List vT}{s0 t:Nat}(hl:arr.toList=P++X++S)(hp:P.length=s0)(ht:t<X.length):K arr (s0+t)=ke X[t]:=by
 have:=zCU hl hp ht;rw[zD ht]at this;exact zBh this
def zAM{arr:Array vT}{P X S:List vT}{s0:Nat}(hl:arr.toList=P++X++S)(hp:P.length=s0)(hs:Srt X):∀i j,i<=j->j<X.length->K arr (s0+i)<=K arr (s0+j):=λi j h1 h2=>by
 rw[Wy hl hp ∅,Wy hl hp h2];rcases yB i j with z|z
 ·exact y0.mp hs i j ∅ h2 z
 ·have:i=j:=∅
  subst this;exact yI _
def WH{X:List vT}{k:Nat}{x:vT}(h:x∈X.take k):∃t,∃(ht:t<X.length),t<k/\X[t]=x:=by
 obtain⟨t,ht,e⟩:=yF.mp h;rw[z0]at ht;rw[xI]at e;exact⟨t,∅,∅,e⟩
def WG{X:List vT}{k:Nat}{x:vT}(h:x∈X.drop k):∃t,∃(ht:t<X.length),k<=t/\X[t]=x:=by
 obtain⟨t,ht,e⟩:=yF.mp h;rw[yX]at ht;rw[xZ]at e;exact⟨k+t,∅,∅,e⟩
def zBj{arr:Array vT}{P X S:List vT}{s0 e0:Nat}(hl:arr.toList=P++X++S)(hp:P.length=s0)(he:e0=s0+X.length):(arr.extract s0 e0).toList=X:=by
 rw[zAi,hl,zN];subst he;rw[<- hp,<- zC,<- zN,Yg,List.drop_left]
def zAl{st:vm}{i sa na pw sb nb pw2:Nat}{P S RA RB:List vT}{Q:Bool->vm->Prop}(h0:IntKeys (vU st))(hk:kindOf st=v7)(hfl:uQ st=none)(p1:(va st)[i]?=some (sa,na,pw))(p2:(va st)[i+1]?=some (sb,nb,pw2))(hl:(vU st).toList=P++RA++RB++S)(lP:P.length=sa)(lA:RA.length=na)(lB:RB.length=nb)(hsb:sb=sa+na)(n1:1<=na)(n2:1<=nb)(sA:Srt RA)(sB:Srt RB)(h:∀st' R,kindOf st'=v7->uQ st'=none->va st'=((va st).setIfInBounds i (sa,na+nb,pw)).eraseIdxIfInBounds (i+1)->(vU st').toList=P++R++S->R.Perm (RA++RB)->Srt R->Q true st'):wpS (model prog w) A E s (mergeAt' i) Q st:=by
 cases st with
 | mk kd arr pe gl fa=>
 dsimp only[vU,kindOf,va,uQ]at h0 hk hfl p1 p2 hl
 refine vM (tG ?_)
 dsimp only
 rw[p1,p2]
 dsimp only
 refine vM (zCd ?_);generalize hst2:SortSt.mk' kd arr ((pe.setIfInBounds i (sa,na+nb,pw)).eraseIdxIfInBounds (i+1)) gl fa=st2;have k2:kindOf st2=v7:=by rw[<- hst2];exact hk
 have f2:uQ st2=none:=by rw[<- hst2];exact hfl
 have pd2:va st2=(pe.setIfInBounds i (sa,na+nb,pw)).eraseIdxIfInBounds (i+1):=by rw[<- hst2]
 have ar2:vU st2=arr:=by rw[<- hst2]
 change wpS _ _ _ _ _ _ (SortSt.mk' kd arr ((pe.setIfInBounds i (sa,na+nb,pw)).eraseIdxIfInBounds (i+1)) gl fa)
 rw[hst2];have hlA:arr.toList=P++RA++(RB++S):=by rw[hl];simp
 have hlB:arr.toList=(P++RA)++RB++S:=by rw[hl]
 have lPA:(P++RA).length=sb:=by rw[zC];omega
 have hsz:arr.size=sa+na+nb+S.length:=by
  have:=uA xg hl;simp only[zC,zQ]at this;omega
 obtain⟨t0,q0,eb0⟩:=Y8 h0 (show sb<arr.size by omega);have kb0:K arr sb=ke RB[0]:=Wy (t:=0) hlB lPA ∅;refine vM (Y2 eb0 ?_);refine vM (Xl (k:=K arr sb) h0 k2 ∅ ∅ (λi j h1 h2=>zAM hlA lP sA i j h1 ∅) λk g1 g2 g3=>?_)
 dsimp only
 have a1:∀x∈RA.take k,ke x<=K arr sb:=λx hx=>by
  obtain⟨t,ht,hk',rfl⟩:=WH hx;rw[<- Wy hlA lP ht];exact zAT.1 (g2 t hk')
 have a2:∀x∈RA.drop k,K arr sb<ke x:=λx hx=>by
  obtain⟨t,ht,hk',rfl⟩:=WG hx;rw[<- Wy hlA lP ht];exact zAT.2 (g3 t hk' ∅)
 have bb:∀x∈RB,K arr sb<=ke x:=λx hx=>by
  obtain⟨t,ht,rfl⟩:=yF.mp hx;rw[<- Wy hlB lPA ht];exact zAM hlB lPA sB 0 t ∅ ht
 by_cases z1:na-k=0
 ·rw[vC (by rw[z1];rfl)]
  refine vO (h st2 (RA++RB) k2 f2 pd2 (by rw[ar2,hl];simp) (xR _) (zV.mpr ⟨sA,sB,λx hx y hy=>?_⟩));have e:RA.take k=RA:=yZ ∅;exact yW (a1 x (by rw[e];exact hx)) (bb y hy)
 rw[vF ⇑z1];have hla:sa+k+(na-k)-1=sa+(na-1):=∅
 rw[hla];obtain⟨t1,q1,ea1⟩:=Y8 h0 (show sa+(na-1)<arr.size by omega);have ka:K arr (sa+(na-1))=ke RA[na-1]:=Wy hlA lP ∅;refine vM (Y2 ea1 ?_);refine vM (Xl (k:=K arr (sa+(na-1))) h0 k2 ∅ ∅ (λi j h1 h2=>zAM hlB lPA sB i j h1 ∅) λm c1 c2 c3=>?_)
 dsimp only
 have b1:∀x∈RB.take m,ke x<K arr (sa+(na-1)):=λx hx=>by
  obtain⟨t,ht,hk',rfl⟩:=WH hx;rw[<- Wy hlB lPA ht];exact zAX.1 (c2 t hk')
 have b2:∀x∈RB.drop m,K arr (sa+(na-1))<=ke x:=λx hx=>by
  obtain⟨t,ht,hk',rfl⟩:=WG hx;rw[<- Wy hlB lPA ht];exact zAX.2 (c3 t hk' ∅)
 have aa:∀x∈RA,ke x<=K arr (sa+(na-1)):=λx hx=>by
  obtain⟨t,ht,rfl⟩:=yF.mp hx;rw[<- Wy hlA lP ht];exact zAM hlA lP sA t (na-1) ∅ ∅
 by_cases z2:m=0
 ·rw[vC (by rw[z2];rfl)]
  refine vO (h st2 (RA++RB) k2 f2 pd2 (by rw[ar2,hl];simp) (xR _) (zV.mpr ⟨sA,sB,λx hx y hy=>?_⟩));exact yW (aa x hx) (b2 y (by rw[z2];exact hy))
 rw[vF ⇑z2];have eA:RA=RA.take k++RA.drop k:=(yS k RA).symm;have eB:RB=RB.take m++RB.drop m:=(yS m RB).symm;have hx:(arr.extract (sa+k) sb).toList=RA.drop k:=zBj (P:=P++RA.take k) (S:=RB++S) (by rw[hlA,zN P (RA.take k),yS]) (by rw[zC,z0];omega) (by rw[yX];omega);have hy:(arr.extract sb (sb+m)).toList=RB.take m:=zBj (P:=P++RA) (S:=RB.drop m++S) (by rw[hlB,zN (P++RA) (RB.take m),show RB.take m++(RB.drop m++S)=RB++S by rw[<- zN,yS],zN (P++RA)]) lPA (by rw[z0];omega);generalize hX:arr.extract (sa+k) sb=X at hx;generalize hY:arr.extract sb (sb+m)=Y at hy;have lX:X.size=na-k:=by rw[<- zQ,hx,yX];omega
 have lY:Y.size=m:=by rw[<- zQ,hy,z0];omega
 have iX:IntKeys X:=Wn h0 λp hp=>by rw[hx]at hp;rw[hlA];have:=xG hp;simp[this]
 have iY:IntKeys Y:=Wn h0 λp hp=>by rw[hy]at hp;rw[hlB];have:=xa hp;simp[this]
 have sX:Srt X.toList:=by rw[hx];exact Xi sA k
 have sY:Srt Y.toList:=by rw[hy];exact Xk sB m
 have memX:∀i,i<X.size->∃x∈RA.drop k,K X i=ke x:=λi hi=>by
  have e:X[i]?=some X[i]:=getElem?_pos _ i hi;exact⟨X[i],by rw[<- hx];simp,zBh e⟩
 have memY:∀i,i<Y.size->∃x∈RB.take m,K Y i=ke x:=λi hi=>by
  have e:Y[i]?=some Y[i]:=getElem?_pos _ i hi;exact⟨Y[i],by rw[<- hy];simp,zBh e⟩
 have q1:∀x∈RA.drop k,∀y∈RB.take 1,Le y x:=λx hx y hy=>by
  obtain⟨t,ht,hk',rfl⟩:=WH hy;have:t=0:=∅
  subst this;have:=a2 x hx;show ke RB[0]<=ke x;rw[<- kb0];omega
 have h1:K Y 0<=K X 0:=by
  obtain⟨x,hx',ex⟩:=memX 0 ∅;have e:Y[0]?=some Y[0]:=getElem?_pos _ 0 ∅;rw[ex,zBh e];refine q1 x hx' _ ?_;have:Y.toList.take 1=RB.take 1:=by rw[hy,ZZ];congr 1;omega
  rw[<- this];have:=drop_one e;rw[Za]at this;rw[this];simp
 have hlast:∀y∈Y.toList,∀x∈X.toList.drop (X.size-1),Le y x:=λy hy' x hx'=>by
  rw[hy]at hy';rw[hx,Ye]at hx';obtain⟨t,ht,hk',rfl⟩:=WG hx';have:t=na-1:=∅
  subst this;have:=b1 y hy';show ke y<=ke RA[na-1];rw[<- ka];omega
 have h1':K Y (Y.size-1)<=K X (X.size-1):=by
  obtain⟨y,hy',ey⟩:=memY (Y.size-1) ∅;have e:X[X.size-1]?=some X[X.size-1]:=getElem?_pos _ _ ∅;rw[ey,zBh e];refine hlast y (by rw[hy];exact hy') _ ?_;rw[drop_one e];simp
 have hfirst:∀y∈Y.toList.take 1,∀x∈X.toList,Le y x:=λy hy' x hx'=>by
  rw[hy,ZZ]at hy';rw[hx]at hx';exact q1 x hx' y (by rw[show min 1 m=1 by omega]at hy';exact hy')
 by_cases z3:na-k<=m
 case' pos=>
  rw[vC z3];refine vM (zAm iX iY sX sY ∅ ∅ h1 hlast k2 λr st3 dn kp=>?_)
 case' neg=>
  rw[vF z3];refine vM (zAf iX iY sX sY ∅ ∅ h1' hfirst k2 λr st3 dn kp=>?_)
 all_goals
  rw[hx,hy]at dn;have f3:uQ st3=none:=kp.fail.trans f2;have ar3:vU st3=arr:=kp.arr.trans ar2;have pm:(RA.take k++r.toList++RB.drop m).Perm (RA++RB):=by
   have:RA++RB=RA.take k++(RA.drop k++RB.take m)++RB.drop m:=by
    conv=>lhs;rw[eA,eB]
    simp only[zN]
   rw[this];exact yy _ (yL _ dn.perm)
  have inr:∀x∈r.toList,x∈RA.drop k\/x∈RB.take m:=λx hx'=>zT.mp (dn.perm.mem_iff.mp hx');have sAA:Srt (RA.take k++RA.drop k):=by rw[<- eA];exact sA
  have sBB:Srt (RB.take m++RB.drop m):=by rw[<- eB];exact sB
  have sR:Srt (RA.take k++r.toList++RB.drop m):=zBg (Xk sA k) dn.srt (Xi sB m)
   (λx hx' y hy'=>(inr y hy').elim (λhy'=>(zV.mp sAA).2.2 x hx' y hy') (λhy'=>yW (a1 x hx') (bb y (xa hy'))))
   (λx hx' y hy'=>yW (a1 x hx') (bb y (xG hy')))
   (λx hx' y hy'=>(inr x hx').elim (λhx'=>yW (aa x (xG hx')) (b2 y hy')) (λhx'=>(zV.mp sBB).2.2 x hx' y hy'))
  have lr:r.toList.length=(RA.drop k++RB.take m).length:=dn.perm.length_eq;have hput:=zAx (sa+k) r.toList 0 arr (P++RA.take k) (RA.drop k++RB.take m) (RB.drop m++S) (by
   rw[hl]
   conv=>lhs;rw[eA,eB]
   simp only[zN]) (by rw[zC,z0];omega) lr.symm
  refine vM (ur (vM (tG ?_)));have fin:=h (SortSt.mk' (kindOf st3) (ZG (λa x=>a.setIfInBounds (sa+k+x.snd) x.fst) (vU st3) r.toList.zipIdx) (va st3) (gallopOf st3) (uQ st3)) (RA.take k++r.toList++RB.drop m) (kp.kind.trans k2) f3 (kp.pend.trans pd2) (by
   show (ZG _ (vU st3) _).toList=_;rw[ar3,hput];simp only[zN]) pm sR
  show wpS _ _ _ _ (pure (uQ st3).isNone) _ _;rw[f3];exact vO fin
end
end So
set_option maxHeartbeats 1000000
namespace So
open PySem PyProof.Rows
def SrK(xs:Array vT)(lo k:Nat):Prop:=∀i j,i<=j->j<k->K xs (lo+i)<=K xs (lo+j)
structure Within (lo hi:Nat) (st st':vm):Prop where
 kind:kindOf st'=kindOf st
 pend:va st'=va st
 fail:uQ st'=uQ st
 perm:(vU st').Perm (vU st)
 out:∀t,(t<lo\/hi<=t)->(vU st')[t]?=(vU st)[t]?
def Within.refl(lo hi:Nat)(st:vm):Within lo hi st st:=⟨rfl,rfl,rfl,YY _,λ_ _=>rfl⟩
theorem Within.trans{lo hi:Nat}{a b c:vm}(h:Within lo hi a b)(h':Within lo hi b c):Within lo hi a c:=⟨h'.kind.trans h.kind,h'.pend.trans h.pend,h'.fail.trans h.fail,h'.perm.trans h.perm,λt ht=>(h'.out t ht).trans (h.out t ht)⟩
theorem Within.size{lo hi:Nat}{a b:vm}(h:Within lo hi a b):(vU b).size=(vU a).size:=h.perm.size_eq
def Within.ints{lo hi:Nat}{a b:vm}(h:Within lo hi a b)(h0:IntKeys (vU a)):IntKeys (vU b):=λp hp=>h0 p ((xq.mp h.perm).mem_iff.mp hp)
def W7{lo hi:Nat}{st:vm}{ys:Array vT}(hp:ys.Perm (vU st))(ho:∀t,(t<lo\/hi<=t)->ys[t]?=(vU st)[t]?):Within lo hi st (setArr st ys):=⟨rfl,rfl,rfl,hp,ho⟩
section
variable{prog:vQ}{w:vZ}{A:vb}{E:vB->vG->Prop}{s:vG}
def WW{st:vm}{i j:Nat}{Q:Option Bool->vm->Prop}(h0:IntKeys (vU st))(hk:kindOf st=v7)(hi:i<(vU st).size)(hj:j<(vU st).size)(h:Q (some (decide (K (vU st) i<K (vU st) j))) st):wpS (model prog w) A E s (ltAt' i j) Q st:=by
 obtain⟨t,p,e1⟩:=Y8 h0 hi;obtain⟨u,q,e2⟩:=Y8 h0 hj;exact wpS_ltAt hk e1 e2 h
def zBD{st:vm}{lo n ok:Nat}{Q:Bool->vm->Prop}(h0:IntKeys (vU st))(hk:kindOf st=v7)(hn:lo+n<=(vU st).size)(hok:ok<=n)(hs:SrK (vU st) lo ok)(h:∀st',Within lo (lo+n) st st'->SrK (vU st') lo n->Q true st'):wpS (model prog w) A E s (binarySort' lo n ok) Q st:=by
 refine vM (uF (vo
  (I:=λx c st'=>c=(none,())/\Within lo (lo+n) st st'/\SrK (vU st') lo x)
  (Q:=λc st'=>c=(none,())/\Within lo (lo+n) st st'/\SrK (vU st') lo n) ?_ ?_ ⟨rfl,Within.refl _ _ _,?_⟩) ?_)
 ·rintro k c st1 hk1 hkn ⟨rfl,W,S⟩
  have sz:=W.size;have i0:=W.ints h0;have kd:kindOf st1=v7:=W.kind.trans hk
  dsimp only
  refine vM (uF (vo
   (I:=λy c st'=>st'=st1/\∃l r,c=(none,l,r)/\l<=r/\r<=k/\r-l<=k-y/\(∀t,t<l->K (vU st1) (lo+t)<=K (vU st1) (lo+k))/\(∀t,r<=t->t<k->K (vU st1) (lo+k)<K (vU st1) (lo+t)))
   (Q:=λc st'=>st'=st1/\∃l,c=(none,l,l)/\l<=k/\(∀t,t<l->K (vU st1) (lo+t)<=K (vU st1) (lo+k))/\(∀t,l<=t->t<k->K (vU st1) (lo+k)<K (vU st1) (lo+t))) ?_ ?_ ⟨rfl,0,k,rfl,∅,∅,∅,λt ht=>∅,λt h1 h2=>∅⟩) ?_)
  ·rintro y c st2 _ hy ⟨rfl,l,r,rfl,b1,b2,b3,b4,b5⟩
   dsimp only
   by_cases z:l>=r
   ·rw[vC z]
    have:l=r:=∅
    subst this;exact vO ⟨rfl,l,rfl,∅,b4,b5⟩
   ·rw[vF z]
    refine vM (WW i0 kd ∅ ∅ ?_)
    dsimp only
    by_cases hc:K (vU st2) (lo+k)<K (vU st2) (lo+(l+r)/2)
    ·rw[vS hc,vC rfl]
     refine vO ⟨rfl,_,_,rfl,∅,∅,∅,b4,λt h1 h2=>?_⟩;have:=S ((l+r)/2) t h1 h2;omega
    ·rw[vX hc,vF (by decide)]
     refine vO ⟨rfl,_,_,rfl,∅,∅,∅,λt ht=>?_,b5⟩;have:=S t ((l+r)/2) ∅ ∅;omega
  ·rintro c st2 ⟨rfl,l,r,rfl,b1,b2,b3,b4,b5⟩
   have:l=r:=∅
   subst this;exact⟨rfl,l,rfl,∅,b4,b5⟩
  ·rintro c st2 ⟨rfl,l,rfl,b1,b4,b5⟩
   dsimp only
   refine vM (ur ?_);have hsrc:lo+k<(vU st2).size:=∅
   have hd:lo+k-(lo+l)<=lo+k:=∅
   refine vO ⟨rfl,W.trans (W7 (bubble_perm _ _ _) λt ht=>?_),λi j h1 h2=>?_⟩
   ·show (bubble (vU st2) (lo+k) (lo+k-(lo+l)))[t]?=_
    rw[getElem?_bubble hsrc _ hd,vF ∅,vF ∅]
   ·show K (bubble (vU st2) (lo+k) (lo+k-(lo+l))) (lo+i)<=K (bubble (vU st2) (lo+k) (lo+k-(lo+l))) (lo+j)
    rw[K_bubble hsrc hd,K_bubble hsrc hd];have e:lo+k-(lo+k-(lo+l))=lo+l:=∅
    rw[e]
    by_cases c1:i=l
    ·rw[vC ∅]
     by_cases c2:j=l
     ·rw[vC ∅];exact yI _
     ·rw[vF ∅,vC ∅,show lo+j-1=lo+(j-1) by omega]
      exact xD (b5 (j-1) ∅ ∅)
    ·rw[vF ∅]
     by_cases c3:l<i
     ·rw[vC ∅,vF ∅,vC ∅,show lo+i-1=lo+(i-1) by omega,show lo+j-1=lo+(j-1) by omega]
      exact S (i-1) (j-1) ∅ ∅
     ·rw[vF ∅]
      by_cases c2:j=l
      ·rw[vC ∅];exact b4 i ∅
      ·rw[vF ∅]
       by_cases c4:l<j
       ·rw[vC ∅,show lo+j-1=lo+(j-1) by omega]
        exact S i (j-1) ∅ ∅
       ·rw[vF ∅]
        exact S i j h1 ∅
 ·rintro c st1 ⟨rfl,W,S⟩
  refine⟨rfl,W,λi j h1 h2=>S i j h1 ∅⟩
 ·intro i j h1 h2
  by_cases z:ok=0
  ·have:i=j:=∅
   subst this;exact yI _
  ·exact hs i j h1 ∅
 ·rintro c st1 ⟨rfl,W,S⟩
  exact vO (h st1 W S)
end
end So
set_option maxHeartbeats 2000000
namespace So
open PySem PyProof.Rows
section
variable{prog:vQ}{w:vZ}{A:vb}{E:vB->vG->Prop}{s:vG}
def zAI{st:vm}{lo hi i j:Nat}{Q:Unit->vm->Prop}(hi1:lo<=i)(hj:j<=hi)(hs:hi<=(vU st).size)(h:∀st',Within lo hi st st'->(∀k,K (vU st') k=if i<=k/\k<j then K (vU st) (i+j-1-k)else K (vU st) k)->Q () st'):wpS (model prog w) A E s (reverseSlice' i j) Q st:=by
 rw[reverseSlice'_eq];refine ur (h _ (W7 (mirror_perm _ _ _ _) λt ht=>?_) λk=>K_mirror ∅ k);rw[getElem?_mirror_all ∅,vF ∅]
def keepK{xs ys:Array vT}{i j:Nat}(KK:∀k,K ys k=if i<=k/\k<j then K xs (i+j-1-k)else K xs k)(e:∀k,i<=k->k<j->K xs k=K xs (j-1))(k:Nat):K ys k=K xs k:=by
 rw[KK k]
 split
 ·rename_i hh
  rw[e (i+j-1-k) ∅ ∅,e k hh.1 hh.2]
 ·rfl
def zCe{st:vm}{lo nrem:Nat}{Q:Option Nat->vm->Prop}(h0:IntKeys (vU st))(hk:kindOf st=v7)(hn:lo+nrem<=(vU st).size)(h1:1<=nrem)(h:∀n st',1<=n->n<=nrem->Within lo (lo+nrem) st st'->SrK (vU st') lo n->Q (some n) st'):wpS (model prog w) A E s (countRun' lo nrem) Q st:=by
 refine vM (uF (vo
  (I:=λx c st'=>st'=st/\c=(none,x)/\x<=nrem/\SrK (vU st) lo x)
  (Q:=λc st'=>st'=st/\∃n,c=(none,n)/\1<=n/\n<=nrem/\SrK (vU st) lo n/\(n<nrem->K (vU st) (lo+n)<K (vU st) (lo+n-1))) ?_ ?_ ⟨rfl,rfl,h1,λi j h2 h3=>by rw[show i=j by omega];exact yI _⟩) ?_)
 ·rintro x c st1 hx1 hx ⟨rfl,rfl,b1,S⟩
  dsimp only
  refine vM (WW h0 hk ∅ ∅ ?_)
  dsimp only
  by_cases hc:K (vU st1) (lo+x)<K (vU st1) (lo+x-1)
  ·rw[vS hc,vC rfl]
   exact vO ⟨rfl,x,rfl,hx1,b1,S,λ_=>hc⟩
  ·rw[vX hc,vF (by decide)]
   refine vO ⟨rfl,rfl,∅,λi j h2 h3=>?_⟩
   by_cases z:j=x
   ·subst z
    by_cases z2:i=j
    ·rw[z2];exact yI _
    ·have:=S i (j-1) ∅ ∅
     rw[show lo+(j-1)=lo+j-1 by omega]at this;omega
   ·exact S i j h2 ∅
 ·rintro c st1 ⟨rfl,rfl,b1,S⟩
  exact⟨rfl,_,rfl,∅,b1,S,λz=>∅⟩
 ·rintro c st1 ⟨rfl,n,rfl,b1,b2,S,b3⟩
  dsimp only
  by_cases z1:n=nrem
  ·rw[vC (by rw[z1];exact beq_self_eq_true _)]
   exact vO (h n st1 b1 b2 (Within.refl _ _ _) S)
  rw[vF ⇑z1];have b3:=b3 ∅;have start:∃stA,stA=st1:=⟨_,rfl⟩
  by_cases z2:n>1
  case' pos=>
   rw[vC z2];refine vM (WW h0 hk ∅ ∅ ?_)
   dsimp only
   by_cases hc:K (vU st1) lo<K (vU st1) (lo+n-1)
   ·rw[vS hc,vC rfl]
    exact vO (h n st1 b1 b2 (Within.refl _ _ _) S)
   rw[vX hc,vF (by decide)];refine vM (zAI (lo:=lo) (hi:=lo+nrem) (zM _) ∅ hn λst2 W KK=>?_);have eqs:∀t,t<n->K (vU st1) (lo+t)=K (vU st1) (lo+n-1):=λt ht=>by
    have e1:=S 0 t ∅ ht;have e2:=S t (n-1) ∅ ∅;rw[show lo+(n-1)=lo+n-1 by omega]at e2;rw[Nat.add_zero]at e1;omega
   have same:∀k,K (vU st2) k=K (vU st1) k:=λk=>by
    rw[KK k]
    split
    ·rename_i hh
     have e1:=eqs (lo+(lo+n)-1-k-lo) ∅;have e2:=eqs (k-lo) ∅;rw[show lo+(lo+(lo+n)-1-k-lo)=lo+(lo+n)-1-k by omega]at e1;rw[show lo+(k-lo)=k by omega]at e2;rw[e1,e2]
    ·rfl
   have eqs:∀t,t<n->K (vU st2) (lo+t)=K (vU st2) (lo+n-1):=λt ht=>by rw[same,same];exact eqs t ht
   have b3:K (vU st2) (lo+n)<K (vU st2) (lo+n-1):=by rw[same,same];exact b3
  case' neg=>
   rw[vF z2];have W:Within lo (lo+nrem) st1 st1:=Within.refl _ _ _;have eqs:∀t,t<n->K (vU st1) (lo+t)=K (vU st1) (lo+n-1):=λt ht=>by rw[show lo+t=lo+n-1 by omega]
   generalize hst2:st1=st2 at eqs b3 ⊢;have W:Within lo (lo+nrem) st1 st2:=by rw[<- hst2];exact Within.refl _ _ _
  all_goals
   clear start;refine vM (tP (uD ⟨rfl,?_⟩));refine vM (uF (vo
    (I:=λx c st'=>∃q,c=(none,x,q)/\x<=nrem/\q+1<=x/\Within lo (lo+nrem) st1 st'/\(∀i j,i<=j->j<x->K (vU st') (lo+j)<=K (vU st') (lo+i))/\(∀t,x-1-q<=t->t<x->K (vU st') (lo+t)=K (vU st') (lo+x-1)))
    (Q:=λc st'=>∃m q,c=(none,m,q)/\1<=m/\m<=nrem/\q+1<=m/\Within lo (lo+nrem) st1 st'/\(∀i j,i<=j->j<m->K (vU st') (lo+j)<=K (vU st') (lo+i))/\(∀t,m-1-q<=t->t<m->K (vU st') (lo+t)=K (vU st') (lo+m-1))) ?_ ?_ ⟨0,rfl,∅,∅,W,λi j h2 h3=>?_,λt h2 h3=>by rw[show lo+t=lo+(n+1)-1 by omega]⟩) ?_)
   ·rintro x c st3 hx1 hx ⟨q,rfl,c1,c2,W3,N3,E3⟩
    dsimp only
    have i3:=W3.ints h0;have k3:kindOf st3=v7:=W3.kind.trans hk;have s3:=W3.size;refine vM (WW i3 k3 ∅ ∅ ?_)
    dsimp only
    by_cases hc:K (vU st3) (lo+x)<K (vU st3) (lo+x-1)
    ·rw[vS hc,vC rfl]
     have N4:∀i j,i<=j->j<x+1->K (vU st3) (lo+j)<=K (vU st3) (lo+i):=λi j h2 h3=>by
      by_cases z:j=x
      ·subst z
       by_cases z2:i=j
       ·rw[z2];exact yI _
       ·have:=N3 i (j-1) ∅ ∅
        rw[show lo+(j-1)=lo+j-1 by omega]at this;omega
      ·exact N3 i j h2 ∅
     by_cases zq:q>0
     ·rw[vC zq]
      refine vM (zAI (lo:=lo) (hi:=lo+nrem) ∅ ∅ ∅ λst4 W4 KK=>?_);have same:=keepK KK (λk h2 h3=>by
       have:=E3 (k-lo) ∅ ∅;rw[show lo+(k-lo)=k by omega]at this;exact this)
      refine vO ⟨0,rfl,∅,∅,W3.trans W4,λi j h2 h3=>by rw[same,same];exact N4 i j h2 h3,λt h2 h3=>by rw[show lo+t=lo+(x+1)-1 by omega]⟩
     ·rw[vF zq]
      exact vO ⟨0,rfl,∅,∅,W3,N4,λt h2 h3=>by rw[show lo+t=lo+(x+1)-1 by omega]⟩
    ·rw[vX hc,vF (by decide)]
     refine vM (WW i3 k3 ∅ ∅ ?_)
     dsimp only
     by_cases hd:K (vU st3) (lo+x-1)<K (vU st3) (lo+x)
     ·rw[vS hd,vC rfl]
      exact vO ⟨x,q,rfl,∅,c1,c2,W3,N3,E3⟩
     ·rw[vX hd,vF (by decide)]
      have eq:K (vU st3) (lo+x)=K (vU st3) (lo+x-1):=∅
      refine vO ⟨q+1,rfl,∅,∅,W3,λi j h2 h3=>?_,λt h2 h3=>?_⟩
      ·by_cases z:j=x
       ·subst z
        by_cases z2:i=j
        ·rw[z2];exact yI _
        ·have:=N3 i (j-1) ∅ ∅
         rw[show lo+(j-1)=lo+j-1 by omega]at this;omega
       ·exact N3 i j h2 ∅
      ·rw[show lo+(x+1)-1=lo+x by omega,eq]
       by_cases z:t=x
       ·rw[z,eq]
       ·exact E3 t ∅ ∅
   ·rintro c st3 ⟨q,rfl,c1,c2,W3,N3,E3⟩
    exact⟨_,q,rfl,∅,c1,c2,W3,N3,E3⟩
   ·by_cases z:j=n
    ·subst z
     by_cases z2:i=j
     ·rw[z2];exact yI _
     ·have:=eqs i ∅
      omega
    ·have e1:=eqs i ∅
     have e2:=eqs j ∅;omega
   ·rintro c st3 ⟨m,q,rfl,c0,c1,c2,W3,N3,E3⟩
    dsimp only
    have s3:=W3.size;have start:∃stA,stA=st3:=⟨_,rfl⟩
    by_cases zq:q>0
    case' pos=>
     rw[vC zq];refine vM (zAI (lo:=lo) (hi:=lo+nrem) ∅ ∅ ∅ λst4 W4 KK=>?_);have same:=keepK KK (λk h2 h3=>by
      have:=E3 (k-lo) ∅ ∅;rw[show lo+(k-lo)=k by omega]at this;exact this)
     have N4:∀i j,i<=j->j<m->K (vU st4) (lo+j)<=K (vU st4) (lo+i):=λi j h2 h3=>by rw[same,same];exact N3 i j h2 h3
     replace W4:=W3.trans W4
    case' neg=>
     rw[vF zq];have N4:=N3;have W4:=W3;generalize hst4:st3=st4 at N4 W4 ⊢
    all_goals
     have s4:=W4.size;refine vM (zAI (lo:=lo) (hi:=lo+nrem) ∅ ∅ ∅ λst5 W5 KK5=>?_);replace W5:=W4.trans W5;have s5:=W5.size;have i5:=W5.ints h0;have k5:kindOf st5=v7:=W5.kind.trans hk;have S5:SrK (vU st5) lo m:=λi j h2 h3=>by
      rw[KK5 (lo+i),KK5 (lo+j),vC ∅,vC ∅,show lo+(lo+m)-1-(lo+i)=lo+(m-1-i) by omega,show lo+(lo+m)-1-(lo+j)=lo+(m-1-j) by omega];exact N4 (m-1-j) (m-1-i) ∅ ∅
     refine vM (uF (vo
      (I:=λx c st'=>st'=st5/\c=(none,x)/\x<=nrem/\SrK (vU st5) lo x)
      (Q:=λc st'=>st'=st5/\∃n,c=(none,n)/\1<=n/\n<=nrem/\SrK (vU st5) lo n) ?_ ?_ ⟨rfl,rfl,c1,S5⟩) ?_)
     ·rintro x c st6 hx1 hx ⟨rfl,rfl,d1,S6⟩
      dsimp only
      refine vM (WW i5 k5 ∅ ∅ ?_)
      dsimp only
      by_cases hc:K (vU st6) (lo+x)<K (vU st6) (lo+x-1)
      ·rw[vS hc,vC rfl]
       exact vO ⟨rfl,x,rfl,∅,d1,S6⟩
      ·rw[vX hc,vF (by decide)]
       refine vO ⟨rfl,rfl,∅,λi j h2 h3=>?_⟩
       by_cases z:j=x
       ·subst z
        by_cases z2:i=j
        ·rw[z2];exact yI _
        ·have:=S6 i (j-1) ∅ ∅
         rw[show lo+(j-1)=lo+j-1 by omega]at this;omega
       ·exact S6 i j h2 ∅
     ·rintro c st6 ⟨rfl,rfl,d1,S6⟩
      exact⟨rfl,_,rfl,∅,d1,S6⟩
     ·rintro c st6 ⟨rfl,n',rfl,d0,d1,S6⟩
      exact vO (h n' st6 d0 d1 W5 S6)
end
end So
set_option maxHeartbeats 2000000
namespace So
open PySem PyProof.Rows
def X3:Nat->List (Nat×Nat×Nat)->List (List vT)->Prop
 | _,[],[]=>True
 | s,p::r,X::Xs=>p.1=s/\p.2.1=X.length/\1<=X.length/\Srt X/\X3 (s+X.length) r Xs
 | _,_,_=>False
theorem zAF:∀{s:Nat}{ps:List (Nat×Nat×Nat)}{Xs:List (List vT)},X3 s ps Xs->ps.length=Xs.length
 | _,[],[],_=>rfl
 | _,_::_,_::_,h=>by rw[zE,zE,zAF h.2.2.2.2]
 | _,[],_::_,h=>h.elim
 | _,_::_,[],h=>h.elim
theorem zBV:∀(i s:Nat)(ps:List (Nat×Nat×Nat))(Xs:List (List vT)),X3 s ps Xs->i+1<ps.length->∃Pre X Y zBH pw pw2,Xs=Pre++X::Y::zBH/\ps[i]?=some (s+Pre.flatten.length,X.length,pw)/\ps[i+1]?=some (s+Pre.flatten.length+X.length,Y.length,pw2)/\1<=X.length/\1<=Y.length/\Srt X/\Srt Y /\
  ∀R:List vT,R.length=X.length+Y.length->Srt R->X3 s ((ps.set i (s+Pre.flatten.length,X.length+Y.length,pw)).eraseIdx (i+1)) (Pre++R::zBH)
 | 0,s,ps,Xs,h,hl=>by
  match ps,Xs,h,hl with
  | p::q::r,X::Y::Xs,⟨h1,h2,h3,h4,h5,h6,h7,h8,h9⟩,_=>
   refine⟨[],X,Y,Xs,p.2.2,q.2.2,rfl,?_,?_,h3,h7,h4,h8,λR hR sR=>?_⟩
   ·show some p=_
    rw[<- h2];exact uA some (Prod.ext h1 rfl)
   ·show some q=_
    rw[<- h6];exact uA some (Prod.ext h5 rfl)
   ·refine⟨rfl,hR.symm,∅,sR,?_⟩
    rw[hR,<- wW];exact h9
 | i+1,s,ps,Xs,h,hl=>by
  match ps,Xs,h,hl with
  | p::r,X0::Xs,⟨h1,h2,h3,h4,h5⟩,hl=>
   obtain⟨Pre,X,Y,zBH,pw,pw2,e,g1,g2,g3,g4,g5,g6,g7⟩:=zBV i (s+X0.length) r Xs h5 ⇑hl;refine⟨X0::Pre,X,Y,zBH,pw,pw2,by rw[e];rfl,?_,?_,g3,g4,g5,g6,λR hR sR=>?_⟩
   ·show r[i]?=_
    rw[g1,yP,zC,<- wW]
   ·show r[i+1]?=_
    rw[g2,yP,zC,<- wW s]
   ·have:=g7 R hR sR
    rw[yP,zC,<- wW];exact⟨h1,h2,h3,h4,this⟩
theorem zAb:∀{s:Nat}{ps:List (Nat×Nat×Nat)}{Xs:List (List vT)}{X:List vT}{pw:Nat},X3 s ps Xs->1<=X.length->Srt X->X3 s (ps++[(s+Xs.flatten.length,X.length,pw)]) (Xs++[X])
 | s,[],[],X,pw,_,h1,h2=>⟨rfl,rfl,h1,h2,trivial⟩
 | s,p::r,X0::Xs,X,pw,⟨g1,g2,g3,g4,g5⟩,h1,h2=>by
  refine⟨g1,g2,g3,g4,?_⟩;have:=zAb (pw:=pw) g5 h1 h2;rw[yP,zC,<- wW];exact this
theorem zAs:∀{s:Nat}{ps ps':List (Nat×Nat×Nat)}{Xs:List (List vT)},X3 s ps Xs->ps'.map (λp=>(p.1,p.2.1))=ps.map (λp=>(p.1,p.2.1))->X3 s ps' Xs
 | s,[],[],[],_,_=>trivial
 | s,p::r,p'::r',X::Xs,⟨h1,h2,h3,h4,h5⟩,e=>by
  rw[zY,zY]at e;obtain⟨e1,e2⟩:=List.cons.inj e;obtain⟨f1,f2⟩:=Prod.mk.inj e1;exact⟨f1.trans h1,f2.trans h2,h3,h4,zAs h5 e2⟩
 | s,p::r,[],_,_,e=>by cases e
 | s,[],p::r,_,_,e=>by cases e
 | s,p::r,p'::r',[],h,_=>h.elim
structure IV (a₀:Array vT) (st:vm) (lo:Nat) (S:List vT):Prop where
 kind:kindOf st=v7
 fail:uQ st=none
 perm:(vU st).Perm a₀
 runs:∃Xs,(vU st).toList=Xs.flatten++S/\X3 0 (va st).toList Xs/\Xs.flatten.length=lo
section
variable{prog:vQ}{w:vZ}{A:vb}{E:vB->vG->Prop}{s:vG}
def IV.ints{a₀:Array vT}{st:vm}{lo:Nat}{S:List vT}(h:IV a₀ st lo S)(h0:IntKeys a₀):IntKeys (vU st):=λp hp=>h0 p ((xq.mp h.perm).mem_iff.mp hp)
def WO{a₀:Array vT}{st:vm}{lo i:Nat}{S:List vT}{Q:Bool->vm->Prop}(h0:IntKeys a₀)(V:IV a₀ st lo S)(hi:i+1<(va st).size)(h:∀st',IV a₀ st' lo S->(va st').size+1=(va st).size->Q true st'):wpS (model prog w) A E s (mergeAt' i) Q st:=by
 obtain⟨Xs,e1,e2,e3⟩:=V.runs;obtain⟨Pre,X,Y,zBH,pw,pw2,rfl,g1,g2,g3,g4,g5,g6,g7⟩:=zBV i 0 _ _ e2 ⇑hi;rw[yr]at g1 g2 g7;rw[zo]at g1 g2;have hl:(vU st).toList=Pre.flatten++X++Y++(zBH.flatten++S):=by
  rw[e1];simp
 refine zAl (V.ints h0) V.kind V.fail g1 g2 hl rfl rfl rfl rfl g3 g4 g5 g6 λst' R k1 k2 k3 k4 k5 k6=>?_;have lR:R.length=X.length+Y.length:=by rw[k5.length_eq,zC]
 refine h st' ⟨k1,k2,?_,Pre++R::zBH,?_,?_,?_⟩ ?_
 ·refine Array.Perm.trans ?_ V.perm
  rw[xq,k4,hl];have:Pre.flatten++X++Y++(zBH.flatten++S)=Pre.flatten++(X++Y)++(zBH.flatten++S):=by simp
  rw[this];exact yy _ (yL _ k5)
 ·rw[k4];simp
 ·rw[k3]
  have:=g7 R lR k6;rw[wP,wp];exact this
 ·rw[<- e3];simp[lR];omega
 ·rw[k3]
  have hi':i+1<((va st).setIfInBounds i (Pre.flatten.length,X.length+Y.length,pw)).size:=by simpa using hi
  rw[<- zQ,wP,List.length_eraseIdx];rw[vC ⇑hi];simp;omega
end
end So
set_option maxHeartbeats 2000000
namespace So
open PySem PyProof.Rows
theorem W9{α β:Type}{g:α->β}{f:α->α}(h:∀x,g (f x)=g x):∀(l:List α)(i:Nat),(l.modify i f).map g=l.map g
 | [],i=>by simp
 | x::l,0=>by simp[h]
 | x::l,i+1=>by simp[W9 h l i]
theorem zAZ:∀{s:Nat}{ps:List (Nat×Nat×Nat)}{Xs:List (List vT)},X3 s ps Xs->Xs.length<=Xs.flatten.length
 | _,[],[],_=>zM _
 | _,_::_,X::Xs,h=>by
  have:=zAZ h.2.2.2.2;have:=h.2.2.1;rw[zE,yP,zC];omega
theorem IV.push{a₀:Array vT}{st:vm}{lo m:Nat}{X S:List vT}(V:IV a₀ st lo (X++S))(lX:X.length=m)(h1:1<=m)(sX:Srt X):IV a₀ (setPending st ((va st).push (lo,m,0))) (lo+m) S:=by
 obtain⟨Xs,e1,e2,e3⟩:=V.runs;refine⟨V.kind,V.fail,V.perm,Xs++[X],?_,?_,?_⟩
 ·show (vU st).toList=_
  rw[e1];simp
 ·show X3 0 ((va st).push (lo,m,0)).toList _
  have:=zAb (pw:=0) e2 (∅:1<=X.length) sX;rw[yr,e3,lX]at this;rw[wv];exact this
 ·rw[List.flatten_append,zC,e3];simp[lX]
def IV.pow{a₀:Array vT}{st:vm}{lo i pw:Nat}{S:List vT}(V:IV a₀ st lo S):IV a₀ (setPending st ((va st).modify i λx=>(x.fst,x.2.fst,pw))) lo S:=by
 obtain⟨Xs,e1,e2,e3⟩:=V.runs;refine⟨V.kind,V.fail,V.perm,Xs,e1,?_,e3⟩;show X3 0 ((va st).modify i λx=>(x.fst,x.2.fst,pw)).toList _;refine zAs e2 ?_;rw[Array.toList_modify];exact W9 (g:=λp:Nat×Nat×Nat=>(p.1,p.2.1)) (f:=λx=>(x.1,x.2.1,pw)) (λ_=>rfl) _ _
def Within.wider{lo hi hi':Nat}{a b:vm}(h:Within lo hi a b)(hh:hi<=hi'):Within lo hi' a b:=⟨h.kind,h.pend,h.fail,h.perm,λt ht=>h.out t ∅⟩
section
variable{prog:vQ}{w:vZ}{A:vb}{E:vB->vG->Prop}{s:vG}
def zAp{a₀:Array vT}{st:vm}{Q:Unit->vm->Prop}(h0:IntKeys a₀)(hB:SBase a₀ st)(h:∀st',(vU st').Perm a₀->uQ st'=none->SortedTo (vU st') a₀.size->Q () st'):wpS (model prog w) A E s sortRuns' Q st:=by
 rw[sortRuns'_eq];refine vM (tG ?_);have hsz:=hB.size
 dsimp only
 simp only[hsz];have V0:IV a₀ st 0 (vU st).toList:=⟨hB.kind,hB.failed,hB.perm,[],rfl,by rw[hB.pend];trivial,rfl⟩;refine vM (uF (vo
  (I:=λx c st'=>∃lo S,c=(none,lo)/\IV a₀ st' lo S/\lo<=a₀.size/\(x<=lo\/lo=a₀.size))
  (Q:=λc st'=>c=(none,a₀.size)/\∃S,IV a₀ st' a₀.size S) ?_ ?_ ⟨0,_,rfl,V0,yE _,.inl (zM _)⟩) ?_)
 ·rintro x c st1 _ hx ⟨lo,S,rfl,V,b1,b2⟩
  dsimp only
  have hsz1:(vU st1).size=a₀.size:=V.perm.size_eq
  by_cases z:lo>=a₀.size
  ·rw[vC z]
   have:lo=a₀.size:=∅
   subst this;exact vO ⟨rfl,S,V⟩
  rw[vF z];have i1:=V.ints h0;refine vM (zCe i1 V.kind ∅ ∅ λn st2 n1 n2 W Sr=>?_)
  dsimp only
  have key:∀(m:Nat)(st3:vm),1<=m->m<=a₀.size-lo->Within lo (lo+(a₀.size-lo)) st1 st3->SrK (vU st3) lo m->∃X S',IV a₀ st3 lo (X++S')/\X.length=m/\Srt X:=λm st3 m1 m2 W3 S3=>by
   obtain⟨Xs,e1,e2,e3⟩:=V.runs;have sz3:(vU st3).size=a₀.size:=W3.size.trans hsz1;have tk:(vU st3).toList.take lo=Xs.flatten:=by
    have:(vU st3).toList.take lo=(vU st1).toList.take lo:=by
     apply xK;intro t
     by_cases ht:t<lo
     ·rw[xx ht,xx ht,zo,zo]
      exact W3.out t (.inl ht)
     ·rw[wq ∅,wq ∅]
    rw[this,e1,<- e3,Yg]
   refine⟨((vU st3).toList.drop lo).take m,((vU st3).toList.drop lo).drop m,⟨W3.kind.trans V.kind,W3.fail.trans V.fail,W3.perm.trans V.perm,Xs,?_,?_,e3⟩,?_,?_⟩
   ·rw[yS,<- tk,yS]
   ·rw[W3.pend];exact e2
   ·rw[z0,yX,zQ];omega
   ·rw[Srt,y0]
    intro i j hi hj hij;rw[z0,yX,zQ]at hj;have:=S3 i j ∅ ∅;have q1:(vU st3)[lo+i]?=some (vU st3)[lo+i]:=getElem?_pos _ _ ∅;have q2:(vU st3)[lo+j]?=some (vU st3)[lo+j]:=getElem?_pos _ _ ∅;rw[zBh q1,zBh q2]at this;rw[xI,xI,xZ,xZ];exact this
  have sz2:=W.size
  by_cases zm:n<sV a₀.size a₀.size 0
  case' pos=>
   rw[vC zm];refine vM (tP (uD ⟨rfl,?_⟩));refine vM (zBD (W.ints i1) (W.kind.trans V.kind) ∅ ∅ Sr λst3 W3 S3=>?_);rw[vF (by decide)];have f1:1<=min (a₀.size-lo) (sV a₀.size a₀.size 0):=∅
   have f2:min (a₀.size-lo) (sV a₀.size a₀.size 0)<=a₀.size-lo:=∅
   have W4:=W.trans (W3.wider (∅:lo+min (a₀.size-lo) (sV a₀.size a₀.size 0)<=lo+(a₀.size-lo)));generalize min (a₀.size-lo) (sV a₀.size a₀.size 0)=m at f1 f2 S3 ⊢;obtain⟨X,S',V3,lX,sX⟩:=key m st3 f1 f2 W4 S3
  case' neg=>
   rw[vF zm];obtain⟨X,S',V3,lX,sX⟩:=key n st2 n1 n2 W Sr;have f1:=n1;have f2:=n2;generalize hm:n=m at lX f1 f2 ⊢;generalize hst3:st2=st3 at V3 ⊢
  all_goals
   refine vM (tG ?_);cases hb:(va st3).back? with
   | none=>
    dsimp only
    exact vM (ur (vO ⟨lo+m,S',rfl,V3.push lX f1 sX,∅,.inl ∅⟩))
   | some p=>
    obtain⟨s1,n1',pp⟩:=p
    dsimp only
    refine vM (uF (vo (I:=λy c st'=>c=(none,())/\IV a₀ st' lo (X++S')) (Q:=λc st'=>c=(none,())/\IV a₀ st' lo (X++S')) ?_ (λ_ _ hh=>hh) ⟨rfl,V3⟩) ?_)
    ·rintro y c st4 _ _ ⟨rfl,V4⟩
     refine vM (tG ?_)
     by_cases zp:(va st4).size>1
     ·rw[vC zp,getElem?_pos (va st4) ((va st4).size-2) ∅]
      generalize (va st4)[(va st4).size-2]=row;obtain⟨r1,r2,r3⟩:=row
      dsimp only
      split
      ·exact vO ⟨rfl,V4⟩
      ·refine vM (WO h0 V4 ∅ λst5 V5 _=>?_)
       rw[vF (by decide)];exact vO ⟨rfl,V5⟩
     ·rw[vF zp]
      exact vO ⟨rfl,V4⟩
    ·rintro c st4 ⟨rfl,V4⟩
     dsimp only
     exact vM (ur (vM (ur (vO ⟨lo+m,S',rfl,V4.pow.push lX f1 sX,∅,.inl ∅⟩))))
 ·rintro c st1 ⟨lo,S,rfl,V,b1,b2⟩
  have:lo=a₀.size:=∅
  subst this;exact⟨rfl,S,V⟩
 ·rintro c st1 ⟨rfl,S,V⟩
  dsimp only
  have hsz1:(vU st1).size=a₀.size:=V.perm.size_eq;have many:∀st' S',IV a₀ st' a₀.size S'->(va st').size<=a₀.size:=λst' S' V'=>by
   obtain⟨Xs,e1,e2,e3⟩:=V'.runs;have l1:=zAF e2;have l2:=zAZ e2;rw[zQ]at l1;omega
  have m1:=many st1 S V;refine vM (uF (vo
   (I:=λx c st'=>c=(none,())/\IV a₀ st' a₀.size S/\((va st').size<=1\/(va st').size+x<=(va st1).size))
   (Q:=λc st'=>c=(none,())/\IV a₀ st' a₀.size S/\(va st').size<=1) ?_ ?_ ⟨rfl,V,.inr ∅⟩) ?_)
  ·rintro x c st2 _ _ ⟨rfl,V2,b⟩
   refine vM (tG ?_)
   by_cases z:(va st2).size<=1
   ·rw[vC z]
    exact vO ⟨rfl,V2,z⟩
   rw[vF z];have hx:∀c:Bool,(if c=true then (va st2).size-2-1 else (va st2).size-2)+1<(va st2).size:=λc=>by cases c <;> simp <;> omega
   refine vM (WO h0 V2 (hx _) λst3 V3 hs=>?_);rw[vF (by decide)];exact vO ⟨rfl,V3,.inr ∅⟩
  ·rintro c st2 ⟨rfl,V2,b⟩
   exact⟨rfl,V2,∅⟩
  ·rintro c st2 ⟨rfl,V2,b⟩
   dsimp only
   refine vO (h st2 V2.perm V2.fail ?_);obtain⟨Xs,e1,e2,e3⟩:=V2.runs;have sz2:(vU st2).size=a₀.size:=V2.perm.size_eq;have hS:S=[]:=by
    have:=uA xg e1;rw[zC,zQ,e3,sz2]at this;exact ZD.mp ∅
   have hl:=zAF e2;rw[zQ]at hl;have st:Srt (vU st2).toList:=by
    rw[e1,hS,zn]
    match Xs,e2,hl with
    | [],_,_=>exact xH
    | [X],e2,_=>
     rw[yP,List.flatten_nil,zn]
     match hp:(va st2).toList,e2 with
     | p::r,e2=>exact e2.2.2.2.1
    | X::Y::Z,_,hl=>rw[zE,zE]at hl;omega
   exact λi j h1 h2=>zBb st h1 ∅
end
end So
set_option maxHeartbeats 2000000
namespace So
open PySem PyProof.Rows
section
variable{prog:vQ}{w:vZ}{A:vb}{E:vB->vG->Prop}{s:vG}
def zCC{a:vJ}{xs:List vB}{is:List Int}{k:Nat}{P:Fin->vG->Prop}(at_:s.heap.get? a=some (uV "list" xs.toArray k))(hin:uH xs is)(big:2<=xs.length)(fits:xs.length<=1000000)(h:∀(o:Array vB)(js:List Int),uH o.toList js->js.Perm is->js.Pairwise (· <= ·)->P (.done (.ret .none)) { s with heap:=sortedHeap s.heap a xs o }):vN (model prog w) A (Builtin.«list.sort» ⟨[.ref a],[]⟩) P E s:=by
 have la:=zO at_;have empty:=get?_update_seq at_ (λ_=>(#[]:Array vB));rw[list_sort_plain];refine vA (listItems_at at_ rfl (vA (listUpdate_at at_ rfl ?_)));refine vA (seqEpoch_at empty rfl (vA (u9 (vA (tH (vh ?_))))));have still:(((s.heap.update a (Obj.mapSeq λ_=>#[])).push (uV "tuple" xs.toArray 0)).push (uV "list" #[] 0)).get? a=some _:=zH _ (zH _ empty)
 change vN (model prog w) A _ P E (Shared.mk (((s.heap.update a (Obj.mapSeq λ_=>#[])).push (uV "tuple" xs.toArray 0)).push (uV "list" #[] 0)) _ _ _ _)
 have many:¬xs.toArray.size<2:=by rw[zP];omega
 dsimp only
 rw[vF many,vF many];have kk:keyKind' xs.toArray=pure v7:=by
  match xs,big,hin with
  | _::_::_,_,hin=>exact keyKind_ints hin
 rw[kk];refine vA (vH ?_);have base:SBase (pairsOf xs) (SortSt.mk' v7 (xs.toArray.zip xs.toArray) #[] 7 none):=⟨YY _,rfl,rfl,rfl⟩;refine vA (vq (zAp (Q:=λ_ t=>(vU t).Perm (pairsOf xs)/\uQ t=none/\SortedTo (vU t) (pairsOf xs).size) hin.intKeys base λt q1 q2 q3=>⟨q1,q2,q3⟩) (λr s3 hr=>?_) λ_ _ z=>z);obtain⟨⟨⟩,t⟩:=r;obtain⟨rfl,q1,q2,q3⟩:=hr
 dsimp only
 obtain⟨js,c1,c2,c3⟩:=sorted_out hin q1 q3;have lt:((vU t).map (·.2)).size<=sizeLine:=by
  rw[Array.size_map,q1.size_eq,pairsOf_size,vp];omega
 refine vA (seqEpoch_at still rfl (vA (listUpdate_at still rfl ?_ (hsz2:=wM lt))));rw[q2];simp only[bne_self_eq_false,ya,if_false];exact vH (h _ js c1 c2 c3)
def sorted_any{l:vJ}{xs:List vB}{is:List Int}{Q:vB->vG->Prop}(isl:s.heap.IsList l xs.toArray)(hin:uH xs is)(fits:xs.length<=1000000)(h:∀(o:Array vB)(js:List Int),uH o.toList js->js.Perm is->js.Pairwise (· <= ·)->Q (.ref (s.heap.objs.size+1)) { s with heap:=sortedAll s.heap xs o }):vN (model prog w) A (call (.builtin "sorted") [.ref l]) Q E s:=by
 by_cases few:xs.length<64
 ·exact sorted_ints isl hin few h
 refine Calls.call_function_entry sO sG sH (sI (.ref l)) ?_;unfold Builtin.«sorted»;refine vA (m:=checkCount "sorted" 1 1 _) (vH (vA (collect_list isl ?_ (by rw[vp];omega))));have many:((s.heap.push (uV "list" #[] 0)).update s.heap.objs.size (Obj.mapSeq (·++xs.toArray))).objs.size=s.heap.objs.size+1:=(Heap.size_update _ _ _).trans (size_push' _ _);refine vA (tH ?_);generalize hh:(s.heap.push (uV "list" #[] 0)).update s.heap.objs.size (Obj.mapSeq (·++xs.toArray))=h2 at many ⊢;have here:(h2.push (uV "list" xs.toArray 0)).get? (s.heap.objs.size+1)=some (uV "list" xs.toArray 0):=by
  have:=zS h2 (o:=uV "list" xs.toArray 0) rfl
  rwa [many]at this
 change vN _ _ _ _ _ (Shared.mk (h2.push (uV "list" xs.toArray 0)) _ _ _ _)
 rw[many];refine vA (vh (ve slot_list_sort ⟨_,here,rfl⟩ entry_list_sort ?_ (tX _)));refine zCC here hin ∅ fits λo js c1 c2 c3=>?_;refine⟨_,rfl,vH ⟨_,rfl,?_⟩⟩;subst hh;exact h o js c1 c2 c3
end
end So
namespace Hk
open PySem L2
def rSortB:List V->Hp->VK->Prop:=λxs H Q=>∃p ns,xs=[.ref p]/\H p=some (.lst (ns.map V.int))/\ns.length<=1000000/\∀l,H l=none->Q (.ref l) (upd H l (.lst ((XJ ns).map V.int)))
noncomputable def zCF:D->Option R
 | .lst ds=>(intsOf ds).bind λns=>if ns.length<=1000000 then some (.fr ((XJ ns).map D.int))else none
 | _=>none
noncomputable def zA1(f:FD):FE:=λω=>(f ω).bind zCF
section
variable{X:Cx}
def qbm:X6 X (.builtin "sorted") rSortB:=by
 intro pins s σ H xs us Q I r h;obtain⟨p,ns,rfl,hp,hz,q⟩:=h;obtain⟨u,rfl,rx⟩:=vals1 r;cases rx;obtain⟨its,n,rv,e,_⟩:=I.lst hp;have hlen:its.length=ns.length:=by rw[<- rv.length,zB]
 refine So.sorted_any ⟨_,e,rfl,n,rfl⟩ (q1H rv) ∅ λout ns' a1 a2 a3=>?_;obtain⟨m,hm⟩:=PyProof.Rows.sortedAll_at s.heap its out;have en:ns'=XJ ns:=q2l a3 q2B (a2.trans qN.symm);subst en;have hsl:(XJ ns).length<=sizeLine:=by rw[q74,vp];omega
 have I2:=I.laid (a:=s.heap.objs.size+1) (o:=.lst ((XJ ns).map V.int)) (t':=s.toks) (λb o e=>PyProof.Rows.sortedAll_old e) (xn _)
  (show XF X.prog X.w _ (PyProof.Rows.sortedAll s.heap its out) _ (.lst _)from ⟨by rw[zB];exact hsl,out.toList,m,q29 a1,by rw[wY];exact hm⟩)
 exact⟨.ref _,_,I2,rfl,q _ (I.hok.fresh (xn _))⟩
def q92{a:vW}{f:FD}{p q:Pos}(hg:Gl X "sorted")(hm:X.mg "sorted" = none)(ha:XV X a f)(he:vL [a] X.env=(false,eval a X.env)::vL [] X.env:=by rfl)(hpl:(v4 q (vL [] X.env)).any (·.1)=false:=by rfl):XE X (.Call (.Name "sorted" p) [a] [] q) (zA1 f):=by
 obtain⟨t,h1,h2⟩:=ha;refine⟨_,q2L qbm hg hm q4v (qA h1 qz he) (by decide) (by decide) he hpl,λG0 H0 G ω σ H r Q o e k=>?_⟩;obtain⟨d,z,e⟩:=bnd e;refine h2 G0 H0 G ω σ H d _ o z λv G1 H1 x1 y1=>?_;cases d with
 | lst ds=>
  obtain⟨ns,e1,e2⟩:=bnd (show (intsOf ds).bind _=some r from e);have hds:=q1t e1;subst hds
  by_cases hz:ns.length<=1000000
  ·rw[vC hz]at e2
   cases e2;obtain⟨p,vs,rfl,g1,g2⟩:=y1.lst x1.gh;have hv:=g2.of_ints;subst hv;refine⟨p,ns,rfl,g1,hz,λl hl=>?_⟩;have x2:=Ext.hide x1.gh hl (.lst ((XJ ns).map V.int));exact k _ G1 _ (x1.trans x2) ⟨l,_,rfl,x1.hh.free hl,x1.gh.free hl,qe,Yx.ints _⟩
  ·rw[vF hz]at e2;cases e2
 | _=>cases e
noncomputable def zCG(o:Option D):Option R:=o.bind zCF
def q53{fd:FD}{ω:WSt}:zA1 fd ω=zCG (fd ω):=rfl
def q60{ns:List Int}(h:ns.length<=1000000):zCG (some (.lst (ns.map D.int)))=some (.fr ((XJ ns).map D.int)):=by
 show (intsOf (ns.map D.int)).bind _=_;rw[q0e];exact vC h
end
end Hk
set_option maxHeartbeats 4000000
namespace Kx
open PySem L2 Hk
noncomputable def top(i:Nat):vx:=PySem.Challenge.pw_hookrail_k53_a_yard_tour_walked.main.body.getD i (.Pass ⟨0,0,0,0⟩)
section
variable{P:vQ}{w:vZ}{K:zA}{mg:Str->Option vB}{base:vn}{f:vJ}{fd:vP}
noncomputable def q5C:FS:=(XX (eOf (zAY (dOf (zA7 .int (vOf (Yr 0)))) (vNot (dOf (zA7 .bl (vOf (Yr 0))))))))
noncomputable def qB:List D->Option O:=mir 1 q5C
noncomputable abbrev q3B:vx:=top 5
def qaJ:FnScope ["thing"] ["thing"] (Yt q3B):=⟨rfl,rfl,rfl,⋯,rfl,⋯,⋯⟩
def q9p (F:Fun K "is_whole" "is_whole" q3B f fd)(z_isinstance:mg "isinstance" = none)(z_bool:mg "bool" = none)(z_int:mg "int" = none)(i_int:IsT K .int)(i_bool:IsT K .bl):
  FnOk P w K mg base CX0 1 f fd ["thing"] (spD K 1 qB):=by
 have h:=fnD (P:=P) (w:=w) (mg:=mg) (base:=base) (k:=0) (body:=q5C) F qaJ (λcdv A outer s H E hr=>
   (qb (qf (XD.toE (qX (XE.toD (q18 (vV 0) i_int rfl z_isinstance rfl z_int qcI)) (q0n (qcO (XE.toD (q18 (vV 0) i_bool rfl z_isinstance rfl z_bool q9V)))))))))
 exact h
noncomputable def q5b:FS:=(XX (eOf (zAY (dOf (zA7 .tup (vOf (Yr 0)))) (zAY (dOf (Yv (oEq false) (vOf (Xx WU (Yp (vOf (Yr 0)) Yz))) (fC (.int 2)))) (zAY (dOf (Y1 qB (Yp (dOf (Yv oIx (vOf (Yr 0)) (fC (.int 0)))) Yz))) (dOf (Y1 qB (Yp (dOf (Yv oIx (vOf (Yr 0)) (fC (.int 1)))) Yz))))))))
noncomputable def q2P:List D->Option O:=mir 1 q5b
noncomputable abbrev q59:vx:=top 6
def qea:FnScope ["thing"] ["thing"] (Yt q59):=⟨rfl,rfl,rfl,⋯,rfl,⋯,⋯⟩
def qdw{f_is_whole:vJ}{d_is_whole:vP}(F:Fun K "is_box" "is_box" q59 f fd)(c_is_whole:Cal P w K mg base 1 f_is_whole d_is_whole "is_whole" ["thing"] 1 qB)(z_len:mg "len" = none)(z_isinstance:mg "isinstance" = none)(z_tuple:mg "tuple" = none)(i_tuple:IsT K .tup):
  FnOk P w K mg base CX0 2 f fd ["thing"] (spD K 1 q2P):=by
 have h:=fnD (P:=P) (w:=w) (mg:=mg) (base:=base) (k:=1) (body:=q5b) F qea (λcdv A outer s H E hr=>
   (qb (qf (XD.toE (qX (XE.toD (q18 (vV 0) i_tuple rfl z_isinstance rfl z_tuple q3L)) (qX (XE.toD (zAo hr.units (XE.toV (qr qj qF rfl z_len qE (qh (vV 0) qi))) (XD.toV Yq))) (qX (XE.toD (xc c_is_whole hr (Yo (XE.toD (Ys (vV 0) (XD.toV Yq))) Yu))) (q0n (XE.toD (xc c_is_whole hr (Yo (XE.toD (Ys (vV 0) (XD.toV Yq))) Yu)))))))))))
 exact h
noncomputable def q4j:FD:=(dOf (Y1 q2P (Yp (dOf (Yr 0)) Yz)))
noncomputable def q23:FS:=(Y6 (sIf (zAP (WB (W6 (vOf (Y1 qB (Yp (dOf (Yr 0)) Yz))))) (zAP (WB (W6 (vOf (Y1 qB (Yp (dOf (Yr 1)) Yz))))) (WB (W6 (vOf (zA7 .lst (vOf (Yr 2)))))))) (XX (eOf (fC (.bl false)))) WA)
  (XX (Xx zBq (Yp (vOf (Xj 1 [] (WD (dOf (Yr 2))) (gN 0) XQ q4j)) Yz))))
noncomputable def q0g:List D->Option O:=mir 3 q23
noncomputable abbrev q3b:vx:=top 7
def q9m:FnScope ["home", "last", "boxes"] ["home", "last", "boxes"] (Yt q3b):=⟨rfl,rfl,rfl,⋯,rfl,⋯,⋯⟩
def q8B{f_is_whole:vJ}{d_is_whole:vP}{f_is_box:vJ}{d_is_box:vP}(F:Fun K "is_errand" "is_errand" q3b f fd)(c_is_whole:Cal P w K mg base 1 f_is_whole d_is_whole "is_whole" ["thing"] 1 qB)(c_is_box:Cal P w K mg base 2 f_is_box d_is_box "is_box" ["thing"] 1 q2P)(z_isinstance:mg "isinstance" = none)(z_list:mg "list" = none)(z_all:mg "all" = none)(i_list:IsT K .lst):
  FnOk P w K mg base CX0 3 f fd ["home", "last", "boxes"] (spD K 3 q0g):=by
 have h:=fnD (P:=P) (w:=w) (mg:=mg) (base:=base) (k:=2) (body:=q23) F q9m (λcdv A outer s H E hr=>
   (qa (qv (XW.toT (q0J (q07 (qL (XE.toV (xc c_is_whole hr (Yo (vD 0) Yu))))) (q0J (q07 (qL (XE.toV (xc c_is_whole hr (Yo (vD 1) Yu))))) (q27 (q07 (qL (XE.toV (q18 (vV 2) i_list rfl z_isinstance rfl z_list q3n)))))))) (qb (qf (XD.toE X9))) qq)
   (qb (qf (qr (q31 rfl) q5B rfl z_all q5W (qh (XE.toV (qP rfl (blk ["box"] [] [] rfl ⋯ ⋯ rfl trivial) (qt (vD 2)) (qy 0) (λ_ _ _ _=>⟨(qg (i:=0) (show ((["box"]:List Str)++([]:List Str):List Str).Nodup from by decide +kernel) rfl (Or.inl rfl)),qK,(XE.toD (xc c_is_box hr (Yo (vD 0) Yu)))⟩))) qi))))))
 exact h
noncomputable def q2F:FS:=(XX (eOf (zAY (dOf (Yv oLe (vOf (Yr 0)) (vOf (Yv oIx (vOf (Yr 2)) (fC (.int 0)))))) (dOf (Yv oLe (vOf (Yv oIx (vOf (Yr 2)) (fC (.int 1)))) (vOf (Yr 1)))))))
noncomputable def q0p:List D->Option O:=mir 3 q2F
noncomputable abbrev q2G:vx:=top 9
def q7S:FnScope ["start", "goal", "gap"] ["start", "goal", "gap"] (Yt q2G):=⟨rfl,rfl,rfl,⋯,rfl,⋯,⋯⟩
def q7s (F:Fun K "leads_over" "leads_over" q2G f fd):
  FnOk P w K mg base CX0 1 f fd ["start", "goal", "gap"] (spD K 3 q0p):=by
 have h:=fnD (P:=P) (w:=w) (mg:=mg) (base:=base) (k:=0) (body:=q2F) F q7S (λcdv A outer s H E hr=>
   (qb (qf (XD.toE (qX (XE.toD (qbi (vV 0) (XE.toV (Ys (vV 2) (XD.toV Yq))))) (q0n (XE.toD (qbi (XE.toV (Ys (vV 2) (XD.toV Yq))) (vV 1)))))))))
 exact h
noncomputable def q3G:FT:=(W6 (vOf (Y1 q0p (Yp (dOf (Yv oIx (vOf (Yr 0)) (fC (.int 0)))) (Yp (dOf (Yv oIx (vOf (Yr 0)) (fC (.int 1)))) (Yp (dOf (Yr 1)) Yz))))))
noncomputable def q3W:FD:=(dOf (Yr 0))
noncomputable def q3S:FT:=(W6 (vOf (Y1 q0p (Yp (dOf (Yv oIx (vOf (Yr 0)) (fC (.int 1)))) (Yp (dOf (Yv oIx (vOf (Yr 0)) (fC (.int 0)))) (Yp (dOf (Yr 1)) Yz))))))
noncomputable def q3U:FD:=(dOf (Yr 0))
noncomputable def q4y:FS:=(Y6 (Xf 2 (Xj 1 [1] (WD (dOf (Yr 0))) (gN 0) q3G q3W))
  (zAB 2 (Y6 (Xf 3 (Xj 1 [1] (WD (dOf (Yr 0))) (gN 0) q3S q3U))
  (zAB 3 (XX (eOf (zAg (Yp (dOf (Xx WU (Yp (vOf (Yr 2)) Yz))) (Yp (dOf (Xx WU (Yp (vOf (Yr 3)) Yz))) Yz)))))))))
noncomputable def q0X:List D->Option O:=mir 4 q4y
noncomputable abbrev q46:vx:=top 10
def q4e:FnScope ["boxes", "gap", "rights", "lefts"] ["boxes", "gap"] (Yt q46):=⟨rfl,rfl,rfl,⋯,rfl,⋯,⋯⟩
def qbv{f_leads_over:vJ}{d_leads_over:vP}(F:Fun K "crossed" "crossed" q46 f fd)(c_leads_over:Cal P w K mg base 1 f_leads_over d_leads_over "leads_over" ["start", "goal", "gap"] 3 q0p)(z_len:mg "len" = none):
  FnOk P w K mg base CX0 2 f fd ["boxes", "gap"] (spD K 2 q0X):=by
 have h:=fnD (P:=P) (w:=w) (mg:=mg) (base:=base) (k:=1) (body:=q4y) F q4e (λcdv A outer s H E hr=>
   (qa (q2o (i:=2) rfl q4e.nd rfl rfl (blk ["box"] ["gap"] [1] rfl ⋯ ⋯ rfl ⟨⟨rfl,(by first|exact Or.inl rfl|exact Or.inr rfl),rfl⟩,trivial⟩) (qt (vD 0)) (qy 0) (λ_ _ _ _=>⟨(qg (i:=0) (show ((["box"]:List Str)++(["gap"]:List Str):List Str).Nodup from by decide +kernel) rfl (Or.inl rfl)),(q4T (qL (XE.toV (xc c_leads_over hr (Yo (XE.toD (Ys (vV 0) (XD.toV Yq))) (Yo (XE.toD (Ys (vV 0) (XD.toV Yq))) (Yo (vD 1) Yu))))))),(vD 0)⟩))
   (q2Z 2 (qa (q2o (i:=3) rfl q4e.nd rfl rfl (blk ["box"] ["gap"] [1] rfl ⋯ ⋯ rfl ⟨⟨rfl,(by first|exact Or.inl rfl|exact Or.inr rfl),rfl⟩,trivial⟩) (qt (vD 0)) (qy 0) (λ_ _ _ _=>⟨(qg (i:=0) (show ((["box"]:List Str)++(["gap"]:List Str):List Str).Nodup from by decide +kernel) rfl (Or.inl rfl)),(q4T (qL (XE.toV (xc c_leads_over hr (Yo (XE.toD (Ys (vV 0) (XD.toV Yq))) (Yo (XE.toD (Ys (vV 0) (XD.toV Yq))) (Yo (vD 1) Yu))))))),(vD 0)⟩))
   (q2Z 3 (qb (qf (XD.toE (Xt (Yo (XE.toD (qr qj qF rfl z_len qE (qh (vV 2) qi))) (Yo (XE.toD (qr qj qF rfl z_len qE (qh (vV 3) qi))) Yu)))))))))))
 exact h
noncomputable def q4r:FS:=sNb
noncomputable def q1D:List D->Option O:=mir 5 q4r
noncomputable abbrev q2q:vx:=top 12
def q4t:FnScope ["things", "ties", "beside", "thing", "tie"] ["things", "ties"] (Yt q2q):=⟨rfl,rfl,rfl,⋯,rfl,⋯,⋯⟩
def q7E (F:Fun K "neighbours" "neighbours" q2q f fd):
  FnOk P w K mg base CX0 1 f fd ["things", "ties"] (spD K 2 q1D):=by
 have h:=fnD (P:=P) (w:=w) (mg:=mg) (base:=base) (k:=0) (body:=q4r) F q4t (λcdv A outer s H E hr=>
   (qgx hr.units PassesOwn.never rfl q4t.nd rfl rfl rfl (by first|exact Or.inl rfl|exact Or.inr rfl) (by first|exact Or.inl rfl|exact Or.inr rfl) (by first|exact Or.inl rfl|exact Or.inr rfl) (by first|exact .inl rfl|exact .inr rfl) (by first|exact .inl rfl|exact .inr rfl) (by first|exact .inl rfl|exact .inr rfl) (pv 0) (pv 1) (pv 2) (pv 2) (pv 2) (pv 3) (pv 2) (XE.toD (Ys (vV 4) (XD.toV Yq))) (XE.toD (Ys (vV 4) (XD.toV Yq))) (XE.toD (Ys (vV 4) (XD.toV Yq))) (XE.toD (Ys (vV 4) (XD.toV Yq))) (λω e h=>qgk h) (λω e h=>qga h)))
 exact h
noncomputable def q3m:FS:=(sIf (zB8 true 2 (dOf (Yr 5))) (Y6 (zCb 2 (dOf (Yr 5)) (fC (.bl true)))
  (sApp 3 (dOf (Yr 5)))) WA)
noncomputable def q24:FT:=(W6 (vOf (Yr 3)))
noncomputable def q3j:FS:=(Y6 (zCB 4 (zBv 3))
  (zAQ (WD (dOf (zCf 1 (dOf (Yr 4))))) (gN 5) q3m))
noncomputable def q3N:FS:=(Y6 (zBL 2 (dOf (Yr 0)) (fC (.bl true)))
  (Y6 (Xf 3 (zAN (Yp (dOf (Yr 0)) Yz)))
  (Y6 (sWh 1000000 q24 q3j)
  (XX (zBW 2)))))
noncomputable def q1x:List D->Option O:=mir 6 q3N
noncomputable abbrev q3T:vx:=top 13
def q1z:FnScope ["thing", "beside", "found", "waiting", "here", "other"] ["thing", "beside"] (Yt q3T):=⟨rfl,rfl,rfl,⋯,rfl,⋯,⋯⟩
def q9s (F:Fun K "group_of" "group_of" q3T f fd)(z_sorted:mg "sorted" = none):
  FnOk P w K mg base CX0 1 f fd ["thing", "beside"] (spD K 2 q1x):=by
 have h:=fnD (P:=P) (w:=w) (mg:=mg) (base:=base) (k:=0) (body:=q3N) F q1z (λcdv A outer s H E hr=>
   (qa (qeb (i:=2) q1z.nd rfl (Or.inl rfl) (vD 0) X9)
   (qa (ql (i:=3) q1z.nd rfl (Or.inl rfl) (Xe (Yo (vD 0) Yu)))
   (qa (q9c PassesOwn.never (qL (vV 3)) (qa (qfv (i:=4) q1z.nd rfl (Or.inl rfl) (qfw (pv 3)))
   (qb (qW PassesOwn.never rfl (qt (XE.toD (qfx hr.units (pv 1) (vD 4)))) (qg (i:=5) q1z.nd rfl (Or.inl rfl)) (qb (qv (qdo hr.units (vD 5) (pv 2)) (qa (qfm hr.units (pv 2) (vD 5) X9)
   (qb (q7I (pv 3) (vD 5)))) qq))))))
   (qb (qf (qec rfl rfl z_sorted (pv 2))))))))
 exact h
noncomputable abbrev q0d:vx:=top 15
def q28:FnScope ["arcs", "numbers", "number", "arc"] ["arcs"] (Yt q0d):=⟨rfl,rfl,rfl,⋯,rfl,⋯,⋯⟩
def q41(F:Fun K "numbers_by_start" "numbers_by_start" q0d f fd)(z_enumerate:mg "enumerate" = none):FnOk P w K mg base CX0 1 f fd ["arcs"] (spT K):=by
 refine F.ok q28 (λvs H Q E h=>?_) (λcdv A outer s H vs Q E hr h=>?_)
 ·obtain⟨G,as,_,rp,_⟩:=h
  rw[<- rp.len];rfl
 ·exact qfP (X:=(zBS CX0 P w K mg base ["arcs", "numbers", "number", "arc"] "numbers_by_start" (Yt q0d) f cdv A outer s H E).nox) PassesOwn.never rfl q28.nd rfl rfl rfl (by first|exact Or.inl rfl|exact Or.inr rfl) (by first|exact Or.inl rfl|exact Or.inr rfl) (by first|exact Or.inl rfl|exact Or.inr rfl) (by first|exact .inl rfl|exact .inr rfl) (by first|exact .inl rfl|exact .inr rfl) (by first|exact .inl rfl|exact .inr rfl) rfl z_enumerate (pv 0) (pv 1) (pv 2) (pv 1) (XE.toD (Ys (vV 3) (XD.toV Yq))) (λω e h=>qgi h) rfl ⟨rfl,rfl,rfl,rfl⟩ rfl rfl rfl rfl rfl rfl rfl rfl (λt h=>qc1 rfl h) (by intro _;rfl) h
noncomputable def q02:FD:=(dOf (Yv oIx (vOf (Yr 0)) (fC (.int 0))))
noncomputable def q01:FD:=(dOf (Yv oIx (vOf (Yr 0)) (fC (.int 1))))
noncomputable def q0f:FS:=(XX (Yv (oEq false) (vOf (zA1 (vOf (Xj 1 [] (WD (dOf (Yr 0))) (gN 0) XQ q02)))) (vOf (zA1 (vOf (Xj 1 [] (WD (dOf (Yr 0))) (gN 0) XQ q01))))))
noncomputable def qG:List D->Option O:=mir 1 q0f
noncomputable abbrev q0i:vx:=top 16
def q3d:FnScope ["arcs"] ["arcs"] (Yt q0i):=⟨rfl,rfl,rfl,⋯,rfl,⋯,⋯⟩
def q2U (F:Fun K "as_many_begin_as_end" "as_many_begin_as_end" q0i f fd)(z_sorted:mg "sorted" = none):
  FnOk P w K mg base CX0 1 f fd ["arcs"] (spD K 1 qG):=by
 have h:=fnD (P:=P) (w:=w) (mg:=mg) (base:=base) (k:=0) (body:=q0f) F q3d (λcdv A outer s H E hr=>
   (qb (qf (zAo hr.units (XE.toV (q92 rfl z_sorted (XE.toV (qP rfl (blk ["arc"] [] [] rfl ⋯ ⋯ rfl trivial) (qt (vD 0)) (qy 0) (λ_ _ _ _=>⟨(qg (i:=0) (show ((["arc"]:List Str)++([]:List Str):List Str).Nodup from by decide +kernel) rfl (Or.inl rfl)),qK,(XE.toD (Ys (vV 0) (XD.toV Yq)))⟩))))) (XE.toV (q92 rfl z_sorted (XE.toV (qP rfl (blk ["arc"] [] [] rfl ⋯ ⋯ rfl trivial) (qt (vD 0)) (qy 0) (λ_ _ _ _=>⟨(qg (i:=0) (show ((["arc"]:List Str)++([]:List Str):List Str).Nodup from by decide +kernel) rfl (Or.inl rfl)),qK,(XE.toD (Ys (vV 0) (XD.toV Yq)))⟩)))))))))
 exact h
noncomputable abbrev q0W:vx:=top 17
def qJ:FnScope ["start", "arcs", "waiting", "trail", "backwards", "here", "number"] ["start", "arcs"] (Yt q0W):=⟨rfl,rfl,rfl,⋯,rfl,⋯,⋯⟩
noncomputable def q1v:List D->Option O:=mRF
def q7t{f_n:vJ}{d_n:vP}(F:Fun K "round_from" "round_from" q0W f fd)(G_n:FnOk P w K mg base CX0 1 f_n d_n ["arcs"] (spT K))(a_n:mg "numbers_by_start" = some (.ref f_n))(k_n:xQ K (.ref f_n)=true)(b_n:Binds K d_n ["arcs"] [])(z_list:mg "list" = none)(z_reversed:mg "reversed" = none):FnOk P w K mg base CX0 2 f fd ["start", "arcs"] (spD K 2 q1v):=by
 refine F.ok qJ (λvs H Q E h=>?_) (λcdv A outer s H vs Q E hr h=>?_)
 ·obtain⟨G,ds,r,_,h2,_,h4,_⟩:=h
  rw[<- h4.len];exact h2
 ·have hu:=hu1 (X:=(zBS CX0 P w K mg base ["start", "arcs", "waiting", "trail", "backwards", "here", "number"] "round_from" (Yt q0W) f cdv A outer s H E).nox) hr.units
  exact qgO (X:=(zBS CX0 P w K mg base ["start", "arcs", "waiting", "trail", "backwards", "here", "number"] "round_from" (Yt q0W) f cdv A outer s H E).nox) (f1:=(dOf (Yv oIx (vOf (Yv oIx (vOf (Yr 1)) (vOf (Yr 6)))) (fC (.int 1))))) (f0:=(dOf (Yv oIx (vOf (Yv oIx (vOf (Yr 1)) (vOf (Yr 6)))) (fC (.int 0))))) (XE.toD (Ys (XE.toV (Ys (vV 1) (vV 6))) (XD.toV Yq))) (XE.toD (Ys (XE.toV (Ys (vV 1) (vV 6))) (XD.toV Yq))) (λ_ _ _=>qgY) (λ_ _ _=>qgS) rfl h (λp1 p0=>(qC (q0b (i:=2) qJ.nd rfl (by first|exact Or.inl rfl|exact Or.inr rfl) (q6a G_n (hr.mono (by decide)) rfl a_n k_n b_n .nil zCj (qA (pv 1) qz rfl)) rfl (by first|exact .inl rfl|exact .inr rfl)) (qC (q0b (i:=3) qJ.nd rfl (by first|exact Or.inl rfl|exact Or.inr rfl) (q2J qz) rfl (by first|exact .inl rfl|exact .inr rfl)) (qC (q0b (i:=4) qJ.nd rfl (by first|exact Or.inl rfl|exact Or.inr rfl) (q2J qz) rfl (by first|exact .inl rfl|exact .inr rfl)) (qC (q0b (i:=5) qJ.nd rfl (by first|exact Or.inl rfl|exact Or.inr rfl) (pv 0) rfl (by first|exact .inl rfl|exact .inr rfl)) (qC (q91 PassesOwn.never (qeF (q3K (pv 3) (by intro _;rfl)) (qdz (q3K (q9j hu (pv 2) (pv 5) (q2J qz) ⟨rfl,rfl,rfl,rfl⟩) (by intro _;rfl)))).pt (q0E (qeL (q3K (q9j hu (pv 2) (pv 5) (q2J qz) ⟨rfl,rfl,rfl,rfl⟩) (by intro _;rfl)) (qC (q0b (i:=6) qJ.nd rfl (by first|exact Or.inl rfl|exact Or.inr rfl) (q8D PySem.F.plainAttrs_list PySem.F.slot_list_pop PySem.F.type_list_pop q8z (q4J hu (pv 2) (pv 5) (by intro _ _;rfl)) rfl rfl) rfl (by first|exact .inl rfl|exact .inr rfl)) (qC (q1r (q3O PySem.F.plainAttrs_list PySem.F.slot_list_append PySem.F.type_list_append q0R (pv 3) (qA (pv 6) qz rfl) rfl rfl rfl rfl rfl) rfl) (q0E (q0b (i:=5) qJ.nd rfl (by first|exact Or.inl rfl|exact Or.inr rfl) p1 rfl (by first|exact .inl rfl|exact .inr rfl))))) (qC (q0b (i:=6) qJ.nd rfl (by first|exact Or.inl rfl|exact Or.inr rfl) (q8D PySem.F.plainAttrs_list PySem.F.slot_list_pop PySem.F.type_list_pop q8z (pv 3) rfl rfl) rfl (by first|exact .inl rfl|exact .inr rfl)) (qC (q1r (q3O PySem.F.plainAttrs_list PySem.F.slot_list_append PySem.F.type_list_append q0R (pv 4) (qA (pv 6) qz rfl) rfl rfl rfl rfl rfl) rfl) (q0E (q0b (i:=5) qJ.nd rfl (by first|exact Or.inl rfl|exact Or.inr rfl) p0 rfl (by first|exact .inl rfl|exact .inr rfl)))))))) (q0E (q49 (qbe rfl z_list rfl z_reversed (qA (pv 4) qz rfl) rfl rfl rfl rfl rfl)))))))))
noncomputable def q5q:FS:=(Y6 (sIf (WB (W6 (vOf (Y1 qG (Yp (dOf (Yr 1)) Yz))))) sNo WA)
  (Y6 (Xf 2 (eOf (dOf (Y1 q1v (Yp (dOf (Yr 0)) (Yp (dOf (Yr 1)) Yz))))))
  (Y6 (sIf (tOf (Yv (oEq true) (vOf (Xx WU (Yp (vOf (Yr 2)) Yz))) (vOf (Xx WU (Yp (vOf (Yr 1)) Yz))))) sNo WA)
  (XX (Yr 2)))))
noncomputable def q2N:List D->Option O:=mir 3 q5q
noncomputable abbrev q5i:vx:=top 18
def q9e:FnScope ["start", "arcs", "row"] ["start", "arcs"] (Yt q5i):=⟨rfl,rfl,rfl,⋯,rfl,⋯,⋯⟩
def qcH{f_as_many_begin_as_end:vJ}{d_as_many_begin_as_end:vP}{f_round_from:vJ}{d_round_from:vP}(F:Fun K "row_of" "row_of" q5i f fd)(c_as_many_begin_as_end:Cal P w K mg base 1 f_as_many_begin_as_end d_as_many_begin_as_end "as_many_begin_as_end" ["arcs"] 1 qG)(c_round_from:Cal P w K mg base 2 f_round_from d_round_from "round_from" ["start", "arcs"] 2 q1v)(z_len:mg "len" = none):
  FnOk P w K mg base CX0 3 f fd ["start", "arcs"] (spD K 2 q2N):=by
 have h:=fnD (P:=P) (w:=w) (mg:=mg) (base:=base) (k:=2) (body:=q5q) F q9e (λcdv A outer s H E hr=>
   (qa (qv (q07 (qL (XE.toV (xc c_as_many_begin_as_end hr (Yo (vD 1) Yu))))) (qb qaz) qq)
   (qa (ql (i:=2) q9e.nd rfl (Or.inl rfl) (XD.toE (XE.toD (xc c_round_from hr (Yo (vD 0) (Yo (vD 1) Yu))))))
   (qa (qv (X5 hr.units (XE.toV (qr qj qF rfl z_len qE (qh (vV 2) qi))) (XE.toV (qr qj qF rfl z_len qE (qh (vV 1) qi)))) (qb qaz) qq)
   (qb (qf (vE 2)))))))
 exact h
noncomputable def q6p:FS:=(Y6 (sIf (zAP (WB (W6 (vOf (zA7 .tup (vOf (Yr 0)))))) (zAP (tOf (Yv (oEq true) (vOf (Xx WU (Yp (vOf (Yr 0)) Yz))) (fC (.int 3)))) (tOf (Yv (oEq true) (vOf (Yv oIx (vOf (Yr 0)) (fC (.int 0)))) (fC (.str "go")))))) (XX (eOf (fC (.bl false)))) WA)
  (XX (eOf (zAY (dOf (Y1 qB (Yp (dOf (Yv oIx (vOf (Yr 0)) (fC (.int 1)))) Yz))) (zAY (dOf (Y1 qB (Yp (dOf (Yv oIx (vOf (Yr 0)) (fC (.int 2)))) Yz))) (dOf (Yv (oEq true) (vOf (Yv oIx (vOf (Yr 0)) (fC (.int 1)))) (vOf (Yv oIx (vOf (Yr 0)) (fC (.int 2)))))))))))
noncomputable def q3r:List D->Option O:=mir 1 q6p
noncomputable abbrev q6e:vx:=top 20
def qf3:FnScope ["thing"] ["thing"] (Yt q6e):=⟨rfl,rfl,rfl,⋯,rfl,⋯,⋯⟩
def qee{f_is_whole:vJ}{d_is_whole:vP}(F:Fun K "is_go" "is_go" q6e f fd)(c_is_whole:Cal P w K mg base 1 f_is_whole d_is_whole "is_whole" ["thing"] 1 qB)(z_len:mg "len" = none)(z_isinstance:mg "isinstance" = none)(z_tuple:mg "tuple" = none)(i_tuple:IsT K .tup):
  FnOk P w K mg base CX0 2 f fd ["thing"] (spD K 1 q3r):=by
 have h:=fnD (P:=P) (w:=w) (mg:=mg) (base:=base) (k:=1) (body:=q6p) F qf3 (λcdv A outer s H E hr=>
   (qa (qv (XW.toT (q0J (q07 (qL (XE.toV (q18 (vV 0) i_tuple rfl z_isinstance rfl z_tuple q3L)))) (q0J (X5 hr.units (XE.toV (qr qj qF rfl z_len qE (qh (vV 0) qi))) (XD.toV Yq)) (q27 (X5 hr.units (XE.toV (Ys (vV 0) (XD.toV Yq))) (XD.toV WY)))))) (qb (qf (XD.toE X9))) qq)
   (qb (qf (XD.toE (qX (XE.toD (xc c_is_whole hr (Yo (XE.toD (Ys (vV 0) (XD.toV Yq))) Yu))) (qX (XE.toD (xc c_is_whole hr (Yo (XE.toD (Ys (vV 0) (XD.toV Yq))) Yu))) (q0n (XE.toD (xe_ne hr.units (XE.toV (Ys (vV 0) (XD.toV Yq))) (XE.toV (Ys (vV 0) (XD.toV Yq)))))))))))))
 exact h
noncomputable def q1c:FD:=(dOf (Y1 qB (Yp (dOf (Yr 0)) Yz)))
noncomputable def q1l:FS:=(Y6 (sIf (zAP (WB (W6 (vOf (zA7 .tup (vOf (Yr 0)))))) (zAP (tOf (Yv (oEq true) (vOf (Xx WU (Yp (vOf (Yr 0)) Yz))) (fC (.int 4)))) (tOf (Yv (oEq true) (vOf (Yv oIx (vOf (Yr 0)) (fC (.int 0)))) (fC (.str "box")))))) (XX (eOf (fC (.bl false)))) WA)
  (Y6 (sIf (WB (W6 (vOf (Xx zBq (Yp (vOf (Xj 1 [] (WD (dOf (fSl (vOf (Yr 0)) (pAt (fC (.int 1))) pNo))) (gN 0) XQ q1c)) Yz))))) (XX (eOf (fC (.bl false)))) WA)
  (XX (eOf (zAY (dOf (Yv oGe (vOf (Yv oIx (vOf (Yr 0)) (fC (.int 1)))) (fC (.int 0)))) (dOf (Yv oLt (vOf (Yv oIx (vOf (Yr 0)) (fC (.int 1)))) (vOf (Xx WU (Yp (vOf (Yr 1)) Yz))))))))))
noncomputable def qZ:List D->Option O:=mir 2 q1l
noncomputable abbrev q1n:vx:=top 21
def q5e:FnScope ["thing", "boxes"] ["thing", "boxes"] (Yt q1n):=⟨rfl,rfl,rfl,⋯,rfl,⋯,⋯⟩
def q4W{f_is_whole:vJ}{d_is_whole:vP}(F:Fun K "has_carry_form" "has_carry_form" q1n f fd)(c_is_whole:Cal P w K mg base 1 f_is_whole d_is_whole "is_whole" ["thing"] 1 qB)(z_len:mg "len" = none)(z_isinstance:mg "isinstance" = none)(z_tuple:mg "tuple" = none)(z_all:mg "all" = none)(i_tuple:IsT K .tup):
  FnOk P w K mg base CX0 2 f fd ["thing", "boxes"] (spD K 2 qZ):=by
 have h:=fnD (P:=P) (w:=w) (mg:=mg) (base:=base) (k:=1) (body:=q1l) F q5e (λcdv A outer s H E hr=>
   (qa (qv (XW.toT (q0J (q07 (qL (XE.toV (q18 (vV 0) i_tuple rfl z_isinstance rfl z_tuple q3L)))) (q0J (X5 hr.units (XE.toV (qr qj qF rfl z_len qE (qh (vV 0) qi))) (XD.toV Yq)) (q27 (X5 hr.units (XE.toV (Ys (vV 0) (XD.toV Yq))) (XD.toV WY)))))) (qb (qf (XD.toE X9))) qq)
   (qa (qv (q07 (qL (XE.toV (qr (q31 rfl) q5B rfl z_all q5W (qh (XE.toV (qP rfl (blk ["part"] [] [] rfl ⋯ ⋯ rfl trivial) (qt (XE.toD (XN (vV 0) (XU (XD.toV Yq)) Xn))) (qy 0) (λ_ _ _ _=>⟨(qg (i:=0) (show ((["part"]:List Str)++([]:List Str):List Str).Nodup from by decide +kernel) rfl (Or.inl rfl)),qK,(XE.toD (xc c_is_whole hr (Yo (vD 0) Yu)))⟩))) qi))))) (qb (qf (XD.toE X9))) qq)
   (qb (qf (XD.toE (qX (XE.toD (qhA (XE.toV (Ys (vV 0) (XD.toV Yq))) (XD.toV Yq))) (q0n (XE.toD (qbW (XE.toV (Ys (vV 0) (XD.toV Yq))) (XE.toV (qr qj qF rfl z_len qE (qh (vV 1) qi)))))))))))))
 exact h
noncomputable def q5u:FS:=(Y6 (sIf (tOf (Yv (oEq true) (vOf (Yv oIx (vOf (Yr 4)) (vOf (zB1 (fC (.int 2)))))) (vOf (Yr 3)))) (XX (eOf (fC (.bl false)))) WA)
  (Xf 3 (eOf (dOf (Yv oIx (vOf (Yr 4)) (vOf (zB1 (fC (.int 1)))))))))
noncomputable def q6w:FS:=(Y6 (Xf 3 (eOf (dOf (Yr 0))))
  (Y6 (zAQ (WD (dOf (Yr 2))) (gN 4) q5u)
  (XX (Yv (oEq false) (vOf (Yr 3)) (vOf (Yr 1))))))
noncomputable def q3v:List D->Option O:=mir 5 q6w
noncomputable abbrev q6P:vx:=top 22
def q4V:FnScope ["home", "last", "moves", "here", "move"] ["home", "last", "moves"] (Yt q6P):=⟨rfl,rfl,rfl,⋯,rfl,⋯,⋯⟩
def qdE (F:Fun K "leads" "leads" q6P f fd):
  FnOk P w K mg base CX0 1 f fd ["home", "last", "moves"] (spD K 3 q3v):=by
 have h:=fnD (P:=P) (w:=w) (mg:=mg) (base:=base) (k:=0) (body:=q6w) F q4V (λcdv A outer s H E hr=>
   (qa (ql (i:=3) q4V.nd rfl (Or.inl rfl) (XD.toE (vD 0)))
   (qa (qW PassesOwn.never rfl (qt (vD 2)) (qg (i:=4) q4V.nd rfl (Or.inl rfl)) (qa (qv (X5 hr.units (XE.toV (Ys (vV 4) (XE.toV (q2v (XD.toV Yq))))) (vV 3)) (qb (qf (XD.toE X9))) qq)
   (qb (ql (i:=3) q4V.nd rfl (Or.inl rfl) (XD.toE (XE.toD (Ys (vV 4) (XE.toV (q2v (XD.toV Yq))))))))))
   (qb (qf (zAo hr.units (vV 3) (vV 1)))))))
 exact h
noncomputable def q3M:FD:=(dOf (Yv oLe (vOf (Yr 1)) (vOf (Xx zBB (Yp (vOf (Yr 0)) Yz)))))
noncomputable def q4b:FS:=(XX (eOf (zAY (dOf (Y1 q0g (Yp (dOf (Yr 0)) (Yp (dOf (Yr 0)) (Yp (dOf (Yr 1)) Yz))))) (dOf (Xx zBq (Yp (vOf (Xj 1 [0] (WD (dOf (Yr 1))) (gN 0) XQ q3M)) Yz))))))
noncomputable def q1q:List D->Option O:=mir 2 q4b
noncomputable abbrev q4l:vx:=top 24
def qd8:FnScope ["gate", "boxes"] ["gate", "boxes"] (Yt q4l):=⟨rfl,rfl,rfl,⋯,rfl,⋯,⋯⟩
def qaH{f_is_errand:vJ}{d_is_errand:vP}(F:Fun K "is_yard" "is_yard" q4l f fd)(c_is_errand:Cal P w K mg base 3 f_is_errand d_is_errand "is_errand" ["home", "last", "boxes"] 3 q0g)(z_min:mg "min" = none)(z_all:mg "all" = none):
  FnOk P w K mg base CX0 4 f fd ["gate", "boxes"] (spD K 2 q1q):=by
 have h:=fnD (P:=P) (w:=w) (mg:=mg) (base:=base) (k:=3) (body:=q4b) F qd8 (λcdv A outer s H E hr=>
   (qb (qf (XD.toE (qX (XE.toD (xc c_is_errand hr (Yo (vD 0) (Yo (vD 0) (Yo (vD 1) Yu))))) (q0n (XE.toD (qr (q31 rfl) q5B rfl z_all q5W (qh (XE.toV (qP rfl (blk ["box"] ["gate"] [0] rfl ⋯ ⋯ rfl ⟨⟨rfl,(by first|exact Or.inl rfl|exact Or.inr rfl),rfl⟩,trivial⟩) (qt (vD 1)) (qy 0) (λ_ _ _ _=>⟨(qg (i:=0) (show ((["box"]:List Str)++(["gate"]:List Str):List Str).Nodup from by decide +kernel) rfl (Or.inl rfl)),qK,(XE.toD (qbi (vV 1) (XE.toV (qr (q6Z rfl) q9Y rfl z_min qcq (qh (vV 0) qi)))))⟩))) qi)))))))))
 exact h
noncomputable def q1F:FS:=(sIf (WB (W6 (vOf (Y1 q1q (Yp (dOf (Yr 0)) (Yp (dOf (Yr 1)) Yz)))))) sNo WA)
noncomputable def qu:List D->Option O:=mir 2 q1F
noncomputable abbrev q2r:vx:=top 25
def q8Z:FnScope ["gate", "boxes"] ["gate", "boxes"] (Yt q2r):=⟨rfl,rfl,rfl,⋯,rfl,⋯,⋯⟩
def q7C{f_is_yard:vJ}{d_is_yard:vP}(F:Fun K "check_yard" "check_yard" q2r f fd)(c_is_yard:Cal P w K mg base 4 f_is_yard d_is_yard "is_yard" ["gate", "boxes"] 2 q1q):
  FnOk P w K mg base CX0 5 f fd ["gate", "boxes"] (spD K 2 qu):=by
 have h:=fnD (P:=P) (w:=w) (mg:=mg) (base:=base) (k:=4) (body:=q1F) F q8Z (λcdv A outer s H E hr=>
   (qb (qv (q07 (qL (XE.toV (xc c_is_yard hr (Yo (vD 0) (Yo (vD 1) Yu)))))) (qb qaz) qq)))
 exact h
noncomputable def q1U:FS:=(sIf (tOf (Yv (oEq true) (vOf (Yr 3)) (vOf (Yr 4)))) (zCw 2 (dOf (zAN (Yp (dOf (Yr 3)) (Yp (dOf (Yr 4)) Yz))))) WA)
noncomputable def q2c:FS:=(Y6 (Xf 2 (zAN (Yp (dOf (Yr 0)) Yz)))
  (Y6 (zAQ (WD (dOf (Yr 1))) (gT 2 (Yw (gN 3) (Yw (gN 4) Xr))) q1U)
  (XX (Xy (vOf (Yr 2))))))
noncomputable def q0C:List D->Option O:=mir 5 q2c
noncomputable abbrev q2d:vx:=top 26
def q1h:FnScope ["gate", "boxes", "places", "start", "goal"] ["gate", "boxes"] (Yt q2d):=⟨rfl,rfl,rfl,⋯,rfl,⋯,⋯⟩
def q6h (F:Fun K "yard_places" "yard_places" q2d f fd)(z_sorted:mg "sorted" = none)(q1E:mg "set" = none):
  FnOk P w K mg base CX0 1 f fd ["gate", "boxes"] (spD K 2 q0C):=by
 have h:=fnD (P:=P) (w:=w) (mg:=mg) (base:=base) (k:=0) (body:=q2c) F q1h (λcdv A outer s H E hr=>
   (qa (ql (i:=2) q1h.nd rfl (Or.inl rfl) (Xe (Yo (vD 0) Yu)))
   (qa (qW PassesOwn.never rfl (qt (vD 1)) (q26 rfl (qx (qg (i:=3) q1h.nd rfl (Or.inl rfl)) (qx (qg (i:=4) q1h.nd rfl (Or.inl rfl)) q1p))) (qb (qv (X5 hr.units (vV 3) (vV 4)) (qb (q5D (pv 2) (XE.toD (Xe (Yo (vD 3) (Yo (vD 4) Yu)))))) qq)))
   (qb (qf (q3F rfl z_sorted rfl q1E (vV 2)))))))
 exact h
noncomputable def q1V:FS:=(XX (Xx zAU (Yp (vOf (Yv WR (vOf (Y1 q0X (Yp (dOf (Yr 0)) (Yp (dOf (Yr 1)) Yz)))) (zAg (Yp (fC (.int 1)) Yz)))) Yz)))
noncomputable def q0q:List D->Option O:=mir 2 q1V
noncomputable abbrev q1S:vx:=top 27
def q6T:FnScope ["boxes", "gap"] ["boxes", "gap"] (Yt q1S):=⟨rfl,rfl,rfl,⋯,rfl,⋯,⋯⟩
def q5Y{f_crossed:vJ}{d_crossed:vP}(F:Fun K "times_passed" "times_passed" q1S f fd)(c_crossed:Cal P w K mg base 2 f_crossed d_crossed "crossed" ["boxes", "gap"] 2 q0X)(z_max:mg "max" = none):
  FnOk P w K mg base CX0 3 f fd ["boxes", "gap"] (spD K 2 q0q):=by
 have h:=fnD (P:=P) (w:=w) (mg:=mg) (base:=base) (k:=2) (body:=q1V) F q6T (λcdv A outer s H E hr=>
   (qb (qf (qr (q4C rfl) q6m rfl z_max q5M (qh (XE.toV (qR (XE.toV (xc c_crossed hr (Yo (vD 0) (Yo (vD 1) Yu)))) (XD.toV (Xt (Yo Yq Yu))))) qi)))))
 exact h
noncomputable def q2Y:FD:=(dOf (Yv WR (vOf (Yr 0)) (zAg (Yp (dOf (Y1 q0q (Yp (dOf (Yr 1)) (Yp (dOf (Yr 0)) Yz)))) Yz))))
noncomputable def q5t:FS:=(Y6 (zBZ (Y1 qu (Yp (dOf (Yr 0)) (Yp (dOf (Yr 1)) Yz))))
  (Y6 (Xf 2 (eOf (dOf (Y1 q0C (Yp (dOf (Yr 0)) (Yp (dOf (Yr 1)) Yz))))))
  (XX (Xj 1 [1] (iZp (Yp (dOf (Yr 2)) (Yp (dOf (fSl (vOf (Yr 2)) (pAt (fC (.int 1))) pNo)) Yz))) (gN 0) XQ q2Y))))
noncomputable def q0N:List D->Option O:=mir 3 q5t
noncomputable abbrev q55:vx:=top 28
def q8q:FnScope ["gate", "boxes", "places"] ["gate", "boxes"] (Yt q55):=⟨rfl,rfl,rfl,⋯,rfl,⋯,⋯⟩
def qcj{f_check_yard:vJ}{d_check_yard:vP}{f_yard_places:vJ}{d_yard_places:vP}{f_times_passed:vJ}{d_times_passed:vP}(F:Fun K "passes" "passes" q55 f fd)(c_check_yard:Cal P w K mg base 5 f_check_yard d_check_yard "check_yard" ["gate", "boxes"] 2 qu)(c_yard_places:Cal P w K mg base 1 f_yard_places d_yard_places "yard_places" ["gate", "boxes"] 2 q0C)(c_times_passed:Cal P w K mg base 3 f_times_passed d_times_passed "times_passed" ["boxes", "gap"] 2 q0q)(z_zip:mg "zip" = none):
  FnOk P w K mg base CX0 6 f fd ["gate", "boxes"] (spD K 2 q0N):=by
 have h:=fnD (P:=P) (w:=w) (mg:=mg) (base:=base) (k:=5) (body:=q5t) F q8q (λcdv A outer s H E hr=>
   (qa (q6G (xc c_check_yard hr (Yo (vD 0) (Yo (vD 1) Yu))))
   (qa (ql (i:=2) q8q.nd rfl (Or.inl rfl) (XD.toE (XE.toD (xc c_yard_places hr (Yo (vD 0) (Yo (vD 1) Yu))))))
   (qb (qf (qP rfl (blk ["gap"] ["boxes"] [1] rfl ⋯ ⋯ rfl ⟨⟨rfl,(by first|exact Or.inl rfl|exact Or.inr rfl),rfl⟩,trivial⟩) (qfj rfl z_zip (Yo (vD 2) (Yo (XE.toD (XN (vV 2) (XU (XD.toV Yq)) Xn)) Yu))) (qy 0) (λ_ _ _ _=>⟨(qg (i:=0) (show ((["gap"]:List Str)++(["boxes"]:List Str):List Str).Nodup from by decide +kernel) rfl (Or.inl rfl)),qK,(XE.toD (qR (vV 0) (XD.toV (Xt (Yo (XE.toD (xc c_times_passed hr (Yo (vD 1) (Yo (vD 0) Yu)))) Yu)))))⟩)))))))
 exact h
noncomputable def q2f:FD:=(dOf (Yv zBG (vOf (Yv zBG (fC (.int 2)) (vOf (Yv zAV (vOf (Yr 1)) (vOf (Yr 0)))))) (vOf (Yr 2))))
noncomputable def q2E:FS:=(XX (Xx zC1 (Yp (vOf (Xj 3 [] (WD (dOf (Y1 q0N (Yp (dOf (Yr 0)) (Yp (dOf (Yr 1)) Yz))))) (gT 3 (Yw (gN 0) (Yw (gN 1) (Yw (gN 2) Xr)))) XQ q2f)) Yz)))
noncomputable def q0m:List D->Option O:=mir 2 q2E
noncomputable abbrev q2K:vx:=top 29
def q9a:FnScope ["gate", "boxes"] ["gate", "boxes"] (Yt q2K):=⟨rfl,rfl,rfl,⋯,rfl,⋯,⋯⟩
def q7x{f_passes:vJ}{d_passes:vP}(F:Fun K "yard_least" "yard_least" q2K f fd)(c_passes:Cal P w K mg base 6 f_passes d_passes "passes" ["gate", "boxes"] 2 q0N)(z_sum:mg "sum" = none):
  FnOk P w K mg base CX0 7 f fd ["gate", "boxes"] (spD K 2 q0m):=by
 have h:=fnD (P:=P) (w:=w) (mg:=mg) (base:=base) (k:=6) (body:=q2E) F q9a (λcdv A outer s H E hr=>
   (qb (qf (qr (q78 rfl) qdg rfl z_sum qdB (qh (XE.toV (qP rfl (blk ["left", "right", "times"] [] [] rfl ⋯ ⋯ rfl trivial) (qt (XE.toD (xc c_passes hr (Yo (vD 0) (Yo (vD 1) Yu))))) (q8U (q0u (qy 0) (q0u (qy 1) (q0u (qy 2) q4d)))) (λ_ _ _ _=>⟨(q26 rfl (qx (qg (i:=0) (show ((["left", "right", "times"]:List Str)++([]:List Str):List Str).Nodup from by decide +kernel) rfl (Or.inl rfl)) (qx (qg (i:=1) (show ((["left", "right", "times"]:List Str)++([]:List Str):List Str).Nodup from by decide +kernel) rfl (Or.inl rfl)) (qx (qg (i:=2) (show ((["left", "right", "times"]:List Str)++([]:List Str):List Str).Nodup from by decide +kernel) rfl (Or.inl rfl)) q1p)))),qK,(XE.toD (q4n (XE.toV (q4n (XD.toV Yq) (XE.toV (q00 (vV 1) (vV 0))))) (vV 2)))⟩))) qi)))))
 exact h
noncomputable def q1L:FS:=(XX (eOf (zAY (dOf (Y1 qZ (Yp (dOf (Yr 0)) (Yp (dOf (Yr 1)) Yz)))) (dOf (Yv (oEq true) (vOf (Yv oIx (vOf (Yr 0)) (fC (.int 2)))) (vOf (Yv oIx (vOf (Yr 0)) (fC (.int 3)))))))))
noncomputable def q04:List D->Option O:=mir 2 q1L
noncomputable abbrev q1y:vx:=top 31
def q5N:FnScope ["thing", "boxes"] ["thing", "boxes"] (Yt q1y):=⟨rfl,rfl,rfl,⋯,rfl,⋯,⋯⟩
def q5v{f_has_carry_form:vJ}{d_has_carry_form:vP}(F:Fun K "is_yard_carry" "is_yard_carry" q1y f fd)(c_has_carry_form:Cal P w K mg base 2 f_has_carry_form d_has_carry_form "has_carry_form" ["thing", "boxes"] 2 qZ):
  FnOk P w K mg base CX0 3 f fd ["thing", "boxes"] (spD K 2 q04):=by
 have h:=fnD (P:=P) (w:=w) (mg:=mg) (base:=base) (k:=2) (body:=q1L) F q5N (λcdv A outer s H E hr=>
   (qb (qf (XD.toE (qX (XE.toD (xc c_has_carry_form hr (Yo (vD 0) (Yo (vD 1) Yu)))) (q0n (XE.toD (xe_ne hr.units (XE.toV (Ys (vV 0) (XD.toV Yq))) (XE.toV (Ys (vV 0) (XD.toV Yq)))))))))))
 exact h
noncomputable def q0M:FD:=(dOf (Yv oIx (vOf (Yr 0)) (fC (.int 0))))
noncomputable def q0Q:FS:=(sIf (tOf (Yv (oEq false) (vOf (Yv oIx (vOf (Yr 3)) (fC (.int 0)))) (fC (.str "box")))) (Y6 (sIf (tOf (Yv (oEq true) (vOf (Yv oIx (vOf (Yr 2)) (vOf (Yv oIx (vOf (Yr 3)) (fC (.int 1)))))) (vOf (Yv oIx (vOf (Yr 3)) (fC (.int 2)))))) (XX (eOf (fC (.bl false)))) WA)
  (zCn 2 (dOf (Yv oIx (vOf (Yr 3)) (fC (.int 1)))) (dOf (Yv oIx (vOf (Yr 3)) (fC (.int 3)))))) WA)
noncomputable def q0V:FD:=(dOf (Yv oIx (vOf (Yr 0)) (fC (.int 1))))
noncomputable def q1a:FS:=(Y6 (Xf 2 (Xj 1 [] (WD (dOf (Yr 0))) (gN 0) XQ q0M))
  (Y6 (zAQ (WD (dOf (Yr 1))) (gN 3) q0Q)
  (XX (Yv (oEq false) (vOf (Yr 2)) (vOf (Xj 1 [] (WD (dOf (Yr 0))) (gN 0) XQ q0V))))))
noncomputable def qS:List D->Option O:=mir 4 q1a
noncomputable abbrev q1d:vx:=top 32
def q1b:FnScope ["boxes", "moves", "lying", "move"] ["boxes", "moves"] (Yt q1d):=⟨rfl,rfl,rfl,⋯,rfl,⋯,⋯⟩
def q44 (F:Fun K "brings_each_box" "brings_each_box" q1d f fd):
  FnOk P w K mg base CX0 1 f fd ["boxes", "moves"] (spD K 2 qS):=by
 have h:=fnD (P:=P) (w:=w) (mg:=mg) (base:=base) (k:=0) (body:=q1a) F q1b (λcdv A outer s H E hr=>
   (qa (q2o (i:=2) rfl q1b.nd rfl rfl (blk ["box"] [] [] rfl ⋯ ⋯ rfl trivial) (qt (vD 0)) (qy 0) (λ_ _ _ _=>⟨(qg (i:=0) (show ((["box"]:List Str)++([]:List Str):List Str).Nodup from by decide +kernel) rfl (Or.inl rfl)),qK,(XE.toD (Ys (vV 0) (XD.toV Yq)))⟩))
   (qa (qW PassesOwn.never rfl (qt (vD 1)) (qg (i:=3) q1b.nd rfl (Or.inl rfl)) (qb (qv (zBy hr.units (XE.toV (Ys (vV 3) (XD.toV Yq))) (XD.toV WY)) (qa (qv (X5 hr.units (XE.toV (Ys (vV 2) (XE.toV (Ys (vV 3) (XD.toV Yq))))) (XE.toV (Ys (vV 3) (XD.toV Yq)))) (qb (qf (XD.toE X9))) qq)
   (qb (qfZ (pv 2) (XE.toD (Ys (vV 3) (XD.toV Yq))) (XE.toD (Ys (vV 3) (XD.toV Yq)))))) qq)))
   (qb (qf (zAo hr.units (vV 2) (XE.toV (qP rfl (blk ["box"] [] [] rfl ⋯ ⋯ rfl trivial) (qt (vD 0)) (qy 0) (λ_ _ _ _=>⟨(qg (i:=0) (show ((["box"]:List Str)++([]:List Str):List Str).Nodup from by decide +kernel) rfl (Or.inl rfl)),qK,(XE.toD (Ys (vV 0) (XD.toV Yq)))⟩)))))))))
 exact h
noncomputable def q1A:FD:=(vOr (dOf (Y1 q3r (Yp (dOf (Yr 0)) Yz))) (dOf (Y1 q04 (Yp (dOf (Yr 0)) (Yp (dOf (Yr 1)) Yz)))))
noncomputable def q1Z:FS:=(Y6 (zBZ (Y1 qu (Yp (dOf (Yr 0)) (Yp (dOf (Yr 1)) Yz))))
  (Y6 (sIf (WB (W6 (vOf (zA7 .lst (vOf (Yr 2)))))) (XX (eOf (fC (.bl false)))) WA)
  (Y6 (sIf (WB (W6 (vOf (Xx zBq (Yp (vOf (Xj 1 [1] (WD (dOf (Yr 2))) (gN 0) XQ q1A)) Yz))))) (XX (eOf (fC (.bl false)))) WA)
  (XX (eOf (zAY (dOf (Y1 q3v (Yp (dOf (Yr 0)) (Yp (dOf (Yr 0)) (Yp (dOf (Yr 2)) Yz))))) (dOf (Y1 qS (Yp (dOf (Yr 1)) (Yp (dOf (Yr 2)) Yz))))))))))
noncomputable def qV:List D->Option O:=mir 3 q1Z
noncomputable abbrev q22:vx:=top 33
def q6C:FnScope ["gate", "boxes", "thing"] ["gate", "boxes", "thing"] (Yt q22):=⟨rfl,rfl,rfl,⋯,rfl,⋯,⋯⟩
def q5P{f_check_yard:vJ}{d_check_yard:vP}{f_is_yard_carry:vJ}{d_is_yard_carry:vP}{f_is_go:vJ}{d_is_go:vP}{f_brings_each_box:vJ}{d_brings_each_box:vP}{f_leads:vJ}{d_leads:vP}(F:Fun K "is_yard_tour" "is_yard_tour" q22 f fd)(c_check_yard:Cal P w K mg base 5 f_check_yard d_check_yard "check_yard" ["gate", "boxes"] 2 qu)(c_is_yard_carry:Cal P w K mg base 3 f_is_yard_carry d_is_yard_carry "is_yard_carry" ["thing", "boxes"] 2 q04)(c_is_go:Cal P w K mg base 2 f_is_go d_is_go "is_go" ["thing"] 1 q3r)(c_brings_each_box:Cal P w K mg base 1 f_brings_each_box d_brings_each_box "brings_each_box" ["boxes", "moves"] 2 qS)(c_leads:Cal P w K mg base 1 f_leads d_leads "leads" ["home", "last", "moves"] 3 q3v)(z_isinstance:mg "isinstance" = none)(z_list:mg "list" = none)(z_all:mg "all" = none)(i_list:IsT K .lst):
  FnOk P w K mg base CX0 6 f fd ["gate", "boxes", "thing"] (spD K 3 qV):=by
 have h:=fnD (P:=P) (w:=w) (mg:=mg) (base:=base) (k:=5) (body:=q1Z) F q6C (λcdv A outer s H E hr=>
   (qa (q6G (xc c_check_yard hr (Yo (vD 0) (Yo (vD 1) Yu))))
   (qa (qv (q07 (qL (XE.toV (q18 (vV 2) i_list rfl z_isinstance rfl z_list q3n)))) (qb (qf (XD.toE X9))) qq)
   (qa (qv (q07 (qL (XE.toV (qr (q31 rfl) q5B rfl z_all q5W (qh (XE.toV (qP rfl (blk ["move"] ["boxes"] [1] rfl ⋯ ⋯ rfl ⟨⟨rfl,(by first|exact Or.inl rfl|exact Or.inr rfl),rfl⟩,trivial⟩) (qt (vD 2)) (qy 0) (λ_ _ _ _=>⟨(qg (i:=0) (show ((["move"]:List Str)++(["boxes"]:List Str):List Str).Nodup from by decide +kernel) rfl (Or.inl rfl)),qK,(qhp (XE.toD (xc c_is_go hr (Yo (vD 0) Yu))) (q0n (XE.toD (xc c_is_yard_carry hr (Yo (vD 0) (Yo (vD 1) Yu))))))⟩))) qi))))) (qb (qf (XD.toE X9))) qq)
   (qb (qf (XD.toE (qX (XE.toD (xc c_leads hr (Yo (vD 0) (Yo (vD 0) (Yo (vD 2) Yu))))) (q0n (XE.toD (xc c_brings_each_box hr (Yo (vD 1) (Yo (vD 2) Yu)))))))))))))
 exact h
noncomputable def q0s:FT:=(tOf (Yv (oEq true) (vOf (Yv oIx (vOf (Yr 1)) (fC (.int 0)))) (vOf (Yv oIx (vOf (Yr 1)) (fC (.int 1))))))
noncomputable def q0z:FD:=(zAg (Yp (fC (.str "box")) (Yp (dOf (Yr 0)) (Yp (dOf (Yv oIx (vOf (Yr 1)) (fC (.int 0)))) (Yp (dOf (Yv oIx (vOf (Yr 1)) (fC (.int 1)))) Yz)))))
noncomputable def q1B:FS:=(XX (Xj 2 [] (iEn (Yp (dOf (Yr 0)) Yz)) (gT 2 (Yw (gN 0) (Yw (gN 1) Xr))) q0s q0z))
noncomputable def q0c:List D->Option O:=mir 1 q1B
noncomputable abbrev q1u:vx:=top 34
def q64:FnScope ["boxes"] ["boxes"] (Yt q1u):=⟨rfl,rfl,rfl,⋯,rfl,⋯,⋯⟩
def q5m (F:Fun K "whole_carries" "whole_carries" q1u f fd)(z_enumerate:mg "enumerate" = none):
  FnOk P w K mg base CX0 1 f fd ["boxes"] (spD K 1 q0c):=by
 have h:=fnD (P:=P) (w:=w) (mg:=mg) (base:=base) (k:=0) (body:=q1B) F q64 (λcdv A outer s H E hr=>
   (qb (qf (qP rfl (blk ["number", "box"] [] [] rfl ⋯ ⋯ rfl trivial) (q9K rfl z_enumerate (Yo (vD 0) Yu)) (q8U (q0u (qy 0) (q0u (qy 1) q4d))) (λ_ _ _ _=>⟨(q26 rfl (qx (qg (i:=0) (show ((["number", "box"]:List Str)++([]:List Str):List Str).Nodup from by decide +kernel) rfl (Or.inl rfl)) (qx (qg (i:=1) (show ((["number", "box"]:List Str)++([]:List Str):List Str).Nodup from by decide +kernel) rfl (Or.inl rfl)) q1p))),(q4T (X5 hr.units (XE.toV (Ys (vV 1) (XD.toV Yq))) (XE.toV (Ys (vV 1) (XD.toV Yq))))),(Xt (Yo WY (Yo (vD 0) (Yo (XE.toD (Ys (vV 1) (XD.toV Yq))) (Yo (XE.toD (Ys (vV 1) (XD.toV Yq))) Yu)))))⟩)))))
 exact h
noncomputable def q1P:FS:=(Y6 (Xf 6 (eOf (dOf (Y1 q0X (Yp (dOf (Yr 1)) (Yp (zAg (Yp (dOf (Yr 3)) (Yp (dOf (Yr 4)) Yz))) Yz))))))
  (Y6 (zCw 2 (dOf (Yv zBC (vOf (zAN (Yp (zAg (Yp (fC (.str "go")) (Yp (dOf (Yr 3)) (Yp (dOf (Yr 4)) Yz)))) Yz))) (vOf (Yv zAV (vOf (Yr 5)) (vOf (Yv oIx (vOf (Yr 6)) (fC (.int 0)))))))))
  (zCw 2 (dOf (Yv zBC (vOf (zAN (Yp (zAg (Yp (fC (.str "go")) (Yp (dOf (Yr 4)) (Yp (dOf (Yr 3)) Yz)))) Yz))) (vOf (Yv zAV (vOf (Yr 5)) (vOf (Yv oIx (vOf (Yr 6)) (fC (.int 1)))))))))))
noncomputable def q2h:FS:=(Y6 (Xf 2 (zAN Yz))
  (Y6 (zAQ (WD (dOf (Y1 q0N (Yp (dOf (Yr 0)) (Yp (dOf (Yr 1)) Yz))))) (gT 3 (Yw (gN 3) (Yw (gN 4) (Yw (gN 5) Xr)))) q1P)
  (zAe 2)))
noncomputable def q0A:List D->Option O:=mir 7 q2h
noncomputable abbrev q2e:vx:=top 35
def q03:FnScope ["gate", "boxes", "moves", "left", "right", "times", "carried"] ["gate", "boxes"] (Yt q2e):=⟨rfl,rfl,rfl,⋯,rfl,⋯,⋯⟩
def q6i{f_passes:vJ}{d_passes:vP}{f_crossed:vJ}{d_crossed:vP}(F:Fun K "empty_moves" "empty_moves" q2e f fd)(c_passes:Cal P w K mg base 6 f_passes d_passes "passes" ["gate", "boxes"] 2 q0N)(c_crossed:Cal P w K mg base 2 f_crossed d_crossed "crossed" ["boxes", "gap"] 2 q0X):
  FnOk P w K mg base CX0 7 f fd ["gate", "boxes"] (spD K 2 q0A):=by
 have h:=fnD (P:=P) (w:=w) (mg:=mg) (base:=base) (k:=6) (body:=q2h) F q03 (λcdv A outer s H E hr=>
   (qa (ql (i:=2) q03.nd rfl (Or.inl rfl) (Xe Yu))
   (qa (qW PassesOwn.never rfl (qt (XE.toD (xc c_passes hr (Yo (vD 0) (Yo (vD 1) Yu))))) (q26 rfl (qx (qg (i:=3) q03.nd rfl (Or.inl rfl)) (qx (qg (i:=4) q03.nd rfl (Or.inl rfl)) (qx (qg (i:=5) q03.nd rfl (Or.inl rfl)) q1p)))) (qa (ql (i:=6) q03.nd rfl (Or.inl rfl) (XD.toE (XE.toD (xc c_crossed hr (Yo (vD 1) (Yo (Xt (Yo (vD 3) (Yo (vD 4) Yu))) Yu))))))
   (qa (q5D (pv 2) (XE.toD (qcG (XE.toV (Xe (Yo (Xt (Yo WY (Yo (vD 3) (Yo (vD 4) Yu)))) Yu))) (XE.toV (q00 (vV 5) (XE.toV (Ys (vV 6) (XD.toV Yq))))))))
   (qb (q5D (pv 2) (XE.toD (qcG (XE.toV (Xe (Yo (Xt (Yo WY (Yo (vD 4) (Yo (vD 3) Yu)))) Yu))) (XE.toV (q00 (vV 5) (XE.toV (Ys (vV 6) (XD.toV Yq))))))))))))
   (qb (q6l (pv 2))))))
 exact h
noncomputable def q3z:FD:=(dOf (fSl (vOf (Yr 0)) (pAt (vOf (zB1 (fC (.int 2))))) pNo))
noncomputable def q42:FS:=(XX (Xj 1 [] (WD (dOf (Yr 0))) (gN 0) XQ q3z))
noncomputable def q0P:List D->Option O:=mir 1 q42
noncomputable abbrev q4p:vx:=top 36
def qd9:FnScope ["moves"] ["moves"] (Yt q4p):=⟨rfl,rfl,rfl,⋯,rfl,⋯,⋯⟩
def qbR (F:Fun K "arcs_of" "arcs_of" q4p f fd):
  FnOk P w K mg base CX0 1 f fd ["moves"] (spD K 1 q0P):=by
 have h:=fnD (P:=P) (w:=w) (mg:=mg) (base:=base) (k:=0) (body:=q42) F qd9 (λcdv A outer s H E hr=>
   (qb (qf (qP rfl (blk ["move"] [] [] rfl ⋯ ⋯ rfl trivial) (qt (vD 0)) (qy 0) (λ_ _ _ _=>⟨(qg (i:=0) (show ((["move"]:List Str)++([]:List Str):List Str).Nodup from by decide +kernel) rfl (Or.inl rfl)),qK,(XE.toD (XN (vV 0) (XU (XE.toV (q2v (XD.toV Yq)))) Xn))⟩)))))
 exact h
noncomputable def q3Q:FS:=(zCw 1 (dOf (fSl (vOf (Yr 2)) (pAt (vOf (zB1 (fC (.int 2))))) pNo)))
noncomputable def q4o:FS:=(Y6 (Xf 1 (zAN Yz))
  (Y6 (zAQ (WD (dOf (Yr 0))) (gN 2) q3Q)
  (XX (Xy (vOf (Yr 1))))))
noncomputable def q0r:List D->Option O:=mir 3 q4o
noncomputable abbrev q4m:vx:=top 37
def q4A:FnScope ["moves", "ends", "move"] ["moves"] (Yt q4m):=⟨rfl,rfl,rfl,⋯,rfl,⋯,⋯⟩
def qbt (F:Fun K "ends_of" "ends_of" q4m f fd)(z_sorted:mg "sorted" = none)(q1E:mg "set" = none):
  FnOk P w K mg base CX0 1 f fd ["moves"] (spD K 1 q0r):=by
 have h:=fnD (P:=P) (w:=w) (mg:=mg) (base:=base) (k:=0) (body:=q4o) F q4A (λcdv A outer s H E hr=>
   (qa (ql (i:=1) q4A.nd rfl (Or.inl rfl) (Xe Yu))
   (qa (qW PassesOwn.never rfl (qt (vD 0)) (qg (i:=2) q4A.nd rfl (Or.inl rfl)) (qb (q5D (pv 1) (XE.toD (XN (vV 2) (XU (XE.toV (q2v (XD.toV Yq)))) Xn)))))
   (qb (qf (q3F rfl z_sorted rfl q1E (vV 1)))))))
 exact h
noncomputable def q37:FS:=(XX (eOf (zAY (dOf (Yv oLt (vOf (Xx zBB (Yp (vOf (fSl (vOf (Yr 1)) (pAt (vOf (zB1 (fC (.int 2))))) pNo)) Yz))) (vOf (Yr 0)))) (dOf (Yv oLt (vOf (Yr 0)) (vOf (Xx zAU (Yp (vOf (fSl (vOf (Yr 1)) (pAt (vOf (zB1 (fC (.int 2))))) pNo)) Yz))))))))
noncomputable def q1g:List D->Option O:=mir 2 q37
noncomputable abbrev q36:vx:=top 38
def q9A:FnScope ["place", "move"] ["place", "move"] (Yt q36):=⟨rfl,rfl,rfl,⋯,rfl,⋯,⋯⟩
def q8l (F:Fun K "lies_amid" "lies_amid" q36 f fd)(z_max:mg "max" = none)(z_min:mg "min" = none):
  FnOk P w K mg base CX0 1 f fd ["place", "move"] (spD K 2 q1g):=by
 have h:=fnD (P:=P) (w:=w) (mg:=mg) (base:=base) (k:=0) (body:=q37) F q9A (λcdv A outer s H E hr=>
   (qb (qf (XD.toE (qX (XE.toD (qbW (XE.toV (qr (q6Z rfl) q9Y rfl z_min qcq (qh (XE.toV (XN (vV 1) (XU (XE.toV (q2v (XD.toV Yq)))) Xn)) qi))) (vV 0))) (q0n (XE.toD (qbW (vV 0) (XE.toV (qr (q4C rfl) q6m rfl z_max q5M (qh (XE.toV (XN (vV 1) (XU (XE.toV (q2v (XD.toV Yq)))) Xn)) qi)))))))))))
 exact h
noncomputable def q2R:FS:=(XX (zAN (Yp (dOf (Yv WR (vOf (fSl (vOf (Yr 0)) pNo (pAt (fC (.int 3))))) (zAg (Yp (dOf (Yr 1)) Yz)))) (Yp (dOf (Yv WR (vOf (fSl (vOf (Yr 0)) pNo (pAt (fC (.int 2))))) (zAg (Yp (dOf (Yr 1)) (Yp (dOf (Yv oIx (vOf (Yr 0)) (fC (.int 3)))) Yz))))) Yz))))
noncomputable def q0T:List D->Option O:=mir 2 q2R
noncomputable abbrev q2A:vx:=top 39
def q85:FnScope ["move", "place"] ["move", "place"] (Yt q2A):=⟨rfl,rfl,rfl,⋯,rfl,⋯,⋯⟩
def q7u (F:Fun K "cut_in_two" "cut_in_two" q2A f fd):
  FnOk P w K mg base CX0 1 f fd ["move", "place"] (spD K 2 q0T):=by
 have h:=fnD (P:=P) (w:=w) (mg:=mg) (base:=base) (k:=0) (body:=q2R) F q85 (λcdv A outer s H E hr=>
   (qb (qf (Xe (Yo (XE.toD (qR (XE.toV (XN (vV 0) Xn (XU (XD.toV Yq)))) (XD.toV (Xt (Yo (vD 1) Yu))))) (Yo (XE.toD (qR (XE.toV (XN (vV 0) Xn (XU (XD.toV Yq)))) (XD.toV (Xt (Yo (vD 1) (Yo (XE.toD (Ys (vV 0) (XD.toV Yq))) Yu)))))) Yu))))))
 exact h
noncomputable def q1G:FT:=(tOf (Yv (oIn true) (vOf (Yr 0)) (vOf (Yr 1))))
noncomputable def q1C:FD:=(dOf (Yr 0))
noncomputable def qQ:FS:=(sIf (W6 (vOf (Y1 q1g (Yp (dOf (Yr 5)) (Yp (dOf (Yr 4)) Yz))))) (XX (Yv WR (vOf (Yv WR (vOf (fSl (vOf (Yr 0)) pNo (pAt (vOf (Yr 3))))) (vOf (Y1 q0T (Yp (dOf (Yr 4)) (Yp (dOf (Yr 5)) Yz)))))) (vOf (fSl (vOf (Yr 0)) (pAt (vOf (Yv WR (vOf (Yr 3)) (fC (.int 1))))) pNo)))) WA)
noncomputable def qD:FS:=(sIf (tOf (Yv (oIn false) (vOf (Yv oIx (vOf (Yr 4)) (vOf (zB1 (fC (.int 2)))))) (vOf (Yr 1)))) (zAQ (WD (dOf (Yr 2))) (gN 5) qQ) WA)
noncomputable def q19:FS:=(Y6 (Xf 2 (Xj 1 [1] (WD (dOf (Y1 q0r (Yp (dOf (Yr 0)) Yz)))) (gN 0) q1G q1C))
  (zAB 2 (Y6 (zAQ (iEn (Yp (dOf (Yr 0)) Yz)) (gT 2 (Yw (gN 3) (Yw (gN 4) Xr))) qD)
  (XX (Yr 0)))))
noncomputable def qM:List D->Option O:=mir 6 q19
noncomputable abbrev q1Y:vx:=top 40
def q0o:FnScope ["moves", "reached", "apart", "number", "move", "place"] ["moves", "reached"] (Yt q1Y):=⟨rfl,rfl,rfl,⋯,rfl,⋯,⋯⟩
def q5K{f_ends_of:vJ}{d_ends_of:vP}{f_lies_amid:vJ}{d_lies_amid:vP}{f_cut_in_two:vJ}{d_cut_in_two:vP}(F:Fun K "with_one_cut" "with_one_cut" q1Y f fd)(c_ends_of:Cal P w K mg base 1 f_ends_of d_ends_of "ends_of" ["moves"] 1 q0r)(c_lies_amid:Cal P w K mg base 1 f_lies_amid d_lies_amid "lies_amid" ["place", "move"] 2 q1g)(c_cut_in_two:Cal P w K mg base 1 f_cut_in_two d_cut_in_two "cut_in_two" ["move", "place"] 2 q0T)(z_enumerate:mg "enumerate" = none):
  FnOk P w K mg base CX0 2 f fd ["moves", "reached"] (spD K 2 qM):=by
 have h:=fnD (P:=P) (w:=w) (mg:=mg) (base:=base) (k:=1) (body:=q19) F q0o (λcdv A outer s H E hr=>
   (qa (q2o (i:=2) rfl q0o.nd rfl rfl (blk ["place"] ["reached"] [1] rfl ⋯ ⋯ rfl ⟨⟨rfl,(by first|exact Or.inl rfl|exact Or.inr rfl),rfl⟩,trivial⟩) (qt (XE.toD (xc c_ends_of hr (Yo (vD 0) Yu)))) (qy 0) (λ_ _ _ _=>⟨(qg (i:=0) (show ((["place"]:List Str)++(["reached"]:List Str):List Str).Nodup from by decide +kernel) rfl (Or.inl rfl)),(q4T (zBx (vV 0) (vV 1))),(vD 0)⟩))
   (q2Z 2 (qa (qW PassesOwn.never rfl (q9K rfl z_enumerate (Yo (vD 0) Yu)) (q26 rfl (qx (qg (i:=3) q0o.nd rfl (Or.inl rfl)) (qx (qg (i:=4) q0o.nd rfl (Or.inl rfl)) q1p))) (qb (qv (xt_in (XE.toV (Ys (vV 4) (XE.toV (q2v (XD.toV Yq))))) (vV 1)) (qb (qW PassesOwn.never rfl (qt (vD 2)) (qg (i:=5) q0o.nd rfl (Or.inl rfl)) (qb (qv (qL (XE.toV (xc c_lies_amid hr (Yo (vD 5) (Yo (vD 4) Yu))))) (qb (qf (qR (XE.toV (qR (XE.toV (XN (vV 0) Xn (XU (vV 3)))) (XE.toV (xc c_cut_in_two hr (Yo (vD 4) (Yo (vD 5) Yu)))))) (XE.toV (XN (vV 0) (XU (XE.toV (qR (vV 3) (XD.toV Yq)))) Xn))))) qq)))) qq)))
   (qb (qf (vE 0)))))))
 exact h
noncomputable def qY:FT:=(tOf (Yv oLt (vOf (Xx WU (Yp (vOf (Yr 3)) Yz))) (vOf (Xx WU (Yp (vOf (Yr 2)) Yz)))))
noncomputable def q0w:FS:=(Y6 (Xf 3 (eOf (dOf (Y1 q1x (Yp (dOf (Yr 0)) (Yp (dOf (Y1 q1D (Yp (dOf (Yr 2)) (Yp (dOf (Y1 q0P (Yp (dOf (Yr 1)) Yz))) Yz)))) Yz))))))
  (Xf 1 (eOf (dOf (Y1 qM (Yp (dOf (Yr 1)) (Yp (dOf (Yr 3)) Yz)))))))
noncomputable def q0K:FS:=(Y6 (Xf 2 (eOf (dOf (Y1 q0r (Yp (dOf (Yr 1)) Yz)))))
  (Y6 (Xf 3 (eOf (dOf (zAN (Yp (dOf (Yr 0)) Yz)))))
  (Y6 (sWh 1000000 qY q0w)
  (XX (Yr 1)))))
noncomputable def qI:List D->Option O:=mir 4 q0K
noncomputable abbrev q1K:vx:=top 41
def q08:FnScope ["gate", "moves", "ends", "reached"] ["gate", "moves"] (Yt q1K):=⟨rfl,rfl,rfl,⋯,rfl,⋯,⋯⟩
def q54{f_ends_of:vJ}{d_ends_of:vP}{f_group_of:vJ}{d_group_of:vP}{f_neighbours:vJ}{d_neighbours:vP}{f_arcs_of:vJ}{d_arcs_of:vP}{f_with_one_cut:vJ}{d_with_one_cut:vP}(F:Fun K "hung_together" "hung_together" q1K f fd)(c_ends_of:Cal P w K mg base 1 f_ends_of d_ends_of "ends_of" ["moves"] 1 q0r)(c_group_of:Cal P w K mg base 1 f_group_of d_group_of "group_of" ["thing", "beside"] 2 q1x)(c_neighbours:Cal P w K mg base 1 f_neighbours d_neighbours "neighbours" ["things", "ties"] 2 q1D)(c_arcs_of:Cal P w K mg base 1 f_arcs_of d_arcs_of "arcs_of" ["moves"] 1 q0P)(c_with_one_cut:Cal P w K mg base 2 f_with_one_cut d_with_one_cut "with_one_cut" ["moves", "reached"] 2 qM)(z_len:mg "len" = none):
  FnOk P w K mg base CX0 3 f fd ["gate", "moves"] (spD K 2 qI):=by
 have h:=fnD (P:=P) (w:=w) (mg:=mg) (base:=base) (k:=2) (body:=q0K) F q08 (λcdv A outer s H E hr=>
   (qa (ql (i:=2) q08.nd rfl (Or.inl rfl) (XD.toE (XE.toD (xc c_ends_of hr (Yo (vD 1) Yu)))))
   (qa (ql (i:=3) q08.nd rfl (Or.inl rfl) (XD.toE (XE.toD (Xe (Yo (vD 0) Yu)))))
   (qa (q9c PassesOwn.never (q7F (XE.toV (qr qj qF rfl z_len qE (qh (vV 3) qi))) (XE.toV (qr qj qF rfl z_len qE (qh (vV 2) qi)))) (qa (ql (i:=3) q08.nd rfl (Or.inl rfl) (XD.toE (XE.toD (xc c_group_of hr (Yo (vD 0) (Yo (XE.toD (xc c_neighbours hr (Yo (vD 2) (Yo (XE.toD (xc c_arcs_of hr (Yo (vD 1) Yu))) Yu)))) Yu))))))
   (qb (ql (i:=1) q08.nd rfl (Or.inl rfl) (XD.toE (XE.toD (xc c_with_one_cut hr (Yo (vD 1) (Yo (vD 3) Yu)))))))))
   (qb (qf (vE 1)))))))
 exact h
noncomputable def q2u:FD:=(dOf (Yv oIx (vOf (Yr 1)) (vOf (Yr 0))))
noncomputable def q3l:FS:=(Y6 (zBZ (Y1 qu (Yp (dOf (Yr 0)) (Yp (dOf (Yr 1)) Yz))))
  (Y6 (Xf 2 (eOf (dOf (Y1 qI (Yp (dOf (Yr 0)) (Yp (dOf (Yv WR (vOf (Y1 q0c (Yp (dOf (Yr 1)) Yz))) (vOf (Y1 q0A (Yp (dOf (Yr 0)) (Yp (dOf (Yr 1)) Yz)))))) Yz))))))
  (XX (Xj 1 [2] (WD (dOf (Y1 q2N (Yp (dOf (Yr 0)) (Yp (dOf (Y1 q0P (Yp (dOf (Yr 2)) Yz))) Yz))))) (gN 0) XQ q2u))))
noncomputable def q0H:List D->Option O:=mir 3 q3l
noncomputable abbrev q3c:vx:=top 42
def q50:FnScope ["gate", "boxes", "moves"] ["gate", "boxes"] (Yt q3c):=⟨rfl,rfl,rfl,⋯,rfl,⋯,⋯⟩
def q8v{f_check_yard:vJ}{d_check_yard:vP}{f_hung_together:vJ}{d_hung_together:vP}{f_whole_carries:vJ}{d_whole_carries:vP}{f_empty_moves:vJ}{d_empty_moves:vP}{f_row_of:vJ}{d_row_of:vP}{f_arcs_of:vJ}{d_arcs_of:vP}(F:Fun K "yard_tour" "yard_tour" q3c f fd)(c_check_yard:Cal P w K mg base 5 f_check_yard d_check_yard "check_yard" ["gate", "boxes"] 2 qu)(c_hung_together:Cal P w K mg base 3 f_hung_together d_hung_together "hung_together" ["gate", "moves"] 2 qI)(c_whole_carries:Cal P w K mg base 1 f_whole_carries d_whole_carries "whole_carries" ["boxes"] 1 q0c)(c_empty_moves:Cal P w K mg base 7 f_empty_moves d_empty_moves "empty_moves" ["gate", "boxes"] 2 q0A)(c_row_of:Cal P w K mg base 3 f_row_of d_row_of "row_of" ["start", "arcs"] 2 q2N)(c_arcs_of:Cal P w K mg base 1 f_arcs_of d_arcs_of "arcs_of" ["moves"] 1 q0P):
  FnOk P w K mg base CX0 8 f fd ["gate", "boxes"] (spD K 2 q0H):=by
 have h:=fnD (P:=P) (w:=w) (mg:=mg) (base:=base) (k:=7) (body:=q3l) F q50 (λcdv A outer s H E hr=>
   (qa (q6G (xc c_check_yard hr (Yo (vD 0) (Yo (vD 1) Yu))))
   (qa (ql (i:=2) q50.nd rfl (Or.inr rfl) (XD.toE (XE.toD (xc c_hung_together hr (Yo (vD 0) (Yo (XE.toD (qR (XE.toV (xc c_whole_carries hr (Yo (vD 1) Yu))) (XE.toV (xc c_empty_moves hr (Yo (vD 0) (Yo (vD 1) Yu)))))) Yu))))))
   (qb (qf (qP rfl (blk ["number"] ["moves"] [2] rfl ⋯ ⋯ rfl ⟨⟨rfl,(by first|exact Or.inl rfl|exact Or.inr rfl),rfl⟩,trivial⟩) (qt (XE.toD (xc c_row_of hr (Yo (vD 0) (Yo (XE.toD (xc c_arcs_of hr (Yo (vD 2) Yu))) Yu))))) (qy 0) (λ_ _ _ _=>⟨(qg (i:=0) (show ((["number"]:List Str)++(["moves"]:List Str):List Str).Nodup from by decide +kernel) rfl (Or.inl rfl)),qK,(XE.toD (Ys (vV 1) (vV 0)))⟩)))))))
 exact h
noncomputable def q3g:FS:=(Y6 (sIf (tOf (Yv oLt (vOf (Yr 1)) (vOf (Xx WU (Yp (vOf (Yr 0)) Yz))))) (XX (Yv oIx (vOf (Yr 0)) (vOf (Yr 1)))) WA)
  (XX (eOf (fC (.int 0)))))
noncomputable def qT:List D->Option O:=mir 2 q3g
noncomputable abbrev q34:vx:=top 44
def q9q:FnScope ["script", "k"] ["script", "k"] (Yt q34):=⟨rfl,rfl,rfl,⋯,rfl,⋯,⋯⟩
def q8t (F:Fun K "_law_cell" "_law_cell" q34 f fd)(z_len:mg "len" = none):
  FnOk P w K mg base CX0 1 f fd ["script", "k"] (spD K 2 qT):=by
 have h:=fnD (P:=P) (w:=w) (mg:=mg) (base:=base) (k:=0) (body:=q3g) F q9q (λcdv A outer s H E hr=>
   (qa (qv (q7F (vV 1) (XE.toV (qr qj qF rfl z_len qE (qh (vV 0) qi)))) (qb (qf (Ys (vV 0) (vV 1)))) qq)
   (qb (qf (XD.toE Yq)))))
 exact h
noncomputable def q0Z:FS:=(Y6 (Xf 1 (eOf (dOf (Y1 qT (Yp (dOf (Yr 0)) (Yp (dOf (Yv WR (fC (.int 2)) (vOf (Yr 4)))) Yz))))))
  (sApp 3 (dOf (Yv WR (vOf (Yr 2)) (vOf (Yv oIx (vOf (zAN (Yp (dOf (Yv WR (vOf (Yr 4)) (vOf (Yv oMod (vOf (Yv oDiv (vOf (Yr 1)) (fC (.int 3)))) (fC (.int 3)))))) (Yp (dOf (Yv oMod (vOf (Yv oDiv (vOf (Yr 1)) (fC (.int 3)))) (fC (.int 100)))) (Yp (dOf (Yv oMod (vOf (Yv oDiv (vOf (Yr 1)) (fC (.int 3)))) (vOf (Yv oPow (fC (.int 10)) (fC (.int 39)))))) Yz))))) (vOf (Yv oMod (vOf (Yr 1)) (fC (.int 3))))))))))
noncomputable def q3h:FS:=(Y6 (Xf 1 (eOf (dOf (Y1 qT (Yp (dOf (Yr 0)) (Yp (fC (.int 0)) Yz))))))
  (Y6 (Xf 2 (eOf (dOf (Yv zAV (vOf (Yv oMod (vOf (Yv oDiv (vOf (Yr 1)) (fC (.int 2)))) (fC (.int 21)))) (fC (.int 10))))))
  (Y6 (sIf (tOf (Yv (oEq false) (vOf (Yv oMod (vOf (Yr 1)) (fC (.int 2)))) (fC (.int 1)))) (Xf 2 (eOf (dOf (Yv zAV (vOf (Yv oMod (vOf (Yv oDiv (vOf (Yr 1)) (fC (.int 2)))) (vOf (Yv zBG (fC (.int 2)) (vOf (Yv oPow (fC (.int 10)) (fC (.int 39)))))))) (vOf (Yv oPow (fC (.int 10)) (fC (.int 39)))))))) WA)
  (Y6 (Xf 3 (zAN (Yp (dOf (Yr 2)) Yz)))
  (Y6 (zAQ (iRg1 (Yp (fC (.int 6)) Yz)) (gN 4) q0Z)
  (zAe 3))))))
noncomputable def q1f:List D->Option O:=mir 5 q3h
noncomputable abbrev q3a:vx:=top 45
def q0h:FnScope ["script", "cell", "gate", "some", "k"] ["script"] (Yt q3a):=⟨rfl,rfl,rfl,⋯,rfl,⋯,⋯⟩
def q9g{f__law_cell:vJ}{d__law_cell:vP}(F:Fun K "_law_menu" "_law_menu" q3a f fd)(c__law_cell:Cal P w K mg base 1 f__law_cell d__law_cell "_law_cell" ["script", "k"] 2 qT)(z_range:mg "range" = none):
  FnOk P w K mg base CX0 2 f fd ["script"] (spD K 1 q1f):=by
 have h:=fnD (P:=P) (w:=w) (mg:=mg) (base:=base) (k:=1) (body:=q3h) F q0h (λcdv A outer s H E hr=>
   (qa (ql (i:=1) q0h.nd rfl (Or.inl rfl) (XD.toE (XE.toD (xc c__law_cell hr (Yo (vD 0) (Yo Yq Yu))))))
   (qa (ql (i:=2) q0h.nd rfl (Or.inl rfl) (XD.toE (XE.toD (q00 (XE.toV (q0B (XE.toV (q1o (vV 1) (XD.toV Yq))) (XD.toV Yq))) (XD.toV Yq)))))
   (qa (qv (zBy hr.units (XE.toV (q0B (vV 1) (XD.toV Yq))) (XD.toV Yq)) (qb (ql (i:=2) q0h.nd rfl (Or.inl rfl) (XD.toE (XE.toD (q00 (XE.toV (q0B (XE.toV (q1o (vV 1) (XD.toV Yq))) (XE.toV (q4n (XD.toV Yq) (XE.toV (q8k (XD.toV Yq) (XD.toV Yq))))))) (XE.toV (q8k (XD.toV Yq) (XD.toV Yq)))))))) qq)
   (qa (ql (i:=3) q0h.nd rfl (Or.inl rfl) (Xe (Yo (vD 2) Yu)))
   (qa (qW PassesOwn.never rfl (qc3 rfl z_range (qh (XD.toV Yq) qi)) (qg (i:=4) q0h.nd rfl (Or.inl rfl)) (qa (ql (i:=1) q0h.nd rfl (Or.inl rfl) (XD.toE (XE.toD (xc c__law_cell hr (Yo (vD 0) (Yo (XE.toD (qR (XD.toV Yq) (vV 4))) Yu))))))
   (qb (q7I (pv 3) (XE.toD (qR (vV 2) (XE.toV (Ys (XE.toV (Xe (Yo (XE.toD (qR (vV 4) (XE.toV (q0B (XE.toV (q1o (vV 1) (XD.toV Yq))) (XD.toV Yq))))) (Yo (XE.toD (q0B (XE.toV (q1o (vV 1) (XD.toV Yq))) (XD.toV Yq))) (Yo (XE.toD (q0B (XE.toV (q1o (vV 1) (XD.toV Yq))) (XE.toV (q8k (XD.toV Yq) (XD.toV Yq))))) Yu))))) (XE.toV (q0B (vV 1) (XD.toV Yq)))))))))))
   (qb (q6l (pv 3)))))))))
 exact h
noncomputable def q2b:FS:=(sApp 4 (zAg (Yp (dOf (Yv oIx (vOf (Yr 1)) (vOf (Yv oMod (vOf (Yr 5)) (fC (.int 7)))))) (Yp (dOf (Yv oIx (vOf (Yr 1)) (vOf (Yv oMod (vOf (Yv oDiv (vOf (Yr 5)) (fC (.int 7)))) (fC (.int 7)))))) Yz))))
noncomputable def q2y:FS:=(Y6 (Xf 2 (eOf (dOf (Y1 qT (Yp (dOf (Yr 0)) (Yp (fC (.int 1)) Yz))))))
  (Y6 (Xf 3 (eOf (dOf (Yv oIx (vOf (zAN (Yp (fC (.int 9)) (Yp (fC (.int 9)) (Yp (dOf (Yv oMod (vOf (Yv oDiv (vOf (Yr 2)) (fC (.int 4)))) (fC (.int 10)))) (Yp (dOf (Yv oMod (vOf (Yv oDiv (vOf (Yr 2)) (fC (.int 4)))) (fC (.int 3)))) Yz)))))) (vOf (Yv oMod (vOf (Yr 2)) (fC (.int 4))))))))
  (Y6 (Xf 4 (zAN Yz))
  (Y6 (zAQ (WD (dOf (fSl (vOf (Yr 0)) (pAt (fC (.int 8))) (pAt (vOf (Yv WR (fC (.int 8)) (vOf (Yr 3)))))))) (gN 5) q2b)
  (zAe 4)))))
noncomputable def q0L:List D->Option O:=mir 6 q2y
noncomputable abbrev q2Q:vx:=top 46
def q0O:FnScope ["script", "some", "cell", "many", "boxes", "one"] ["script", "some"] (Yt q2Q):=⟨rfl,rfl,rfl,⋯,rfl,⋯,⋯⟩
def q7z{f__law_cell:vJ}{d__law_cell:vP}(F:Fun K "_law_boxes" "_law_boxes" q2Q f fd)(c__law_cell:Cal P w K mg base 1 f__law_cell d__law_cell "_law_cell" ["script", "k"] 2 qT):
  FnOk P w K mg base CX0 2 f fd ["script", "some"] (spD K 2 q0L):=by
 have h:=fnD (P:=P) (w:=w) (mg:=mg) (base:=base) (k:=1) (body:=q2y) F q0O (λcdv A outer s H E hr=>
   (qa (ql (i:=2) q0O.nd rfl (Or.inl rfl) (XD.toE (XE.toD (xc c__law_cell hr (Yo (vD 0) (Yo Yq Yu))))))
   (qa (ql (i:=3) q0O.nd rfl (Or.inl rfl) (XD.toE (XE.toD (Ys (XE.toV (Xe (Yo Yq (Yo Yq (Yo (XE.toD (q0B (XE.toV (q1o (vV 2) (XD.toV Yq))) (XD.toV Yq))) (Yo (XE.toD (q0B (XE.toV (q1o (vV 2) (XD.toV Yq))) (XD.toV Yq))) Yu)))))) (XE.toV (q0B (vV 2) (XD.toV Yq)))))))
   (qa (ql (i:=4) q0O.nd rfl (Or.inl rfl) (Xe Yu))
   (qa (qW PassesOwn.never rfl (qt (XE.toD (XN (vV 0) (XU (XD.toV Yq)) (XU (XE.toV (qR (XD.toV Yq) (vV 3))))))) (qg (i:=5) q0O.nd rfl (Or.inl rfl)) (qb (q7I (pv 4) (Xt (Yo (XE.toD (Ys (vV 1) (XE.toV (q0B (vV 5) (XD.toV Yq))))) (Yo (XE.toD (Ys (vV 1) (XE.toV (q0B (XE.toV (q1o (vV 5) (XD.toV Yq))) (XD.toV Yq))))) Yu))))))
   (qb (q6l (pv 4))))))))
 exact h
noncomputable def q48:FS:=(XX (eOf (zAY (dOf (zA7 .int (vOf (Yr 0)))) (vNot (dOf (zA7 .bl (vOf (Yr 0))))))))
noncomputable def q1J:List D->Option O:=mir 1 q48
noncomputable abbrev q2C:vx:=top 47
def q8b:FnScope ["thing"] ["thing"] (Yt q2C):=⟨rfl,rfl,rfl,⋯,rfl,⋯,⋯⟩
def q7v (F:Fun K "_law_whole" "_law_whole" q2C f fd)(z_isinstance:mg "isinstance" = none)(z_bool:mg "bool" = none)(z_int:mg "int" = none)(i_int:IsT K .int)(i_bool:IsT K .bl):
  FnOk P w K mg base CX0 1 f fd ["thing"] (spD K 1 q1J):=by
 have h:=fnD (P:=P) (w:=w) (mg:=mg) (base:=base) (k:=0) (body:=q48) F q8b (λcdv A outer s H E hr=>
   (qb (qf (XD.toE (qX (XE.toD (q18 (vV 0) i_int rfl z_isinstance rfl z_int qcI)) (q0n (qcO (XE.toD (q18 (vV 0) i_bool rfl z_isinstance rfl z_bool q9V)))))))))
 exact h
noncomputable def q0D:FS:=(sIf (WB (W6 (vOf (Y1 q1J (Yp (dOf (Yr 3)) Yz))))) (XX (eOf (fC .non))) WA)
noncomputable def qp:FS:=(Y6 (sIf (zAP (WB (W6 (vOf (zA7 .tup (vOf (Yr 2)))))) (zAP (tOf (Yv oLt (vOf (Xx WU (Yp (vOf (Yr 2)) Yz))) (fC (.int 3)))) (tOf (Yv oGt (vOf (Xx WU (Yp (vOf (Yr 2)) Yz))) (fC (.int 4)))))) (XX (eOf (fC .non))) WA)
  (Y6 (zAQ (WD (dOf (fSl (vOf (Yr 2)) (pAt (fC (.int 1))) pNo))) (gN 3) q0D)
  (Y6 (Xf 4 (eOf (dOf (Yv oIx (vOf (Yr 2)) (vOf (Yv zAV (vOf (Xx WU (Yp (vOf (Yr 2)) Yz))) (fC (.int 2))))))))
  (Y6 (Xf 5 (eOf (dOf (Yv oIx (vOf (Yr 2)) (vOf (Yv zAV (vOf (Xx WU (Yp (vOf (Yr 2)) Yz))) (fC (.int 1))))))))
  (Y6 (sIf (zAP (tOf (Yv (oEq true) (vOf (Yr 4)) (vOf (Yr 1)))) (zAP (tOf (Yv (oEq false) (vOf (Yr 5)) (vOf (Yr 1)))) (tOf (Yv (oEq true) (vOf (Yv oIx (vOf (Yr 2)) (fC (.int 0)))) (vOf (Yv oIx (vOf (zAN (Yp (fC (.str "go")) (Yp (fC (.str "box")) Yz)))) (vOf (Yv zAV (vOf (Xx WU (Yp (vOf (Yr 2)) Yz))) (fC (.int 3)))))))))) (XX (eOf (fC .non))) WA)
  (Y6 (sIf (tOf (Yv (oEq false) (vOf (Xx WU (Yp (vOf (Yr 2)) Yz))) (fC (.int 4)))) (Y6 (sIf (zAP (tOf (Yv oLt (vOf (Yv oIx (vOf (Yr 2)) (fC (.int 1)))) (fC (.int 0)))) (zAP (tOf (Yv oGe (vOf (Yv oIx (vOf (Yr 2)) (fC (.int 1)))) (vOf (Xx WU (Yp (vOf (Yr 0)) Yz))))) (tOf (Yv (oEq true) (vOf (Yv oIx (vOf (Yr 0)) (vOf (Yv oIx (vOf (Yr 2)) (fC (.int 1)))))) (vOf (Yr 1)))))) (XX (eOf (fC .non))) WA)
  (zBd 0 (dOf (Yv oIx (vOf (Yr 2)) (fC (.int 1)))) (dOf (Yr 5)))) WA)
  (XX (Yr 5))))))))
noncomputable def qk:List W->Option (D×WSt):=mirW 6 qp
noncomputable abbrev q2s:vx:=top 48
def q1I:FnScope ["lies", "here", "move", "part", "begin", "end"] ["lies", "here", "move"] (Yt q2s):=⟨rfl,rfl,rfl,⋯,rfl,⋯,⋯⟩
def q7B{f__law_whole:vJ}{d__law_whole:vP}(F:Fun K "_law_moved" "_law_moved" q2s f fd)(c__law_whole:Cal P w K mg base 1 f__law_whole d__law_whole "_law_whole" ["thing"] 1 q1J)(z_len:mg "len" = none)(z_isinstance:mg "isinstance" = none)(z_tuple:mg "tuple" = none)(i_tuple:IsT K .tup):
  FnOk P w K mg base CX0 2 f fd ["lies", "here", "move"] (spW K 3 qk):=by
 have h:=fnW (P:=P) (w:=w) (mg:=mg) (base:=base) (k:=1) (body:=qp) F q1I (λcdv A outer s H E hr=>
   (qa (qv (XW.toT (q0J (q07 (qL (XE.toV (q18 (vV 2) i_tuple rfl z_isinstance rfl z_tuple q3L)))) (q0J (q7F (XE.toV (qr qj qF rfl z_len qE (qh (vV 2) qi))) (XD.toV Yq)) (q27 (qhq (XE.toV (qr qj qF rfl z_len qE (qh (vV 2) qi))) (XD.toV Yq)))))) (qb (qf (XD.toE zAR))) qq)
   (qa (qW PassesOwn.never rfl (qt (XE.toD (XN (vV 2) (XU (XD.toV Yq)) Xn))) (qg (i:=3) q1I.nd rfl (Or.inl rfl)) (qb (qv (q07 (qL (XE.toV (xc c__law_whole hr (Yo (vD 3) Yu))))) (qb (qf (XD.toE zAR))) qq)))
   (qa (ql (i:=4) q1I.nd rfl (Or.inl rfl) (XD.toE (XE.toD (Ys (vV 2) (XE.toV (q00 (XE.toV (qr qj qF rfl z_len qE (qh (vV 2) qi))) (XD.toV Yq)))))))
   (qa (ql (i:=5) q1I.nd rfl (Or.inl rfl) (XD.toE (XE.toD (Ys (vV 2) (XE.toV (q00 (XE.toV (qr qj qF rfl z_len qE (qh (vV 2) qi))) (XD.toV Yq)))))))
   (qa (qv (XW.toT (q0J (X5 hr.units (vV 4) (vV 1)) (q0J (zBy hr.units (vV 5) (vV 1)) (q27 (X5 hr.units (XE.toV (Ys (vV 2) (XD.toV Yq))) (XE.toV (Ys (XE.toV (Xe (Yo WY (Yo WY Yu)))) (XE.toV (q00 (XE.toV (qr qj qF rfl z_len qE (qh (vV 2) qi))) (XD.toV Yq)))))))))) (qb (qf (XD.toE zAR))) qq)
   (qa (qv (zBy hr.units (XE.toV (qr qj qF rfl z_len qE (qh (vV 2) qi))) (XD.toV Yq)) (qa (qv (XW.toT (q0J (q7F (XE.toV (Ys (vV 2) (XD.toV Yq))) (XD.toV Yq)) (q0J (qbh (XE.toV (Ys (vV 2) (XD.toV Yq))) (XE.toV (qr qj qF rfl z_len qE (qh (vV 0) qi)))) (q27 (X5 hr.units (XE.toV (Ys (vV 0) (XE.toV (Ys (vV 2) (XD.toV Yq))))) (vV 1)))))) (qb (qf (XD.toE zAR))) qq)
   (qb (qdS (pv 0) (XE.toD (Ys (vV 2) (XD.toV Yq))) (vD 5)))) qq)
   (qb (qf (vE 5))))))))))
 exact h
noncomputable def q2I:FD:=(dOf (Yv oIx (vOf (Yr 0)) (fC (.int 0))))
noncomputable def q2z:FS:=(Y6 (zCV 3 [some 4,none,none] qk (wPw 4 (wSh (dOf (Yr 3)) (wSh (dOf (Yr 5)) wNil))))
  (sIf (tOf (Yv (oIs false) (vOf (Yr 3)) (fC .non))) (XX (eOf (fC (.bl false)))) WA))
noncomputable def q2H:FD:=(dOf (Yv oIx (vOf (Yr 0)) (fC (.int 1))))
noncomputable def q3i:FS:=(Y6 (sIf (WB (W6 (vOf (zA7 .lst (vOf (Yr 2)))))) (XX (eOf (fC (.bl false)))) WA)
  (Y6 (Xf 3 (eOf (dOf (Yr 0))))
  (Y6 (Xf 4 (Xj 1 [] (WD (dOf (Yr 1))) (gN 0) XQ q2I))
  (Y6 (zAQ (WD (dOf (Yr 2))) (gN 5) q2z)
  (XX (eOf (zAY (dOf (Yv (oEq false) (vOf (Yr 3)) (vOf (Yr 0)))) (dOf (Yv (oEq false) (vOf (Yr 4)) (vOf (Xj 1 [] (WD (dOf (Yr 1))) (gN 0) XQ q2H)))))))))))
noncomputable def q0G:List D->Option O:=mir 6 q3i
noncomputable abbrev q3k:vx:=top 49
def q1e:FnScope ["gate", "boxes", "thing", "here", "lies", "move"] ["gate", "boxes", "thing"] (Yt q3k):=⟨rfl,rfl,rfl,⋯,rfl,⋯,⋯⟩
def q9d{f__law_moved:vJ}{d__law_moved:vP}(F:Fun K "_law_does" "_law_does" q3k f fd)(c__law_moved:CalW P w K mg base 2 f__law_moved d__law_moved "_law_moved" ["lies", "here", "move"] 3 qk)(z_isinstance:mg "isinstance" = none)(z_list:mg "list" = none)(i_list:IsT K .lst):
  FnOk P w K mg base CX0 3 f fd ["gate", "boxes", "thing"] (spD K 3 q0G):=by
 have h:=fnD (P:=P) (w:=w) (mg:=mg) (base:=base) (k:=2) (body:=q3i) F q1e (λcdv A outer s H E hr=>
   (qa (qv (q07 (qL (XE.toV (q18 (vV 2) i_list rfl z_isinstance rfl z_list q3n)))) (qb (qf (XD.toE X9))) qq)
   (qa (ql (i:=3) q1e.nd rfl (Or.inl rfl) (XD.toE (vD 0)))
   (qa (q2o (i:=4) rfl q1e.nd rfl rfl (blk ["box"] [] [] rfl ⋯ ⋯ rfl trivial) (qt (vD 1)) (qy 0) (λ_ _ _ _=>⟨(qg (i:=0) (show ((["box"]:List Str)++([]:List Str):List Str).Nodup from by decide +kernel) rfl (Or.inl rfl)),qK,(XE.toD (Ys (vV 0) (XD.toV Yq)))⟩))
   (qa (qW PassesOwn.never rfl (qt (vD 2)) (qg (i:=5) q1e.nd rfl (Or.inl rfl)) (qa (qfo (i:=3) q1e.nd rfl (Or.inl rfl) c__law_moved hr (qgf (pv 4) (qcF (vD 3) (qcF (vD 5) qfD))))
   (qb (qv (xt_is (vV 3) (XD.toV zAR)) (qb (qf (XD.toE X9))) qq))))
   (qb (qf (XD.toE (qX (XE.toD (zAo hr.units (vV 3) (vV 0))) (q0n (XE.toD (zAo hr.units (vV 4) (XE.toV (qP rfl (blk ["box"] [] [] rfl ⋯ ⋯ rfl trivial) (qt (vD 1)) (qy 0) (λ_ _ _ _=>⟨(qg (i:=0) (show ((["box"]:List Str)++([]:List Str):List Str).Nodup from by decide +kernel) rfl (Or.inl rfl)),qK,(XE.toD (Ys (vV 0) (XD.toV Yq)))⟩)))))))))))))))
 exact h
noncomputable def q2g:FS:=(sIf (tOf (Yv (oEq true) (vOf (Yr 3)) (vOf (Yr 4)))) (Xf 2 (eOf (dOf (Yv WR (vOf (Yr 2)) (vOf (zAN (Yp (dOf (Yr 3)) (Yp (dOf (Yr 4)) Yz)))))))) WA)
noncomputable def q2M:FS:=(Y6 (Xf 2 (eOf (dOf (zAN (Yp (dOf (Yr 0)) Yz)))))
  (Y6 (zAQ (WD (dOf (Yr 1))) (gT 2 (Yw (gN 3) (Yw (gN 4) Xr))) q2g)
  (XX (Xy (vOf (Yr 2))))))
noncomputable def q17:List D->Option O:=mir 5 q2M
noncomputable abbrev q2t:vx:=top 50
def q0U:FnScope ["gate", "boxes", "known", "start", "goal"] ["gate", "boxes"] (Yt q2t):=⟨rfl,rfl,rfl,⋯,rfl,⋯,⋯⟩
def q7D (F:Fun K "_law_known" "_law_known" q2t f fd)(z_sorted:mg "sorted" = none)(q1E:mg "set" = none):
  FnOk P w K mg base CX0 1 f fd ["gate", "boxes"] (spD K 2 q17):=by
 have h:=fnD (P:=P) (w:=w) (mg:=mg) (base:=base) (k:=0) (body:=q2M) F q0U (λcdv A outer s H E hr=>
   (qa (ql (i:=2) q0U.nd rfl (Or.inl rfl) (XD.toE (XE.toD (Xe (Yo (vD 0) Yu)))))
   (qa (qW PassesOwn.never rfl (qt (vD 1)) (q26 rfl (qx (qg (i:=3) q0U.nd rfl (Or.inl rfl)) (qx (qg (i:=4) q0U.nd rfl (Or.inl rfl)) q1p))) (qb (qv (X5 hr.units (vV 3) (vV 4)) (qb (ql (i:=2) q0U.nd rfl (Or.inl rfl) (XD.toE (XE.toD (qR (vV 2) (XE.toV (Xe (Yo (vD 3) (Yo (vD 4) Yu))))))))) qq)))
   (qb (qf (q3F rfl z_sorted rfl q1E (vV 2)))))))
 exact h
noncomputable def q2S:FS:=(Y6 (sIf (zBY (tOf (Yv oLe (vOf (Yr 5)) (vOf (Yr 1)))) (tOf (Yv oGe (vOf (Yr 6)) (vOf (Yr 2))))) (Xf 3 (eOf (dOf (Yv WR (vOf (Yr 3)) (fC (.int 1)))))) WA)
  (sIf (zBY (tOf (Yv oLe (vOf (Yr 6)) (vOf (Yr 1)))) (tOf (Yv oGe (vOf (Yr 5)) (vOf (Yr 2))))) (Xf 4 (eOf (dOf (Yv WR (vOf (Yr 4)) (fC (.int 1)))))) WA))
noncomputable def q3e:FS:=(Y6 (Xf 3 (eOf (fC (.int 0))))
  (Y6 (Xf 4 (eOf (fC (.int 0))))
  (Y6 (zAQ (WD (dOf (Yr 0))) (gT 2 (Yw (gN 5) (Yw (gN 6) Xr))) q2S)
  (XX (eOf (zAg (Yp (dOf (Yr 3)) (Yp (dOf (Yr 4)) Yz))))))))
noncomputable def q0I:List D->Option O:=mir 7 q3e
noncomputable abbrev q39:vx:=top 51
def q0j:FnScope ["ways", "left", "right", "rights", "lefts", "begin", "end"] ["ways", "left", "right"] (Yt q39):=⟨rfl,rfl,rfl,⋯,rfl,⋯,⋯⟩
def q8W (F:Fun K "_law_over" "_law_over" q39 f fd):
  FnOk P w K mg base CX0 1 f fd ["ways", "left", "right"] (spD K 3 q0I):=by
 have h:=fnD (P:=P) (w:=w) (mg:=mg) (base:=base) (k:=0) (body:=q3e) F q0j (λcdv A outer s H E hr=>
   (qa (ql (i:=3) q0j.nd rfl (Or.inl rfl) (XD.toE Yq))
   (qa (ql (i:=4) q0j.nd rfl (Or.inl rfl) (XD.toE Yq))
   (qa (qW PassesOwn.never rfl (qt (vD 0)) (q26 rfl (qx (qg (i:=5) q0j.nd rfl (Or.inl rfl)) (qx (qg (i:=6) q0j.nd rfl (Or.inl rfl)) q1p))) (qa (qv (XW.toT (qdb (qeN (vV 5) (vV 1)) (qaq (qbh (vV 6) (vV 2))))) (qb (ql (i:=3) q0j.nd rfl (Or.inl rfl) (XD.toE (XE.toD (qR (vV 3) (XD.toV Yq)))))) qq)
   (qb (qv (XW.toT (qdb (qeN (vV 6) (vV 1)) (qaq (qbh (vV 5) (vV 2))))) (qb (ql (i:=4) q0j.nd rfl (Or.inl rfl) (XD.toE (XE.toD (qR (vV 4) (XD.toV Yq)))))) qq))))
   (qb (qf (XD.toE (Xt (Yo (vD 3) (Yo (vD 4) Yu))))))))))
 exact h
noncomputable def q8j:FD:=(zAg (Yp (dOf (Yv oIx (vOf (Yr 0)) (vOf (Yv zAV (vOf (Xx WU (Yp (vOf (Yr 0)) Yz))) (fC (.int 2)))))) (Yp (dOf (Yv oIx (vOf (Yr 0)) (vOf (Yv zAV (vOf (Xx WU (Yp (vOf (Yr 0)) Yz))) (fC (.int 1)))))) Yz)))
noncomputable def q86:FS:=(Y6 (Xf 9 (eOf (dOf (Xx zCZ (Yp (fC (.int 1)) (Yp (vOf (Xx zAU (Yp (vOf (Y1 q0I (Yp (dOf (Yr 2)) (Yp (dOf (Yv oIx (vOf (Yr 6)) (vOf (Yv zAV (vOf (Yr 8)) (fC (.int 1)))))) (Yp (dOf (Yv oIx (vOf (Yr 6)) (vOf (Yr 8)))) Yz))))) Yz))) Yz))))))
  (Y6 (sIf (tOf (Yv (oEq true) (vOf (Y1 q0I (Yp (dOf (Yr 5)) (Yp (dOf (Yv oIx (vOf (Yr 6)) (vOf (Yv zAV (vOf (Yr 8)) (fC (.int 1)))))) (Yp (dOf (Yv oIx (vOf (Yr 6)) (vOf (Yr 8)))) Yz))))) (zAg (Yp (dOf (Yr 9)) (Yp (dOf (Yr 9)) Yz))))) (XX (eOf (fC (.bl false)))) WA)
  (Xf 7 (eOf (dOf (Yv WR (vOf (Yr 7)) (vOf (Yv zBG (vOf (Yv zBG (fC (.int 2)) (vOf (Yr 9)))) (vOf (Yv zAV (vOf (Yv oIx (vOf (Yr 6)) (vOf (Yr 8)))) (vOf (Yv oIx (vOf (Yr 6)) (vOf (Yv zAV (vOf (Yr 8)) (fC (.int 1))))))))))))))))
noncomputable def q5H:FD:=(dOf (Xx bAbs (Yp (vOf (Yv zAV (vOf (Yr 1)) (vOf (Yr 0)))) Yz)))
noncomputable def qbj:FS:=(Y6 (Xf 1 (eOf (dOf (Y1 q1f (Yp (dOf (Yr 0)) Yz)))))
  (Y6 (Xf 2 (eOf (dOf (Y1 q0L (Yp (dOf (Yr 0)) (Yp (dOf (Yr 1)) Yz))))))
  (Y6 (Xf 3 (eOf (dOf (Xx zCg (Yp (vOf (Yr 2)) Yz)))))
  (Y6 (Xf 4 (eOf (dOf (Y1 q0H (Yp (dOf (Yv oIx (vOf (Yr 1)) (fC (.int 0)))) (Yp (dOf (Yr 3)) Yz))))))
  (Y6 (sIf (zAP (tOf (Yv (oEq true) (vOf (Yr 3)) (vOf (Yr 2)))) (WB (W6 (vOf (Y1 q0G (Yp (dOf (Yv oIx (vOf (Yr 1)) (fC (.int 0)))) (Yp (dOf (Yr 2)) (Yp (dOf (Yr 4)) Yz)))))))) (XX (eOf (fC (.bl false)))) WA)
  (Y6 (Xf 5 (Xj 1 [] (WD (dOf (Yr 4))) (gN 0) XQ q8j))
  (zAB 5 (Y6 (Xf 6 (eOf (dOf (Y1 q17 (Yp (dOf (Yv oIx (vOf (Yr 1)) (fC (.int 0)))) (Yp (dOf (Yr 2)) Yz))))))
  (Y6 (Xf 7 (eOf (fC (.int 0))))
  (Y6 (zAQ (iRg2 (Yp (fC (.int 1)) (Yp (vOf (Xx WU (Yp (vOf (Yr 6)) Yz))) Yz))) (gN 8) q86)
  (Y6 (Xf 10 (eOf (dOf (Xx zC1 (Yp (vOf (Xj 2 [] (WD (dOf (Yr 5))) (gT 2 (Yw (gN 0) (Yw (gN 1) Xr))) XQ q5H)) Yz)))))
  (Y6 (sIf (zAP (tOf (Yv (oEq true) (vOf (Yr 10)) (vOf (Yr 7)))) (tOf (Yv (oEq true) (vOf (Y1 q0m (Yp (dOf (Yv oIx (vOf (Yr 1)) (fC (.int 0)))) (Yp (dOf (Yr 3)) Yz)))) (vOf (Yr 7))))) (XX (eOf (fC (.bl false)))) WA)
  (XX (eOf (zAY (dOf (Yv (oIs false) (vOf (Y1 qV (Yp (dOf (Yv oIx (vOf (Yr 1)) (fC (.int 0)))) (Yp (dOf (Yr 3)) (Yp (dOf (Yr 4)) Yz))))) (fC (.bl true)))) (dOf (Yv (oEq false) (vOf (Yr 3)) (vOf (Yr 2)))))))))))))))))))
noncomputable def q4F:List D->Option O:=mir 11 qbj
noncomputable abbrev q4R:vx:=top 52
def q1i:FnScope ["script", "some", "boxes", "handed", "moves", "ways", "known", "total", "k", "times", "gone"] ["script"] (Yt q4R):=⟨rfl,rfl,rfl,⋯,rfl,⋯,⋯⟩
def qgL{f__law_menu:vJ}{d__law_menu:vP}{f__law_boxes:vJ}{d__law_boxes:vP}{f_yard_tour:vJ}{d_yard_tour:vP}{f__law_does:vJ}{d__law_does:vP}{f__law_known:vJ}{d__law_known:vP}{f__law_over:vJ}{d__law_over:vP}{f_yard_least:vJ}{d_yard_least:vP}{f_is_yard_tour:vJ}{d_is_yard_tour:vP}(F:Fun K "law" "law" q4R f fd)(c__law_menu:Cal P w K mg base 2 f__law_menu d__law_menu "_law_menu" ["script"] 1 q1f)(c__law_boxes:Cal P w K mg base 2 f__law_boxes d__law_boxes "_law_boxes" ["script", "some"] 2 q0L)(c_yard_tour:Cal P w K mg base 8 f_yard_tour d_yard_tour "yard_tour" ["gate", "boxes"] 2 q0H)(c__law_does:Cal P w K mg base 3 f__law_does d__law_does "_law_does" ["gate", "boxes", "thing"] 3 q0G)(c__law_known:Cal P w K mg base 1 f__law_known d__law_known "_law_known" ["gate", "boxes"] 2 q17)(c__law_over:Cal P w K mg base 1 f__law_over d__law_over "_law_over" ["ways", "left", "right"] 3 q0I)(c_yard_least:Cal P w K mg base 7 f_yard_least d_yard_least "yard_least" ["gate", "boxes"] 2 q0m)(c_is_yard_tour:Cal P w K mg base 6 f_is_yard_tour d_is_yard_tour "is_yard_tour" ["gate", "boxes", "thing"] 3 qV)(z_list:mg "list" = none)(z_len:mg "len" = none)(z_range:mg "range" = none)(z_max:mg "max" = none)(z_abs:mg "abs" = none)(z_sum:mg "sum" = none):
  FnOk P w K mg base CX0 9 f fd ["script"] (spD K 1 q4F):=by
 have h:=fnD (P:=P) (w:=w) (mg:=mg) (base:=base) (k:=8) (body:=qbj) F q1i (λcdv A outer s H E hr=>
   (qa (ql (i:=1) q1i.nd rfl (Or.inl rfl) (XD.toE (XE.toD (xc c__law_menu hr (Yo (vD 0) Yu)))))
   (qa (ql (i:=2) q1i.nd rfl (Or.inl rfl) (XD.toE (XE.toD (xc c__law_boxes hr (Yo (vD 0) (Yo (vD 1) Yu))))))
   (qa (ql (i:=3) q1i.nd rfl (Or.inl rfl) (XD.toE (XE.toD (qhB q7Y qff rfl z_list q3n (qh (vV 2) qi)))))
   (qa (ql (i:=4) q1i.nd rfl (Or.inl rfl) (XD.toE (XE.toD (xc c_yard_tour hr (Yo (XE.toD (Ys (vV 1) (XD.toV Yq))) (Yo (vD 3) Yu))))))
   (qa (qv (XW.toT (q0J (X5 hr.units (vV 3) (vV 2)) (q27 (q07 (qL (XE.toV (xc c__law_does hr (Yo (XE.toD (Ys (vV 1) (XD.toV Yq))) (Yo (vD 2) (Yo (vD 4) Yu)))))))))) (qb (qf (XD.toE X9))) qq)
   (qa (q2o (i:=5) rfl q1i.nd rfl rfl (blk ["move"] [] [] rfl ⋯ ⋯ rfl trivial) (qt (vD 4)) (qy 0) (λ_ _ _ _=>⟨(qg (i:=0) (show ((["move"]:List Str)++([]:List Str):List Str).Nodup from by decide +kernel) rfl (Or.inl rfl)),qK,(Xt (Yo (XE.toD (Ys (vV 0) (XE.toV (q00 (XE.toV (qr qj qF rfl z_len qE (qh (vV 0) qi))) (XD.toV Yq))))) (Yo (XE.toD (Ys (vV 0) (XE.toV (q00 (XE.toV (qr qj qF rfl z_len qE (qh (vV 0) qi))) (XD.toV Yq))))) Yu)))⟩))
   (q2Z 5 (qa (ql (i:=6) q1i.nd rfl (Or.inl rfl) (XD.toE (XE.toD (xc c__law_known hr (Yo (XE.toD (Ys (vV 1) (XD.toV Yq))) (Yo (vD 2) Yu))))))
   (qa (ql (i:=7) q1i.nd rfl (Or.inl rfl) (XD.toE Yq))
   (qa (qW PassesOwn.never rfl (qdl rfl z_range (qh (XD.toV Yq) (qh (XE.toV (qr qj qF rfl z_len qE (qh (vV 6) qi))) qi))) (qg (i:=8) q1i.nd rfl (Or.inl rfl)) (qa (ql (i:=9) q1i.nd rfl (Or.inl rfl) (XD.toE (XE.toD (qr (qc9 rfl) qfM rfl z_max q5M (qh (XD.toV Yq) (qh (XE.toV (qr (q4C rfl) q6m rfl z_max q5M (qh (XE.toV (xc c__law_over hr (Yo (vD 2) (Yo (XE.toD (Ys (vV 6) (XE.toV (q00 (vV 8) (XD.toV Yq))))) (Yo (XE.toD (Ys (vV 6) (vV 8))) Yu))))) qi))) qi))))))
   (qa (qv (X5 hr.units (XE.toV (xc c__law_over hr (Yo (vD 5) (Yo (XE.toD (Ys (vV 6) (XE.toV (q00 (vV 8) (XD.toV Yq))))) (Yo (XE.toD (Ys (vV 6) (vV 8))) Yu))))) (XD.toV (Xt (Yo (vD 9) (Yo (vD 9) Yu))))) (qb (qf (XD.toE X9))) qq)
   (qb (ql (i:=7) q1i.nd rfl (Or.inl rfl) (XD.toE (XE.toD (qR (vV 7) (XE.toV (q4n (XE.toV (q4n (XD.toV Yq) (vV 9))) (XE.toV (q00 (XE.toV (Ys (vV 6) (vV 8))) (XE.toV (Ys (vV 6) (XE.toV (q00 (vV 8) (XD.toV Yq)))))))))))))))))
   (qa (ql (i:=10) q1i.nd rfl (Or.inl rfl) (XD.toE (XE.toD (qr (q78 rfl) qdg rfl z_sum qdB (qh (XE.toV (qP rfl (blk ["begin", "end"] [] [] rfl ⋯ ⋯ rfl trivial) (qt (vD 5)) (q8U (q0u (qy 0) (q0u (qy 1) q4d))) (λ_ _ _ _=>⟨(q26 rfl (qx (qg (i:=0) (show ((["begin", "end"]:List Str)++([]:List Str):List Str).Nodup from by decide +kernel) rfl (Or.inl rfl)) (qx (qg (i:=1) (show ((["begin", "end"]:List Str)++([]:List Str):List Str).Nodup from by decide +kernel) rfl (Or.inl rfl)) q1p))),qK,(XE.toD (qr qe7 qhe rfl z_abs qhi (qh (XE.toV (q00 (vV 1) (vV 0))) qi)))⟩))) qi)))))
   (qa (qv (XW.toT (q0J (X5 hr.units (vV 10) (vV 7)) (q27 (X5 hr.units (XE.toV (xc c_yard_least hr (Yo (XE.toD (Ys (vV 1) (XD.toV Yq))) (Yo (vD 3) Yu)))) (vV 7))))) (qb (qf (XD.toE X9))) qq)
   (qb (qf (XD.toE (qX (XE.toD (xe_is (XE.toV (xc c_is_yard_tour hr (Yo (XE.toD (Ys (vV 1) (XD.toV Yq))) (Yo (vD 3) (Yo (vD 4) Yu))))) (XD.toV X9))) (q0n (XE.toD (zAo hr.units (vV 3) (vV 2)))))))))))))))))))))
 exact h
end
set_option compiler.extract_closed false
set_option hygiene false
local macro_rules|`(tactic| simp_arith $c:optConfig [$xs,*])=>`(tactic| simp $c only[q53,q60,q6H,q6n,q9f,qbn,qbB,qaD,q6y,e_cw,qaY,qb8,qbT,e_sp,qaX,qb1,qbp,qbH,qbP,qbX,qaB,qbY,qbx,qbq,q7Z,q68,WE,eq_self,ZE,we,wf,reduceCtorEq,q8d,q7L,q6O,e_wd,q8f,e_wz,q6W,qbg,q8X,q8S,qaK,qbs,qb3,q7R,qax,q6r,q6b,q8Q,qba,qb5,qbG,q4U,q6u,qw,q4S,q6s,qbb,qbF,q6F,q6g,e_if,q96,q8J,qb2,q69,q6K,q5L,q4M,qaP,zCz,qaQ,q5U,q3p,q6R,q6B,qbc,e_fs,qbw,q6c,q67,e_c,e_e,e_ed,e_d,q6f,q6t,e_v,q6S,q6I,q6x,e_op,e_o2,q93,e_cl,q6j,q6v,e_ac,e_ca,e_an,qbd,qbC,qaW,e_bl,qaI,e_sl,e_po,e_pa,e_ap,qbo,q4a,q43,e_t,e_tr,q7M,e_ta,qaE,qaM,e_to,qbM,q88,e_tn,q7J,q6A,q5j,q7U,e_va,qbK,qbU,e_vo,q95,q8K,q8M,qaO,qbJ,q9b,Wh,qbE,e_ng,q6o,q6z,q6V,q4H,q8m,q90,q66,q8o,q84,q8A,q8V,q6L,q8w,qbI,qbS,qbQ,qbL,at0,at1,at2,q3t,q6Q,zBt,entry,z9,yq,zE,yT,zB,zY,yw,yv,yQ,yH,xv,xT,xU,wH,xJ,Zj,Zk,YE,YF,YG,Zl,Zm,Zn,Zo,Zp,Zq,wX,Zr,ZT,↓reduceIte,Zs,wy,wJ,xz,xm,ZK,ww,ZL,wU,Zb,yr,beq_self_eq_true,ya,$xs,*])
set_option compiler.extract_closed true
set_option hygiene true
def Y4(p:Int×Int):D:=.tup [.int p.1,.int p.2]
noncomputable def plD:D->Bool
 | .scr _=>false
 | .exc _=>false
 | .dic _ _=>false
 | _=>true
noncomputable def plB:D->Bool
 | .tup ds=>ds.all plD
 | d=>plD d
noncomputable def plL:D->Bool
 | .lst ds=>ds.all plB&&decide (ds.length<=20)
 | d=>plD d
def geD(a:Int):D->Bool
 | .int x=>decide (a<=x)
 | _=>false
noncomputable def zBr(a:Int):D->Bool
 | .tup [x,y]=>geD a x&&geD a y
 | _=>false
noncomputable def isYd:D->D->Bool
 | .int a,.lst ds=>ds.all (zBr a)
 | _,_=>false
def Yy:D->Bool
 | .int _=>true
 | _=>false
noncomputable def nsD:D->Bool
 | .scr _=>false
 | .exc _=>false
 | .dic _ _=>false
 | _=>true
noncomputable def zCR:D->Bool
 | .scr _=>false
 | .exc _=>false
 | .dic _ _=>false
 | .tup [a,b]=>nsD a&&nsD b
 | _=>true
noncomputable def isBoxL:List D->Bool
 | []=>false
 | [_]=>false
 | [a,b]=>Yy a&&Yy b
 | _::_::_::_=>false
noncomputable def zAn:D->Bool
 | .tup ds=>isBoxL ds
 | _=>false
def q0x{d:D}(h:nsD d=true):qB [d]=↥(.bl (Yy d)):=by
 cases d <;> first|rfl|cases h
def qgV{d:D}(h:zCR d=true):q2P [d]=↥(.bl (zAn d)):=by
 unfold q2P q5b
 match d,h with
 | .non,_=>rfl
 | .bl _,_=>rfl
 | .int _,_=>rfl
 | .str _,_=>rfl
 | .lst _,_=>rfl
 | .tup [],_=>rfl
 | .tup [_],_=>simp_arith[qw];rfl
 | .tup [a,b],h=>
  have h':=xF.mp (show (_&&_)=true from h);have ha:=q0x h'.1;have hb:=q0x h'.2;simp_arith[ha,hb];simp_arith[show (((0+1+1:Nat):Int)==2)=true from rfl,ha,hb];cases a <;> cases b <;> rfl
 | .tup (a::b::c::r),_=>
  have hn:(((a::b::c::r).length:Int)==2)=false:=by
   simp only[zE,beq_eq_false_iff_ne,ne_eq];omega
  simp only[zE]at hn;simp_arith[hn];rfl
theorem q2O:∀(q:D->Bool)(ds:List D),allB (ds.map λd=>D.bl (q d))=some (ds.all q)
 | _,[]=>rfl
 | q,d::ds=>by
  show (allB (ds.map λd=>D.bl (q d))).map _=_;rw[q2O q ds];rfl
def qdu{h l:D}{ds:List D}(hh:nsD h=true)(hl:nsD l=true)(hd:∀d∈ds,zCR d=true)(hlen:ds.length<=1000000):
  q0g [h,l,.lst ds]=↥(.bl (Yy h&&(Yy l&&ds.all zAn))):=by
 unfold q0g q23;have e1:=q0x hh;have e2:=q0x hl;simp_arith[e1,e2,Wh hlen];cases Yy h <;> cases Yy l <;> simp_arith[e2,Wh hlen] <;> first|rfl|skip
 rw[q2X (λd=>D.bl (zAn d))]
 ·simp_arith[zBq,q2O]
 ·intro d hd'
  unfold q4j;simp_arith[inW,qgV (hd d hd')]
def qc8{h l b:D}(hh:nsD h=true)(hl:nsD l=true)(hb:nsD b=true)(hb':∀ds,b≠.lst ds):q0g [h,l,b]=↥(.bl false):=by
 unfold q0g q23;have e1:=q0x hh;have e2:=q0x hl;have e3:isiR .lst (some b)=↥(.bl false):=by
  cases b <;> first|rfl|exact vK rfl (hb' _)|cases hb
 simp_arith[e1,e2];cases Yy h <;> cases Yy l <;> simp_arith[e2,e3]
theorem q2i{α:Type}{g:FG}{c:FT}{f:FD}(P:WSt->Prop)(q:α->Bool)(B F:α->D):∀(xs:List α){ω:WSt},P ω ->
  (∀x∈xs,∀ω,P ω->∃w,g (B x) ω=some w/\P w/\c w=some (q x)/\(q x=true->f w=some (F x)))->Xa g c f (xs.map B) ω=some ((xs.filter q).map F)
 | [],_,_,_=>rfl
 | x::xs,ω,h,t=>by
  obtain⟨w,h1,h2,h3,h4⟩:=t x zI ω h;have ih:=q2i P q B F xs h2 (λe he=>t e (zG _ he));rw[zY,Xa,h1,z9,h3,z9];cases hq:q x with
  | true=>rw[vC rfl,h4 hq,z9,ih,ZA hq];rfl
  | false=>rw[vF (by decide),ih,ZB (by rw[hq];decide)]
def q5x{α:Type}{i:Nat}{c:FT}{f:FD}(q:α->Bool)(B F:α->D)(xs:List α){ω:WSt}(h:∀x∈xs,c (ω.set i ↥(B x))=some (q x)/\(q x=true->f (ω.set i ↥(B x))=some (F x))):Xa (gN i) c f (xs.map B) ω=some ((xs.filter q).map F) :=
 q2i (g:=gN i) (c:=c) (f:=f) (λw=>∀x,w.set i x=ω.set i x) q B F xs (ω:=ω) (λx=>rfl) λd hd w hw=>
  ⟨w.set i ↥(B d),rfl,λx=>by rw[Z9,hw],by rw[hw];exact(h d hd).1,λz=>by rw[hw];exact(h d hd).2 z⟩
def q05{α:Type}{i:Nat}{f:FD}(B F:α->D)(xs:List α){ω:WSt}(h:∀x∈xs,f (ω.set i ↥(B x))=some (F x)):Xa (gN i) XQ f (xs.map B) ω=some (xs.map F):=by
 have:=q5x (c:=XQ) (i:=i) (f:=f) (λ_=>true) B F xs (ω:=ω) λx hx=>⟨rfl,λ_=>h x hx⟩;rw[this,wd.mpr (λ_ _=>rfl)]
theorem qdA{α:Type}(f:α->Int):∀bs:List α,zCv (bs.map λp=>D.int (f p))=some (bs.map f).sum
 | []=>rfl
 | b::r=>by
  show (zCv (r.map λp=>D.int (f p))).map _=_;rw[qdA f r];rfl
def qd4{α:Type}(f:α->Int)(bs:List α):zC1 [.lst (bs.map λp=>D.int (f p))]=↥(.int (bs.map f).sum):=by
 show (zCv _).map _=_;rw[qdA];rfl
def qaC{d:D}(h:plD d=true):nsD d=true:=by cases d <;> first|rfl|cases h
def qgJ{d:D}(h:plB d=true):zCR d=true:=by
 match d,h with
 | .non,_=>rfl
 | .bl _,_=>rfl
 | .int _,_=>rfl
 | .str _,_=>rfl
 | .lst _,_=>rfl
 | .tup [],_=>rfl
 | .tup [_],_=>rfl
 | .tup [a,b],h=>
  have h':plD a=true/\plD b=true:=by simpa [plB]using h
  show (nsD a&&nsD b)=true;rw[qaC h'.1,qaC h'.2];rfl
 | .tup (_::_::_::_),_=>rfl
def minT2(x y:Int):zBB [.tup [.int x,.int y]]=↥(.int (zAd [x,y])):=qab (ns:=[x,y]) (by simp)
def q8n{d:D}(h:Yy d=true):∃k,d=.int k:=by
 cases d with
 | int k=>exact⟨k,rfl⟩
 | _=>cases h
def qeR{a:Int}{d:D}(h:geD a d=true):∃k,d=.int k:=by
 cases d with
 | int k=>exact⟨k,rfl⟩
 | _=>cases h
def qed{d:D}(h:zAn d=true):∃x y,d=.tup [.int x,.int y]:=by
 match d,h with
 | .tup [a,b],h=>
  obtain⟨h1,h2⟩:=xF.mp (show (Yy a&&Yy b)=true from h);obtain⟨x,rfl⟩:=q8n h1;obtain⟨y,rfl⟩:=q8n h2;exact⟨x,y,rfl⟩
def qfY(a x y:Int):zBr a (.tup [.int x,.int y])=decide (a<=zAd [x,y]):=by
 show (decide (a<=x)&&decide (a<=y))=decide (a<=if y<=x then y else x)
 by_cases h1:a<=x <;> by_cases h2:a<=y <;> by_cases h3:y<=x <;> simp[h1,h2,h3] <;> omega
def qeg{a:Int}{d:D}(h:zBr a d=true):zAn d=true:=by
 match d,h with
 | .tup [x,y],h=>
  obtain⟨h1,h2⟩:=xF.mp (show (geD a x&&geD a y)=true from h);obtain⟨x,rfl⟩:=qeR h1;obtain⟨y,rfl⟩:=qeR h2;rfl
def qap{g b:D}(hg:plD g=true)(hb:plL b=true):q1q [g,b]=↥(.bl (isYd g b)):=by
 unfold q1q q4b;have hg':=qaC hg
 by_cases hlst:∃ds,b=.lst ds
 ·obtain⟨ds,rfl⟩:=hlst
  have h':ds.all plB=true/\ds.length<=20:=by simpa [plL]using hb
  have hpl:=yk.mp h'.1;have hll:ds.length<=1000000:=∅
  have e1:=qdu (h:=g) (l:=g) (ds:=ds) hg' hg' (λd hd=>qgJ (hpl d hd)) hll;simp_arith[e1]
  by_cases hw:∃a,g=.int a
  ·obtain⟨a,rfl⟩:=hw
   by_cases hall:ds.all zAn=true
   ·have cm:Xa (gN 0) XQ q3M ds [none,↥(.int a)]=some (ds.map λd=>D.bl (zBr a d)):=by
     refine q2X (λd=>D.bl (zBr a d)) ds λd hd=>?_;obtain⟨x,y,rfl⟩:=qed (yk.mp hall d hd);unfold q3M;simp_arith[minT2,qfY]
    simp_arith[Yy,hall,Wh hll,inW,Wv,cm,zBq,q2O];rfl
   ·have hf:ds.all zAn=false:=by simpa using hall
    have hy:ds.all (zBr a)=false:=by
     cases h2:ds.all (zBr a)with
     | false=>rfl
     | true=>exact vK (yk.mpr λd hd=>qeg (yk.mp h2 d hd)) hall
    simp_arith[Yy,hf];show _=some (O.sh (D.bl (ds.all (zBr a))));rw[hy]
  ·have hw':Yy g=false:=by cases g <;> first|rfl|exact vK ⟨_,rfl⟩ hw
   have hy:isYd g (.lst ds)=false:=by cases g <;> first|rfl|exact vK ⟨_,rfl⟩ hw
   simp_arith[hw',hy]
 ·have hn:∀ds,b≠.lst ds:=λds e=>hlst ⟨ds,e⟩
  have hb':nsD b=true:=by
   cases b <;> first|rfl|exact vK ⟨_,rfl⟩ hlst|cases hb
  have hy:isYd g b=false:=by
   cases g <;> cases b <;> first|rfl|exact vK rfl (hn _)
  simp_arith[qc8 hg' hg' hb' hn,hy]
def q6k(a b:Int):Y4 (a,b)=.tup [.int a,.int b]:=rfl
def over(s g:Int)(q:Int×Int):Bool:=decide (s<=q.1)&&decide (q.2<=g)
def q8T(s g a b:Int):q0p [.int s,.int g,.tup [.int a,.int b]]=↥(.bl (over s g (a,b))):=by
 unfold q0p q2F over;simp_arith[qw]
noncomputable def rts(bs:List (Int×Int))(q:Int×Int):Int:=((bs.filter λp=>over p.1 p.2 q).length:Nat)
noncomputable def lfs(bs:List (Int×Int))(q:Int×Int):Int:=((bs.filter λp=>over p.2 p.1 q).length:Nat)
noncomputable def onP(f:Int->Int->Bool):D->Bool
 | .tup [.int a,.int b]=>f a b
 | _=>false
def q76(f:Int->Int->Bool)(bs:List (Int×Int)):((bs.map Y4).filter (onP f)).map (λd=>d)=(bs.filter λp=>f p.1 p.2).map Y4:=by
 rw[List.map_id',YZ];rfl
def q61{bs:List (Int×Int)}{q:Int×Int}(hb:bs.length<=1000):q0X [.lst (bs.map Y4),Y4 q]=↥(.tup [.int (rts bs q),.int (lfs bs q)]):=by
 unfold q0X q4y;have hl:(bs.map Y4).length<=1000000:=by rw[zB];omega
 obtain⟨a,b⟩:=q;have c1:Xa (gN 0) q3G q3W (bs.map Y4) [none,↥(.tup [.int a,.int b])]=some ((bs.filter λp=>over p.1 p.2 (a,b)).map Y4):=by
  rw[<- q76 (λs g=>over s g (a,b))];refine q7m (onP λs g=>over s g (a,b)) (λd=>d) (bs.map Y4) λd hd=>?_;obtain⟨⟨s,g⟩,_,rfl⟩:=yA.mp hd;unfold q3G q3W;simp_arith[q6k,q8T];exact⟨rfl,λ_=>trivial⟩
 have c2:Xa (gN 0) q3S q3U (bs.map Y4) [none,↥(.tup [.int a,.int b])]=some ((bs.filter λp=>over p.2 p.1 (a,b)).map Y4):=by
  rw[<- q76 (λs g=>over g s (a,b))];refine q7m (onP λs g=>over g s (a,b)) (λd=>d) (bs.map Y4) λd hd=>?_;obtain⟨⟨s,g⟩,_,rfl⟩:=yA.mp hd;unfold q3S q3U;simp_arith[q6k,q8T];exact⟨rfl,λ_=>trivial⟩
 simp_arith[q6k,Wh hl,inW,Wv,c1,c2];rfl
def q5h{ns:List Int}{k:Int}(h:0<=k):qT [.scr ns,.int k]=↥(.int (ns.getD k.toNat 0)):=by
 unfold qT q3g
 by_cases hk:k<ns.length
 ·simp_arith[hk,decide_true,q0l h hk]
  simp[zK,zD (show k.toNat<ns.length by omega)]
 ·simp_arith[hk,decide_false]
  simp[zK,zd (show ns.length<=k.toNat by omega)]
def qcC{ds:List D}{i:Int}(P:D->Prop)(h0:0<=i)(h1:i<ds.length)(h:∀d∈ds,P d):∃d,atI ds i=some d/\P d :=
 ⟨_,q0l h0 h1,h _ (xB _)⟩
def qeX{ns:List Int}:∃(gate:Int) (ps:List Int),q1f [.scr ns]=some (.fr ((gate::ps).map D.int))/\ps.length=6/\∀p∈ps,gate<=p:=by
 unfold q1f q3h;have hc:=q5h (ns:=ns) (k:=0) (by decide);have h8:oPow (.int 10) (.int 39)=↥(.int (10^39)):=rfl;have h9:∀x,zBG (.int 2) (.int x)=↥(.int (2*x)):=λx=>q3x (by decide) (by decide);have h10:∀x,oMod (.int x) (.int (2*10^39))=↥(.int (x%(2*10^39))):=λx=>q3t (by decide);have h11:∀x,oMod (.int x) (.int (10^39))=↥(.int (x%10^39)):=λx=>q3t (by decide);have rg:rg1I (some [.int 6])=some (upTo 0 6):=rfl;have loop:∀gate:Int,∀x1:Option W,∃ω' ps,Wg (gN 4) q0Z (Hk.upTo 0 6) [↥(.scr ns),x1,↥(.int gate),some (.ow [.int gate]),none]=some (.nx,ω')/\ω'[3]?=some (some (.ow ((gate::ps).map D.int)))/\ps.length=6/\∀p∈ps,gate<=p:=λgate x1=>by
  obtain⟨ω',e,ps,y1,y4,rfl,i1,i2⟩:=q7b (g:=gN 4) (b:=q0Z) 0 6
   (λi ω=>∃(ps:List Int) (y1 y4:Option W),ω=[↥(.scr ns),y1,↥(.int gate),some (.ow ((gate::ps).map D.int)),y4]/\ps.length=i/\∀p∈ps,gate<=p)
   (λi ω hi ⟨ps,y1,y4,hω,i1,i2⟩=>by
    subst hω;refine⟨_,rfl,?_⟩;have hcc:=q5h (ns:=ns) (k:=2+(0+(i:Int))) ∅;generalize ns.getD (2+(0+(i:Int))).toNat 0=c at hcc;have h3:0<=c%3/\c%3<3:=∅
    obtain⟨d,hd,q,rfl,hq⟩:=qcC (ds:=[.int (0+(i:Int)+c/3%3),.int (c/3%100),.int (c/3%10^39)]) (i:=c%3) (λd=>∃q:Int,d=D.int q/\0<=q) h3.1 h3.2 (by
     intro d hd;simp only[zF,zg,or_false]at hd;rcases hd with rfl|rfl|rfl
     ·exact⟨_,rfl,∅⟩
     ·exact⟨_,rfl,∅⟩
     ·exact⟨_,rfl,Int.emod_nonneg _ (by decide)⟩)
    have hll:(D.int gate::ps.map D.int).length<1000000:=by rw[zE,zB];omega
    have hd':=hd;simp only[wX]at hd';unfold q0Z;simp_arith[hcc,h8,h11,hd',wX,zY];rw[zCz hll,q4H];refine⟨ps++[gate+q],_,_,by rw[zc];rfl,by rw[zC,i1];rfl,λp hp=>?_⟩;rcases zT.mp hp with y|y
    ·exact i2 p y
    ·cases zb.mp y;omega)
   (ω:=[↥(.scr ns),x1,↥(.int gate),some (.ow [.int gate]),none]) ⟨[],x1,none,rfl,rfl,by simp⟩
  exact⟨_,ps,e,rfl,i1,i2⟩
 have fin:∀gate:Int,∀x1:Option W,∃ps:List Int,outM (zBw (Wg (gN 4) q0Z (Hk.upTo 0 6) [↥(.scr ns),x1,↥(.int gate),some (.ow [.int gate]),none]) (zAe 3))=some (.fr ((gate::ps).map D.int))/\ps.length=6/\∀p∈ps,gate<=p:=λgate x1=>by
  obtain⟨ω',ps,e,e3,i1,i2⟩:=loop gate x1;refine⟨ps,?_,i1,i2⟩;rw[e,q4S,q5L,e3,q4M,q4U]
 by_cases hp:ns.getD 0 0%2=1
 ·simp_arith[hc,hp,h8,h9,h10,rg]
  obtain⟨ps,e,i⟩:=fin _ ↥(.int (ns.getD 0 0));exact⟨_,ps,e,i⟩
 ·have hp':(ns.getD 0 0%2==1)=false:=by simpa using hp
  simp_arith[hc,hp',rg];obtain⟨ps,e,i⟩:=fin _ ↥(.int (ns.getD 0 0));exact⟨_,ps,e,i⟩
def qct{ns:List Int}{some':List Int}(h7:some'.length=7)(hl:ns.length<=63):∃bs:List (Int×Int),q0L [.scr ns,.lst (some'.map D.int)]=some (.fr (bs.map pairD2))/\(∀b∈bs,b.1∈some'/\b.2∈some')/\bs.length<=9:=by
 unfold q0L q2y;have hc:=q5h (ns:=ns) (k:=1) (by decide);have h4:0<=ns.getD 1 0%4/\ns.getD 1 0%4<4:=∅
 obtain⟨d,hd,k,rfl,hk⟩:=qcC (ds:=[.int 9,.int 9,.int (ns.getD 1 0/4%10),.int (ns.getD 1 0/4%3)]) (i:=ns.getD 1 0%4) (λd=>∃k:Nat,d=D.int (k:Int)/\k<=9) h4.1 h4.2 (by
  intro d hd;simp only[zF,zg,or_false]at hd;rcases hd with rfl|rfl|rfl|rfl
  ·exact⟨9,rfl,by decide⟩
  ·exact⟨9,rfl,by decide⟩
  ·exact⟨(ns.getD 1 0/4%10).toNat,by rw[xw ∅],∅⟩
  ·exact⟨(ns.getD 1 0/4%3).toNat,by rw[xw ∅],∅⟩)
 simp_arith[hc,hd,qhK];have hcl:(cutD ns (some 8) (some (8+(k:Int)))).length<=9:=by
  have e1:HT.sIx ns.length 0 (some 8)=min 8 ns.length:=HT.q3q ns.length 0 8;have e2:HT.sIx ns.length ns.length (some (8+(k:Int)))=min (8+k) ns.length:=by
   have:=HT.q3q ns.length ns.length (8+k);rw[show ((8+k:Nat):Int)=8+(k:Int) by omega]at this;exact this
  unfold cutD;rw[e1,e2,z0];omega
 generalize cutD ns (some 8) (some (8+(k:Int)))=cells at hcl;obtain⟨ω',e,bs,x5,rfl,i1,i2⟩:=q0k (g:=gN 5) (b:=q2b) D.int cells
  (λpre ω=>∃(bs:List (Int×Int)) (x5:Option W),ω=[↥(.scr ns),↥(.lst (some'.map D.int)),↥(.int (ns.getD 1 0)),↥(.int (k:Int)),some (.ow (bs.map pairD2)),x5]/\(∀b∈bs,b.1∈some'/\b.2∈some')/\bs.length=pre.length)
  (λpre c post ω hd' ⟨bs,x5,hω,i1,i2⟩=>by
   subst hω;refine⟨_,rfl,?_⟩;have hp:pre.length<cells.length:=by rw[hd',zC,zE];omega
   have pick:∀x:Int,∃y,y∈some'/\atI (some'.map D.int) (x%7)=some (.int y):=λx=>by
    refine⟨some'[(x%7).toNat]'∅,xB _,?_⟩;rw[q0l ∅ (by rw[zB];omega),yu]
   obtain⟨y1,m1,a1⟩:=pick c;obtain⟨y2,m2,a2⟩:=pick (c/7);have hll:(bs.map pairD2).length<1000000:=by rw[zB];omega
   unfold q2b;simp_arith[a1,a2,zCz hll];refine⟨bs++[(y1,y2)],_,by rw[zc];rfl,λb hb=>?_,by rw[zC,zC,i2];rfl⟩;rcases zT.mp hb with y|y
   ·exact i1 b y
   ·cases zb.mp y;exact⟨m1,m2⟩)
  (ω:=[↥(.scr ns),↥(.lst (some'.map D.int)),↥(.int (ns.getD 1 0)),↥(.int (k:Int)),some (.ow []),none]) ⟨[],none,rfl,by simp,rfl⟩
 simp_arith[e];exact⟨bs,rfl,i1,∅⟩
noncomputable def We(g:Int)(bs:List (Int×Int)):List Int:=g::bs.flatMap λb=>if b.1=b.2 then []else [b.1,b.2]
def q8E(g:Int)(bs:List (Int×Int))(b:Int×Int):We g (bs++[b])=We g bs++if b.1=b.2 then []else [b.1,b.2]:=by simp[We]
def q1j(g:Int)(bs:List (Int×Int)):(We g bs).length<=2*bs.length+1:=by
 induction bs with
 | nil=>simp[We]
 | cons b r ih=>
  simp only[We,zE,wN,zC]at ih ⊢
  by_cases h:b.1=b.2
  ·rw[vC h,yT];omega
  ·rw[vF h,zE,zE,yT];omega
noncomputable def knw(g:Int)(bs:List (Int×Int)):List Int:=Xh (We g bs)
def nbs(P:List Int):List (Int×Int):=P.zip (P.drop 1)
def q2p(P:List Int):(nbs P).length=P.length-1:=by
 unfold nbs;rw[List.length_zip,yX];omega
def qcp{P:List Int}{i:Nat}(h:i+1<P.length):(nbs P)[i]?=some (P[i],P[i+1]):=by
 unfold nbs;rw[List.getElem?_zip_eq_some];refine⟨zD ∅,?_⟩;show (P.drop 1)[i]?=some P[i+1];rw[List.getElem?_drop,ZH 1 i];exact zD h
noncomputable def ovR(x:Int)(bs:List (Int×Int)):Nat:=bs.countP λb=>decide (b.1<x)&&decide (x<=b.2)
noncomputable def ovL(x:Int)(bs:List (Int×Int)):Nat:=bs.countP λb=>decide (b.2<x)&&decide (x<=b.1)
def tri(x:Int×Int×Int):D:=.tup [.int x.1,.int x.2.1,.int x.2.2]
noncomputable def zAJ(K:List Int)(bs:List (Int×Int)):List (Int×Int×Int):=(nbs K).map λp=>(p.1,p.2,mx3 1 (ovR p.2 bs) (ovL p.2 bs))
def q1k{α:Type}{xs:List α}{i:Nat}{x:α}(h:xs[i]?=some x):xs.take (i+1)=xs.take i++[x]:=by
 rw[Z8,h];rfl
noncomputable def su(f:Int->Int)(a:Int):Nat->Int
 | 0=>0
 | n+1=>su f a n+f (a+n+1)
theorem q87{f f':Int->Int}{a:Int}:∀{n:Nat},(∀x,a<x->x<=a+n->f x=f' x)->su f a n=su f' a n
 | 0,_=>rfl
 | n+1,h=>by
  show su f a n+f (a+n+1)=su f' a n+f' (a+n+1);rw[q87 (f:=f) (f':=f') (n:=n) λx h1 h2=>h x h1 ∅,h _ ∅ ∅]
theorem q5k{f:Int->Int}{a c:Int}:∀{n:Nat},(∀x,a<x->x<=a+n->f x=c)->su f a n=c*n
 | 0,_=>by rw[su];simp
 | n+1,h=>by
  show su f a n+f (a+n+1)=c*((n+1:Nat):Int);rw[q5k (f:=f) (n:=n) λx h1 h2=>h x h1 ∅,h _ ∅ ∅,wB,Int.mul_add];simp
theorem qce(f:Int->Int)(a:Int)(m:Nat):∀n:Nat,su f a (m+n)=su f a m+su f (a+m) n
 | 0=>by simp[su]
 | n+1=>by
  show su f a (m+n)+f (a+(m+n:Nat)+1)=su f a m+(su f (a+m) n+f (a+m+n+1));rw[qce f a m n,show a+((m+n:Nat):Int)+1=a+m+n+1 by omega,Int.add_assoc]
def q0t(a b:Int)(r:List Int):nbs (a::b::r)=(a,b)::nbs (b::r):=rfl
theorem qc2(f F:Int->Int):∀(r:List Int)(k:Int)(N:Nat),(k::r).Pairwise (· < ·)->(∀p∈nbs (k::r),∀x,p.1<x->x<=p.2->f x=F p.2) ->
  (∀y∈k::r,y<=k+N)->(∀x,(∀y∈k::r,y<x)->f x=0)->((nbs (k::r)).map λp=>F p.2*(p.2-p.1)).sum=su f k N
 | [],k,N,_,_,_,h0=>by
  show (0:Int)=_;rw[q5k (c:=0) λx h1 h2=>h0 x λy hy=>by cases zb.mp hy;exact h1];simp
 | k1::r,k,N,hp,hf,hN,h0=>by
  have hk:k<k1:=(zZ.mp hp).1 k1 zI;have hk1:=hN k1 (by simp);obtain⟨m,hm⟩:∃m:Nat,k1=k+m:=⟨(k1-k).toNat,∅⟩;obtain⟨n,rfl⟩:∃n:Nat,N=m+n:=⟨N-m,∅⟩;rw[q0t,zY,yV,qce,<- hm];have ih:=qc2 f F r k1 n (zZ.mp hp).2 (λp hp'=>hf p (by rw[q0t];exact zG _ hp')) (λy hy=>by have:=hN y (zG _ hy);omega) (λx hx=>h0 x λy hy=>by
   rcases zF.mp hy with rfl|hy
   ·have:=hx k1 zI;omega
   ·exact hx y hy)
  rw[ih,q5k (c:=F k1) λx h1 h2=>hf (k,k1) (by rw[q0t];exact zI) x h1 ∅];show F k1*(k1-k)+_=_;rw[show k1-k=(m:Int) by omega]
theorem q0S:∀{K:List Int},K.Pairwise (· < ·)->∀p∈nbs K,p.1∈K/\p.2∈K/\p.1<p.2/\∀y∈K,y<=p.1\/p.2<=y
 | [],_,p,h=>by cases h
 | [k],_,p,h=>by cases h
 | a::b::r,hp,p,h=>by
  rw[q0t]at h;have hab:a<b:=(zZ.mp hp).1 b zI;rcases zF.mp h with rfl|h
  ·refine⟨zI,by simp,hab,λy hy=>?_⟩
   rcases zF.mp hy with rfl|hy
   ·left;exact yI _
   ·right
    rcases zF.mp hy with rfl|hy
    ·exact yI _
    ·exact xD ((zZ.mp (zZ.mp hp).2).1 y hy)
  ·obtain⟨h1,h2,h3,h4⟩:=q0S (zZ.mp hp).2 p h
   refine⟨zG _ h1,zG _ h2,h3,λy hy=>?_⟩;rcases zF.mp hy with rfl|hy
   ·left;exact xD ((zZ.mp hp).1 _ h1)
   ·exact h4 y hy
noncomputable def hiB(bs:List (Int×Int))(x:Int):Bool:=bs.any λb=>b.1 != b.2&&(decide (x<=b.1) || decide (x<=b.2))
noncomputable def pu(bs:List (Int×Int))(x:Int):Int:=if hiB bs x=true then mx3 1 (ovR x bs) (ovL x bs)else 0
noncomputable def yl(g:Int)(bs:List (Int×Int)):Int:=((zAJ (knw g bs) bs).map λp=>2*p.2.2*(p.2.1-p.1)).sum
def qm{g x:Int}{bs:List (Int×Int)}:x∈knw g bs↔x=g\/∃b∈bs,b.1≠b.2/\(x=b.1\/x=b.2):=by
 unfold knw;rw[q2W];unfold We;rw[zF,YQ];refine or_congr Iff.rfl ⟨λ⟨b,hb,hx⟩=>?_,λ⟨b,hb,h1,h2⟩=>⟨b,hb,?_⟩⟩
 ·by_cases h:b.1=b.2
  ·rw[vC h]at hx;cases hx
  ·rw[vF h]at hx;exact⟨b,hb,h,by simpa using hx⟩
 ·rw[vF h1];simpa using h2
def q80{x y:Int}{bs:List (Int×Int)}(hxy:x<=y)(h:∀b∈bs,b.1≠b.2->(b.1<x\/y<=b.1)/\(b.2<x\/y<=b.2)):ovR x bs=ovR y bs/\ovL x bs=ovL y bs:=by
 constructor
 ·unfold ovR
  refine YH λb hb=>?_
  by_cases e:b.1=b.2
  ·simp;omega
  ·have:=h b hb e;simp;omega
 ·unfold ovL
  refine YH λb hb=>?_
  by_cases e:b.1=b.2
  ·simp;omega
  ·have:=h b hb e;simp;omega
def q1R{bs:List (Int×Int)}{x:Int}:hiB bs x=true↔∃b∈bs,b.1≠b.2/\(x<=b.1\/x<=b.2):=by unfold hiB;simp
theorem qa9(c:Int){α:Type}(F:α->Int):∀xs:List α,(xs.map λx=>c*F x).sum=c*(xs.map F).sum
 | []=>by simp
 | x::r=>by simp only[zY,yV,qa9 c F r,Int.mul_add]
def q9W{g:Int}{bs:List (Int×Int)}(h:∀b∈bs,g<=b.1/\g<=b.2):∃r,knw g bs=g::r:=by
 have hm:g∈knw g bs:=qm.mpr (.inl rfl);have hr:(knw g bs).Pairwise (· < ·):=q0y;have hg:∀y∈knw g bs,g<=y:=λy hy=>by
  rcases qm.mp hy with rfl|⟨b,hb,_,h2⟩
  ·exact yI _
  ·have:=h b hb;omega
 cases e:knw g bs with
 | nil=>rw[e]at hm;cases hm
 | cons k r=>
  rw[e]at hm hr hg;have h1:=hg k zI;rcases zF.mp hm with rfl|hm
  ·exact⟨r,rfl⟩
  ·have:=(zZ.mp hr).1 g hm;omega
def qhr{g:Int}{bs:List (Int×Int)}(h:∀b∈bs,g<=b.1/\g<=b.2)(N:Nat)(hN:∀b∈bs,b.1<=g+N/\b.2<=g+N):yl g bs=2*su (pu bs) g N:=by
 obtain⟨r,hr⟩:=q9W h;have hp:(knw g bs).Pairwise (· < ·):=q0y;have e:yl g bs=2*((nbs (knw g bs)).map λp=>mx3 1 (ovR p.2 bs) (ovL p.2 bs)*(p.2-p.1)).sum:=by
  rw[<- qa9];unfold yl zAJ;rw[yg]
  congr 1
  refine List.map_congr_left λp _=>?_;show 2*mx3 1 (ovR p.2 bs) (ovL p.2 bs)*(p.2-p.1)=_;rw[Int.mul_assoc]
 rw[e]
 congr 1
 have key:=qc2 (pu bs) (λx=>mx3 1 (ovR x bs) (ovL x bs)) r g N (by rw[<- hr];exact hp) (λp hpp x h1 h2=>?_) (λy hy=>?_) (λx hx=>?_)
 ·rw[hr];exact key
 ·rw[<- hr]at hpp
  obtain⟨q1,q2,q3,q4⟩:=q0S hp p hpp;have hi:hiB bs x=true:=q1R.mpr (by
   rcases qm.mp q2 with z|⟨b,hb,n,z⟩
   ·exfalso
    rcases qm.mp q1 with y|⟨b,hb,n,y⟩
    ·omega
    ·have:=h b hb;omega
   ·exact⟨b,hb,n,∅⟩)
  unfold pu;rw[vC hi];have:=q80 (x:=x) (y:=p.2) (bs:=bs) h2 (λb hb n=>by
   have a1:=q4 b.1 (qm.mpr (.inr ⟨b,hb,n,.inl rfl⟩));have a2:=q4 b.2 (qm.mpr (.inr ⟨b,hb,n,.inr rfl⟩));omega)
  rw[this.1,this.2]
 ·rw[<- hr]at hy
  rcases qm.mp hy with rfl|⟨b,hb,_,z⟩
  ·omega
  ·have:=hN b hb;omega
 ·unfold pu
  refine vF λhi=>?_;obtain⟨b,hb,n,z⟩:=q1R.mp hi;rw[<- hr]at hx;have a1:=hx b.1 (qm.mpr (.inr ⟨b,hb,n,.inl rfl⟩));have a2:=hx b.2 (qm.mpr (.inr ⟨b,hb,n,.inr rfl⟩));omega
theorem bound(g:Int):∀bs:List (Int×Int),∃N:Nat,∀b∈bs,b.1<=g+N/\b.2<=g+N
 | []=>⟨0,by simp⟩
 | b::r=>by
  obtain⟨N,h⟩:=bound g r;refine⟨N+(b.1-g).toNat+(b.2-g).toNat,λc hc=>?_⟩;rcases zF.mp hc with rfl|hc
  ·omega
  ·have:=h c hc;omega
def qgA{bs:List (Int×Int)}(hb:bs.length<=20):plL (.lst (bs.map pairD2))=true:=by
 show ((bs.map pairD2).all plB&&decide ((bs.map pairD2).length<=20))=true;rw[wL,zB,vS hb,xz];exact yk.mpr λ_ _=>rfl
def qef{g:Int}{bs:List (Int×Int)}(hb:bs.length<=20)(h:∀b∈bs,g<=b.1/\g<=b.2):q1q [.int g,.lst (bs.map pairD2)]=↥(.bl true):=by
 rw[qap rfl (qgA hb)];have:isYd (.int g) (.lst (bs.map pairD2))=true:=by
  show (bs.map pairD2).all (zBr g)=true;rw[wL];refine yk.mpr λb hb=>?_;show (decide (g<=b.1)&&decide (g<=b.2))=true;rw[vS (h b hb).1,vS (h b hb).2];rfl
 rw[this]
def zCK{g:Int}{bs:List (Int×Int)}(hb:bs.length<=20)(h:∀b∈bs,g<=b.1/\g<=b.2):qu [.int g,.lst (bs.map pairD2)]=some (.sh .non):=by
 unfold qu q1F;simp_arith[qef hb h]
def qaU{g:Int}{bs:List (Int×Int)}(hb:bs.length<=20):q0C [.int g,.lst (bs.map pairD2)]=some (.fr ((knw g bs).map D.int)):=by
 unfold q0C q2c;simp_arith[qw];obtain⟨ω',e,x3,x4,rfl⟩:=q0k (g:=gT 2 (Yw (gN 3) (Yw (gN 4) Xr))) (b:=q1U) pairD2 bs
  (λpre ω=>∃x3 x4,ω=[↥(.int g),↥(.lst (bs.map pairD2)),some (.ow ((We g pre).map D.int)),x3,x4])
  (λpre p post ω hd ⟨x3,x4,hω⟩=>by
   subst hω;refine⟨_,rfl,?_⟩;have hl:(We g pre).length<=1000:=by
    have:=uA xg hd;rw[zC,zE]at this;have:=q1j g pre;omega
   unfold q1U;rw[q8E]
   by_cases z:p.1=p.2
   ·have z':(p.1==p.2)=true:=by simpa using z
    rw[vC z,zn];simp_arith[z'];exact⟨_,_,rfl⟩
   ·have z':(p.1==p.2)=false:=by simpa using z
    rw[vF z];have e1:=q3p (i:=2) (ω:=[↥(.int g),↥(.lst (bs.map pairD2)),some (.ow ((We g pre).map D.int)),↥(.int p.1),↥(.int p.2)]) (ds:=(We g pre).map D.int) (ds':=[.int p.1,.int p.2]) (by rw[zB,zE,zx];omega);simp_arith[z',e1,zc];exact⟨_,_,rfl⟩)
  (ω:=[↥(.int g),↥(.lst (bs.map pairD2)),some (.ow [.int g]),none,none]) ⟨none,none,rfl⟩
 simp_arith[e];have hlen:(We g bs).length<64:=by have:=q1j g bs;omega
 have:Xy (vOf (Yr 2)) [↥(.int g),↥(.lst (bs.map pairD2)),some (.ow ((We g bs).map D.int)),x3,x4]=some (.fr ((knw g bs).map D.int)):=by
  show Wc (.lst ((We g bs).map D.int))=_;show (intsOf ((We g bs).map D.int)).bind _=_;rw[q0e];exact vC (qcc hlen)
 simp_arith[this]
theorem qal:∀(xs ys:List Int),zBE (xs.map D.int) (ys.map D.int)=(xs.zip ys).map Y4
 | x::xs,y::ys=>by show D.tup [.int x,.int y]::zBE (xs.map D.int) (ys.map D.int)=_;rw[qal xs ys];rfl
 | [],ys=>by cases ys <;> rfl
 | x::xs,[]=>rfl
def qhf(ds:List D):cutD ds (some 1) none=ds.drop 1:=by
 unfold cutD;have e:HT.sIx ds.length 0 (some 1)=min 1 ds.length:=HT.q3q ds.length 0 1;rw[e,HT.q57];cases ds with
 | nil=>rfl
 | cons d r=>
  have:min 1 (d::r).length=1:=by rw[zE];omega
  rw[this];show List.take _ r=r;rw[zE,xS,wS]
def max3T(x y:Int):zAU [.tup [.int x,.int y,.int 1]]=↥(.int (zAc [x,y,1])):=q6J (ns:=[x,y,1]) (by simp)
def qhc(x y:Int):zAc [x,y,1]=mx3 1 x y:=by
 show (if x<=(if y<=1 then 1 else y)then (if y<=1 then 1 else y)else x)=_;unfold mx3
 split <;> split <;> split <;> split <;> omega
def q5y{K:List Int}{bs:List (Int×Int)}{p:Int×Int}(hp:p.1<p.2)(h:∀b∈bs,b.1≠b.2->(b.1<=p.1\/p.2<=b.1)/\(b.2<=p.1\/p.2<=b.2)):rts bs p=ovR p.2 bs/\lfs bs p=ovL p.2 bs:=by
 have e1:(bs.filter λb=>over b.1 b.2 p)=bs.filter λb=>decide (b.1<p.2)&&decide (p.2<=b.2):=by
  refine YI λb hb=>?_;show (decide (b.1<=p.1)&&decide (p.2<=b.2))=_
  by_cases z:b.1=b.2
  ·rw[z];by_cases h1:b.2<=p.1 <;> by_cases h2:p.2<=b.2 <;> by_cases h3:b.2<p.2 <;> simp[h1,h2,h3] <;> omega
  ·have:=h b hb z
   by_cases h1:b.1<=p.1 <;> by_cases h2:p.2<=b.2 <;> by_cases h3:b.1<p.2 <;> simp[h1,h2,h3] <;> omega
 have e2:(bs.filter λb=>over b.2 b.1 p)=bs.filter λb=>decide (b.2<p.2)&&decide (p.2<=b.1):=by
  refine YI λb hb=>?_;show (decide (b.2<=p.1)&&decide (p.2<=b.1))=_
  by_cases z:b.1=b.2
  ·rw[z];by_cases h1:b.2<=p.1 <;> by_cases h2:p.2<=b.2 <;> by_cases h3:b.2<p.2 <;> simp[h1,h2,h3] <;> omega
  ·have:=h b hb z
   by_cases h1:b.2<=p.1 <;> by_cases h2:p.2<=b.1 <;> by_cases h3:b.2<p.2 <;> simp[h1,h2,h3] <;> omega
 unfold rts lfs ovR ovL;rw[e1,e2,wZ,wZ];exact⟨rfl,rfl⟩
def q1m(g:Int)(bs:List (Int×Int)):(knw g bs).Pairwise (· < ·):=q0y
def qe2{g:Int}{bs:List (Int×Int)}{p:Int×Int}(hb:bs.length<=20)(hp:p∈nbs (knw g bs)):q0q [.lst (bs.map pairD2),Y4 p]=↥(.int (mx3 1 (ovR p.2 bs) (ovL p.2 bs))):=by
 obtain⟨h1,h2,h3,h4⟩:=q0S (q1m g bs) p hp;obtain⟨r1,r2⟩:=q5y (K:=knw g bs) h3 (λb hb z=>⟨h4 b.1 (qm.mpr (.inr ⟨b,hb,z,.inl rfl⟩)),h4 b.2 (qm.mpr (.inr ⟨b,hb,z,.inr rfl⟩))⟩);have c:=q61 (bs:=bs) (q:=p) ∅;rw[show (bs.map Y4)=bs.map pairD2 from rfl,r1,r2]at c;unfold q0q q1V;have ha:WR (.tup [.int (ovR p.2 bs),.int (ovL p.2 bs)]) (.tup [.int 1])=↥(.tup [.int (ovR p.2 bs),.int (ovL p.2 bs),.int 1]):=rfl;simp_arith[c,ha,max3T,qhc]
def q7h(g:Int)(bs:List (Int×Int))(hb:bs.length<=20)(h:∀b∈bs,g<=b.1/\g<=b.2):q0N [.int g,.lst (bs.map pairD2)]=some (.fr ((zAJ (knw g bs) bs).map tri)):=by
 unfold q0N q5t;simp_arith[zCK hb h,qaU hb,qez];have hz:zBE ((knw g bs).map D.int) (cutD ((knw g bs).map D.int) (some 1) none)=(nbs (knw g bs)).map Y4:=by
  rw[qhf,<- Zi,qal];rfl
 have hlen:((nbs (knw g bs)).map Y4).length<=1000000:=by
  rw[zB,q2p];have h1:(knw g bs).length<=(We g bs).length:=q2a _;have:=q1j g bs;omega
 have cm:Xa (gN 0) XQ q2Y ((nbs (knw g bs)).map Y4) [none,↥(.lst (bs.map pairD2))]=some ((zAJ (knw g bs) bs).map tri):=by
  unfold zAJ;rw[yg];have:=q05 (f:=q2Y) Y4 (λp:Int×Int=>tri (p.1,p.2,mx3 1 (ovR p.2 bs) (ovL p.2 bs))) (nbs (knw g bs)) (ω:=[none,↥(.lst (bs.map pairD2))]) (i:=0) (λp hp=>by
   have t:=qe2 hb hp;have ha:∀x:Int,WR (Y4 p) (.tup [.int x])=↥(tri (p.1,p.2,x)):=λ_=>rfl;unfold q2Y;show dOf _ [↥(Y4 p),↥(.lst (bs.map pairD2))]=_;simp_arith[t,ha])
  exact this
 simp_arith[hz,Wh hlen,inW,Wv,cm]
theorem zCE(F:Int×Int×Int->D){f:FD}:∀(xs:List (Int×Int×Int)),(∀x∈xs,f [↥(.int x.1),↥(.int x.2.1),↥(.int x.2.2)]=some (F x))->∀a b c:Option W,Xa (gT 3 (Yw (gN 0) (Yw (gN 1) (Yw (gN 2) Xr)))) XQ f (xs.map tri) [a,b,c]=some (xs.map F)
 | [],_,_,_,_=>rfl
 | x::xs,h,a,b,c=>by
  have h1:=h x (by simp);have h2:=zCE F xs (λy hy=>h y (by simp[hy])) ↥(.int x.1) ↥(.int x.2.1) ↥(.int x.2.2);have z:Xa (gT 3 (Yw (gN 0) (Yw (gN 1) (Yw (gN 2) Xr)))) XQ f ((x::xs).map tri) [a,b,c]=(f [↥(.int x.1),↥(.int x.2.1),↥(.int x.2.2)]).bind λd=>(Xa (gT 3 (Yw (gN 0) (Yw (gN 1) (Yw (gN 2) Xr)))) XQ f (xs.map tri) [↥(.int x.1),↥(.int x.2.1),↥(.int x.2.2)]).map (d::·):=rfl;rw[z,h1,h2];rfl
def qdt(g:Int)(bs:List (Int×Int))(hb:bs.length<=20)(h:∀b∈bs,g<=b.1/\g<=b.2):q0m [.int g,.lst (bs.map pairD2)]=↥(.int (yl g bs)):=by
 unfold q0m q2E;have hlen:((zAJ (knw g bs) bs).map tri).length<=1000000:=by
  rw[zB];unfold zAJ;rw[zB,q2p];have h1:(knw g bs).length<=(We g bs).length:=q2a _;have:=q1j g bs;omega
 have hsm:∀x∈zAJ (knw g bs) bs,0<=x.2.2/\x.2.2<=30:=λx hx=>by
  unfold zAJ at hx;obtain⟨q,_,rfl⟩:=yA.mp hx;have l1:ovR q.2 bs<=bs.length:=yn;have l2:ovL q.2 bs<=bs.length:=yn;show 0<=mx3 1 _ _/\mx3 1 _ _<=30;unfold mx3
  split <;> split <;> omega
 have cm:=zCE (f:=q2f) (λx=>D.int (2*x.2.2*(x.2.1-x.1))) (zAJ (knw g bs) bs) (λx hx=>by
  have hs:=hsm x hx;have m0:zBG (.int 2) (.int (x.2.1-x.1))=↥(.int (2*(x.2.1-x.1))):=q3x (by decide) (by decide);have m1:zBG (.int (2*(x.2.1-x.1))) (.int x.2.2)=↥(.int (2*x.2.2*(x.2.1-x.1))):=by
   rw[qeu ∅ ∅,Int.mul_right_comm]
  unfold q2f;simp_arith[m0,m1]) none none none
 have hs:zC1 [.lst ((zAJ (knw g bs) bs).map λx=>D.int (2*x.2.2*(x.2.1-x.1)))]=↥(.int (yl g bs)):=by
  exact qd4 (λx:Int×Int×Int=>2*x.2.2*(x.2.1-x.1)) (zAJ (knw g bs) bs)
 simp_arith[q7h g bs hb h,Wh hlen,inW,Wv,yH,xv,cm,hs]
inductive Mv where
 | go (p q:Int)|box (k:Nat) (p q:Int)
noncomputable def mvD:Mv->D
 | .go p q=>.tup [.str "go", .int p,.int q]
 | .box k p q=>.tup [.str "box", .int (k:Int),.int p,.int q]
def Mv.frm:Mv->Int
 | .go p _=>p
 | .box _ p _=>p
def Mv.to:Mv->Int
 | .go _ q=>q
 | .box _ _ q=>q
noncomputable def ends(h:Int):List Mv->Option Int
 | []=>some h
 | m::r=>if m.frm=h then ends m.to r else none
def q7N:(D.str "go").py.canLay0=true:=⋯
def q9I:(D.str "box").py.canLay0=true:=⋯
def qes{α:Type}{xs:List α}{k:Int}(h:0<=k):cutD xs none (some k)=xs.take k.toNat:=by
 unfold cutD;have e:HT.sIx xs.length xs.length (some k)=min k.toNat xs.length:=by
  have:=HT.q3q xs.length xs.length k.toNat;rw[show ((k.toNat:Nat):Int)=k by omega]at this;exact this
 rw[HT.q57,e,Nat.sub_zero,Za,List.take_eq_take_iff];omega
def qe6{α:Type}{xs:List α}{k:Int}(h:0<=k):cutD xs (some k) none=xs.drop k.toNat:=by
 unfold cutD;have e:HT.sIx xs.length 0 (some k)=min k.toNat xs.length:=by
  have:=HT.q3q xs.length 0 k.toNat;rw[show ((k.toNat:Nat):Int)=k by omega]at this;exact this
 rw[HT.q57,e,yZ (by rw[yX];omega)];rcases Nat.le_total k.toNat xs.length with z|z
 ·rw[ZS z]
 ·rw[Nat.min_eq_right z,w9,ZM z]
structure OkP (d:D):Prop where
 ns:nsD d=true
 lay:d.py.canLay0=true
 dep:d.py.depth<=4
theorem OkP.shp{d:D}(h:OkP d):Hk.shp d=true:=by
 unfold Hk.shp SeqAt.shaped;rw[h.lay,vS (yJ h.dep (by decide))];rfl
structure OkM (d:D):Prop where
 p:OkP d
 t:∀ds,d=.tup ds->∀e∈ds,OkP e
def XY(s:Str):D->Bool
 | .str t=>t==s
 | _=>false
def q4K{a:D}{s:Str}(hs:shp (.str s)=true)(h:OkP a):oEq true a (.str s)=↥(.bl (!(XY s a))):=by
 unfold oEq;rw[h.shp,hs];have:=h.ns;cases a <;> first|rfl|cases this
def qfp{a:D}{s:Str}(hs:shp (.str s)=true)(h:OkP a):oEq false a (.str s)=↥(.bl (XY s a)):=by
 unfold oEq;rw[h.shp,hs];have:=h.ns;cases a <;> first|rfl|cases this
def qc5:shp (.str "go")=true:=by unfold shp SeqAt.shaped;rw[q7N];rfl
def q4G:shp (.str "box")=true:=by unfold shp SeqAt.shaped;rw[q9I];rfl
def q3C{s:Str}{a:D}(h:XY s a=true):a=.str s:=by
 cases a with
 | str t=>have:(t==s)=true:=h;rw[eq_of_beq this]
 | _=>cases h
def qU{d:D}(h:Yy d=true):∃k,d=.int k:=by
 cases d with
 | int k=>exact⟨k,rfl⟩
 | _=>cases h
noncomputable def zCQ:D->Bool
 | .tup [a,b,c]=>XY "go" a&&(Yy b&&(Yy c && !(eqD b c)))
 | _=>false
def qhC{d:D}(h:OkM d):q3r [d]=↥(.bl (zCQ d)):=by
 unfold q3r q6p;have hn:=h.p.ns
 match d,h,hn with
 | .non,_,_=>rfl
 | .bl _,_,_=>rfl
 | .int _,_,_=>rfl
 | .str _,_,_=>rfl
 | .lst _,_,_=>rfl
 | .tup [],_,_=>rfl
 | .tup [_],_,_=>simp_arith[qw];rfl
 | .tup [_,_],_,_=>simp_arith[qw];rfl
 | .tup [a,b,c],h,_=>
  have oa:=h.t _ rfl a (by simp);have ob:=h.t _ rfl b (by simp);have oc:=h.t _ rfl c (by simp);have e0:=q4K qc5 oa;have e1:=q0x ob.ns;have e2:=q0x oc.ns;have e3:oEq true b c=↥(.bl (!(eqD b c))):=by unfold oEq;rw[ob.shp,oc.shp];rfl
  rw[show zCQ (.tup [a,b,c])=(XY "go" a&&(Yy b&&(Yy c && !(eqD b c))))from rfl];generalize XY "go" a=s0 at e0 ⊢;generalize Yy b=s1 at e1 ⊢;generalize Yy c=s2 at e2 ⊢;generalize eqD b c=s3 at e3 ⊢;cases s0 <;> cases s1 <;> cases s2 <;> simp_arith[show (((0+1+1+1:Nat):Int)==3)=true from rfl,e0,e1,e2,e3]
 | .tup (a::b::c::e::r),_,_=>
  have hn:(((a::b::c::e::r).length:Int)==3)=false:=by
   simp only[zE,beq_eq_false_iff_ne,ne_eq];omega
  simp only[zE]at hn;simp_arith[hn];rfl
def qgE(ds:List D):zBq [.lst ds]=(allB ds).map λb=>.sh (.bl b):=rfl
noncomputable def zC2(n:Nat)(b c e:D):Bool:=match b,c,e with
 | .int k,.int _,.int _=>decide (0<=k)&&decide (k<n)
 | _,_,_=>false
noncomputable def zCt(n:Nat):D->Bool
 | .tup [a,b,c,e]=>XY "box" a&&zC2 n b c e
 | _=>false
def qeV{d:D}{bs:List (Int×Int)}(h:OkM d):qZ [d,.lst (bs.map Y4)]=↥(.bl (zCt bs.length d)):=by
 unfold qZ q1l;have hn:=h.p.ns
 match d,h,hn with
 | .non,_,_=>rfl
 | .bl _,_,_=>rfl
 | .int _,_,_=>rfl
 | .str _,_,_=>rfl
 | .lst _,_,_=>rfl
 | .tup [],_,_=>rfl
 | .tup [_],_,_=>simp_arith[qw];rfl
 | .tup [_,_],_,_=>simp_arith[qw];rfl
 | .tup [_,_,_],_,_=>simp_arith[qw];rfl
 | .tup [a,b,c,e],h,_=>
  have oa:=h.t _ rfl a (by simp);have ob:=h.t _ rfl b (by simp);have oc:=h.t _ rfl c (by simp);have oe:=h.t _ rfl e (by simp);have e0:=q4K q4G oa;have c1:oSl (.tup [a,b,c,e]) (some 1) none=↥(.tup [b,c,e]):=rfl;have hl:[b,c,e].length<=1000000:=by show 3<=1000000;decide
  have cm:Xa (gN 0) XQ q1c [b,c,e] [none]=some ([b,c,e].map λd=>D.bl (Yy d)):=by
   refine q2X (λd=>D.bl (Yy d)) _ λd hd=>?_;have:nsD d=true:=by
    simp only[zF,zg,or_false]at hd;rcases hd with rfl|rfl|rfl
    ·exact ob.ns
    ·exact oc.ns
    ·exact oe.ns
   unfold q1c;simp_arith[q0x this]
  have ba:zBq [.lst ([b,c,e].map λd=>D.bl (Yy d))]=↥(.bl ([b,c,e].all Yy)):=by
   rw[qgE,q2O];rfl
  simp_arith[show (((0+1+1+1+1:Nat):Int)==4)=true from rfl,e0];rw[show zCt bs.length (.tup [a,b,c,e])=(XY "box" a&&zC2 bs.length b c e)from rfl];generalize XY "box" a=s0 at e0 ⊢;cases s0 with
  | false=>simp_arith[qw]
  | true=>
   have ba':=ba;simp only[zY,yw]at ba' cm;simp_arith[c1,Wh hl,inW,cm,ba'];cases hw:[b,c,e].all Yy with
   | false=>
    simp_arith[qw];have:zC2 bs.length b c e=false:=by
     have hw:(Yy b&&(Yy c&&(Yy e&&true)))=false:=hw;unfold zC2;cases b <;> first|rfl|skip
     cases c <;> first|rfl|skip
     cases e <;> first|rfl|(cases hw)
    rw[this]
   | true=>
    have hw:(Yy b&&(Yy c&&(Yy e&&true)))=true:=hw;simp only[zU]at hw;obtain⟨k,rfl⟩:=qU hw.1;obtain⟨p,rfl⟩:=qU hw.2.1;obtain⟨q,rfl⟩:=qU hw.2.2.1;have at1:atI [a,D.int k,D.int p,D.int q] 1=some (.int k):=rfl;rw[show zC2 bs.length (.int k) (.int p) (.int q)=(decide (0<=k)&&decide (k<(bs.length:Int)))from rfl];simp_arith[zB]
 | .tup (a::b::c::e::f::r),_,_=>
  have hn:(((a::b::c::e::f::r).length:Int)==4)=false:=by
   simp only[zE,beq_eq_false_iff_ne,ne_eq];omega
  simp only[zE]at hn;simp_arith[hn];rfl
def q9M{n:Nat}{d:D}(h:zCt n d=true):∃k p q,d=.tup [.str "box", .int k,.int p,.int q]/\0<=k/\k<n:=by
 match d,h with
 | .tup [a,b,c,e],h=>
  have h:(XY "box" a&&zC2 n b c e)=true:=h;obtain⟨h1,h2⟩:=xF.mp h;rw[q3C h1]
  match b,c,e,h2 with
  | .int k,.int p,.int q,h2=>
   have h2:(decide (0<=k)&&decide (k<(n:Int)))=true:=h2;obtain⟨h3,h4⟩:=xF.mp h2;exact⟨k,p,q,rfl,of_decide_eq_true h3,of_decide_eq_true h4⟩
noncomputable def Xc{α β:Type}(step:β->α->Option β):β->List α->Option β
 | c,[]=>some c
 | c,x::xs=>(step c x).bind λc'=>Xc step c' xs
theorem q32{α β:Type}{g:FG}{b:FS}(F:α->D)(r:O)(step:β->α->Option β)(S:β->WSt->Prop):∀(xs:List α),
  (∀c x ω,x∈xs->S c ω->∃w,g (F x) ω=some w/\(match step c x with|some c'=>zAS (b w) (S c')|none=>∃ω',b w=some (.rt r,ω'))) ->
  ∀(c:β)(ω:WSt),S c ω->(match Xc step c xs with|some c'=>∃ω',Wg g b (xs.map F) ω=some (.nx,ω')/\S c' ω'|none=>∃ω',Wg g b (xs.map F) ω=some (.rt r,ω'))
 | [],_,c,ω,h=>⟨ω,rfl,h⟩
 | x::xs,turn,c,ω,h=>by
  obtain⟨w,h1,h2⟩:=turn c x ω zI h;have ih:=q32 F r step S xs λc y ω hy=>turn c y ω (zG _ hy);have e0:Wg g b ((x::xs).map F) ω=(b w).bind λp=>match p.1 with
    | .nx=>Wg g b (xs.map F) p.2
    | .ct=>Wg g b (xs.map F) p.2
    | .bk=>some (.nx,p.2)
    | .rt r=>some (.rt r,p.2):=by
   show ((g (F x) ω).bind _)=_;rw[h1];rfl
  rw[e0];show (match (step c x).bind λc'=>Xc step c' xs with|some c'=>_|none=>_);cases e:step c x with
  | none=>
   rw[e]at h2;obtain⟨ω',h2⟩:=h2;rw[h2];exact⟨ω',rfl⟩
  | some c'=>
   rw[e]at h2;cases q:b w with
   | none=>rw[q]at h2;exact h2.elim
   | some p=>
    rw[q]at h2;obtain⟨o,w'⟩:=p;cases o with
    | nx=>exact ih c' w' h2
    | ct=>exact ih c' w' h2
    | bk=>exact h2.elim
    | rt r=>exact h2.elim
noncomputable def hop(h:Int)(m:Mv):Option Int:=if m.frm=h then some m.to else none
theorem q7c:∀(ms:List Mv)(h:Int),Xc hop h ms=ends h ms
 | [],h=>rfl
 | m::ms,h=>by
  show (hop h m).bind _=if m.frm=h then ends m.to ms else none
  unfold hop
  by_cases z:m.frm=h
  ·rw[vC z,vC z];exact q7c ms m.to
  ·rw[vF z,vF z];rfl
def qfs(m:Mv):∃ds,mvD m=.tup ds/\atI ds (-1)=some (.int m.to)/\atI ds (-2)=some (.int m.frm):=by
 cases m <;> exact⟨_,rfl,rfl,rfl⟩
def qcy{home last:Int}{ms:List Mv}:q3v [.int home,.int last,.lst (ms.map mvD)]=↥(.bl (ends home ms==some last)):=by
 unfold q3v q6w;have key:=q32 (g:=gN 4) (b:=q5u) mvD (.sh (.bl false)) hop (λhere ω=>∃x,ω=[↥(.int home),↥(.int last),↥(.lst (ms.map mvD)),↥(.int here),x]) ms
  (λh m ω hm ⟨x,hω⟩=>by
   subst hω;refine⟨_,rfl,?_⟩;obtain⟨ds,e1,e2,e3⟩:=qfs m;unfold hop q5u;rw[e1]
   by_cases z:m.frm=h
   ·rw[vC z]
    subst z;simp_arith[e2,e3];exact⟨_,rfl⟩
   ·rw[vF z]
    have z':(m.frm==h)=false:=by simpa using z
    simp_arith[e2,e3,z'];exact⟨_,rfl⟩)
  home [↥(.int home),↥(.int last),↥(.lst (ms.map mvD)),↥(.int home),none] ⟨none,rfl⟩
 rw[q7c]at key;cases e:ends home ms with
 | none=>
  rw[e]at key;obtain⟨ω',key⟩:=key;simp_arith[key];rfl
 | some h=>
  rw[e]at key;obtain⟨ω',key,x,rfl⟩:=key;simp_arith[key];rfl
theorem q8x:∀(a b:List Int),PyData.eqvAll (D.pys (a.map D.int)) (D.pys (b.map D.int))=decide (a=b)
 | [],[]=>rfl
 | [],_::_=>rfl
 | _::_,[]=>rfl
 | x::a,y::b=>by
  show (x==y&&PyData.eqvAll (D.pys (a.map D.int)) (D.pys (b.map D.int)))=_;rw[q8x a b]
  by_cases z:x=y
  ·subst z
   simp
  ·have:(x==y)=false:=by simpa using z
   rw[this];simp[z]
def q8R(a:List Int):shp (.lst (a.map D.int))=true:=qaj 2 (by decide) λd hd=>by
 obtain⟨m,_,rfl⟩:=yA.mp hd;exact⟨rfl,by show 0<=2;decide⟩
def q5g(a b:List Int):oEq false (.lst (a.map D.int)) (.lst (b.map D.int))=↥(.bl (decide (a=b))):=by
 unfold oEq;rw[q8R,q8R];show some (R.sh (.bl (PyData.eqvAll (D.pys (a.map D.int)) (D.pys (b.map D.int)))))=_;rw[q8x]
theorem q9N{n:Nat}:∀{ds:List D},(∀d∈ds,d.py.canLay0=true/\d.py.depth<=n)->PyData.canLayAll0 (D.pys ds)=true/\PyData.depthAll (D.pys ds)<=n
 | [],_=>⟨rfl,yE _⟩
 | d::ds,h=>by
  obtain⟨a,b⟩:=q9N λe he=>h e (zG _ he);obtain⟨a',b'⟩:=h d zI;refine⟨?_,?_⟩
  ·show (d.py.canLay0&&PyData.canLayAll0 (D.pys ds))=true
   rw[a,a'];rfl
  ·show max d.py.depth (PyData.depthAll (D.pys ds))<=n
   omega
structure Th (d:D):Prop where
 m:OkM d
 l:∀ds,d=.tup ds->ds.length<=5
structure Pt (d:D):Prop where
 ns:nsD d=true
 lay:d.py.canLay0=true
 dep:d.py.depth<=2
def q4s(k:Int):Pt (.int k):=⟨rfl,rfl,by show 0<=2;decide⟩
def qho:Pt (.str "go"):=⟨rfl,q7N,by show 0<=2;decide⟩
def qgv:Pt (.str "box"):=⟨rfl,q9I,by show 0<=2;decide⟩
def qh8{ds:List D}(h:∀d∈ds,Pt d)(hl:ds.length<=5):Th (.tup ds):=by
 obtain⟨a,b⟩:=q9N (n:=2) λd hd=>⟨(h d hd).lay,(h d hd).dep⟩;refine⟨⟨⟨rfl,a,by show PyData.depthAll (D.pys ds)+1<=4;omega⟩,λes e d hd=>?_⟩,λes e=>?_⟩
 ·cases e;have:=h d hd;exact⟨this.ns,this.lay,yJ this.dep (by decide)⟩
 ·cases e;exact hl
def all1{P:D->Prop}{a:D}(h:P a):∀d∈[a],P d:=λd hd=>by cases zb.mp hd;exact h
def q5J{P:D->Prop}{a:D}{r:List D}(h:P a)(h':∀d∈r,P d):∀d∈a::r,P d:=λd hd=>(zF.mp hd).elim (λe=>e▸h) (h' d)
def Pt.ok{d:D}(h:Pt d):OkP d:=⟨h.ns,h.lay,yJ h.dep (by decide)⟩
def qhE{d:D}(h:nsD d=true):q1J [d]=↥(.bl (Yy d)):=by
 cases d <;> first|rfl|cases h
noncomputable def X2:D->Option Mv
 | .tup [a,.int p,.int q]=>if XY "go" a=true then some (.go p q)else none
 | .tup [a,.int k,.int p,.int q]=>if XY "box" a=true then (if 0<=k then some (.box k.toNat p q)else none)else none
 | _=>none
noncomputable def Xb(s:Int×List Int):Mv->Option (Int×List Int)
 | .go p q=>if p=s.1/\q≠s.1 then some (q,s.2)else none
 | .box k p q=>if p=s.1/\q≠s.1/\s.2[k]?=some s.1 then some (q,s.2.set k q)else none
noncomputable def XH(s:Int×List Int)(d:D):Option (Int×List Int):=(X2 d).bind (Xb s)
def q4B{a:D}{p q:Int}:X2 (.tup [a,.int p,.int q])=if XY "go" a=true then some (.go p q)else none:=rfl
def q3E{a:D}{k p q:Int}:X2 (.tup [a,.int k,.int p,.int q])=if XY "box" a=true then (if 0<=k then some (.box k.toNat p q)else none)else none:=rfl
def q25{h:Int}{ls:List Int}{p q:Int}:Xb (h,ls) (.go p q)=if p=h/\q≠h then some (q,ls)else none:=rfl
def q1w{h:Int}{ls:List Int}{k:Nat}{p q:Int}:Xb (h,ls) (.box k p q)=if p=h/\q≠h/\ls[k]?=some h then some (q,ls.set k q)else none:=rfl
def q9o{ds:List D}(h:ds.length≠3)(h':ds.length≠4):X2 (.tup ds)=none:=by
 unfold X2
 split
 ·rename_i e;cases e;exact vK rfl h
 ·rename_i e;cases e;exact vK rfl h'
 ·rfl
def q3P{s:Int×List Int}{ds:List D}(h:ds.length≠3)(h':ds.length≠4):XH s (.tup ds)=none:=by
 unfold XH;rw[q9o h h'];rfl
theorem wrun{x0 x1 x2 x4 x5:Option W}:∀(ds:List D),(∀d∈ds,nsD d=true)->∀x3,(if ds.all Yy=true then ∃y,Wg (gN 3) q0D ds [x0,x1,x2,x3,x4,x5]=some (.nx,[x0,x1,x2,y,x4,x5])else ∃y,Wg (gN 3) q0D ds [x0,x1,x2,x3,x4,x5]=some (.rt (.sh .non),[x0,x1,x2,y,x4,x5]))
 | [],_,x3=>⟨x3,rfl⟩
 | d::ds,h,x3=>by
  have e:=qhE (h d zI);have ih:=wrun (x0:=x0) (x1:=x1) (x2:=x2) (x4:=x4) (x5:=x5) ds (λd hd=>h d (zG _ hd)) ↥d;rw[yp];have st:q0D [x0,x1,x2,↥d,x4,x5]=if Yy d=true then some (.nx,[x0,x1,x2,↥d,x4,x5])else some (.rt (.sh .non),[x0,x1,x2,↥d,x4,x5]):=by
   unfold q0D;cases hw:Yy d with
   | true=>rw[hw]at e;simp_arith[e]
   | false=>rw[hw]at e;simp_arith[e]
  rw[Wg];cases hw:Yy d with
  | true=>
   rw[hw,vC rfl]at st;simp only[wy,e_gn,z9,xT,xU,st];exact ih
  | false=>
   rw[hw,vF (by decide)]at st;simp only[wJ,e_gn,z9,xT,xU,st,ya,if_false];exact⟨_,rfl⟩
def WV(here:Int)(ls:List Int)(d:D):Prop:=∃(ls':List Int) (y3 y4 y5:Option W),qk [.pw (ls.map D.int),.sh (.int here),.sh d] =
  some (match XH (here,ls) d with|some s=>.int s.1|none=>.non,[some (.pw (ls'.map D.int)),↥(.int here),↥d,y3,y4,y5])/\∀s,XH (here,ls) d=some s->ls'=s.2
def qem{here:Int}{ls:List Int}{a b c:D}(ha:Pt a)(hb:Pt b)(hc:Pt c):WV here ls (.tup [a,b,c]):=by
 unfold WV;have e1:=q4K qc5 ha.ok;have c1:oSl (.tup [a,b,c]) (some 1) none=↥(.tup [b,c]):=rfl;have run:=wrun (x0:=some (.pw (ls.map D.int))) (x1:=↥(.int here)) (x2:=↥(.tup [a,b,c])) (x4:=none) (x5:=none) [b,c] (λd hd=>by
  simp only[zF,zg,or_false]at hd;rcases hd with rfl|rfl
  ·exact hb.ns
  ·exact hc.ns) none
 have l1:decide (((0+1+1+1:Nat):Int)<3)=false:=rfl;have l2:decide (((0+1+1+1:Nat):Int)>4)=false:=rfl;have l3:((0+1+1+1:Nat):Int)-2=1:=rfl;have l4:((0+1+1+1:Nat):Int)-1=2:=rfl;have l5:((0+1+1+1:Nat):Int)-3=0:=rfl;have l6:(((0+1+1+1:Nat):Int)==4)=false:=rfl
 by_cases hw:[b,c].all Yy=true
 ·rw[vC hw]at run
  obtain⟨y,run⟩:=run;simp only[yp,List.all_nil,xz,zU]at hw;obtain⟨p,rfl⟩:=qU hw.1;obtain⟨q,rfl⟩:=qU hw.2;have no:¬(XY "go" a=true/\p=here/\q≠here)->XH (here,ls) (.tup [a,.int p,.int q])=none:=λh=>by
   unfold XH;rw[q4B]
   by_cases z:XY "go" a=true
   ·rw[vC z]
    show Xb (here,ls) (.go p q)=none;rw[q25,vF λh'=>h ⟨z,h'⟩]
   ·rw[vF z];rfl
  by_cases h1:p=here
  ·subst h1
   by_cases h2:q=p
   ·rw[no (by intro h;exact h.2.2 h2)]
    refine⟨ls,y,↥(.int p),↥(.int q),?_,λs h=>by cases h⟩;have h2':(q==p)=true:=by simpa using h2
    unfold qk qp;simp_arith[l1,l2,l3,l4,c1,run,h2']
   ·have h2':(q==p)=false:=by simpa using h2
    cases hg:XY "go" a with
    | false=>
     rw[no (by intro h;rw[hg]at h;cases h.1)];refine⟨ls,y,↥(.int p),↥(.int q),?_,λs h=>by cases h⟩;rw[hg]at e1;unfold qk qp;simp_arith[l1,l2,l3,l4,l5,c1,run,h2',e1]
    | true=>
     have hr:XH (p,ls) (.tup [a,.int p,.int q])=some (q,ls):=by
      unfold XH;rw[q4B,vC hg];show Xb (p,ls) (.go p q)=_;rw[q25,vC ⟨rfl,h2⟩]
     rw[hr];refine⟨ls,y,↥(.int p),↥(.int q),?_,λs h=>by cases h;rfl⟩;rw[hg]at e1;unfold qk qp;simp_arith[l1,l2,l3,l4,l5,l6,c1,run,h2',e1]
  ·rw[no (by intro h;exact h1 h.2.1)]
   refine⟨ls,y,↥(.int p),↥(.int q),?_,λs h=>by cases h⟩;have h1':(p==here)=false:=by simpa using h1
   unfold qk qp;simp_arith[l1,l2,l3,l4,c1,run,h1']
 ·rw[vF hw]at run
  obtain⟨y,run⟩:=run;have hr:XH (here,ls) (.tup [a,b,c])=none:=by
   unfold XH X2
   split
   ·rename_i h;cases h;exact vK rfl hw
   ·rename_i h;cases h
   ·rfl
  rw[hr];refine⟨ls,y,none,none,?_,λs h=>by cases h⟩;unfold qk qp;simp_arith[l1,l2,c1,run]
def qeO{ls:List Int}{k:Int}(h0:0<=k)(h1:k<ls.length):atI (ls.map D.int) k=some (.int (ls[k.toNat]'∅)):=by
 rw[q0l h0 (by rw[zB];exact h1),yu]
def qd7{here:Int}{ls:List Int}{a b c e:D}(ha:Pt a)(hb:Pt b)(hc:Pt c)(he:Pt e):WV here ls (.tup [a,b,c,e]):=by
 unfold WV;have e1:=q4K q4G ha.ok;have c1:oSl (.tup [a,b,c,e]) (some 1) none=↥(.tup [b,c,e]):=rfl;have run:=wrun (x0:=some (.pw (ls.map D.int))) (x1:=↥(.int here)) (x2:=↥(.tup [a,b,c,e])) (x4:=none) (x5:=none) [b,c,e] (λd hd=>by
  simp only[zF,zg,or_false]at hd;rcases hd with rfl|rfl|rfl
  ·exact hb.ns
  ·exact hc.ns
  ·exact he.ns) none
 have l1:decide (((0+1+1+1+1:Nat):Int)<3)=false:=rfl;have l2:decide (((0+1+1+1+1:Nat):Int)>4)=false:=rfl;have l3:((0+1+1+1+1:Nat):Int)-2=2:=rfl;have l4:((0+1+1+1+1:Nat):Int)-1=3:=rfl;have l5:((0+1+1+1+1:Nat):Int)-3=1:=rfl;have l6:(((0+1+1+1+1:Nat):Int)==4)=true:=rfl;have a3:∀{x y z w:D},atI [x,y,z,w] 3=some w:=rfl
 by_cases hw:[b,c,e].all Yy=true
 ·rw[vC hw]at run
  obtain⟨y,run⟩:=run;simp only[yp,List.all_nil,xz,zU]at hw;obtain⟨k,rfl⟩:=qU hw.1;obtain⟨p,rfl⟩:=qU hw.2.1;obtain⟨q,rfl⟩:=qU hw.2.2;have no:¬(XY "box" a=true/\0<=k/\p=here/\q≠here/\ls[k.toNat]?=some here)->XH (here,ls) (.tup [a,.int k,.int p,.int q])=none:=λh=>by
   unfold XH;rw[q3E]
   by_cases z:XY "box" a=true
   ·rw[vC z]
    by_cases z2:0<=k
    ·rw[vC z2]
     show Xb (here,ls) (.box k.toNat p q)=none;rw[q1w,vF λh'=>h ⟨z,z2,h'⟩]
    ·rw[vF z2];rfl
   ·rw[vF z];rfl
  by_cases h1:p=here
  ·subst h1
   by_cases h2:q=p
   ·rw[no (by intro h;exact h.2.2.2.1 h2)]
    refine⟨ls,y,↥(.int p),↥(.int q),?_,λs h=>by cases h⟩;have h2':(q==p)=true:=by simpa using h2
    unfold qk qp;simp_arith[l1,l2,l3,l4,a3,c1,run,h2']
   ·have h2':(q==p)=false:=by simpa using h2
    cases hg:XY "box" a with
    | false=>
     rw[no (by intro h;rw[hg]at h;cases h.1)];refine⟨ls,y,↥(.int p),↥(.int q),?_,λs h=>by cases h⟩;rw[hg]at e1;unfold qk qp;simp_arith[l1,l2,l3,l4,l5,a3,c1,run,h2',e1]
    | true=>
     rw[hg]at e1
     by_cases h3:k<0
     ·rw[no (by intro h;omega)]
      refine⟨ls,y,↥(.int p),↥(.int q),?_,λs h=>by cases h⟩;unfold qk qp;simp_arith[l1,l2,l3,l4,l5,l6,a3,c1,run,h2',e1,h3,decide_true]
     ·by_cases h4:(ls.length:Int)<=k
      ·rw[no (by intro h;have:=h.2.2.2.2;rw[zd ∅]at this;cases this)]
       refine⟨ls,y,↥(.int p),↥(.int q),?_,λs h=>by cases h⟩;unfold qk qp;simp_arith[l1,l2,l3,l4,l5,l6,a3,c1,run,h2',e1,h3,h4,decide_true,decide_false,ge_iff_le]
      ·have at':=qeO (ls:=ls) (k:=k) ∅ ∅
       have hk:ls[k.toNat]?=some (ls[k.toNat]'∅):=zD _
       by_cases h5:ls[k.toNat]'∅=p
       ·have h5':(ls[k.toNat]'∅==p)=true:=by simpa using h5
        have hr:XH (p,ls) (.tup [a,.int k,.int p,.int q])=some (q,ls.set k.toNat q):=by
         unfold XH;rw[q3E,vC hg,vC ∅];show Xb (p,ls) (.box k.toNat p q)=_;rw[q1w,vC ⟨rfl,h2,by rw[hk,h5]⟩]
        rw[hr];refine⟨ls.set k.toNat q,y,↥(.int p),↥(.int q),?_,λs h=>by cases h;rfl⟩;have lp:=λω=>p_ls (i:=0) (ω:=ω) (ds:=ls.map D.int) (d:=.int q) (k:=k) ∅ (by rw[zB];omega);rw[<- List.map_set]at lp;unfold qk qp;simp_arith[l1,l2,l3,l4,l5,l6,a3,c1,run,h2',e1,h3,h4,at',h5',lp,decide_false,ge_iff_le]
       ·have h5':(ls[k.toNat]'∅==p)=false:=by simpa using h5
        rw[no (by intro h;have:=h.2.2.2.2;rw[hk]at this;exact h5 (zj this))];refine⟨ls,y,↥(.int p),↥(.int q),?_,λs h=>by cases h⟩;unfold qk qp;simp_arith[l1,l2,l3,l4,l5,l6,a3,c1,run,h2',e1,h3,h4,at',h5',decide_false,ge_iff_le]
  ·rw[no (by intro h;exact h1 h.2.2.1)]
   refine⟨ls,y,↥(.int p),↥(.int q),?_,λs h=>by cases h⟩;have h1':(p==here)=false:=by simpa using h1
   unfold qk qp;simp_arith[l1,l2,l3,l4,a3,c1,run,h1']
 ·rw[vF hw]at run
  obtain⟨y,run⟩:=run;have hr:XH (here,ls) (.tup [a,b,c,e])=none:=by
   unfold XH X2
   split
   ·rename_i h;cases h
   ·rename_i h;cases h;exact vK rfl hw
   ·rfl
  rw[hr];refine⟨ls,y,none,none,?_,λs h=>by cases h⟩;unfold qk qp;simp_arith[l1,l2,c1,run]
def Rm(d:D):Prop:=OkM d/\∀ds,d=.tup ds->ds.length<=5/\∀x∈ds,Pt x
def qe3{here:Int}{ls:List Int}{d:D}(h:Rm d):WV here ls d:=by
 have hn:=h.1.p.ns;have no:∀{d:D},XH (here,ls) d=none->qk [.pw (ls.map D.int),.sh (.int here),.sh d]=some (.non,[some (.pw (ls.map D.int)),↥(.int here),↥d,none,none,none])->WV here ls d:=λ{d} h1 h2=>by
  refine⟨ls,none,none,none,?_,λs h=>by rw[h1]at h;cases h⟩;rw[h1];exact h2
 match d,h,hn with
 | .non,_,_=>exact no rfl rfl
 | .bl _,_,_=>exact no rfl rfl
 | .int _,_,_=>exact no rfl rfl
 | .str _,_,_=>exact no rfl rfl
 | .lst _,_,_=>exact no rfl rfl
 | .tup [],_,_=>exact no rfl rfl
 | .tup [_],_,_=>exact no (q3P (by simp) (by simp)) (by unfold qk qp;simp_arith[qw];rfl)
 | .tup [_,_],_,_=>exact no (q3P (by simp) (by simp)) (by unfold qk qp;simp_arith[qw];rfl)
 | .tup [a,b,c],h,_=>
  have t:=(h.2 _ rfl).2;exact qem (t a (by simp)) (t b (by simp)) (t c (by simp))
 | .tup [a,b,c,e],h,_=>
  have t:=(h.2 _ rfl).2;exact qd7 (t a (by simp)) (t b (by simp)) (t c (by simp)) (t e (by simp))
 | .tup (a::b::c::e::f::r),_,_=>
  have l1:decide ((((a::b::c::e::f::r).length:Nat):Int)<3)=false:=by simp only[zE,decide_eq_false_iff_not];omega
  have l2:decide ((((a::b::c::e::f::r).length:Nat):Int)>4)=true:=by simp only[zE,decide_eq_true_eq];omega
  simp only[zE]at l1 l2;refine no (q3P (by simp) (by simp)) ?_;unfold qk qp;simp_arith[l1,l2]
def starts(bs:List (Int×Int)):List Int:=bs.map (·.1)
def Wp(bs:List (Int×Int)):List Int:=bs.map (·.2)
noncomputable def WN(gate:Int)(bs:List (Int×Int))(ds:List D):Bool:=match Xc XH (gate,starts bs) ds with
 | some s=>s.1==gate&&decide (s.2=Wp bs)
 | none=>false
def qa3{f:FD}{bs:List (Int×Int)}(h:∀b:Int×Int,f [↥(Y4 b)]=some (.int b.1)):Xa (gN 0) XQ f (bs.map Y4) [none]=some ((starts bs).map D.int):=by
 have:=q05 (i:=0) (f:=f) Y4 (λb=>D.int b.1) bs (ω:=[none]) λb _=>h b;rw[this];unfold starts;rw[yg];rfl
def qa1{f:FD}{bs:List (Int×Int)}(h:∀b:Int×Int,f [↥(Y4 b)]=some (.int b.2)):Xa (gN 0) XQ f (bs.map Y4) [none]=some ((Wp bs).map D.int):=by
 have:=q05 (i:=0) (f:=f) Y4 (λb=>D.int b.2) bs (ω:=[none]) λb _=>h b;rw[this];unfold Wp;rw[yg];rfl
def qfH{gate:Int}{bs:List (Int×Int)}{ds:List D}(hb:bs.length<=30)(hd:∀d∈ds,Rm d):
  q0G [.int gate,.lst (bs.map Y4),.lst ds]=↥(.bl (WN gate bs ds)):=by
 unfold q0G q3i;have hl:(bs.map Y4).length<=1000000:=by rw[zB];omega
 have c1:=qa3 (f:=q2I) (bs:=bs) (λb=>by unfold q2I Y4;simp_arith[qw]);have c2:=qa1 (f:=q2H) (bs:=bs) (λb=>by unfold q2H Y4;simp_arith[qw]);simp_arith[Wh hl,inW,Wv,c1];have key:=q32 (g:=gN 5) (b:=q2z) (λd:D=>d) (.sh (.bl false)) XH (λs ω=>∃x,ω=[↥(.int gate),↥(.lst (bs.map Y4)),↥(.lst ds),↥(.int s.1),some (.ow (s.2.map D.int)),x]) ds
  (λs d ω hm ⟨x,hω⟩=>by
   subst hω;refine⟨_,rfl,?_⟩;obtain⟨ls',y3,y4,y5,e,hl⟩:=qe3 (here:=s.1) (ls:=s.2) (hd d hm);unfold q2z;cases q:XH (s.1,s.2) d with
   | none=>
    rw[q]at e
    dsimp only at e
    simp_arith[e];exact⟨_,rfl⟩
   | some s'=>
    have hl':=hl s' q;subst hl';rw[q]at e
    dsimp only at e
    simp_arith[e,isN];exact⟨_,rfl⟩)
  (gate,starts bs) [↥(.int gate),↥(.lst (bs.map Y4)),↥(.lst ds),↥(.int gate),some (.ow ((starts bs).map D.int)),none] ⟨none,rfl⟩
 rw[List.map_id']at key;unfold WN;cases q:Xc XH (gate,starts bs) ds with
 | none=>
  rw[q]at key;obtain⟨ω',key⟩:=key;simp_arith[key]
 | some s=>
  rw[q]at key;obtain⟨ω',key,x,rfl⟩:=key;simp_arith[key,Wh hl,inW,Wv,c2,q5g]
def zBU(n:Nat):Mv->Prop
 | .go p q=>p≠q
 | .box k p q=>k<n/\p≠q
def ne23:D->Bool
 | .tup [_,_,.int p,.int q]=>!(p==q)
 | _=>false
noncomputable def zBA(n:Nat)(d:D):Bool:=zCQ d || (zCt n d&&ne23 d)
def qhn{d:D}{bs:List (Int×Int)}(h:OkM d):q04 [d,.lst (bs.map Y4)]=↥(.bl (zCt bs.length d&&ne23 d)):=by
 unfold q04 q1L;have e:=qeV (bs:=bs) h;cases hf:zCt bs.length d with
 | false=>rw[hf]at e;simp_arith[e]
 | true=>
  rw[hf]at e;obtain⟨k,p,q,rfl,_,_⟩:=q9M hf;have a3:∀{x y z w:D},atI [x,y,z,w] 3=some w:=rfl;simp_arith[e,a3,ne23]
def qfN{d:D}(h:zCQ d=true):∃p q,d=mvD (.go p q)/\p≠q:=by
 match d,h with
 | .tup [a,b,c],h=>
  have h':XY "go" a=true/\Yy b=true/\Yy c=true/\(!(eqD b c))=true:=by
   simpa only[zCQ,zU]using h
  obtain⟨p,rfl⟩:=qU h'.2.1;obtain⟨q,rfl⟩:=qU h'.2.2.1;refine⟨p,q,by rw[q3C h'.1];rfl,λz=>?_⟩;have:=h'.2.2.2;subst z;have e:eqD (.int p) (.int p)=(p==p):=rfl;rw[e]at this;simp at this
def qfO{n:Nat}{d:D}(h:zBA n d=true):∃m,d=mvD m/\zBU n m:=by
 unfold zBA at h;rw[YU]at h;rcases h with h|h
 ·obtain⟨p,q,e,g⟩:=qfN h
  exact⟨_,e,g⟩
 ·rw[zU]at h
  obtain⟨k,p,q,rfl,k0,k1⟩:=q9M h.1;have h2:(!(p==q))=true:=h.2;refine⟨.box k.toNat p q,?_,∅,by simpa using h2⟩;show _=D.tup [.str "box", .int ((k.toNat:Nat):Int),.int p,.int q];rw[xw k0]
def q7f{n:Nat}{m:Mv}(h:zBU n m):zBA n (mvD m)=true:=by
 cases m with
 | go p q=>
  have h':p≠q:=h;have:zCQ (mvD (.go p q))=true:=by
   show (XY "go" (.str "go")&&(true&&(true && !(eqD (.int p) (.int q)))))=true;have e:eqD (.int p) (.int q)=(p==q):=rfl;have e2:(p==q)=false:=by simpa using h'
   have e3:XY "go" (.str "go")=true:=by show (("go" : Str) == "go")=true;simp
   rw[e,e2,e3];rfl
  unfold zBA;rw[this];rfl
 | box k p q=>
  obtain⟨h1,h2⟩:k<n/\p≠q:=h;have e2:(p==q)=false:=by simpa using h2
  have:(zCt n (mvD (.box k p q))&&ne23 (mvD (.box k p q)))=true:=by
   show ((XY "box" (.str "box")&&(decide (0<=(k:Int))&&decide ((k:Int)<n))) && !(p==q))=true;have e3:XY "box" (.str "box")=true:=by show (("box" : Str) == "box")=true;simp
   rw[e2,e3];simp;omega
  unfold zBA;rw[this,ZL]
noncomputable def Wb(l:List Int):Mv->Option (List Int)
 | .go _ _=>some l
 | .box k p q=>if l[k]?=some p then some (l.set k q)else none
def qcf{bs:List (Int×Int)}{ms:List Mv}(hb:bs.length<=30)(hg:∀m∈ms,zBU bs.length m):qS [.lst (bs.map Y4),.lst (ms.map mvD)]=↥(.bl (match Xc Wb (starts bs) ms with|some l=>decide (l=Wp bs)|none=>false)):=by
 unfold qS q1a;have hl:(bs.map Y4).length<=1000000:=by rw[zB];omega
 have c1:=qa3 (f:=q0M) (bs:=bs) (λb=>by unfold q0M Y4;simp_arith[qw]);have c2:=qa1 (f:=q0V) (bs:=bs) (λb=>by unfold q0V Y4;simp_arith[qw]);simp_arith[Wh hl,inW,Wv,c1];have eg:oEq false (.str "go") (.str "box")=some (.sh (.bl false)):=by rw[qfp q4G ⟨rfl,q7N,by show 0<=4;decide⟩];rfl
 have eb:oEq false (.str "box") (.str "box")=some (.sh (.bl true)):=q7K q4G;have a3:∀{x y z w:D},atI [x,y,z,w] 3=some w:=rfl;have key:=q32 (g:=gN 3) (b:=q0Q) mvD (.sh (.bl false)) Wb (λl ω=>(∃x,ω=[some (.sh (.lst (bs.map Y4))),some (.sh (.lst (ms.map mvD))),some (.ow (l.map D.int)),x])/\l.length=bs.length) ms
  (λl m ω hm ⟨⟨x,hω⟩,hl⟩=>by
   subst hω;refine⟨_,rfl,?_⟩;unfold q0Q;cases m with
   | go p q=>
    show zAS _ _;simp_arith[mvD,eg];exact⟨⟨_,rfl⟩,hl⟩
   | box k p q=>
    obtain⟨h1,h2⟩:k<bs.length/\p≠q:=hg _ hm;have hk:k<l.length:=∅
    have at':=qeO (ls:=l) (k:=(k:Int)) ∅ ∅;simp only[yO]at at';have hk':l[k]?=some l[k]:=zD hk;have es:Wb l (.box k p q)=if l[k]=p then some (l.set k q)else none:=by
     show (if l[k]?=some p then some (l.set k q)else none)=_;rw[hk']
     by_cases z:l[k]=p
     ·rw[vC z,vC (by rw[z])]
     ·rw[vF z,vF λy=>z (zj y)]
    rw[es]
    by_cases z:l[k]=p
    ·rw[vC z]
     have z':(l[k]==p)=true:=by simpa using z
     have lp:=λω=>qfK (i:=2) (ω:=ω) (ds:=l.map D.int) (d:=.int q) (k:=(k:Int)) ∅ (by rw[zB];omega);rw[<- List.map_set]at lp;simp only[yO]at lp;show zAS _ _;simp_arith[mvD,eb,at',z',lp,a3];exact⟨⟨_,rfl⟩,by rw[yC];exact hl⟩
    ·rw[vF z]
     have z':(l[k]==p)=false:=by simpa using z
     simp_arith[mvD,eb,at',z'];exact⟨_,rfl⟩)
  (starts bs) [↥(.lst (bs.map Y4)),↥(.lst (ms.map mvD)),some (.ow ((starts bs).map D.int)),none] ⟨⟨none,rfl⟩,by unfold starts;rw[zB]⟩
 cases q:Xc Wb (starts bs) ms with
 | none=>
  rw[q]at key;obtain⟨ω',key⟩:=key;simp_arith[key]
 | some l=>
  rw[q]at key;obtain⟨ω',key,⟨x,rfl⟩,_⟩:=key;simp_arith[key,Wh hl,inW,Wv,c2,q5g]
def q7p(m:Mv):X2 (mvD m)=some m:=by
 cases m with
 | go p q=>
  show X2 (.tup [.str "go", .int p,.int q])=_;rw[q4B,vC (by show (("go" : Str) == "go")=true;simp)]
 | box k p q=>
  show X2 (.tup [.str "box", .int (k:Int),.int p,.int q])=_;rw[q3E,vC (by show (("box" : Str) == "box")=true;simp),vC ∅,yO]
def q9u{d:D}{m:Mv}(h:X2 d=some m):d=mvD m:=by
 unfold X2 at h
 split at h
 ·rename_i a p q
  by_cases z:XY "go" a=true
  ·rw[vC z]at h
   cases h;rw[q3C z];rfl
  ·rw[vF z]at h;cases h
 ·rename_i a k p q
  by_cases z:XY "box" a=true
  ·rw[vC z]at h
   by_cases y:0<=k
   ·rw[vC y]at h
    cases h;rw[q3C z];show D.tup [.str "box", .int k,.int p,.int q]=.tup [.str "box", .int ((k.toNat:Nat):Int),.int p,.int q];rw[xw y]
   ·rw[vF y]at h;cases h
  ·rw[vF z]at h;cases h
 ·cases h
def qb9{n:Nat}{s s':Int×List Int}{d:D}(hn:s.2.length=n)(h:XH s d=some s'):zBA n d=true/\s'.2.length=n:=by
 obtain⟨m,h1,h2⟩:=wG.mp h;have hd:=q9u h1;subst hd;obtain⟨x,ls⟩:=s;cases m with
 | go p q=>
  rw[q25]at h2
  split at h2
  ·rename_i hc
   cases h2;exact⟨q7f (show p≠q from λz=>hc.2 (by rw[<- hc.1,z])),hn⟩
  ·cases h2
 | box k p q=>
  rw[q1w]at h2
  split at h2
  ·rename_i hc
   cases h2;have hk:k<ls.length:=(zh.mp hc.2.2).1;refine⟨q7f (show k<n/\p≠q from ⟨by rw[<- hn];exact hk,λz=>hc.2.1 (by rw[<- hc.1,z])⟩),?_⟩;show (ls.set k q).length=n;rw[yC];exact hn
  ·cases h2
theorem q7o{n:Nat}:∀{ds:List D}{s s':Int×List Int},s.2.length=n->Xc XH s ds=some s'->ds.all (zBA n)=true
 | [],_,_,_,_=>rfl
 | d::ds,s,s',hn,h=>by
  obtain⟨c,h1,h2⟩:=wG.mp (show (XH s d).bind (λc=>Xc XH c ds)=some s' from h);obtain⟨a,b⟩:=qb9 hn h1;rw[yp,a,q7o b h2];rfl
theorem q9k{n:Nat}:∀(ms:List Mv),(∀m∈ms,zBU n m)->∀(h:Int)(l:List Int),Xc XH (h,l) (ms.map mvD)=(ends h ms).bind λe=>(Xc Wb l ms).map λr=>(e,r)
 | [],_,h,l=>rfl
 | m::ms,hg,h,l=>by
  have gm:=hg m zI;have ih:=q9k ms λm hm=>hg m (zG _ hm);show (XH (h,l) (mvD m)).bind (λc=>Xc XH c (ms.map mvD))=(if m.frm=h then ends m.to ms else none).bind λe=>((Wb l m).bind λc=>Xc Wb c ms).map λr=>(e,r);have e:XH (h,l) (mvD m)=if m.frm=h then (Wb l m).map λr=>(m.to,r)else none:=by
   unfold XH;rw[q7p];show Xb (h,l) m=_;cases m with
   | go p q=>
    have g':p≠q:=gm;rw[q25];show _=if p=h then some (q,l)else none
    by_cases z:p=h
    ·rw[vC z,vC ⟨z,λy=>g' (by rw[z,y])⟩]
    ·rw[vF z,vF λy=>z y.1]
   | box k p q=>
    obtain⟨_,g'⟩:k<n/\p≠q:=gm;rw[q1w];show _=if p=h then (if l[k]?=some p then some (l.set k q)else none).map (λr=>(q,r))else none
    by_cases z:p=h
    ·rw[vC z]
     subst z
     by_cases y:l[k]?=some p
     ·rw[vC y,vC ⟨rfl,λw=>g' w.symm,y⟩];rfl
     ·rw[vF y,vF λw=>y w.2.2];rfl
    ·rw[vF z,vF λy=>z y.1]
  rw[e]
  by_cases z:m.frm=h
  ·rw[vC z,vC z]
   cases q:Wb l m with
   | none=>
    show none=_;cases ends m.to ms <;> rfl
   | some c=>exact ih m.to c
  ·rw[vF z,vF z];rfl
def qdZ{gate:Int}{bs:List (Int×Int)}{ds:List D}(hc:qu [.int gate,.lst (bs.map Y4)]=some (.sh .non))(hb:bs.length<=30)(hd:∀d∈ds,Rm d)(hz:ds.length<=200):
  qV [.int gate,.lst (bs.map Y4),.lst ds]=↥(.bl (WN gate bs ds)):=by
 unfold qV q1Z;have hl:ds.length<=1000000:=∅
 have ok:∀d∈ds,OkM d:=λd hd'=>(hd d hd').1;have cm:Xa (gN 0) XQ q1A ds [none,↥(.lst (bs.map Y4))]=some (ds.map λd=>D.bl (zBA bs.length d)):=by
  refine q2X (λd=>D.bl (zBA bs.length d)) ds λd hd'=>?_;unfold q1A zBA;have e1:=qhC (ok d hd');have e2:=qhn (bs:=bs) (ok d hd');cases hg:zCQ d with
  | true=>rw[hg]at e1;simp_arith[e1]
  | false=>rw[hg]at e1;simp_arith[e1,e2]
 have b1:zBq [.lst (ds.map λd=>D.bl (zBA bs.length d))]=↥(.bl (ds.all (zBA bs.length))):=by
  show (allB _).map _=_;rw[q2O];rfl
 have ls:(starts bs).length=bs.length:=by unfold starts;rw[zB]
 cases ht:ds.all (zBA bs.length)with
 | false=>
  have:WN gate bs ds=false:=by
   unfold WN;cases q:Xc XH (gate,starts bs) ds with
   | none=>rfl
   | some s=>rw[q7o ls q]at ht;cases ht
  rw[this];rw[ht]at b1;simp_arith[hc,Wh hl,inW,Wv,cm,b1]
 | true=>
  rw[ht]at b1;obtain⟨ms,e,hg⟩:∃ms:List Mv,ds=ms.map mvD/\∀m∈ms,zBU bs.length m:=by
   clear b1 cm hl hz ok hd
   induction ds with
   | nil=>exact⟨[],rfl,λm hm=>nomatch hm⟩
   | cons d r ih=>
    rw[yp,zU]at ht;obtain⟨ms,e,hg⟩:=ih ht.2;obtain⟨m,em,gm⟩:=qfO ht.1;exact⟨m::ms,by rw[e,em];rfl,λx hx=>(zF.mp hx).elim (λz=>z▸gm) (hg x)⟩
  have ld:=qcy (home:=gate) (last:=gate) (ms:=ms);have br:=qcf (ms:=ms) hb hg;rw[<- e]at ld br;have:WN gate bs ds=((ends gate ms==some gate)&&(match Xc Wb (starts bs) ms with|some l=>decide (l=Wp bs)|none=>false)):=by
   unfold WN;rw[e,q9k ms hg];cases ends gate ms with
   | none=>rfl
   | some x=>
    cases Xc Wb (starts bs) ms with
    | none=>
     show false=_;rw[xm]
    | some l=>rfl
  rw[this];generalize (ends gate ms==some gate)=u at ld;generalize (match Xc Wb (starts bs) ms with|some l=>decide (l=Wp bs)|none=>false)=v at br;cases u <;> simp_arith[hc,Wh hl,inW,Wv,cm,b1,ld,br]
def RV(d:D):Prop:=(∃p q:Int,d=.tup [.str "go", .int p,.int q])\/∃k p q:Int,d=.tup [.str "box", .int k,.int p,.int q]
def qde{ds:List D}(h:∀d∈ds,Pt d)(hl:ds.length<=5):Rm (.tup ds):=⟨(qh8 h hl).m,λes e=>by cases e;exact⟨hl,h⟩⟩
def RV.rm{d:D}(h:RV d):Rm d:=by
 rcases h with⟨p,q,rfl⟩|⟨k,p,q,rfl⟩
 ·exact qde (q5J qho (q5J (q4s p) (all1 (q4s q)))) (by simp)
 ·exact qde (q5J qgv (q5J (q4s k) (q5J (q4s p) (all1 (q4s q))))) (by simp)
def qdi{gate:Int}{bs:List (Int×Int)}(hb:bs.length<=20)(hbs:∀b∈bs,gate<=b.1/\gate<=b.2):qu [.int gate,.lst (bs.map Y4)]=some (.sh .non):=by
 have pb:(bs.map Y4).all plB=true:=by
  rw[wL];exact yk.mpr λb _=>rfl
 have pL:plL (.lst (bs.map Y4))=true:=by
  show ((bs.map Y4).all plB&&decide ((bs.map Y4).length<=20))=true;rw[pb,zB];simp;omega
 have e:=qap (g:=.int gate) (b:=.lst (bs.map Y4)) rfl pL;have ok:isYd (.int gate) (.lst (bs.map Y4))=true:=by
  show (bs.map Y4).all (zBr gate)=true;rw[wL];refine yk.mpr λb hb=>?_;obtain⟨a1,a2⟩:=hbs b hb;show (decide (gate<=b.1)&&decide (gate<=b.2))=true;simp;omega
 rw[ok]at e;unfold qu q1F;simp_arith[e]
noncomputable def crR(x:Int)(ms:List Mv):Nat:=ms.countP λm=>decide (m.frm<x)&&decide (x<=m.to)
noncomputable def crL(x:Int)(ms:List Mv):Nat:=ms.countP λm=>decide (m.to<x)&&decide (x<=m.frm)
noncomputable def zR(x:Int)(a b:List Int):Nat:=(a.zip b).countP λq=>decide (q.1<x)&&decide (x<=q.2)
noncomputable def zL(x:Int)(a b:List Int):Nat:=(a.zip b).countP λq=>decide (q.2<x)&&decide (x<=q.1)
def q1X(x:Int)(m:Mv)(ms:List Mv):(crR x (m::ms):Int)=(if m.frm<x/\x<=m.to then 1 else 0)+crR x ms:=by
 unfold crR;rw[zr]
 by_cases z:m.frm<x/\x<=m.to
 ·rw[vC z,vC ⇑z];omega
 ·rw[vF z,vF ⇑z];omega
def q21(x:Int)(m:Mv)(ms:List Mv):(crL x (m::ms):Int)=(if m.to<x/\x<=m.frm then 1 else 0)+crL x ms:=by
 unfold crL;rw[zr]
 by_cases z:m.to<x/\x<=m.frm
 ·rw[vC z,vC ⇑z];omega
 ·rw[vF z,vF ⇑z];omega
theorem q1E(x p q:Int):∀(a b:List Int)(k:Nat),b[k]?=some p->(zR x a (b.set k q):Int)<=zR x a b+(if p<x/\x<=q then 1 else 0)/\(zL x a (b.set k q):Int)<=zL x a b+(if q<x/\x<=p then 1 else 0)
 | [],_,_,_=>by
  unfold zR zL;simp only[List.zip_nil_left,ZU]
  constructor <;> split <;> omega
 | _::_,[],k,h=>by simp at h
 | u::a,y::b,0,h=>by
  have h:y=p:=by simpa using h
  subst h;unfold zR zL;rw[xU,wF,wF,zr,zr,zr,zr];simp only[zU,decide_eq_true_eq]
  constructor
  ·split <;> split <;> split <;> omega
  ·split <;> split <;> split <;> omega
 | u::a,y::b,k+1,h=>by
  have ih:=q1E x p q a b k ⇑h;unfold zR zL at *;rw[xT,wF,wF,zr,zr,zr,zr]
  constructor
  ·have:=ih.1;simp only[wB]at *;omega
  ·have:=ih.2;simp only[wB]at *;omega
def absI(c:Int):Int:=if c<0 then -c else c
noncomputable def zCi(m:Mv):Int:=absI (m.to-m.frm)
theorem q8N(a b g:Int):∀N:Nat,su (λx=>if a<x/\x<=b then 1 else 0) g N=max 0 (min b (g+N)-max a g)
 | 0=>by
  show (0:Int)=_;omega
 | N+1=>by
  have ih:=q8N a b g N;show su _ g N+(if a<g+N+1/\g+N+1<=b then 1 else 0)=_
  split <;> omega
theorem q4I(f f':Int->Int)(a:Int):∀n:Nat,su (λx=>f x+f' x) a n=su f a n+su f' a n
 | 0=>rfl
 | n+1=>by
  have ih:=q4I f f' a n;show su (λx=>f x+f' x) a n+(f (a+n+1)+f' (a+n+1))=su f a n+f (a+n+1)+(su f' a n+f' (a+n+1));omega
def q20(x:Int)(a b:List Mv):crR x (a++b)=crR x a+crR x b:=Zx
def q1W(x:Int)(a b:List Mv):crL x (a++b)=crL x a+crL x b:=Zx
noncomputable def wcK:Nat->List (Int×Int)->List Mv
 | _,[]=>[]
 | k,b::r=>(if b.1=b.2 then []else [.box k b.1 b.2])++wcK (k+1) r
theorem qeG(x:Int):∀(bs:List (Int×Int))(k:Nat),crR x (wcK k bs)=ovR x bs/\crL x (wcK k bs)=ovL x bs
 | [],_=>⟨rfl,rfl⟩
 | b::r,k=>by
  have ih:=qeG x r (k+1);unfold wcK;rw[q20,q1W,ih.1,ih.2];unfold ovR ovL;rw[zr,zr]
  by_cases z:b.1=b.2
  ·rw[vC z]
   have n1:¬((decide (b.1<x)&&decide (x<=b.2))=true):=by simp;omega
   have n2:¬((decide (b.2<x)&&decide (x<=b.1))=true):=by simp;omega
   rw[vF n1,vF n2];exact⟨yr _,yr _⟩
  ·rw[vF z]
   unfold crR crL;rw[zr,ZU,zr,ZU];exact⟨by show 0+_+_=_;rw[yr,ZH];rfl,by show 0+_+_=_;rw[yr,ZH];rfl⟩
noncomputable def tmG(bs:List (Int×Int))(p:Int×Int):Int:=mx3 1 (ovR p.2 bs) (ovL p.2 bs)
noncomputable def emG(bs:List (Int×Int))(p:Int×Int):List Mv:=ze (tmG bs p-ovR p.2 bs).toNat (.go p.1 p.2)++ze (tmG bs p-ovL p.2 bs).toNat (.go p.2 p.1)
noncomputable def emM(g:Int)(bs:List (Int×Int)):List Mv:=(nbs (knw g bs)).flatMap (emG bs)
def q62(bs:List (Int×Int))(p:Int×Int):(ovR p.2 bs:Int)<=tmG bs p/\(ovL p.2 bs:Int)<=tmG bs p/\1<=tmG bs p:=by
 unfold tmG mx3;repeat' split
 all_goals omega
def qgr{bs:List (Int×Int)}{p:Int×Int}(hp:p.1<p.2)(x:Int):(crR x (emG bs p):Int)=(if p.1<x/\x<=p.2 then tmG bs p-ovR p.2 bs else 0)/\(crL x (emG bs p):Int)=(if p.1<x/\x<=p.2 then tmG bs p-ovL p.2 bs else 0):=by
 have t:=q62 bs p;unfold emG;rw[q20,q1W];unfold crR crL;rw[xk,xk,xk,xk];have a1:(decide ((Mv.go p.1 p.2).frm<x)&&decide (x<=(Mv.go p.1 p.2).to))=(decide (p.1<x)&&decide (x<=p.2)):=rfl;have a2:(decide ((Mv.go p.2 p.1).frm<x)&&decide (x<=(Mv.go p.2 p.1).to))=(decide (p.2<x)&&decide (x<=p.1)):=rfl;have a3:(decide ((Mv.go p.1 p.2).to<x)&&decide (x<=(Mv.go p.1 p.2).frm))=(decide (p.2<x)&&decide (x<=p.1)):=rfl;have a4:(decide ((Mv.go p.2 p.1).to<x)&&decide (x<=(Mv.go p.2 p.1).frm))=(decide (p.1<x)&&decide (x<=p.2)):=rfl;have no:¬((decide (p.2<x)&&decide (x<=p.1))=true):=by simp;omega
 rw[a1,a2,a3,a4,vF no,vF no]
 by_cases z:p.1<x/\x<=p.2
 ·have z':(decide (p.1<x)&&decide (x<=p.2))=true:=by simpa using z
  rw[vC z',vC z',vC z,vC z];omega
 ·have z':¬(decide (p.1<x)&&decide (x<=p.2))=true:=by simpa using z
  rw[vF z',vF z',vF z,vF z];omega
theorem qeH{bs:List (Int×Int)}(x:Int):∀{L:List (Int×Int)},(∀p∈L,p.1<p.2)->(crR x (L.flatMap (emG bs)):Int)=(L.map λp=>if p.1<x/\x<=p.2 then tmG bs p-ovR p.2 bs else 0).sum/\(crL x (L.flatMap (emG bs)):Int)=(L.map λp=>if p.1<x/\x<=p.2 then tmG bs p-ovL p.2 bs else 0).sum
 | [],_=>⟨rfl,rfl⟩
 | p::L,h=>by
  have ih:=qeH x (bs:=bs) (L:=L) λq hq=>h q (zG _ hq);have e:=qgr (bs:=bs) (h p zI) x;rw[wN,q20,q1W,zY,zY,yV,yV,<- ih.1,<- ih.2,<- e.1,<- e.2];exact⟨∅,∅⟩
theorem q98(x:Int):∀(r:List Int)(k:Int),(k::r).Pairwise (· < ·) ->
  (∃p∈nbs (k::r),p.1<x/\x<=p.2/\∀c:Int×Int->Int,((nbs (k::r)).map λp=>if p.1<x/\x<=p.2 then c p else 0).sum=c p) \/
  ((x<=k\/∀q∈k::r,q<x)/\∀c:Int×Int->Int,((nbs (k::r)).map λp=>if p.1<x/\x<=p.2 then c p else 0).sum=0)
 | [],k,_=>by
  right
  refine⟨?_,λc=>rfl⟩
  by_cases z:x<=k
  ·exact .inl z
  ·exact .inr λq hq=>by rw[zb.mp hq];omega
 | b::r,k,h=>by
  obtain⟨h1,h2⟩:=zZ.mp h;have kb:=h1 b zI;rcases q98 x r b h2 with⟨p,hp,p1,p2,p3⟩|⟨n1,n2⟩
  ·left
   have pb:=(q0S h2 p hp).1;have:b<=p.1:=by
    rcases zF.mp pb with q|q
    ·omega
    ·have:=(zZ.mp h2).1 _ q;omega
   refine⟨p,by rw[q0t];exact zG _ hp,p1,p2,λc=>?_⟩;rw[q0t,zY,yV,p3 c,vF (by show ¬(k<x/\x<=b);omega),Int.zero_add]
  ·by_cases z:k<x/\x<=b
   ·left
    refine⟨(k,b),by rw[q0t];exact zI,z.1,z.2,λc=>?_⟩;rw[q0t,zY,yV,n2 c,vC z,YJ]
   ·right
    refine⟨?_,λc=>?_⟩
    ·by_cases y:x<=k
     ·exact .inl y
     ·right
      intro q hq;rcases zF.mp hq with rfl|hq
      ·omega
      ·rcases n1 with n|n
       ·exact vK ⟨∅,n⟩ z
       ·exact n q hq
    ·rw[q0t,zY,yV,n2 c,vF z,Int.zero_add]
def qgU{g:Int}{bs:List (Int×Int)}(h:∀b∈bs,g<=b.1/\g<=b.2){x:Int}(hx:g<x):(crR x (wcK 0 bs++emM g bs):Int)=pu bs x/\(crL x (wcK 0 bs++emM g bs):Int)=pu bs x:=by
 have rise:=q1m g bs;have am:=q0S rise;have w:=qeG x bs 0;have e:=qeH x (bs:=bs) (L:=nbs (knw g bs)) λp hp=>(am p hp).2.2.1;obtain⟨r,er⟩:=q9W h;have pk:=q98 x r g (by rw[<- er];exact rise);rw[<- er]at pk;rw[q20,q1W,w.1,w.2];have e1:(crR x (emM g bs):Int)=_:=e.1;have e2:(crL x (emM g bs):Int)=_:=e.2;rw[wB,wB,e1,e2];rcases pk with⟨p,hp,p1,p2,p3⟩|⟨n1,n2⟩
 ·obtain⟨k1,k2,k3,k4⟩:=am p hp
  rw[p3 λp=>tmG bs p-ovR p.2 bs,p3 λp=>tmG bs p-ovL p.2 bs];have oc:=q80 (bs:=bs) p2 λb hb ne=>by
   have a:=k4 b.1 (qm.mpr (.inr ⟨b,hb,ne,.inl rfl⟩));have c:=k4 b.2 (qm.mpr (.inr ⟨b,hb,ne,.inr rfl⟩));omega
  have hi:hiB bs x=true:=by
   rcases qm.mp k2 with q|⟨b,hb,ne,q⟩
   ·omega
   ·exact q1R.mpr ⟨b,hb,ne,∅⟩
  have pe:pu bs x=tmG bs p:=by unfold pu tmG;rw[vC hi,oc.1,oc.2]
  rw[pe,oc.1,oc.2];exact⟨∅,∅⟩
 ·have all:∀q∈knw g bs,q<x:=by
   rcases n1 with n|n
   ·omega
   ·exact n
  rw[n2 λp=>tmG bs p-ovR p.2 bs,n2 λp=>tmG bs p-ovL p.2 bs];have far:∀b∈bs,b.1≠b.2->b.1<x/\b.2<x:=λb hb ne=>⟨all _ (qm.mpr (.inr ⟨b,hb,ne,.inl rfl⟩)),all _ (qm.mpr (.inr ⟨b,hb,ne,.inr rfl⟩))⟩;have hi:¬hiB bs x=true:=λq=>by
   obtain⟨b,hb,ne,k⟩:=q1R.mp q;have:=far b hb ne;omega
  have o1:ovR x bs=0:=by
   unfold ovR;refine xO.mpr λb hb=>?_;simp only[zU,decide_eq_true_eq];intro k;have:=far b hb ∅;omega
  have o2:ovL x bs=0:=by
   unfold ovL;refine xO.mpr λb hb=>?_;simp only[zU,decide_eq_true_eq];intro k;have:=far b hb ∅;omega
  unfold pu;rw[vF hi,o1,o2];exact⟨rfl,rfl⟩
inductive Rch (es:List (Int×Int)) (a:Int):Int->Prop where
 | refl:Rch es a a
 | step {b c:Int}:Rch es a b->((b,c)∈es\/(c,b)∈es)->Rch es a c
def Rch.trans{es:List (Int×Int)}{a b c:Int}(h:Rch es a b)(h':Rch es b c):Rch es a c:=by
 induction h' with
 | refl=>exact h
 | step _ e ih=>exact ih.step e
theorem Rch.symm{es:List (Int×Int)}{a b:Int}(h:Rch es a b):Rch es b a:=by
 induction h with
 | refl=>exact .refl
 | step _ e ih=>exact(Rch.refl.step e.symm).trans ih
def Rch.inv{es:List (Int×Int)}{a:Int}(P:Int->Prop)(h0:P a)(hs:∀b c,P b->((b,c)∈es\/(c,b)∈es)->P c){c:Int}(h:Rch es a c):P c:=by
 induction h with
 | refl=>exact h0
 | step _ e ih=>exact hs _ _ ih e
theorem q5s{α β:Type}(f:α->β):∀(ks:List Int)(xs:List α)(k:Int),XC ks (xs.map f) k=(XC ks xs k).map f
 | [],_,_=>rfl
 | _::_,[],_=>rfl
 | k'::ks,x::xs,k=>by
  show (if k'=k then some (f x)else XC ks (xs.map f) k)=(if k'=k then some x else XC ks xs k).map f
  by_cases z:k'=k
  ·rw[vC z,vC z];rfl
  ·rw[vF z,vF z,q5s f ks xs k]
theorem q4k{α:Type}:∀{ks:List Int}{xs:List α}{k:Int},ks.length=xs.length->(XC ks xs k).isSome=decide (k∈ks)
 | [],[],_,_=>rfl
 | [],_::_,_,h=>by simp at h
 | _::_,[],_,h=>by simp at h
 | k'::ks,x::xs,k,h=>by
  show (if k'=k then some x else XC ks xs k).isSome=_
  by_cases z:k'=k
  ·rw[vC z];simp[z]
  ·have z':¬k=k':=λy=>z y.symm
   rw[vF z,q4k ⇑h];simp[z']
theorem q5d:∀(ks:List Int)(xss:List (List Int))(a' b a:Int),XC ks (Wm ks xss a' b) a=(XC ks xss a).map λxs=>if a=a' then xs++[b]else xs
 | [],_,_,_,_=>rfl
 | _::_,[],_,_,_=>rfl
 | k::ks,x::xss,a',b,a=>by
  unfold Wm
  by_cases z:k=a'
  ·rw[vC z]
   show (if k=a then some (x++[b])else XC ks xss a)=(if k=a then some x else XC ks xss a).map _
   by_cases y:k=a
   ·rw[vC y,vC y,yq,vC (y▸z)]
   ·rw[vF y,vF y]
    have:¬a=a':=λe=>y (z.trans e.symm);cases XC ks xss a with
    | none=>rfl
    | some v=>rw[yq,vF this]
  ·rw[vF z]
   show (if k=a then some x else XC ks (Wm ks xss a' b) a)=(if k=a then some x else XC ks xss a).map _
   by_cases y:k=a
   ·have:¬a=a':=λe=>z (y.trans e)
    rw[vC y,vC y,yq,vF this]
   ·rw[vF y,vF y];exact q5d ks xss a' b a
def qfB(ts:List Int)(a:Int)(ha:a∈ts):∀(es:List (Int×Int)),∃xs,XC ts (nbT ts es) a=some xs/\∀c,c∈xs↔((a,c)∈es\/(c,a)∈es):=by
 intro es;have key:∀(post pre:List (Int×Int))(T:List (List Int))(xs:List Int),XC ts T a=some xs->(∀c,c∈xs↔((a,c)∈pre\/(c,a)∈pre))->∃xs',XC ts (post.foldl (WS ts) T) a=some xs'/\∀c,c∈xs'↔((a,c)∈pre++post\/(c,a)∈pre++post):=by
  intro post
  induction post with
  | nil=>intro pre T xs h1 h2;exact⟨xs,h1,by rw[zn];exact h2⟩
  | cons e post ih=>
   intro pre T xs h1 h2;have h3:XC ts (WS ts T e) a=some (let ys:=if a=e.1 then xs++[e.2]else xs;if a=e.2 then ys++[e.1]else ys):=by
    unfold WS;rw[q5d,q5d,h1];rfl
   obtain⟨xs',g1,g2⟩:=ih (pre++[e]) (WS ts T e) _ h3 (λc=>by
    obtain⟨e1,e2⟩:=e;have m:∀x y:Int,(x,y)∈pre++[(e1,e2)]↔(x,y)∈pre\/(x=e1/\y=e2):=λx y=>by simp
    rw[m,m]
    by_cases y1:a=e1 <;> by_cases y2:a=e2 <;> simp[y1,y2,h2] <;> (try subst y1) <;> (try subst y2) <;> simp_all <;> grind)
   refine⟨xs',g1,λc=>?_⟩;rw[g2,zN];rfl
 have h0:XC ts (ts.map λ_=>([]:List Int)) a=some []:=by
  have:(XC ts (ts.map λ_=>([]:List Int)) a).isSome=true:=by rw[q4k (by rw[zB]),vS ha]
  obtain⟨x,hx⟩:=yo.mp this;rw[q5s]at hx ⊢;obtain⟨y,hy,e⟩:=wK.mp hx;rw[hy];rfl
 obtain⟨xs',g1,g2⟩:=key es [] _ [] h0 (by simp);exact⟨xs',g1,by simpa using g2⟩
theorem q8P{fc:FT}{fb:FS}(I:Nat->WSt->Prop)(J:WSt->Prop)(stop:∀n ω,I n ω->fc ω=some false->J ω)(turn:∀n ω,I n ω->∃k,fc ω=some k/\(k=true->∃ω',fb ω=some (.nx,ω')/\∃m,m<n/\I m ω')):
  ∀(N n:Nat)(ω:WSt),I n ω->n<N->∃ω',sWh N fc fb ω=some (.nx,ω')/\J ω'
 | 0,_,_,_,z=>vK z (x8 _)
 | N+1,n,ω,h,z=>by
  obtain⟨k,e,t⟩:=turn n ω h;show ∃ω',((fc ω).bind _)=_/\_;rw[e];cases k with
  | false=>exact⟨ω,rfl,stop n ω h e⟩
  | true=>
   obtain⟨w,e2,m,hm,im⟩:=t rfl;rw[show ∀(f:Bool->Option (Out×WSt)),(some true).bind f=f true from λ_=>rfl,vC rfl,e2];exact q8P I J stop turn N m w im ∅
structure Ok (ts:List Int) (es:List (Int×Int)):Prop where
 nd:ts.Nodup
 inn:∀e∈es,e.1∈ts/\e.2∈ts
 l1:ts.length<64
 l2:es.length<=1000
noncomputable def nbD(ts:List Int)(es:List (Int×Int)):List D:=(nbT ts es).map λxs=>.lst (xs.map D.int)
def q7A{ts:List Int}{es:List (Int×Int)}(h:Ok ts es):q1D [.lst (ts.map D.int),.lst (es.map pairD2)]=↥(.dic ts (nbD ts es)):=by
 have hl:=h.l1;have e:nbM (ts.map D.int) (es.map pairD2)=some (.dic ts (nbD ts es)):=by
  unfold nbM;rw[q0e,q3f];exact vC ⟨h.nd,h.inn,∅,h.l2⟩
 show outM ((nbM (ts.map D.int) (es.map pairD2)).map _)=_;rw[e];rfl
def Rch.mem{ts:List Int}{es:List (Int×Int)}(h:Ok ts es){a c:Int}(ha:a∈ts)(r:Rch es a c):c∈ts :=
 r.inv (λx=>x∈ts) ha λb c _ e=>by
  rcases e with e|e
  ·exact(h.inn _ e).2
  ·exact(h.inn _ e).1
def W1(F:List Int):List D:=F.map λ_=>.bl true
def qcg(F:List Int):F.length=(W1 F).length:=by unfold W1;rw[zB]
def qg2{F:List Int}{c:Int}(h:c∉F):Wk F c=F++[c]/\putA F (W1 F) c (.bl true)=W1 (F++[c]):=by
 unfold Wk putA W1;rw[vF h,vF h,zc];exact⟨rfl,rfl⟩
theorem q1s:∀{F ts:List Int},F.Nodup->(∀c∈F,c∈ts)->F.length<=ts.length
 | [],_,_,_=>yE _
 | a::r,ts,hn,hs=>by
  obtain⟨h1,h2⟩:=xM.mp hn;have ha:=hs a zI;have:=q1s (F:=r) (ts:=ts.erase a) h2 λc hc=>(List.mem_erase_of_ne (show c≠a from λz=>h1 (by rw[<- z];exact hc))).mpr (hs c (zG _ hc));rw[List.length_erase_of_mem ha]at this;have hp:0<ts.length:=List.length_pos_of_mem ha;rw[zE];omega
structure GI (ts:List Int) (es:List (Int×Int)) (a:Int) (F Wt:List Int):Prop where
 nd:F.Nodup
 st:a∈F
 wl:Wt.length<=F.length
 w:∀c∈Wt,c∈F
 r:∀c∈F,Rch es a c
 cl:∀b∈F,b∉Wt->∀c,((b,c)∈es\/(c,b)∈es)->c∈F
def q9G{ts:List Int}{es:List (Int×Int)}(h:Ok ts es){a:Int}(ha:a∈ts):
  ∃F:List Int,q1x [.int a,.dic ts (nbD ts es)]=some (.fr ((XJ F).map D.int))/\F.Nodup/\∀c,c∈F↔Rch es a c:=by
 unfold q1x q3N;simp_arith[qw];have hl1:=h.l1;obtain⟨ω',e,F,x4,x5,rfl,gi⟩:=q8P (fc:=q24) (fb:=q3j)
  (λn ω=>∃(F Wt:List Int) (x4 x5:Option W),ω=[↥(.int a),↥(.dic ts (nbD ts es)),some (.od F (W1 F)),some (.ow (Wt.map D.int)),x4,x5]/\GI ts es a F Wt/\n=(ts.length-F.length)+Wt.length)
  (λω=>∃(F:List Int) (x4 x5:Option W),ω=[↥(.int a),↥(.dic ts (nbD ts es)),some (.od F (W1 F)),some (.ow []),x4,x5]/\GI ts es a F [])
  (λn ω ⟨F,Wt,x4,x5,hω,gi,hn⟩ hf=>by
   subst hω;unfold q24 at hf;simp -implicitDefEqProofs only[q53,q60,q6H,q6n,q9f,qbn,qbB,qaD,q6y,e_cw,qaY,qb8,qbT,e_sp,qaX,qb1,qbp,qbH,qbP,qbX,qaB,qbY,qbx,qbq,q7Z,q68,WE,eq_self,ZE,we,wf,reduceCtorEq,q8d,q7L,q6O,e_wd,q8f,e_wz,q6W,qbg,q8X,q8S,qaK,qbs,qb3,q7R,qax,q6r,q6b,q8Q,qba,qb5,qbG,q4U,q6u,qw,q4S,q6s,qbb,qbF,q6F,q6g,e_if,q96,q8J,qb2,q69,q6K,q5L,q4M,qaP,zCz,qaQ,q5U,q3p,q6R,q6B,qbc,e_fs,qbw,q6c,q67,e_c,e_e,e_ed,e_d,q6f,q6t,e_v,q6S,q6I,q6x,e_op,e_o2,q93,e_cl,q6j,q6v,e_ac,e_ca,e_an,qbd,qbC,qaW,e_bl,qaI,e_sl,e_po,e_pa,e_ap,qbo,q4a,q43,e_t,e_tr,q7M,e_ta,qaE,qaM,e_to,qbM,q88,e_tn,q7J,q6A,q5j,q7U,e_va,qbK,qbU,e_vo,q95,q8K,q8M,qaO,qbJ,q9b,Wh,qbE,e_ng,q6o,q6z,q6V,q4H,q8m,q90,q66,q8o,q84,q8A,q8V,q6L,q8w,qbI,qbS,qbQ,qbL,at0,at1,at2,q3t,q6Q,zBt,entry,z9,yq,zE,yT,zB,zY,yw,yv,yQ,yH,xv,xT,xU,wH,xJ,Zj,Zk,YE,YF,YG,Zl,Zm,Zn,Zo,Zp,Zq,wX,Zr,ZT,↓reduceIte,Zs,wy,wJ,xz,xm,ZK,ww,ZL,wU,Zb,yr,beq_self_eq_true,ya]at hf;cases Wt with
   | nil=>exact⟨F,x4,x5,rfl,gi⟩
   | cons w r=>cases hf)
  (λn ω ⟨F,Wt,x4,x5,hω,gi,hn⟩=>by
   subst hω;refine⟨!Wt.isEmpty,?_,λhk=>?_⟩
   ·unfold q24
    simp_arith[qw];cases Wt <;> rfl
   ·obtain⟨Wr,here,rfl⟩:∃Wr here,Wt=Wr++[here]:=by
     cases Wt with
     | nil=>cases hk
     | cons w r=>exact⟨(w::r).dropLast,(w::r).getLast (by simp),(wb _).symm⟩
    have hF:here∈F:=gi.w here (by simp);have hts:here∈ts:=(gi.r here hF).mem h ha;obtain⟨xs,v1,v2⟩:=qfB ts here hts es;have vd:XC ts (nbD ts es) here=some (.lst (xs.map D.int)):=by unfold nbD;rw[q5s,v1];rfl
    have ew:(Wr++[here]).map D.int=Wr.map D.int++[D.int here]:=by rw[zc];rfl
    have ffl:=q1s gi.nd λc hc=>(gi.r c hc).mem h ha;unfold q3j;rw[ew];simp_arith[qg5,vd];obtain⟨ω',e,F',W',x5',rfl,i1,i2,i3,i4,i5,i6,i7,i8⟩:=q0k (g:=gN 5) (b:=q3m) D.int xs
     (λpre ω=>∃(F' W':List Int) (x5:Option W),ω=[↥(.int a),↥(.dic ts (nbD ts es)),some (.od F' (W1 F')),some (.ow (W'.map D.int)),↥(.int here),x5]/\F'.Nodup/\(∀c∈F,c∈F')/\(∀c∈Wr,c∈W')/\(∀c∈W',c∈F')/\(∀c∈F',Rch es a c)/\(∀c∈F',c∈F\/c∈W')/\(∀c∈pre,c∈F')/\F'.length+Wr.length=F.length+W'.length)
     (λpre c post ω hd ⟨F',W',x5,hω,i1,i2,i3,i4,i5,i6,i7,i8⟩=>by
      subst hω;refine⟨_,rfl,?_⟩;have hcx:c∈xs:=by rw[hd];simp
      have hcr:Rch es a c:=(gi.r here hF).step ((v2 c).mp hcx);have fl:=q1s i1 λc hc=>(i5 c hc).mem h ha;have hs:(XC F' (W1 F') c).isSome=decide (c∈F'):=q4k (qcg F');unfold q3m
      by_cases hc:c∈F'
      ·simp_arith[hs,hc,decide_true]
       exact⟨F',W',_,rfl,i1,i2,i3,i4,i5,i6,λx hx=>(by rcases zT.mp hx with y|y;exact i7 x y;cases zb.mp y;exact hc),i8⟩
      ·obtain⟨p1,p2⟩:=qg2 hc
       have hwl:(W'.map D.int).length<1000000:=by
        rw[zB];have:=gi.wl;rw[zC,zx]at this;omega
       simp_arith[hs,hc,decide_false,qfQ (show F'.length<1000000 by omega),p1,p2,zCz hwl];refine⟨F'++[c],W'++[c],_,by rw[zc];rfl,?_,λx hx=>za _ (i2 x hx),λx hx=>za _ (i3 x hx),λx hx=>?_,λx hx=>?_,λx hx=>?_,λx hx=>?_,by rw[zC,zC,zx];omega⟩
       ·rw[xl]
        exact⟨i1,by simp,λx hx y hy z=>by cases zb.mp hy;exact hc (z▸hx)⟩
       ·rcases zT.mp hx with y|y
        ·exact za _ (i4 x y)
        ·exact zW _ y
       ·rcases zT.mp hx with y|y
        ·exact i5 x y
        ·cases zb.mp y;exact hcr
       ·rcases zT.mp hx with y|y
        ·exact(i6 x y).elim .inl λz=>.inr (za _ z)
        ·exact .inr (zW _ y)
       ·rcases zT.mp hx with y|y
        ·exact za _ (i7 x y)
        ·exact zW _ y)
     (ω:=[↥(.int a),↥(.dic ts (nbD ts es)),some (.od F (W1 F)),some (.ow (Wr.map D.int)),↥(.int here),x5])
     ⟨F,Wr,x5,rfl,gi.nd,λc hc=>hc,λc hc=>hc,λc hc=>gi.w c (za _ hc),gi.r,λc hc=>.inl hc,λc hc=>(by cases hc),rfl⟩
    have fl':=q1s i1 λc hc=>(i5 c hc).mem h ha;simp_arith[e];have wl0:=gi.wl;rw[zC,zx]at wl0;rw[zC,zx]at hn;refine⟨_,rfl,(ts.length-F'.length)+W'.length,∅,F',W',_,_,rfl,⟨i1,i2 a gi.st,∅,i4,i5,λb hb hw c hc=>?_⟩,rfl⟩
    ·rcases i6 b hb with y|y
     ·by_cases z:b=here
      ·subst z
       exact i7 c ((v2 c).mpr hc)
      ·exact i2 c (gi.cl b y (λm=>by rcases zT.mp m with m|m;exact hw (i3 b m);exact z (zb.mp m)) c hc)
     ·exact vK y hw)
  1000000 ((ts.length-1)+1) [↥(.int a),↥(.dic ts (nbD ts es)),some (.od [a] [.bl true]),some (.ow [.int a]),none,none]
  ⟨[a],[a],none,none,rfl,⟨by simp,by simp,zM _,λc hc=>hc,λc hc=>by cases zb.mp hc;exact .refl,λb hb hw=>vK hb hw⟩,rfl⟩
  ∅
 have fl:=q1s gi.nd λc hc=>(gi.r c hc).mem h ha;simp_arith[e,qet (show F.length<64 by omega)];exact⟨F,rfl,gi.nd,λc=>⟨gi.r c,λr=>r.inv (λx=>x∈F) gi.st λb c hb hc=>gi.cl b hb (by simp) c hc⟩⟩
structure Cls (ts:List Int) (es:List (Int×Int)) (g:List Int) (a:Int):Prop where
 inn:a∈ts
 up:g.Pairwise (· < ·)
 mem:∀c,c∈g↔Rch es a c
 hd:g.head?=some a
noncomputable def lst1(f:Int->Int)(ts:List Int)(a:Int):Bool:=ts.all λc=>f c != f a || decide (a<=c)
noncomputable def many(f:Int->Int)(ts:List Int):Nat:=(ts.filter (lst1 f ts)).length
def qgp{ts:List Int}(P:Int->Prop)[DecidablePred P]{p:Int}(hp:p∈ts)(h:P p):∃a∈ts,P a/\∀c∈ts,P c->a<=c:=by
 induction ts with
 | nil=>cases hp
 | cons t r ih=>
  by_cases z:∃x∈r,P x
  ·obtain⟨x,hx,px⟩:=z
   have ih':∃a∈r,P a/\∀c∈r,P c->a<=c:=by
    clear ih hp
    induction r generalizing x with
    | nil=>cases hx
    | cons u r ih2=>
     by_cases y:∃w∈r,P w
     ·obtain⟨w,hw,pw⟩:=y
      obtain⟨a,a1,a2,a3⟩:=ih2 w hw pw
      by_cases pu:P u
      ·by_cases l:u<=a
       ·exact⟨u,zI,pu,λc hc pc=>(zF.mp hc).elim (λe=>by rw[e];exact yI _) λhc=>yW l (a3 c hc pc)⟩
       ·exact⟨a,zG _ a1,a2,λc hc pc=>(zF.mp hc).elim (λe=>by rw[e];omega) λhc=>a3 c hc pc⟩
      ·exact⟨a,zG _ a1,a2,λc hc pc=>(zF.mp hc).elim (λe=>vK (e▸pc) pu) λhc=>a3 c hc pc⟩
     ·have pu:P u:=(zF.mp hx).elim (λe=>e▸px) λhx=>vK ⟨x,hx,px⟩ y
      exact⟨u,zI,pu,λc hc pc=>(zF.mp hc).elim (λe=>by rw[e];exact yI _) λhc=>vK ⟨c,hc,pc⟩ y⟩
   obtain⟨a,a1,a2,a3⟩:=ih'
   by_cases pt:P t
   ·by_cases l:t<=a
    ·exact⟨t,zI,pt,λc hc pc=>(zF.mp hc).elim (λe=>by rw[e];exact yI _) λhc=>yW l (a3 c hc pc)⟩
    ·exact⟨a,zG _ a1,a2,λc hc pc=>(zF.mp hc).elim (λe=>by rw[e];omega) λhc=>a3 c hc pc⟩
   ·exact⟨a,zG _ a1,a2,λc hc pc=>(zF.mp hc).elim (λe=>vK (e▸pc) pt) λhc=>a3 c hc pc⟩
  ·have pt:P t:=(zF.mp hp).elim (λe=>e▸h) λhx=>vK ⟨p,hx,h⟩ z
   exact⟨t,zI,pt,λc hc pc=>(zF.mp hc).elim (λe=>by rw[e];exact yI _) λhc=>vK ⟨c,hc,pc⟩ z⟩
noncomputable def Y9(m:Mv):Int×Int:=(m.frm,m.to)
structure Ym (g:Int) (bs:List (Int×Int)) (ms:List Mv):Prop where
 cr:∀x,g<x->(crR x ms:Int)=pu bs x/\(crL x ms:Int)=pu bs x
 inn:∀m∈ms,m.frm∈knw g bs/\m.to∈knw g bs/\m.frm≠m.to
 go:∀m∈ms,(∃p q,m=.go p q)->∀y∈knw g bs,(y<=m.frm/\y<=m.to)\/(m.frm<=y/\m.to<=y)
theorem qbA{g:Int}{bs0:List (Int×Int)}:∀(bs:List (Int×Int))(k:Nat),(∀b∈bs,b∈bs0)->∀m∈wcK k bs,(∃j p q,m=.box j p q)/\m.frm∈knw g bs0/\m.to∈knw g bs0/\m.frm≠m.to
 | [],_,_,m,hm=>by cases hm
 | b::r,k,h,m,hm=>by
  unfold wcK at hm;rcases zT.mp hm with q|q
  ·split at q
   ·cases q
   ·rename_i ne
    rw[zb.mp q];have hb:=h b zI;exact⟨⟨_,_,_,rfl⟩,qm.mpr (.inr ⟨b,hb,ne,.inl rfl⟩),qm.mpr (.inr ⟨b,hb,ne,.inr rfl⟩),ne⟩
  ·exact qbA r (k+1) (λd hd=>h d (zG _ hd)) m q
def q7H{g:Int}{bs:List (Int×Int)}:∀m∈emM g bs,∃p∈nbs (knw g bs),m=.go p.1 p.2\/m=.go p.2 p.1:=λm hm=>by
 obtain⟨p,hp,q⟩:=YQ.mp hm;refine⟨p,hp,?_⟩;rcases zT.mp q with q|q
 ·exact .inl (wz q)
 ·exact .inr (wz q)
def qdW{g:Int}{bs:List (Int×Int)}(h:∀b∈bs,g<=b.1/\g<=b.2):Ym g bs (wcK 0 bs++emM g bs):=by
 have am:=q0S (q1m g bs);refine⟨λx hx=>qgU h hx,λm hm=>?_,λm hm hg y hy=>?_⟩
 ·rcases zT.mp hm with q|q
  ·exact(qbA bs 0 (λb hb=>hb) m q).2
  ·obtain⟨p,hp,e|e⟩:=q7H m q
   ·obtain⟨k1,k2,k3,_⟩:=am p hp
    rw[e];exact⟨k1,k2,λz=>by have:p.1=p.2:=z;omega⟩
   ·obtain⟨k1,k2,k3,_⟩:=am p hp
    rw[e];exact⟨k2,k1,λz=>by have:p.2=p.1:=z;omega⟩
 ·rcases zT.mp hm with q|q
  ·obtain⟨⟨j,u,v,e⟩,_⟩:=qbA (g:=g) bs 0 (λb hb=>hb) m q
   obtain⟨a,b,e2⟩:=hg;rw[e]at e2;cases e2
  ·obtain⟨p,hp,e|e⟩:=q7H m q
   ·obtain⟨_,_,k3,k4⟩:=am p hp
    have:=k4 y hy;rw[e];show (y<=p.1/\y<=p.2)\/(p.1<=y/\p.2<=y);omega
   ·obtain⟨_,_,k3,k4⟩:=am p hp
    have:=k4 y hy;rw[e];show (y<=p.2/\y<=p.1)\/(p.2<=y/\p.1<=y);omega
def ind3{a p b:Int}(x:Int)(h1:a<p)(h2:p<b):((if a<x/\x<=p then 1 else 0)+(if p<x/\x<=b then 1 else 0):Int)=if a<x/\x<=b then 1 else 0:=by
 by_cases c1:a<x
 ·by_cases c2:x<=p
  ·rw[vC ⟨c1,c2⟩,vF (λq=>vK q.1 (Yd.mpr c2)),vC ⟨c1,yW c2 (xD h2)⟩];rfl
  ·rw[vF (λq=>c2 q.2)]
   by_cases c3:x<=b
   ·rw[vC ⟨Int.not_le.mp c2,c3⟩,vC ⟨c1,c3⟩];rfl
   ·rw[vF (λq=>c3 q.2),vF (λq=>c3 q.2)];rfl
 ·rw[vF (λq=>c1 q.1),vF (λq=>c1 (YA h1 q.1)),vF (λq=>c1 q.1)];rfl
def ind0{a b:Int}(x:Int)(h:a<b):(if b<x/\x<=a then 1 else 0:Int)=0:=vF λq=>vK (Int.lt_of_lt_of_le q.1 q.2) (Yd.mpr (xD h))
def qai{a b p:Int}(h:(a<p/\p<b)\/(b<p/\p<a))(x:Int):((if a<x/\x<=p then 1 else 0)+(if p<x/\x<=b then 1 else 0):Int)=if a<x/\x<=b then 1 else 0:=by
 rcases h with⟨h1,h2⟩|⟨h1,h2⟩
 ·exact ind3 x h1 h2
 ·rw[ind0 x h2,ind0 x h1,ind0 x (YA h1 h2)];rfl
def qgQ{k:Nat}{a b p:Int}(h:(a<p/\p<b)\/(b<p/\p<a))(u v:List Mv)(x:Int):crR x (u++[.box k a p,.box k p b]++v)=crR x (u++.box k a b::v)/\crL x (u++[.box k a p,.box k p b]++v)=crL x (u++.box k a b::v):=by
 have e1:(crR x (.box k a b::v):Int)=(if a<x/\x<=b then 1 else 0)+crR x v:=q1X x (.box k a b) v;have e2:(crL x (.box k a b::v):Int)=(if b<x/\x<=a then 1 else 0)+crL x v:=q21 x (.box k a b) v;have u1:(crR x [.box k a p,.box k p b]:Int)=(if a<x/\x<=p then 1 else 0)+crR x [.box k p b]:=q1X x (.box k a p) [.box k p b];have u2:(crR x [.box k p b]:Int)=(if p<x/\x<=b then 1 else 0)+((0:Nat):Int):=q1X x (.box k p b) [];have u3:(crL x [.box k a p,.box k p b]:Int)=(if p<x/\x<=a then 1 else 0)+crL x [.box k p b]:=q21 x (.box k a p) [.box k p b];have u4:(crL x [.box k p b]:Int)=(if b<x/\x<=p then 1 else 0)+((0:Nat):Int):=q21 x (.box k p b) [];have i1:=qai h x;have i2:=qai (a:=b) (b:=a) h.symm x;rw[<- i1]at e1;rw[<- i2]at e2;clear h i1 i2;rw[q20,q20,q20,q1W,q1W,q1W];generalize (if a<x/\x<=p then 1 else 0:Int)=w1 at *;generalize (if p<x/\x<=b then 1 else 0:Int)=w2 at *;generalize (if b<x/\x<=p then 1 else 0:Int)=w3 at *;generalize (if p<x/\x<=a then 1 else 0:Int)=w4 at *;exact⟨∅,∅⟩
def Ym.cut{g:Int}{bs:List (Int×Int)}{u v:List Mv}{k:Nat}{a b p:Int}(Y:Ym g bs (u++.box k a b::v))(hp:p∈knw g bs)(h:(a<p/\p<b)\/(b<p/\p<a)):Ym g bs (u++[.box k a p,.box k p b]++v):=by
 have ab:=Y.inn (.box k a b) (by simp);have old:∀m∈u++[Mv.box k a p,.box k p b]++v,m=.box k a p\/m=.box k p b\/m∈u++.box k a b::v:=λm hm=>by
  simp only[zT,zF,zg,or_false]at hm ⊢;rcases hm with (q|q|q)|q
  ·exact .inr (.inr (.inl q))
  ·exact .inl q
  ·exact .inr (.inl q)
  ·exact .inr (.inr (.inr (.inr q)))
 refine⟨λx hx=>?_,λm hm=>?_,λm hm hg=>?_⟩
 ·have:=qgQ (k:=k) h u v x
  rw[this.1,this.2];exact Y.cr x hx
 ·rcases old m hm with q|q|q
  ·rw[q];exact⟨ab.1,hp,λe=>by have:a=p:=e;omega⟩
  ·rw[q];exact⟨hp,ab.2.1,λe=>by have:p=b:=e;omega⟩
  ·exact Y.inn m q
 ·rcases old m hm with q|q|q
  ·obtain⟨c,d,e⟩:=hg;rw[q]at e;cases e
  ·obtain⟨c,d,e⟩:=hg;rw[q]at e;cases e
  ·exact Y.go m q hg
def Ym.more{g:Int}{bs:List (Int×Int)}(hb:∀b∈bs,g<=b.1/\g<=b.2){ms:List Mv}(Y:Ym g bs ms){y:Int}(hy:y∈knw g bs)(ny:¬Rch (ms.map Y9) g y):∃m∈ms,∃p∈knw g bs,Rch (ms.map Y9) g m.frm/\¬Rch (ms.map Y9) g p/\((m.frm<p/\p<m.to)\/(m.to<p/\p<m.frm)):=by
 have ge:∀z∈knw g bs,g<=z:=λz hz=>by
  rcases qm.mp hz with q|⟨b,k,_,q|q⟩
  ·omega
  ·rw[q];exact(hb b k).1
  ·rw[q];exact(hb b k).2
 classical
 obtain⟨p,p1,p2,p3⟩:=qgp (ts:=knw g bs) (λz=>¬Rch (ms.map Y9) g z) hy ny;have gp:g<p:=by
  have:=ge p p1;rcases Int.lt_or_eq_of_le this with q|q
  ·exact q
  ·exact vK (by rw[<- q];exact .refl) p2
 have hi:hiB bs p=true:=by
  rcases qm.mp p1 with q|⟨b,k,ne,q⟩
  ·omega
  ·exact q1R.mpr ⟨b,k,ne,∅⟩
 have one:1<=pu bs p:=by
  unfold pu;rw[vC hi];unfold mx3;repeat' split
  all_goals omega
 have c:=(Y.cr p gp).1;have pos:0<crR p ms:=∅
 unfold crR at pos;obtain⟨m,hm,k⟩:=Zg.mp pos;simp only[zU,decide_eq_true_eq]at k;obtain⟨i1,i2,_⟩:=Y.inn m hm;have rf:Rch (ms.map Y9) g m.frm:=by
  by_cases z:Rch (ms.map Y9) g m.frm
  ·exact z
  ·have:=p3 _ i1 z;omega
 have rt:Rch (ms.map Y9) g m.to:=rf.step (.inl (yA.mpr ⟨m,hm,rfl⟩));have ne:m.to≠p:=λe=>p2 (e▸rt);exact⟨m,hm,p,p1,rf,p2,.inl ⟨k.1,∅⟩⟩
theorem qdm(g:Int)(N:Nat):∀ms:List Mv,(∀m∈ms,(g<=m.frm/\m.frm<=g+N)/\(g<=m.to/\m.to<=g+N))->su (λx=>(crR x ms:Int)+crL x ms) g N=(ms.map zCi).sum
 | [],_=>by
  have:∀N:Nat,su (λx=>(crR x []:Int)+crL x []) g N=0:=λN=>by
   induction N with
   | zero=>rfl
   | succ n ih=>show su _ g n+_=0;rw[ih];rfl
  rw[this];rfl
 | m::ms,h=>by
  have ih:=qdm g N ms λq hq=>h q (zG _ hq);have hm:=h m zI;have e:(λx=>(crR x (m::ms):Int)+crL x (m::ms))=λx=>((if m.frm<x/\x<=m.to then 1 else 0)+(if m.to<x/\x<=m.frm then 1 else 0))+((crR x ms:Int)+crL x ms):=by
   funext x;rw[q1X,q21];omega
  rw[e,q4I,q4I,zY,yV,ih];have a:=q8N m.frm m.to g N;have b:=q8N m.to m.frm g N;have c:zCi m=if m.to-m.frm<0 then -(m.to-m.frm)else m.to-m.frm:=rfl
  rw[c]
  split <;> omega
def Ym.len{g:Int}{bs:List (Int×Int)}{ms:List Mv}(h:∀b∈bs,g<=b.1/\g<=b.2)(Y:Ym g bs ms):(ms.map zCi).sum=yl g bs:=by
 obtain⟨N,hN⟩:∃N:Nat,∀b∈bs,b.1<=g+N/\b.2<=g+N:=by
  clear Y h
  induction bs with
  | nil=>exact⟨0,by simp⟩
  | cons b bs ih=>
   obtain⟨N,hN⟩:=ih;refine⟨N+(b.1-g).toNat+(b.2-g).toNat,λd hd=>?_⟩;rcases zF.mp hd with rfl|hd
   ·omega
   ·have:=hN d hd;omega
 have inK:∀z∈knw g bs,g<=z/\z<=g+N:=λz hz=>by
  rcases qm.mp hz with q|⟨b,k,_,q|q⟩
  ·omega
  ·rw[q];exact⟨(h b k).1,(hN b k).1⟩
  ·rw[q];exact⟨(h b k).2,(hN b k).2⟩
 rw[<- qdm g N ms λm hm=>⟨inK _ (Y.inn m hm).1,inK _ (Y.inn m hm).2.1⟩,qhr h N hN];have tw:2*su (pu bs) g N=su (λx=>pu bs x+pu bs x) g N:=by rw[q4I];omega
 rw[tw];exact q87 λx hx _=>by rw[(Y.cr x hx).1,(Y.cr x hx).2]
noncomputable def enK:Nat->List (Int×Int)->List (Nat×Int×Int)
 | _,[]=>[]
 | k,b::r=>(k,b.1,b.2)::enK (k+1) r
noncomputable def enD(q:Nat×Int×Int):D:=.tup [.int (q.1:Int),.tup [.int q.2.1,.int q.2.2]]
theorem qeK:∀(bs:List (Int×Int))(k:Nat),Wa k (bs.map Y4)=(enK k bs).map enD
 | [],_=>rfl
 | b::r,k=>by
  show D.tup [.int (k:Int),Y4 b]::Wa (k+1) (r.map Y4)=_;rw[qeK r (k+1)];rfl
theorem qcP:∀(bs:List (Int×Int))(k:Nat),(enK k bs).length=bs.length
 | [],_=>rfl
 | b::r,k=>by show (enK (k+1) r).length+1=_;rw[qcP r (k+1)];rfl
theorem qeA:∀(bs:List (Int×Int))(k:Nat),((enK k bs).filter λq=>!(q.2.1==q.2.2)).map (λq=>mvD (.box q.1 q.2.1 q.2.2))=(wcK k bs).map mvD
 | [],_=>rfl
 | b::r,k=>by
  have ih:=qeA r (k+1);show (((k,b.1,b.2)::enK (k+1) r).filter λq=>!(q.2.1==q.2.2)).map _=((if b.1=b.2 then []else [Mv.box k b.1 b.2])++wcK (k+1) r).map mvD;rw[yK,zc,<- ih]
  by_cases z:b.1=b.2
  ·rw[vF ⇑z,vC z];rfl
  ·rw[vC ⇑z,vF z];rfl
def qgF{bs:List (Int×Int)}(hb:bs.length<=30):q0c [.lst (bs.map Y4)]=some (.fr ((wcK 0 bs).map mvD)):=by
 unfold q0c q1B;have en:=qeK bs 0;have kl:((enK 0 bs).map enD).length<=1000000:=by rw[zB,qcP];omega
 have cm:=q2i (g:=gT 2 (Yw (gN 0) (Yw (gN 1) Xr))) (c:=q0s) (f:=q0z) (λw=>∃a b,w=[a,b]) (λq=>!(q.2.1==q.2.2)) enD (λq=>mvD (.box q.1 q.2.1 q.2.2)) (enK 0 bs) (ω:=[none,none]) ⟨_,_,rfl⟩ λq _ w hw=>by
  obtain⟨a,b,rfl⟩:=hw;refine⟨_,rfl,⟨_,_,rfl⟩,?_,λ_=>?_⟩
  ·show q0s [↥(.int (q.1:Int)),↥(.tup [.int q.2.1,.int q.2.2])]=_
   unfold q0s;simp_arith[qw]
  ·show q0z [↥(.int (q.1:Int)),↥(.tup [.int q.2.1,.int q.2.2])]=_
   unfold q0z;simp_arith[qw];rfl
 rw[qeA]at cm;simp_arith[en,Wh kl,inW,Wv,cm]
def qaS(m:Mv):oSl (mvD m) (some (-2)) none=↥(.tup [.int m.frm,.int m.to]):=by cases m <;> rfl
def q9O{ms:List Mv}(hl:ms.length<=9000):q0P [.lst (ms.map mvD)]=some (.fr ((ms.map Y9).map pairD2)):=by
 unfold q0P q42;have kl:(ms.map mvD).length<=1000000:=by rw[zB];omega
 have cm:=q05 (i:=0) (f:=q3z) mvD (λm=>pairD2 (Y9 m)) ms (ω:=[none]) (λm _=>by
  unfold q3z;simp_arith[qaS];rfl)
 have mm:ms.map (λm=>pairD2 (Y9 m))=(ms.map Y9).map pairD2:=by rw[yg];rfl
 rw[mm]at cm;simp_arith[Wh kl,inW,Wv,cm]
theorem qeD{α:Type}(d:α):∀n:Nat,(ze n [d]).flatten=ze n d
 | 0=>rfl
 | n+1=>by rw[yH,yP,qeD d n,yH];rfl
def qbD{bs:List (Int×Int)}(hb:bs.length<=20)(p:Int×Int):tmG bs p<=20:=by
 have l1:ovR p.2 bs<=bs.length:=yn;have l2:ovL p.2 bs<=bs.length:=yn;unfold tmG mx3;repeat' split
 all_goals omega
theorem q7T{bs:List (Int×Int)}(hb:bs.length<=20):∀L:List (Int×Int),(L.flatMap (emG bs)).length<=40*L.length
 | []=>yE _
 | p::L=>by
  have ih:=q7T hb L;have t:=qbD hb p;have g:=q62 bs p;have e:(emG bs p).length<=40:=by unfold emG;rw[zC,zw,zw];omega
  rw[wN,zC,zE];omega
def qgH{g:Int}{bs:List (Int×Int)}(hb:bs.length<=20)(h:∀b∈bs,g<=b.1/\g<=b.2):q0A [.int g,.lst (bs.map Y4)]=some (.fr ((emM g bs).map mvD)):=by
 unfold q0A q2h emM;have hp:=q7h g bs hb h;have ed:(zAJ (knw g bs) bs).map tri=(nbs (knw g bs)).map (λp=>D.tup [.int p.1,.int p.2,.int (tmG bs p)]):=by unfold zAJ;rw[yg];rfl
 rw[ed]at hp;have hp':q0N [.int g,.lst (bs.map Y4)]=some (.fr ((nbs (knw g bs)).map (λp=>D.tup [.int p.1,.int p.2,.int (tmG bs p)]))):=hp;have am:=q0S (q1m g bs);have nl:(nbs (knw g bs)).length<=50:=by
  rw[q2p];have h1:(knw g bs).length<=(We g bs).length:=q2a _;have:=q1j g bs;omega
 clear hp ed;generalize nbs (knw g bs)=L at hp' am nl ⊢;simp_arith[hp'];obtain⟨ω',e,x3,x4,x5,x6,rfl⟩:=q0k (g:=gT 3 (Yw (gN 3) (Yw (gN 4) (Yw (gN 5) Xr)))) (b:=q1P) (λp:Int×Int=>D.tup [.int p.1,.int p.2,.int (tmG bs p)]) L
  (λpre ω=>∃x3 x4 x5 x6:Option W,ω=[↥(.int g),↥(.lst (bs.map Y4)),some (.ow ((pre.flatMap (emG bs)).map mvD)),x3,x4,x5,x6])
  (λpre p post ω hd ⟨x3,x4,x5,x6,hω⟩=>by
   subst hω;refine⟨_,rfl,?_⟩;have hp:p∈L:=by rw[hd];simp
   obtain⟨k1,k2,k3,k4⟩:=am p hp;obtain⟨r1,r2⟩:=q5y (K:=knw g bs) (bs:=bs) k3 (λb hb z=>⟨k4 b.1 (qm.mpr (.inr ⟨b,hb,z,.inl rfl⟩)),k4 b.2 (qm.mpr (.inr ⟨b,hb,z,.inr rfl⟩))⟩);have c:=q61 (bs:=bs) (q:=p) ∅;rw[r1,r2,show Y4 p=D.tup [.int p.1,.int p.2]from rfl]at c;have t:=q62 bs p;have t2:=qbD hb p;have hr1:=λd:D=>qcm (ds:=[d]) (k:=tmG bs p-ovR p.2 bs) ∅ ∅ (by simp);have hr2:=λd:D=>qcm (ds:=[d]) (k:=tmG bs p-ovL p.2 bs) ∅ ∅ (by simp);have el:=q7T (bs:=bs) hb pre;have pl:pre.length<=L.length:=by rw[hd,zC];omega
   have l1:((pre.flatMap (emG bs)).map mvD).length+(ze (tmG bs p-ovR p.2 bs).toNat (D.tup [.str "go", .int p.1,.int p.2])).length<=1000000:=by rw[zB,zw];omega
   have l2:((pre.flatMap (emG bs)).map mvD++ze (tmG bs p-ovR p.2 bs).toNat (D.tup [.str "go", .int p.1,.int p.2])).length+(ze (tmG bs p-ovL p.2 bs).toNat (D.tup [.str "go", .int p.2,.int p.1])).length<=1000000:=by rw[zC,zB,zw,zw];omega
   have ea:(pre.flatMap (emG bs)).map mvD++ze (tmG bs p-ovR p.2 bs).toNat (D.tup [.str "go", .int p.1,.int p.2])++ze (tmG bs p-ovL p.2 bs).toNat (D.tup [.str "go", .int p.2,.int p.1])=((pre++[p]).flatMap (emG bs)).map mvD:=by
    rw[Zh,ZN,zc,zN]
    congr 1
    unfold emG;rw[zc,Zy,Zy];rfl
   unfold q1P;simp_arith[c,hr1,hr2,qeD,q3p l1,q3p l2,ea];exact⟨_,_,_,_,rfl⟩)
  (ω:=[↥(.int g),↥(.lst (bs.map Y4)),some (.ow []),none,none,none,none]) ⟨none,none,none,none,rfl⟩
 simp_arith[e]
noncomputable def Wf(ms:List Mv):List Int:=ms.flatMap λm=>[m.frm,m.to]
theorem q5n:∀ms:List Mv,(Wf ms).length=2*ms.length
 | []=>rfl
 | m::ms=>by
  have ih:=q5n ms;show ([m.frm,m.to]++Wf ms).length=_;rw[zC,ih,zE];simp only[zE,yT];omega
def q16{ms:List Mv}{y:Int}:y∈Wf ms↔∃m∈ms,y=m.frm\/y=m.to:=by unfold Wf;simp
def q3H{ms:List Mv}(hl:ms.length<=1500)(hf:(Xh (Wf ms)).length<64):q0r [.lst (ms.map mvD)]=some (.fr ((Xh (Wf ms)).map D.int)):=by
 unfold q0r q4o;simp_arith[qw];obtain⟨ω',e,x2,rfl⟩:=q0k (g:=gN 2) (b:=q3Q) mvD ms
  (λpre ω=>∃x2:Option W,ω=[↥(.lst (ms.map mvD)),some (.ow ((Wf pre).map D.int)),x2])
  (λpre m post ω hd ⟨x2,hω⟩=>by
   subst hω;refine⟨_,rfl,?_⟩;have pl:pre.length<=ms.length:=by rw[hd,zC];omega
   have el:=q5n pre;have l1:((Wf pre).map D.int).length+[D.int m.frm,D.int m.to].length<=1000000:=by
    rw[zB];simp only[zE,yT];omega
   have ea:(Wf pre).map D.int++[D.int m.frm,D.int m.to]=(Wf (pre++[m])).map D.int:=by
    unfold Wf;rw[Zh,ZN,zc];rfl
   unfold q3Q;simp_arith[qaS,q5U l1,ea];exact⟨_,rfl⟩)
  (ω:=[↥(.lst (ms.map mvD)),some (.ow []),none]) ⟨none,rfl⟩
 have hs:Xy (vOf (Yr 1)) [↥(.lst (ms.map mvD)),some (.ow ((Wf ms).map D.int)),x2]=some (.fr ((Xh (Wf ms)).map D.int)):=by
  show Wc (.lst ((Wf ms).map D.int))=_;show (intsOf ((Wf ms).map D.int)).bind _=_;rw[q0e];exact vC ⟨hf,by rw[q5n];omega⟩
 simp_arith[e,hs]
noncomputable def amB(p:Int)(m:Mv):Bool:=decide (zAd [m.frm,m.to]<p)&&decide (p<zAc [m.frm,m.to])
def q6q{p:Int}{m:Mv}:amB p m=true↔(m.frm<p/\p<m.to)\/(m.to<p/\p<m.frm):=by
 unfold amB;rw[zU,decide_eq_true_eq,decide_eq_true_eq];show (if m.to<=m.frm then m.to else m.frm)<p/\p<(if m.frm<=m.to then m.to else m.frm)↔_
 split <;> split <;> omega
def q6N(p:Int)(m:Mv):q1g [.int p,mvD m]=↥(.bl (amB p m)):=by
 unfold q1g q37 amB;have h1:zBB [.tup [.int m.frm,.int m.to]]=↥(.int (zAd [m.frm,m.to])):=qab (ns:=[m.frm,m.to]) (by simp);have h2:zAU [.tup [.int m.frm,.int m.to]]=↥(.int (zAc [m.frm,m.to])):=q6J (ns:=[m.frm,m.to]) (by simp);cases z:decide (zAd [m.frm,m.to]<p) <;> simp_arith[qaS,h1,h2,z]
def qeS(k:Nat)(a b p:Int):q0T [mvD (.box k a b),.int p]=some (.fr ([Mv.box k a p,.box k p b].map mvD)):=by
 unfold q0T q2R;have h1:oSl (mvD (.box k a b)) none (some 3)=some (.sh (.tup [.str "box", .int k,.int a])):=rfl;have h2:oSl (mvD (.box k a b)) none (some 2)=some (.sh (.tup [.str "box", .int k])):=rfl;have h3:WR (.tup [.str "box", .int k,.int a]) (.tup [.int p])=some (.sh (mvD (.box k a p))):=rfl;have h4:WR (.tup [.str "box", .int k]) (.tup [.int p,.int b])=some (.sh (mvD (.box k p b))):=rfl;have h5:oIx (mvD (.box k a b)) (.int 3)=some (.sh (.int b)):=rfl;simp_arith[h1,h2,h3,h4,h5]
theorem q3D{α:Type}{g:FG}{b:FS}{r:O}(F:α->D)(I:WSt->Prop):∀(pre:List α)(x:α)(post:List α)(ω:WSt),I ω ->
  (∀y∈pre,∀ω,I ω->∃w,g (F y) ω=some w/\zAS (b w) I) ->
  (∀ω,I ω->∃w,g (F x) ω=some w/\∃w',b w=some (.rt r,w'))->∃w',Wg g b ((pre++x::post).map F) ω=some (.rt r,w')
 | [],x,post,ω,hi,_,hx=>by
  obtain⟨w,h1,w',h2⟩:=hx ω hi;refine⟨w',?_⟩;rw[yQ,zY,Wg,h1,z9,h2];rfl
 | y::pre,x,post,ω,hi,hp,hx=>by
  obtain⟨w,h1,h2⟩:=hp y zI ω hi;rw[yv,zY,Wg,h1,z9]
  match hb:b w,h2 with
  | some (.nx,ω2),h2=>exact q3D F I pre x post ω2 h2 (λz hz=>hp z (zG _ hz)) hx
  | some (.ct,ω2),h2=>exact q3D F I pre x post ω2 h2 (λz hz=>hp z (zG _ hz)) hx
theorem q35{α:Type}(P:α->Bool):∀{l:List α},(∃x∈l,P x=true)->∃u x v,l=u++x::v/\P x=true/\∀y∈u,P y=false
 | [],h=>by obtain⟨x,hx,_⟩:=h;cases hx
 | a::l,h=>by
  cases z:P a with
  | true=>exact⟨[],a,l,rfl,z,λy hy=>by cases hy⟩
  | false=>
   obtain⟨x,hx,px⟩:=h;have hx':x∈l:=(zF.mp hx).resolve_left λe=>by rw[e,z]at px;cases px
   obtain⟨u,y,v,e,py,hu⟩:=q35 P ⟨x,hx',px⟩;refine⟨a::u,y,v,by rw[e];rfl,py,λw hw=>?_⟩;rcases zF.mp hw with rfl|hw
   ·exact z
   ·exact hu w hw
noncomputable def enM:Nat->List Mv->List (Nat×Mv)
 | _,[]=>[]
 | k,m::r=>(k,m)::enM (k+1) r
noncomputable def enMD(q:Nat×Mv):D:=.tup [.int (q.1:Int),mvD q.2]
theorem q89:∀(ms:List Mv)(k:Nat),Wa k (ms.map mvD)=(enM k ms).map enMD
 | [],_=>rfl
 | m::r,k=>by
  show D.tup [.int (k:Int),mvD m]::Wa (k+1) (r.map mvD)=_;rw[q89 r (k+1)];rfl
theorem qa8(m:Mv)(v:List Mv):∀(u:List Mv)(k:Nat),enM k (u++m::v)=enM k u++(k+u.length,m)::enM (k+u.length+1) v
 | [],k=>rfl
 | x::u,k=>by
  show (k,x)::enM (k+1) (u++m::v)=_;rw[qa8 m v u (k+1),zE,show k+1+u.length=k+(u.length+1) by omega];rfl
theorem qac:∀{u:List Mv}{k:Nat}{q:Nat×Mv},q∈enM k u->q.2∈u
 | [],_,_,h=>by cases h
 | x::u,k,q,h=>by
  rcases zF.mp h with rfl|h
  ·exact zI
  ·exact zG _ (qac h)
def qaL(m:Mv):oIx (mvD m) (.int (-2))=↥(.int m.frm):=by cases m <;> rfl
def qgK{a:Int}{ns:List Int}:oIn true (.int a) (.lst (ns.map D.int))=↥(.bl (!decide (a∈ns))):=by
 have h:=q5E (a:=a) (ns:=ns);have e1:oIn false (.int a) (.lst (ns.map D.int))=if (X7 (.int a)&&(ns.map D.int).all X7)=true then ↥(.bl (inD (.int a) (ns.map D.int)))else none:=rfl
 have e2:oIn true (.int a) (.lst (ns.map D.int))=if (X7 (.int a)&&(ns.map D.int).all X7)=true then ↥(.bl (!inD (.int a) (ns.map D.int)))else none:=rfl
 rw[e1]at h;rw[e2]
 split at h
 ·rename_i y
  rw[vC y];have:=R.sh.inj (zj h);rw[D.bl.inj this]
 ·cases h
def q9X{K R:List Int}:Xa (gN 0) q1G q1C (K.map D.int) [none,↥(.lst (R.map D.int))]=some ((K.filter λy=>!decide (y∈R)).map D.int):=by
 refine q5x (i:=0) (λy=>!decide (y∈R)) D.int D.int K (ω:=[none,↥(.lst (R.map D.int))]) λy _=>⟨?_,λ_=>?_⟩
 ·unfold q1G
  simp_arith[qgK]
 ·unfold q1C
  simp_arith[qw]
def qeE{ms:List Mv}{R ap:List Int}{n:Nat}{m:Mv}{x5:Option W}(h:¬(m.frm∈R/\∃p∈ap,amB p m=true)):
  zAS (qD [↥(.lst (ms.map mvD)),↥(.lst (R.map D.int)),↥(.lst (ap.map D.int)),↥(.int (n:Int)),↥(mvD m),x5]) (λω=>∃x3 x4 x5:Option W,ω=[↥(.lst (ms.map mvD)),↥(.lst (R.map D.int)),↥(.lst (ap.map D.int)),x3,x4,x5]):=by
 unfold qD
 by_cases z:m.frm∈R
 ·obtain⟨ω',e,y5,rfl⟩:=q0k (g:=gN 5) (b:=qQ) D.int ap
   (λ_ ω=>∃x5:Option W,ω=[↥(.lst (ms.map mvD)),↥(.lst (R.map D.int)),↥(.lst (ap.map D.int)),↥(.int (n:Int)),↥(mvD m),x5])
   (λpre p post ω hd ⟨x5,hω⟩=>by
    subst hω;refine⟨_,rfl,?_⟩;have hp:p∈ap:=by rw[hd];simp
    have am:amB p m=false:=by
     cases q:amB p m with
     | false=>rfl
     | true=>exact vK ⟨z,p,hp,q⟩ h
    have a:=q6N p m;rw[am]at a;unfold qQ;simp_arith[a];exact⟨_,rfl⟩)
   (ω:=[↥(.lst (ms.map mvD)),↥(.lst (R.map D.int)),↥(.lst (ap.map D.int)),↥(.int (n:Int)),↥(mvD m),x5]) ⟨x5,rfl⟩
  simp_arith[qaL,q5E,z,decide_true,e];exact⟨_,_,_,rfl⟩
 ·simp_arith[qaL,q5E,z,decide_false]
  exact⟨_,_,_,rfl⟩
def qhg{u v:List Mv}{R ap1 ap2:List Int}{k:Nat}{a b p:Int}{x5:Option W}(hl:(u++Mv.box k a b::v).length<=1500)(ha:a∈R)(h1:∀y∈ap1,amB y (.box k a b)=false)(h2:amB p (.box k a b)=true):
  ∃w',qD [↥(.lst ((u++Mv.box k a b::v).map mvD)),↥(.lst (R.map D.int)),↥(.lst ((ap1++p::ap2).map D.int)),↥(.int (u.length:Int)),↥(mvD (.box k a b)),x5]=some (.rt (.fr ((u++[Mv.box k a p,Mv.box k p b]++v).map mvD)),w'):=by
 unfold qD;have hf:a∈R:=ha;rw[zC,zE]at hl;obtain⟨w',e⟩:=q3D (g:=gN 5) (b:=qQ) (r:=.fr ((u++[Mv.box k a p,Mv.box k p b]++v).map mvD)) D.int
  (λω=>∃x5:Option W,ω=[↥(.lst ((u++Mv.box k a b::v).map mvD)),↥(.lst (R.map D.int)),↥(.lst ((ap1++p::ap2).map D.int)),↥(.int (u.length:Int)),↥(mvD (.box k a b)),x5])
  ap1 p ap2 _ ⟨x5,rfl⟩
  (λy hy ω ⟨x5,hω⟩=>by
   subst hω;refine⟨_,rfl,?_⟩;have q:=q6N y (.box k a b);rw[h1 y hy]at q;unfold qQ;simp_arith[q];exact⟨_,rfl⟩)
  (λω ⟨x5,hω⟩=>by
   subst hω;refine⟨_,rfl,?_⟩;have q:=q6N p (.box k a b);rw[h2]at q;have c1:=qes (xs:=(u++Mv.box k a b::v).map mvD) (k:=(u.length:Int)) ∅;have c2:=qe6 (xs:=(u++Mv.box k a b::v).map mvD) (k:=(u.length:Int)+1) ∅;have d1:((u++Mv.box k a b::v).map mvD).take (u.length:Int).toNat=u.map mvD:=by
    rw[yO,<- Yj,List.take_left'];rfl
   have d2:((u++Mv.box k a b::v).map mvD).drop ((u.length:Int)+1).toNat=v.map mvD:=by
    rw[show ((u.length:Int)+1).toNat=u.length+1 by omega,<- Zi,List.drop_append,ZM ∅,show u.length+1-u.length=1 by omega];rfl
   rw[d1]at c1;rw[d2]at c2;have ct:=qeS k a b p;have a1:WR (.lst (u.map mvD)) (.lst [mvD (.box k a p),mvD (.box k p b)])=some (.fr ((u++[Mv.box k a p,Mv.box k p b]).map mvD)):=by
    rw[q4O (by rw[zB,zE,zE,yT];omega),zc];rfl
   have a2:WR (.lst ((u++[Mv.box k a p,.box k p b]).map mvD)) (.lst (v.map mvD))=some (.fr ((u++[Mv.box k a p,Mv.box k p b]++v).map mvD)):=by
    rw[q4O (by rw[zB,zB,zC,zE,zE,yT];omega),<- zc]
   unfold qQ;simp_arith[q,qez,c1,c2,ct,a1,a2];exact⟨_,rfl⟩)
 refine⟨w',?_⟩;have fm:(Mv.box k a b).frm=a:=rfl;simp_arith[qaL,q5E,fm,hf,decide_true,e]
def qfA{ms:List Mv}{K R:List Int}(hl:ms.length<=1500)(he:Xh (Wf ms)=K)(hk:K.length<64)(hx:∃m∈ms,m.frm∈R/\∃p∈K,p∉R/\amB p m=true)(hbx:∀m∈ms,∀p∈K,amB p m=true->∃k a b,m=.box k a b):
  ∃u k a b p v,ms=u++Mv.box k a b::v/\a∈R/\p∈K/\p∉R/\amB p (.box k a b)=true/\qM [.lst (ms.map mvD),.lst (R.map D.int)]=some (.fr ((u++[Mv.box k a p,Mv.box k p b]++v).map mvD)):=by
 have hx':∃m∈ms,(decide (m.frm∈R)&&(K.filter λy=>!decide (y∈R)).any λp=>amB p m)=true:=by
  obtain⟨m,hm,h1,p,hp,h2,h3⟩:=hx;refine⟨m,hm,?_⟩;rw[zU,decide_eq_true_eq,YR];exact⟨h1,p,xL.mpr ⟨hp,by simp[h2]⟩,h3⟩
 obtain⟨u,m,v,e1,pm,hu⟩:=q35 _ hx';rw[zU,decide_eq_true_eq,YR]at pm;obtain⟨ap1,p,ap2,e2,pp,hap⟩:=q35 (λp=>amB p m) pm.2;have hp:p∈K.filter λy=>!decide (y∈R):=by rw[e2];simp
 obtain⟨pK,pR⟩:=xL.mp hp;have pR':p∉R:=by simpa using pR
 obtain⟨k,a,b,rfl⟩:=hbx m (by rw[e1];simp) p pK pp;refine⟨u,k,a,b,p,v,e1,pm.1,pK,pR',pp,?_⟩;have ee:=q3H hl (by rw[he];exact hk);rw[he]at ee;have kl:(K.map D.int).length<=1000000:=by rw[zB];omega
 have cm:=q9X (K:=K) (R:=R);have en:=q89 ms 0;have hl':=hl;rw[e1]at hl';obtain⟨w',e⟩:=q3D (g:=gT 2 (Yw (gN 3) (Yw (gN 4) Xr))) (b:=qD) (r:=.fr ((u++[Mv.box k a p,Mv.box k p b]++v).map mvD)) enMD
  (λω=>∃x3 x4 x5:Option W,ω=[↥(.lst (ms.map mvD)),↥(.lst (R.map D.int)),↥(.lst ((K.filter λy=>!decide (y∈R)).map D.int)),x3,x4,x5])
  (enM 0 u) (0+u.length,.box k a b) (enM (0+u.length+1) v) _ ⟨none,none,none,rfl⟩
  (λq hq ω ⟨x3,x4,x5,hω⟩=>by
   subst hω;refine⟨_,rfl,?_⟩;refine qeE (n:=q.1) (m:=q.2) λ⟨z1,p',z2,z3⟩=>?_;have:=hu q.2 (qac hq);rw[Bool.and_eq_false_iff]at this;rcases this with t|t
   ·exact vK z1 ⇑t
   ·rw[Z1]at t
    exact t p' z2 z3)
  (λω ⟨x3,x4,x5,hω⟩=>by
   subst hω;obtain⟨w',y⟩:=qhg (u:=u) (v:=v) (R:=R) (ap1:=ap1) (ap2:=ap2) (k:=k) (a:=a) (b:=b) (p:=p) (x5:=x5) hl' pm.1 hap pp;refine⟨_,rfl,w',?_⟩;rw[<- e1,<- e2]at y;show qD [↥(.lst (ms.map mvD)),↥(.lst (R.map D.int)),↥(.lst ((K.filter λy=>!decide (y∈R)).map D.int)),↥(.int ((0+u.length:Nat):Int)),↥(mvD (.box k a b)),x5]=_;rw[yr];exact y)
 rw[<- qa8,<- e1]at e;unfold qM q19;simp_arith[ee,Wh kl,inW,Wv,cm,en,e]
def qg1{ms:List Mv}{K R:List Int}(hl:ms.length<=1500)(he:Xh (Wf ms)=K)(hk:K.length<64)(hx:∀p∈K,p∈R):
  qM [.lst (ms.map mvD),.lst (R.map D.int)]=↥(.lst (ms.map mvD)):=by
 have ee:=q3H hl (by rw[he];exact hk);rw[he]at ee;have kl:(K.map D.int).length<=1000000:=by rw[zB];omega
 have cm:=q9X (K:=K) (R:=R);have nf:(K.filter λy=>!decide (y∈R))=[]:=wO.mpr λy hy=>by simp[hx y hy]
 rw[nf,yw]at cm;have en:=q89 ms 0;obtain⟨ω',e,x3,x4,x5,rfl⟩:=q0k (g:=gT 2 (Yw (gN 3) (Yw (gN 4) Xr))) (b:=qD) enMD (enM 0 ms)
  (λ_ ω=>∃x3 x4 x5:Option W,ω=[↥(.lst (ms.map mvD)),↥(.lst (R.map D.int)),↥(.lst []),x3,x4,x5])
  (λpre q post ω hd ⟨x3,x4,x5,hω⟩=>by
   subst hω;exact⟨_,rfl,qeE (ap:=[]) (n:=q.1) (m:=q.2) λ⟨_,p',z2,_⟩=>by cases z2⟩)
  (ω:=[↥(.lst (ms.map mvD)),↥(.lst (R.map D.int)),↥(.lst []),none,none,none]) ⟨none,none,none,rfl⟩
 unfold qM q19;simp_arith[ee,Wh kl,inW,Wv,cm,en,e]
def Rch.sub{es fs:List (Int×Int)}(h:∀e∈es,Rch fs e.1 e.2){a c:Int}(r:Rch es a c):Rch fs a c:=by
 induction r with
 | refl=>exact .refl
 | step _ e ih=>
  rcases e with e|e
  ·exact ih.trans (h _ e)
  ·exact ih.trans (h _ e).symm
def q2n{u v:List Mv}{k:Nat}{a b p g y:Int}(r:Rch ((u++Mv.box k a b::v).map Y9) g y):Rch ((u++[Mv.box k a p,Mv.box k p b]++v).map Y9) g y:=by
 refine r.sub λe he=>?_;obtain⟨m,hm,rfl⟩:=yA.mp he;have hin:∀m',m'∈u++[Mv.box k a p,Mv.box k p b]++v->Rch ((u++[Mv.box k a p,Mv.box k p b]++v).map Y9) m'.frm m'.to:=λm' h=>Rch.refl.step (.inl (yA.mpr ⟨m',h,rfl⟩));rcases zT.mp hm with q|q
 ·exact hin m (by simp[q])
 ·rcases zF.mp q with rfl|q
  ·exact(hin (.box k a p) (by simp)).trans (hin (.box k p b) (by simp))
  ·exact hin m (by simp[q])
def qf0{u v:List Mv}{k:Nat}{a b p y:Int}(h:y∈Wf (u++Mv.box k a b::v)):y∈Wf (u++[Mv.box k a p,Mv.box k p b]++v):=by
 obtain⟨m,hm,q⟩:=q16.mp h;rcases zT.mp hm with z|z
 ·exact q16.mpr ⟨m,by simp[z],q⟩
 ·rcases zF.mp z with rfl|z
  ·rcases q with q|q
   ·exact q16.mpr ⟨.box k a p,by simp,.inl q⟩
   ·exact q16.mpr ⟨.box k p b,by simp,.inr q⟩
  ·exact q16.mpr ⟨m,by simp[z],q⟩
def Ym.ends{g:Int}{bs:List (Int×Int)}{ms:List Mv}(Y:Ym g bs ms)(E:∀y∈knw g bs,y∈Wf ms):Xh (Wf ms)=knw g bs:=q65 q0y (q1m g bs) λy=>by
 rw[q2W];refine⟨λh=>?_,E y⟩;obtain⟨m,hm,q|q⟩:=q16.mp h
 ·rw[q];exact(Y.inn m hm).1
 ·rw[q];exact(Y.inn m hm).2.1
theorem q5I{α:Type}{P Q:α->Bool}:∀{l:List α},(∀x∈l,Q x=true->P x=true)->(∃x∈l,P x=true/\Q x=false)->l.countP Q<l.countP P
 | [],_,⟨x,hx,_⟩=>by cases hx
 | a::l,h,⟨x,hx,p1,p2⟩=>by
  have hl:∀x∈l,Q x=true->P x=true:=λx hx=>h x (zG _ hx);rw[zr,zr];rcases zF.mp hx with rfl|hx
  ·have:=List.countP_mono_left (l:=l) (p:=Q) (q:=P) hl
   rw[vC p1,vF (by rw[p2];decide)];omega
  ·have ih:=q5I (P:=P) (Q:=Q) (l:=l) hl ⟨x,hx,p1,p2⟩
   have ha:=h a zI
   by_cases q:Q a=true
   ·rw[vC q,vC (ha q)];omega
   ·rw[vF q];omega
def qat{R K:List Int}(nR:R.Nodup)(s:∀c∈R,c∈K)(l:¬R.length<K.length):∀y∈K,y∈R:=λy hy=>Classical.byContradiction λn=>by
 have:=q1s (F:=y::R) (ts:=K) (xM.mpr ⟨n,nR⟩) λc hc=>(zF.mp hc).elim (λe=>e▸hy) (s c);rw[zE]at this;omega
open Classical in
noncomputable def unR(g:Int)(bs:List (Int×Int))(ms:List Mv):Nat:=(knw g bs).countP (λy=>decide (¬Rch (ms.map Y9) g y))
def qcV(g:Int)(bs:List (Int×Int))(ms:List Mv):unR g bs ms<=(knw g bs).length:=yn
open Classical in
def qh4{g:Int}{bs:List (Int×Int)}{u v:List Mv}{k:Nat}{a b p:Int}(hp:p∈knw g bs)(ra:Rch ((u++Mv.box k a b::v).map Y9) g a)(rp:¬Rch ((u++Mv.box k a b::v).map Y9) g p):unR g bs (u++[Mv.box k a p,Mv.box k p b]++v)<unR g bs (u++Mv.box k a b::v):=by
 unfold unR;refine q5I (λy _ q=>?_) ⟨p,hp,vS rp,vX λn=>n ?_⟩
 ·exact vS λr=>of_decide_eq_true q (q2n r)
 ·exact(q2n ra).step (.inl (yA.mpr ⟨.box k a p,by simp,rfl⟩))
def qd5(g:Int)(bs:List (Int×Int)):(knw g bs).Nodup:=(q1m g bs).imp λh=>Int.ne_of_lt h
def qfV{g:Int}{bs:List (Int×Int)}(hk:(knw g bs).length<=22)(h:∀b∈bs,g<=b.1/\g<=b.2)(Φ:List Mv->Prop)(cut:∀u k a b p v,Ym g bs (u++Mv.box k a b::v)->Φ (u++Mv.box k a b::v)->((a<p/\p<b)\/(b<p/\p<a))->p∈knw g bs->Rch ((u++Mv.box k a b::v).map Y9) g a->¬Rch ((u++Mv.box k a b::v).map Y9) g p->Φ (u++[Mv.box k a p,Mv.box k p b]++v)){ms0:List Mv}(Y0:Ym g bs ms0)(E0:∀y∈knw g bs,y∈Wf ms0)(l0:ms0.length<=900)(f0:Φ ms0):
  ∃ms,qI [.int g,.lst (ms0.map mvD)]=↥(.lst (ms.map mvD))/\Ym g bs ms/\Φ ms/\(∀y∈knw g bs,Rch (ms.map Y9) g y)/\ms.length<=ms0.length+2*(knw g bs).length+1:=by
 have K0:g∈knw g bs:=qm.mpr (.inl rfl);have nd:=qd5 g bs;have e0:=q3H (ms:=ms0) ∅ (by rw[Y0.ends E0];omega);rw[Y0.ends E0]at e0;obtain⟨ω',e,ms,R,rfl,Y,F,al,ll⟩:=q8P (fc:=qY) (fb:=q0w)
  (λn ω=>∃(ms:List Mv) (R:List Int),ω=[↥(.int g),↥(.lst (ms.map mvD)),↥(.lst ((knw g bs).map D.int)),↥(.lst (R.map D.int))]/\Ym g bs ms/\(∀y∈knw g bs,y∈Wf ms)/\Φ ms/\ms.length+n<=ms0.length+2*(knw g bs).length+1/\(¬R.length<(knw g bs).length->∀y∈knw g bs,Rch (ms.map Y9) g y)/\n=2*unR g bs ms+(if R.length<(knw g bs).length then 1 else 0))
  (λω=>∃(ms:List Mv) (R:List Int),ω=[↥(.int g),↥(.lst (ms.map mvD)),↥(.lst ((knw g bs).map D.int)),↥(.lst (R.map D.int))]/\Ym g bs ms/\Φ ms/\(∀y∈knw g bs,Rch (ms.map Y9) g y)/\ms.length<=ms0.length+2*(knw g bs).length+1)
  (λn ω ⟨ms,R,hω,Y,E,F,ll,fu,hn⟩ hf=>by
   subst hω;unfold qY at hf;simp -implicitDefEqProofs only[q53,q60,q6H,q6n,q9f,qbn,qbB,qaD,q6y,e_cw,qaY,qb8,qbT,e_sp,qaX,qb1,qbp,qbH,qbP,qbX,qaB,qbY,qbx,qbq,q7Z,q68,WE,eq_self,ZE,we,wf,reduceCtorEq,q8d,q7L,q6O,e_wd,q8f,e_wz,q6W,qbg,q8X,q8S,qaK,qbs,qb3,q7R,qax,q6r,q6b,q8Q,qba,qb5,qbG,q4U,q6u,qw,q4S,q6s,qbb,qbF,q6F,q6g,e_if,q96,q8J,qb2,q69,q6K,q5L,q4M,qaP,zCz,qaQ,q5U,q3p,q6R,q6B,qbc,e_fs,qbw,q6c,q67,e_c,e_e,e_ed,e_d,q6f,q6t,e_v,q6S,q6I,q6x,e_op,e_o2,q93,e_cl,q6j,q6v,e_ac,e_ca,e_an,qbd,qbC,qaW,e_bl,qaI,e_sl,e_po,e_pa,e_ap,qbo,q4a,q43,e_t,e_tr,q7M,e_ta,qaE,qaM,e_to,qbM,q88,e_tn,q7J,q6A,q5j,q7U,e_va,qbK,qbU,e_vo,q95,q8K,q8M,qaO,qbJ,q9b,Wh,qbE,e_ng,q6o,q6z,q6V,q4H,q8m,q90,q66,q8o,q84,q8A,q8V,q6L,q8w,qbI,qbS,qbQ,qbL,at0,at1,at2,q3t,q6Q,zBt,entry,z9,yq,zE,yT,zB,zY,yw,yv,yQ,yH,xv,xT,xU,wH,xJ,Zj,Zk,YE,YF,YG,Zl,Zm,Zn,Zo,Zp,Zq,wX,Zr,ZT,↓reduceIte,Zs,wy,wJ,xz,xm,ZK,ww,ZL,wU,Zb,yr,beq_self_eq_true,ya]at hf;have hf':decide ((R.length:Int)<((knw g bs).length:Int))=false:=zj hf;have:¬R.length<(knw g bs).length:=λz=>by
    have:=of_decide_eq_false hf';omega
   exact⟨ms,R,rfl,Y,F,fu this,∅⟩)
  (λn ω ⟨ms,R,hω,Y,E,F,ll,fu,hn⟩=>by
   subst hω;refine⟨decide ((R.length:Int)<((knw g bs).length:Int)),?_,λhk2=>?_⟩
   ·unfold qY
    simp_arith[qw]
   ·have lt:R.length<(knw g bs).length:=by have:=of_decide_eq_true hk2;omega
    rw[vC lt]at hn;have ok:Ok (knw g bs) (ms.map Y9):=⟨nd,λe he=>by obtain⟨m,hm,rfl⟩:=yA.mp he;exact⟨(Y.inn m hm).1,(Y.inn m hm).2.1⟩,∅,by rw[zB];omega⟩;have ha:=q9O (ms:=ms) ∅;have hn2:=q7A ok;obtain⟨F',hg,nF,mF⟩:=q9G ok K0;have mem:∀y,y∈XJ F'↔Rch (ms.map Y9) g y:=λy=>by rw[(qN (l:=F')).mem_iff,mF]
    have nR:(XJ F').Nodup:=(qN (l:=F')).nodup_iff.mpr nF;have sR:∀c∈XJ F',c∈knw g bs:=λc hc=>((mem c).mp hc).mem ok K0;have se:=Y.ends E;unfold q0w
    by_cases all:∀y∈knw g bs,Rch (ms.map Y9) g y
    ·have wc:=qg1 (ms:=ms) (K:=knw g bs) (R:=XJ F') ∅ se ∅ λp hp=>(mem p).mpr (all p hp)
     simp_arith[ha,hn2,hg,wc];refine⟨_,rfl,2*unR g bs ms,∅,ms,XJ F',rfl,Y,E,F,∅,λ_=>all,?_⟩;have:=q1s nd (λc hc=>(mem c).mpr (all c hc));rw[vF ∅,Nat.add_zero]
    ·obtain⟨y,hy,ny⟩:∃y∈knw g bs,¬Rch (ms.map Y9) g y:=Classical.byContradiction λz=>all λy hy=>Classical.byContradiction λn=>z ⟨y,hy,n⟩
     obtain⟨m,hm,p,hp,r1,r2,am⟩:=Y.more h hy ny;obtain⟨u,k,a,b,p,v,e1,aR,pK,pR,amp,wc⟩:=qfA (ms:=ms) (K:=knw g bs) (R:=XJ F') ∅ se ∅ ⟨m,hm,(mem _).mpr r1,p,hp,λz=>r2 ((mem p).mp z),q6q.mpr am⟩ (λm hm p hp am=>by
      cases m with
      | box k a b=>exact⟨k,a,b,rfl⟩
      | go a b=>
       have g1:=Y.go (.go a b) hm ⟨a,b,rfl⟩ p hp;have g2:=q6q.mp am;simp only[Mv.frm,Mv.to]at g1 g2;omega)
     have amp':=q6q.mp amp;simp only[Mv.frm,Mv.to]at amp';have ra:=(mem a).mp aR;have rp:¬Rch (ms.map Y9) g p:=λz=>pR ((mem p).mpr z);simp_arith[ha,hn2,hg,wc];clear ha hn2 hg wc ok;subst e1;have Y':=Y.cut pK amp';have F2:=cut u k a b p v Y F amp' pK ra rp;have cl:=qh4 (bs:=bs) pK ra rp;have le:(u++[Mv.box k a p,Mv.box k p b]++v).length=(u++Mv.box k a b::v).length+1:=by
      rw[zC,zC,zC,zE,zE,zE,yT];omega
     have i1:(if (XJ F').length<(knw g bs).length then 1 else 0)<=1:=by split <;> omega
     refine⟨_,rfl,2*unR g bs (u++[Mv.box k a p,Mv.box k p b]++v)+(if (XJ F').length<(knw g bs).length then 1 else 0),∅,_,XJ F',rfl,Y',λy hy=>qf0 (E y hy),F2,∅,λz y hy=>?_,rfl⟩;exact q2n ((mem y).mp (qat nR sR z y hy)))
  1000000 (2*unR g bs ms0+(if [g].length<(knw g bs).length then 1 else 0))
  [↥(.int g),↥(.lst (ms0.map mvD)),↥(.lst ((knw g bs).map D.int)),↥(.lst [.int g])]
  ⟨ms0,[g],rfl,Y0,E0,f0,by have:=qcV g bs ms0;split <;> omega,λz y hy=>by
   have:=qat (R:=[g]) (K:=knw g bs) (by simp) (λc hc=>by rw[zb.mp hc];exact K0) z y hy;rw[zb.mp this];exact .refl,rfl⟩
  (by have:=qcV g bs ms0;split <;> omega)
 refine⟨ms,?_,Y,F,al,ll⟩;unfold qI q0K;simp_arith[e0,e]
def sts(as:List (Int×Int)):List Int:=as.map (·.1)
def gls(as:List (Int×Int)):List Int:=as.map (·.2)
def qfh{as:List (Int×Int)}(hl:as.length<=9000):qG [.lst (as.map pairD2)]=↥(.bl (decide ((sts as).Perm (gls as)))):=by
 unfold qG q0f;have hl2:(as.map pairD2).length<=1000000:=by rw[zB];omega
 have c1:=q05 (i:=0) (f:=q02) pairD2 (λp=>D.int p.1) as (ω:=[none]) (λp _=>by
  unfold q02 pairD2;simp_arith[qw])
 have c2:=q05 (i:=0) (f:=q01) pairD2 (λp=>D.int p.2) as (ω:=[none]) (λp _=>by
  unfold q01 pairD2;simp_arith[qw])
 have e1:(as.map λp=>D.int p.1)=(sts as).map D.int:=by unfold sts;rw[yg];rfl
 have e2:(as.map λp=>D.int p.2)=(gls as).map D.int:=by unfold gls;rw[yg];rfl
 rw[e1]at c1;rw[e2]at c2;have s1:=q60 (ns:=sts as) (by unfold sts;rw[zB];omega);have s2:=q60 (ns:=gls as) (by unfold gls;rw[zB];omega);have q:oEq false (.lst ((XJ (sts as)).map D.int)) (.lst ((XJ (gls as)).map D.int))=↥(.bl (decide ((sts as).Perm (gls as)))):=by
  rw[q5g,decide_eq_decide.mpr (qdQ (l:=sts as) (m:=gls as))]
 simp_arith[Wh hl2,inW,Wv,c1,c2,s1,s2,q]
noncomputable def Xm(as:List (Int×Int))(n:Nat):Int:=(as.getD n (0,0)).1
noncomputable def W0(as:List (Int×Int))(n:Nat):Int:=(as.getD n (0,0)).2
inductive Wlk (as:List (Int×Int)):Int->List Nat->Int->Prop where
 | nil (a:Int):Wlk as a [] a
 | cons {a b:Int} {n:Nat} {r:List Nat} (h:Xm as n=a) (t:Wlk as (W0 as n) r b):Wlk as a (n::r) b
def Wlk.app{as:List (Int×Int)}{a b c:Int}{r q:List Nat}(h:Wlk as a r b)(h':Wlk as b q c):Wlk as a (r++q) c:=by
 induction h with
 | nil _=>exact h'
 | cons e _ ih=>exact .cons e (ih h')
def Wlk.snoc{as:List (Int×Int)}{a b:Int}{r:List Nat}{n:Nat}(h:Wlk as a r b)(e:Xm as n=b):Wlk as a (r++[n]) (W0 as n):=h.app (.cons e (.nil _))
theorem Wlk.last{as:List (Int×Int)}:∀{r:List Nat}{a b:Int}{n:Nat},Wlk as a (r++[n]) b->b=W0 as n/\Wlk as a r (Xm as n)
 | [],a,b,n,h=>by
  cases h with
  | cons e t=>cases t;exact⟨rfl,by rw[<- e];exact .nil _⟩
 | m::r,a,b,n,h=>by
  cases h with
  | cons e t=>
   obtain⟨h1,h2⟩:=Wlk.last t;exact⟨h1,.cons e h2⟩
noncomputable def cS(as:List (Int×Int))(U:List Nat)(v:Int):Nat:=U.countP λn=>decide (Xm as n=v)
noncomputable def cD(as:List (Int×Int))(U:List Nat)(v:Int):Nat:=U.countP λn=>decide (W0 as n=v)
noncomputable def ind(v h:Int):Int:=if v=h then 1 else 0
def bal(as:List (Int×Int))(U:List Nat)(h x:Int):Prop:=∀v,(cS as U v:Int)-cD as U v=ind v h-ind v x
structure HI (as:List (Int×Int)) (s:Int) (U T B:List Nat) (h:Int):Prop where
 all:(U++(T++B)).Perm (zk as.length)
 inv:∃x T0 T1,T=T0++T1/\Wlk as s T0 x/\Wlk as x T1 h/\Wlk as x B.reverse s/\bal as U h x
 shut:∀n∈B,∀m∈U,Xm as m≠W0 as n
def qf7{as:List (Int×Int)}{U U':List Nat}{n:Nat}(h:U.Perm (n::U'))(v:Int):cS as U v=cS as U' v+if Xm as n=v then 1 else 0:=by
 unfold cS;rw[h.countP_eq,zr];simp
def qfJ{as:List (Int×Int)}{U U':List Nat}{n:Nat}(h:U.Perm (n::U'))(v:Int):cD as U v=cD as U' v+if W0 as n=v then 1 else 0:=by
 unfold cD;rw[h.countP_eq,zr];simp
def HI.start{as:List (Int×Int)}{s:Int}{U:List Nat}(hU:U.Perm (zk as.length))(hb:∀v,cS as U v=cD as U v):HI as s U [] [] s :=
 ⟨by simpa using hU,⟨s,[],[],rfl,.nil _,.nil _,.nil _,λv=>by rw[hb v];omega⟩,λn hn=>by cases hn⟩
def HI.push{as:List (Int×Int)}{s h:Int}{U U' T B:List Nat}{n:Nat}(I:HI as s U T B h)(hn:U.Perm (n::U'))(hs:Xm as n=h):HI as s U' (T++[n]) B (W0 as n):=by
 obtain⟨x,T0,T1,rfl,w0,w1,w2,b⟩:=I.inv;refine⟨?_,⟨x,T0,T1++[n],by rw[zN],w0,w1.snoc hs,w2,λv=>?_⟩,λk hk m hm=>I.shut k hk m (hn.mem_iff.mpr (zG _ hm))⟩
 ·refine yz ?_ I.all
  have h1:(U++((T0++T1)++B)).Perm ((n::U')++((T0++T1)++B)):=hn.append_right _;refine yz ?_ h1.symm;rw[zN (T0++T1) [n] B];have h2:(U'++((T0++T1)++([n]++B))).Perm (U'++([n]++((T0++T1)++B))):=yL _ (by
   rw[<- zN,<- zN];exact yy _ xA)
  refine h2.trans ?_;show (U'++(n::((T0++T1)++B))).Perm (n::(U'++((T0++T1)++B)));exact YN
 ·have:=b v
  have e1:=qf7 (as:=as) hn v;have e2:=qfJ (as:=as) hn v;unfold ind at this ⊢;rw[hs]at e1
  by_cases z1:v=h <;> by_cases z2:v=W0 as n
  ·rw[vC z1.symm]at e1;rw[vC z2.symm]at e2;rw[vC z1]at this;rw[vC z2];omega
  ·rw[vC z1.symm]at e1;rw[vF (λq=>z2 q.symm)]at e2;rw[vC z1]at this;rw[vF z2];omega
  ·rw[vF (λq=>z1 q.symm)]at e1;rw[vC z2.symm]at e2;rw[vF z1]at this;rw[vC z2];omega
  ·rw[vF (λq=>z1 q.symm)]at e1;rw[vF (λq=>z2 q.symm)]at e2;rw[vF z1]at this;rw[vF z2];omega
def qau{as:List (Int×Int)}{U:List Nat}{v:Int}(h:∀m∈U,Xm as m≠v):cS as U v=0:=by
 unfold cS;rw[xO];intro m hm;simpa using h m hm
def stuck{as:List (Int×Int)}{U:List Nat}{h x:Int}(b:bal as U h x)(hs:∀m∈U,Xm as m≠h):h=x:=by
 have:=b h;rw[qau hs]at this;unfold ind at this;rw[vC rfl]at this
 by_cases z:h=x
 ·exact z
 ·rw[vF z]at this;omega
def HI.pop{as:List (Int×Int)}{s h:Int}{U T B:List Nat}{n:Nat}(I:HI as s U (T++[n]) B h)(hs:∀m∈U,Xm as m≠h):HI as s U T (B++[n]) (Xm as n):=by
 obtain⟨x,T0,T1,e,w0,w1,w2,b⟩:=I.inv;have hx:=stuck b hs;subst hx;have w:Wlk as s (T++[n]) h:=by rw[e];exact w0.app w1
 obtain⟨e1,e2⟩:=w.last;refine⟨?_,⟨Xm as n,T,[],by rw[zn],e2,.nil _,?_,λv=>by have:=b v;omega⟩,λk hk m hm=>?_⟩
 ·refine yz (yL _ ?_) I.all
  rw[zN];exact yL _ xA
 ·rw[xf]
  exact .cons rfl (by rw[<- e1];exact w2)
 ·rcases zT.mp hk with y|y
  ·exact I.shut k y m hm
  ·cases zb.mp y
   rw[<- e1];exact hs m hm
structure Rnd (as:List (Int×Int)) (s:Int) (row U:List Nat):Prop where
 all:(U++row).Perm (zk as.length)
 walk:Wlk as s row s
 s0:∀m∈U,Xm as m≠s
 shut:∀n∈row,∀m∈U,Xm as m≠W0 as n
 even:∀v,cS as U v=cD as U v
def HI.done{as:List (Int×Int)}{s h:Int}{U B:List Nat}(I:HI as s U [] B h)(hs:∀m∈U,Xm as m≠h):Rnd as s B.reverse U:=by
 obtain⟨x,T0,T1,e,w0,w1,w2,b⟩:=I.inv;obtain⟨rfl,rfl⟩:=List.append_eq_nil_iff.mp e.symm;cases w0;cases w1;refine⟨?_,w2,hs,λn hn=>I.shut n (ye.mp hn),λv=>by have:=b v;omega⟩;have:=I.all;rw[yQ]at this;exact(yL _ (List.reverse_perm B)).trans this
theorem Wlk.mem{as:List (Int×Int)}{V:Int->Prop}:∀{r:List Nat}{a b:Int},Wlk as a r b->V a->(∀n∈r,V (W0 as n))->∀n∈r,V (Xm as n)
 | [],_,_,_,_,_,n,hn=>by cases hn
 | m::r,a,b,h,ha,hv,n,hn=>by
  cases h with
  | cons e t=>
   rcases zF.mp hn with rfl|hn
   ·rw[e];exact ha
   ·exact t.mem (hv m zI) (λk hk=>hv k (zG _ hk)) n hn
def Rnd.full{as:List (Int×Int)}{s:Int}{row U:List Nat}(R:Rnd as s row U)(hr:∀a∈as,Rch as s a.1):row.length=as.length:=by
 have hU:U=[]:=by
  cases U with
  | nil=>rfl
  | cons m U'=>
   exfalso
   let V:Int->Prop:=λv=>v=s\/∃n∈row,W0 as n=v
   have out:∀v,V v->∀k∈m::U',Xm as k≠v:=λv hv k hk=>by
    rcases hv with rfl|⟨n,hn,rfl⟩
    ·exact R.s0 k hk
    ·exact R.shut n hn k hk
   have inn:∀v,V v->∀k∈m::U',W0 as k≠v:=λv hv k hk e=>by
    have h1:=qau (as:=as) (out v hv);have h2:=R.even v;rw[h1]at h2;have:cD as (m::U') v=0:=h2.symm;unfold cD at this;rw[xO]at this;exact this k hk ⇑e
   have row_of:∀(n:Nat),n<as.length->(V (Xm as n)\/V (W0 as n))->n∈row:=λn hn hv=>by
    have:n∈(m::U')++row:=R.all.mem_iff.mpr (xE.mpr hn);rcases zT.mp this with y|y
    ·rcases hv with hv|hv
     ·exact vK rfl (out _ hv n y)
     ·exact vK rfl (inn _ hv n y)
    ·exact y
   have sv:∀n∈row,V (Xm as n):=R.walk.mem (V:=V) (.inl rfl) λn hn=>.inr ⟨n,hn,rfl⟩;have cl:∀c,Rch as s c->V c:=λc h=>h.inv V (.inl rfl) λb c hb e=>by
    rcases e with e|e
    ·obtain⟨n,hn,he⟩:=yF.mp e
     have es:Xm as n=b/\W0 as n=c:=by
      unfold Xm W0;rw[zK,zD hn,he];exact⟨rfl,rfl⟩
     exact .inr ⟨n,row_of n hn (.inl (by rw[es.1];exact hb)),es.2⟩
    ·obtain⟨n,hn,he⟩:=yF.mp e
     have es:Xm as n=c/\W0 as n=b:=by
      unfold Xm W0;rw[zK,zD hn,he];exact⟨rfl,rfl⟩
     rw[<- es.1];exact sv n (row_of n hn (.inr (by rw[es.2];exact hb)))
   have hm:m<as.length:=xE.mp (R.all.mem_iff.mp (by simp));have hrm:=hr _ (xB hm);have es:Xm as m=(as[m]).1:=by unfold Xm;rw[zK,zD hm];rfl
   exact out _ (cl _ (by rw[<- es]at hrm;exact hrm)) m zI rfl
 have:=R.all.length_eq;rw[hU,yQ,zz]at this;exact this
noncomputable def cst(l:List Nat):List Int:=l.map λ(n:Nat)=>(n:Int)
structure WT (as:List (Int×Int)) (ks:List Int) (xss:List (List Int)) (U:List Nat):Prop where
 len:ks.length=xss.length
 nd:U.Nodup
 mem:∀(v k:Int),k∈X1 ks xss v↔∃n:Nat,k=n/\n∈U/\Xm as n=v
 gn:∀v,(X1 ks xss v).Nodup
theorem q45:∀{ks:List Int}{xss:List (List Int)}(h v:Int),ks.length=xss.length->X1 ks (WI ks xss h) v=if v=h then (X1 ks xss h).dropLast else X1 ks xss v
 | [],[],h,v,_=>by
  show ([]:List Int)=if v=h then ([]:List Int).dropLast else []
  split <;> rfl
 | [],_::_,_,_,hl=>by simp at hl
 | _::_,[],_,_,hl=>by simp at hl
 | k::ks,x::xss,h,v,hl=>by
  have ih:=q45 (ks:=ks) (xss:=xss) h v ⇑hl;unfold X1 at ih ⊢;show (XC (k::ks) (if k=h then x.dropLast::xss else x::WI ks xss h) v).getD []=if v=h then ((if k=h then some x else XC ks xss h).getD []).dropLast else (if k=v then some x else XC ks xss v).getD []
  by_cases z:k=h
  ·rw[vC z,vC z]
   show (if k=v then some x.dropLast else XC ks xss v).getD []=_
   by_cases y:k=v
   ·rw[vC y,vC (by rw[<- y,z])];rfl
   ·rw[vF y,vF (λe=>y (by rw[z,e])),vF y]
  ·rw[vF z,vF z]
   show (if k=v then some x else XC ks (WI ks xss h) v).getD []=_
   by_cases y:k=v
   ·rw[vC y,vF (λe=>z (by rw[y,e])),vC y]
   ·rw[vF y,ih,vF y]
theorem q77:∀(ks:List Int)(xss:List (List Int))(h:Int),(WI ks xss h).length=xss.length
 | [],_,_=>rfl
 | _::_,[],_=>rfl
 | k::ks,x::xss,h=>by
  show (if k=h then x.dropLast::xss else x::WI ks xss h).length=_
  split
  ·rfl
  ·rw[zE,q77,zE]
def q8I{l:List Int}{k a:Int}(nd:l.Nodup)(e:l.getLast?=some k):a∈l.dropLast↔a∈l/\a≠k:=by
 have hl:l=l.dropLast++[k]:=by
  have hne:l≠[]:=λz=>by rw[z]at e;cases e
  have:=wb hne;rw[List.getLast?_eq_getLast hne]at e;rw[zj e]at this;exact this.symm
 rw[hl]at nd;have nd':=xl.mp nd
 constructor
 ·intro h
  exact⟨by rw[hl];exact za _ h,λz=>nd'.2.2 a h k (by simp) z⟩
 ·rintro⟨h1,h2⟩
  rw[hl]at h1;rcases zT.mp h1 with y|y
  ·exact y
  ·exact vK (zb.mp y) h2
def WT.pop{as:List (Int×Int)}{ks:List Int}{xss:List (List Int)}{U:List Nat}(W:WT as ks xss U){h:Int}{m:Nat}(e:(X1 ks xss h).getLast?=some (m:Int)):WT as ks (WI ks xss h) (U.erase m):=by
 have hm:(m:Int)∈X1 ks xss h:=Zc e;obtain⟨n,en,hn,hs⟩:=(W.mem h m).mp hm;have:n=m:=∅
 subst this;refine⟨by rw[q77];exact W.len,W.nd.erase _,λv k=>?_,λv=>?_⟩
 ·rw[q45 h v W.len]
  by_cases z:v=h
  ·rw[vC z,q8I (W.gn h) e,W.mem h]
   constructor
   ·rintro⟨⟨n',rfl,h1,h2⟩,h3⟩
    exact⟨n',rfl,(W.nd.mem_erase_iff).mpr ⟨λq=>h3 (by rw[q]),h1⟩,by rw[z];exact h2⟩
   ·rintro⟨n',rfl,h1,h2⟩
    obtain⟨a,b⟩:=(W.nd.mem_erase_iff).mp h1;exact⟨⟨n',rfl,b,by rw[<- z];exact h2⟩,λq=>a ∅⟩
  ·rw[vF z,W.mem v]
   constructor
   ·rintro⟨n',rfl,h1,h2⟩
    exact⟨n',rfl,(W.nd.mem_erase_iff).mpr ⟨λq=>z (by rw[<- h2,q,hs]),h1⟩,h2⟩
   ·rintro⟨n',rfl,h1,h2⟩
    exact⟨n',rfl,((W.nd.mem_erase_iff).mp h1).2,h2⟩
 ·rw[q45 h v W.len]
  split
  ·exact(W.gn h).sublist (List.dropLast_sublist _)
  ·exact W.gn v
def q9P{as:List (Int×Int)}{m:Nat}:(as.getD ((m:Int)).toNat (0,0)).1=Xm as m/\(as.getD ((m:Int)).toNat (0,0)).2=W0 as m:=by
 rw[yO];exact⟨rfl,rfl⟩
theorem q8u{as:List (Int×Int)}{s:Int}(hl:as.length<=9000){ks:List Int}:∀(n:Nat)(xss:List (List Int))(U T B:List Nat)(h:Int),HI as s U T B h->WT as ks xss U->2*U.length+T.length<n ->
  ∃row U',WC as ks n xss (cst T) (cst B) h=some (cst row)/\Rnd as s row U'
 | 0,_,_,_,_,_,_,_,hn=>vK hn (x8 _)
 | n+1,xss,U,T,B,h,I,W,hn=>by
  have tot:U.length+(T.length+B.length)=as.length:=by
   have:=I.all.length_eq;rw[zC,zC,zz]at this;exact this
  unfold WC;cases e:(X1 ks xss h).getLast? with
  | some k=>
   obtain⟨m,rfl,hm,hs⟩:=(W.mem h k).mp (Zc e);have hlt:m<as.length:=xE.mp (I.all.mem_iff.mp (za _ hm));have pm:=List.perm_cons_erase hm;have I':=I.push pm hs;have ul:U.length=(U.erase m).length+1:=by have:=pm.length_eq;rw[zE]at this;exact this
   obtain⟨row,U',r1,r2⟩:=q8u hl n (WI ks xss h) (U.erase m) (T++[m]) B _ I' (W.pop e) (by rw[zC,zx];omega);refine⟨row,U',?_,r2⟩;show (if 0<=(m:Int)/\(m:Int)<as.length/\(cst T).length<1000000 then WC as ks n (WI ks xss h) (cst T++[(m:Int)]) (cst B) (as.getD ((m:Int)).toNat (0,0)).2 else none)=_;rw[vC ⟨∅,∅,by unfold cst;rw[zB];omega⟩,q9P.2];rw[show cst T++[(m:Int)]=cst (T++[m]) by unfold cst;rw[zc];rfl];exact r1
  | none=>
   have hem:X1 ks xss h=[]:=xt.mp e;have hs:∀m∈U,Xm as m≠h:=λm hm z=>by
    have:(m:Int)∈X1 ks xss h:=(W.mem h m).mpr ⟨m,rfl,hm,z⟩;rw[hem]at this;cases this
   rcases List.eq_nil_or_concat T with rfl|⟨T0,m,rfl⟩
   ·refine⟨B.reverse,U,?_,I.done hs⟩
    show some (cst B).reverse=_;unfold cst;rw[YO]
   ·rw[List.concat_eq_append]at I hn tot ⊢
    have hlt:m<as.length:=xE.mp (I.all.mem_iff.mp (zW _ (za _ (by simp))));have I':=I.pop hs;rw[zC,zx]at hn tot;obtain⟨row,U',r1,r2⟩:=q8u hl n xss U T0 (B++[m]) _ I' W ∅;refine⟨row,U',?_,r2⟩;have ec:cst (T0++[m])=cst T0++[(m:Int)]:=by unfold cst;rw[zc];rfl
    rw[ec];show (match (cst T0++[(m:Int)]).getLast? with
     | some k=>if 0<=k/\k<as.length/\(cst B).length<1000000 then WC as ks n xss (cst T0++[(m:Int)]).dropLast (cst B++[k]) (as.getD k.toNat (0,0)).1 else none
     | none=>some (cst B).reverse)=_
    rw[List.getLast?_concat];show (if 0<=(m:Int)/\(m:Int)<as.length/\(cst B).length<1000000 then WC as ks n xss (cst T0++[(m:Int)]).dropLast (cst B++[(m:Int)]) (as.getD ((m:Int)).toNat (0,0)).1 else none)=_;rw[vC ⟨∅,∅,by unfold cst;rw[zB];omega⟩,q9P.1,List.dropLast_concat];rw[show cst B++[(m:Int)]=cst (B++[m]) by unfold cst;rw[zc];rfl];exact r1
theorem q5o:∀{ks:List Int}{xss:List (List Int)}(a b v:Int),ks.length=xss.length->a∈ks->X1 ks (Wm ks xss a b) v=if v=a then X1 ks xss v++[b]else X1 ks xss v
 | [],_,_,_,_,_,h=>by cases h
 | _::_,[],_,_,_,hl,_=>by simp at hl
 | k::ks,x::xss,a,b,v,hl,ha=>by
  unfold X1;show (XC (k::ks) (if k=a then (x++[b])::xss else x::Wm ks xss a b) v).getD []=if v=a then ((if k=v then some x else XC ks xss v).getD [])++[b]else (if k=v then some x else XC ks xss v).getD []
  by_cases z:k=a
  ·rw[vC z]
   show (if k=v then some (x++[b])else XC ks xss v).getD []=_
   by_cases y:k=v
   ·rw[vC y,vC (by rw[<- y,z]),vC y];rfl
   ·rw[vF y,vF (λe=>y (by rw[z,e])),vF y]
  ·rw[vF z]
   have ha':a∈ks:=(zF.mp ha).resolve_left λe=>z e.symm;have ih:=q5o (ks:=ks) (xss:=xss) a b v ⇑hl ha';unfold X1 at ih;show (if k=v then some x else XC ks (Wm ks xss a b) v).getD []=_
   by_cases y:k=v
   ·rw[vC y,vF (λe=>z (by rw[y,e])),vC y]
   ·rw[vF y,ih,vF y]
theorem q8c:∀{ks:List Int}{xss:List (List Int)}(a v:Int),ks.length=xss.length->X1 (ks++[a]) (xss++[[]]) v=X1 ks xss v
 | [],[],a,v,_=>by
  unfold X1;show (if a=v then some []else none).getD []=_
  split <;> rfl
 | [],_::_,_,_,hl=>by simp at hl
 | _::_,[],_,_,hl=>by simp at hl
 | k::ks,x::xss,a,v,hl=>by
  have ih:=q8c (ks:=ks) (xss:=xss) a v ⇑hl;unfold X1 at ih ⊢;show (if k=v then some x else XC (ks++[a]) (xss++[[]]) v).getD []=(if k=v then some x else XC ks xss v).getD []
  by_cases y:k=v
  ·rw[vC y,vC y]
  ·rw[vF y,vF y,ih]
theorem qeC(as:List (Int×Int)):∀n:Nat,n<=as.length->(byS as n).1.length=(byS as n).2.length/\∀v,X1 (byS as n).1 (byS as n).2 v=cst ((zk n).filter λj=>decide (Xm as j=v))
 | 0,_=>⟨rfl,λv=>rfl⟩
 | n+1,hn=>by
  obtain⟨h1,h2⟩:=qeC as n ∅;have hlt:n<as.length:=∅
  have eb:byS as (n+1)=Xu (byS as n) n (Xm as n):=by
   show (match as[n]? with|some a=>Xu (byS as n) n a.1|none=>byS as n)=_;rw[zD hlt];unfold Xm;rw[zK,zD hlt];rfl
  have er:∀v,cst ((zk (n+1)).filter λj=>decide (Xm as j=v))=if v=Xm as n then cst ((zk n).filter λj=>decide (Xm as j=v))++[(n:Int)]else cst ((zk n).filter λj=>decide (Xm as j=v)):=λv=>by
   rw[List.range_succ,yb]
   by_cases z:v=Xm as n
   ·rw[vC z]
    have:([n].filter λj=>decide (Xm as j=v))=[n]:=by rw[yK,vC (vS z.symm)];rfl
    rw[this];unfold cst;rw[zc];rfl
   ·rw[vF z]
    have:([n].filter λj=>decide (Xm as j=v))=[]:=by rw[yK,vF ⇑(λe=>z e.symm)];rfl
    rw[this,zn]
  rw[eb];unfold Xu
  by_cases ha:Xm as n∈(byS as n).1
  ·rw[vC ha]
   exact⟨by show (byS as n).1.length=(Wm _ _ _ _).length;rw[q5a];exact h1,λv=>by
    show X1 (byS as n).1 (Wm (byS as n).1 (byS as n).2 (Xm as n) n) v=_;rw[q5o _ _ v h1 ha,er v,h2 v]⟩
  ·rw[vF ha]
   have hl':((byS as n).1++[Xm as n]).length=((byS as n).2++[[]]).length:=by rw[zC,zC,h1];rfl
   exact⟨by show ((byS as n).1++[Xm as n]).length=(Wm _ _ _ _).length;rw[q5a];exact hl',λv=>by
    show X1 ((byS as n).1++[Xm as n]) (Wm ((byS as n).1++[Xm as n]) ((byS as n).2++[[]]) (Xm as n) n) v=_;rw[q5o _ _ v hl' (by simp),q8c _ v h1,er v,h2 v]⟩
def qgb{l:List Nat}(h:l.Nodup):(cst l).Nodup:=by
 unfold cst List.Nodup;rw[List.pairwise_map];exact h.imp λ{a b} z e=>z ∅
def qeq(as:List (Int×Int)):WT as (byS as as.length).1 (byS as as.length).2 (zk as.length):=by
 obtain⟨h1,h2⟩:=qeC as as.length (zM _);refine⟨h1,wT,λv k=>?_,λv=>by rw[h2 v];exact qgb (wT.filter _)⟩;rw[h2 v];unfold cst;rw[yA]
 constructor
 ·rintro⟨n,hn,rfl⟩
  obtain⟨a,b⟩:=xL.mp hn;exact⟨n,rfl,a,of_decide_eq_true b⟩
 ·rintro⟨n,rfl,a,b⟩
  exact⟨n,xL.mpr ⟨a,vS b⟩,rfl⟩
def q9y{α:Type}(d:α):∀bs:List α,(zk bs.length).map (λk=>bs.getD k d)=bs:=λbs=>by
 apply List.ext_getElem
 ·rw[zB,zz]
 ·intro i h1 h2
  rw[yu,Zz,zK,zD h2];rfl
def qdx(as:List (Int×Int))(v:Int):cS as (zk as.length) v=(sts as).count v/\cD as (zk as.length) v=(gls as).count v:=by
 have h:∀f:Int×Int->Int,(zk as.length).countP (λn=>decide (f (as.getD n (0,0))=v))=(as.map f).count v:=λf=>by
  have e:=q9y (0,0) as;have:(as.map f)=(zk as.length).map λn=>f (as.getD n (0,0)):=by
   have:=uA (List.map f) e;rw[yg]at this;exact this.symm
  rw[this,Yh,wC];rfl
 exact⟨h (·.1),h (·.2)⟩
def qdU{as:List (Int×Int)}{s:Int}(hl:as.length<=9000)(hp:(sts as).Perm (gls as)):∃row U,W8 s as=some (cst row)/\Rnd as s row U:=by
 have hb:∀v,cS as (zk as.length) v=cD as (zk as.length) v:=λv=>by
  rw[(qdx as v).1,(qdx as v).2,hp.count_eq]
 obtain⟨row,U,r1,r2⟩:=q8u (s:=s) hl 100000 (byS as as.length).2 (zk as.length) [] [] s (HI.start (.refl _) hb) (qeq as) (by rw[zz,yT];omega);exact⟨row,U,by unfold W8;rw[vC hl];exact r1,r2⟩
theorem qcv(v:Int):∀ms:List Mv,((ms.countP λm=>decide (m.frm=v):Nat):Int)-(ms.countP λm=>decide (m.to=v):Nat)=((crR (v+1) ms:Int)-crL (v+1) ms)-((crR v ms:Int)-crL v ms)
 | []=>rfl
 | m::ms=>by
  have ih:=qcv v ms;rw[q1X,q21,q1X,q21,zr,zr];simp only[decide_eq_true_eq]
  by_cases z1:m.frm=v <;> by_cases z2:m.to=v <;> simp only[z1,z2,if_true,if_false] <;> repeat' split
  all_goals omega
def Ym.all{g:Int}{bs:List (Int×Int)}{ms:List Mv}(h:∀b∈bs,g<=b.1/\g<=b.2)(Y:Ym g bs ms)(x:Int):crR x ms=crL x ms:=by
 rcases Int.lt_or_le g x with z|z
 ·have:=Y.cr x z;omega
 ·have ge:∀y∈knw g bs,g<=y:=λy hy=>by
   rcases qm.mp hy with q|⟨b,k,_,q|q⟩
   ·omega
   ·rw[q];exact(h b k).1
   ·rw[q];exact(h b k).2
  have a:crR x ms=0:=xO.mpr λm hm=>by
   have:=ge _ (Y.inn m hm).1;simp only[zU,decide_eq_true_eq];omega
  have b:crL x ms=0:=xO.mpr λm hm=>by
   have:=ge _ (Y.inn m hm).2.1;simp only[zU,decide_eq_true_eq];omega
  rw[a,b]
def Ym.perm{g:Int}{bs:List (Int×Int)}{ms:List Mv}(h:∀b∈bs,g<=b.1/\g<=b.2)(Y:Ym g bs ms):(sts (ms.map Y9)).Perm (gls (ms.map Y9)):=by
 rw[List.perm_iff_count];intro v;have e1:(sts (ms.map Y9)).count v=ms.countP λm=>decide (m.frm=v):=by
  unfold sts;rw[yg,Yh,wC];rfl
 have e2:(gls (ms.map Y9)).count v=ms.countP λm=>decide (m.to=v):=by
  unfold gls;rw[yg,Yh,wC];rfl
 have:=qcv v ms;rw[Y.all h,Y.all h]at this;rw[e1,e2];omega
def q7G{as:List (Int×Int)}{s:Int}{row:List Int}(h:W8 s as=some row):q1v [.int s,.lst (as.map pairD2)]=some (.fr (row.map D.int)):=by
 show ((pairsOf (as.map pairD2)).bind λas=>(W8 s as).map λrow=>O.fr (row.map D.int))=_;rw[q3f,z9,h];rfl
def qfz{as:List (Int×Int)}{s:Int}(hl:as.length<=9000)(pm:(sts as).Perm (gls as))(hg:∀q∈as,Rch as s q.1):∃row:List Nat,q2N [.int s,.lst (as.map pairD2)]=↥(.lst ((cst row).map D.int))/\row.Perm (zk as.length)/\Wlk as s row s:=by
 have hm:=qfh (as:=as) hl;rw[vS pm]at hm;obtain⟨row,U,hr,R⟩:=qdU (s:=s) hl pm;have hrf:=q7G hr;have ha:row.length=as.length:=R.full hg;have e1:((((cst row).length:Nat):Int)==(as.length:Int))=true:=by
  have:(cst row).length=row.length:=by unfold cst;rw[zB]
  simp only[beq_iff_eq];omega
 have hU:U=[]:=by
  have:=R.all.length_eq;rw[zC,zz]at this;exact ym ∅
 refine⟨row,?_,by have:=R.all;rw[hU,yQ]at this;exact this,R.walk⟩;unfold q2N q5q;simp_arith[hm,hrf,e1]
theorem q5R:∀(bs:List (Int×Int))(k:Nat),(wcK k bs).length<=bs.length
 | [],_=>zM _
 | b::r,k=>by
  have ih:=q5R r (k+1);unfold wcK;rw[zC,zE]
  split <;> simp only[zE,yT] <;> omega
theorem qd6:∀(bs:List (Int×Int))(k:Nat)(b:Int×Int),b∈bs->b.1≠b.2->∃j,Mv.box j b.1 b.2∈wcK k bs
 | c::r,k,b,hb,ne=>by
  unfold wcK;rcases zF.mp hb with rfl|hb
  ·exact⟨k,za _ (by rw[vF ne];exact zb.mpr rfl)⟩
  ·obtain⟨j,hj⟩:=qd6 r (k+1) b hb ne
   exact⟨j,zW _ hj⟩
noncomputable def m0(g:Int)(bs:List (Int×Int)):List Mv:=wcK 0 bs++emM g bs
def q82{g:Int}{bs:List (Int×Int)}(hb:bs.length<=20){n:Nat}(hk:(knw g bs).length<=n+1):(m0 g bs).length<=bs.length+40*n:=by
 have a:=q5R bs 0;have b:=q7T hb (nbs (knw g bs));rw[q2p]at b;unfold m0 emM;rw[zC];omega
def qeo{g:Int}{bs:List (Int×Int)}(hb:bs.length<=20)(hk:(knw g bs).length<=22)(h:∀b∈bs,g<=b.1/\g<=b.2)(Φ:List Mv->Prop)(cut:∀u k a b p v,Ym g bs (u++Mv.box k a b::v)->Φ (u++Mv.box k a b::v)->((a<p/\p<b)\/(b<p/\p<a))->p∈knw g bs->Rch ((u++Mv.box k a b::v).map Y9) g a->¬Rch ((u++Mv.box k a b::v).map Y9) g p->Φ (u++[Mv.box k a p,Mv.box k p b]++v))(f0:Φ (m0 g bs)):
  ∃ms,qI [.int g,.lst ((m0 g bs).map mvD)]=↥(.lst (ms.map mvD))/\Ym g bs ms/\Φ ms/\(∀m∈ms,Rch (ms.map Y9) g m.frm)/\ms.length<=(m0 g bs).length+2*(knw g bs).length+1:=by
 have Y0:Ym g bs (m0 g bs):=qdW h;have ml:=q82 (g:=g) hb (n:=21) hk
 by_cases z:∃b∈bs,b.1≠b.2
 ·obtain⟨b,hbb,ne⟩:=z
  have E0:∀y∈knw g bs,y∈Wf (m0 g bs):=λy hy=>by
   rcases qm.mp hy with q|⟨c,hc,nc,q⟩
   ·have hi:hiB bs (g+1)=true:=q1R.mpr ⟨b,hbb,ne,by have:=h b hbb;omega⟩
    have one:1<=pu bs (g+1):=by
     unfold pu;rw[vC hi];unfold mx3;repeat' split
     all_goals omega
    have c:=(Y0.cr (g+1) ∅).1;have pos:0<crR (g+1) (m0 g bs):=∅
    unfold crR at pos;obtain⟨m,hm,k⟩:=Zg.mp pos;simp only[zU,decide_eq_true_eq]at k;have i1:=(Y0.inn m hm).1;have:g<=m.frm:=by
     rcases qm.mp i1 with r|⟨c,hc,_,r|r⟩
     ·omega
     ·rw[r];exact(h c hc).1
     ·rw[r];exact(h c hc).2
    exact q16.mpr ⟨m,hm,.inl ∅⟩
   ·obtain⟨j,hj⟩:=qd6 bs 0 c hc nc
    exact q16.mpr ⟨_,za _ hj,q⟩
  obtain⟨ms,e,Y,F,al,ll⟩:=qfV hk h Φ cut Y0 E0 ∅ f0;exact⟨ms,e,Y,F,λm hm=>al _ (Y.inn m hm).1,ll⟩
 ·have st:∀b∈bs,b.1=b.2:=λb hb=>Classical.byContradiction λn=>z ⟨b,hb,n⟩
  have k1:∀y∈knw g bs,y=g:=λy hy=>by
   rcases qm.mp hy with q|⟨c,hc,nc,_⟩
   ·exact q
   ·exact vK (st c hc) nc
  have e0:m0 g bs=[]:=by
   cases q:m0 g bs with
   | nil=>rfl
   | cons m r=>
    have i:=Y0.inn m (by rw[q];exact zI);exact vK (by rw[k1 _ i.1,k1 _ i.2.1]) i.2.2
  rw[e0]at f0 Y0 ⊢;refine⟨[],?_,Y0,f0,(λm hm=>by cases hm),by simp⟩;have ee:q0r [.lst []]=some (.fr []):=q3H (ms:=[]) (by simp) (by decide);have wh:sWh 1000000 qY q0w [↥(.int g),↥(.lst []),↥(.lst []),↥(.lst [.int g])]=some (.nx,[↥(.int g),↥(.lst []),↥(.lst []),↥(.lst [.int g])]):=rfl;rw[yw];unfold qI q0K;simp_arith[ee,wh]
noncomputable def XR(ms:List Mv)(n:Nat):Mv:=ms.getD n (.go 0 0)
def qha{g:Int}{bs:List (Int×Int)}(hb:bs.length<=20)(hk:(knw g bs).length<=22)(h:∀b∈bs,g<=b.1/\g<=b.2)(Φ:List Mv->Prop)(cut:∀u k a b p v,Ym g bs (u++Mv.box k a b::v)->Φ (u++Mv.box k a b::v)->((a<p/\p<b)\/(b<p/\p<a))->p∈knw g bs->Rch ((u++Mv.box k a b::v).map Y9) g a->¬Rch ((u++Mv.box k a b::v).map Y9) g p->Φ (u++[Mv.box k a p,Mv.box k p b]++v))(f0:Φ (m0 g bs)):
  ∃(ms:List Mv) (row:List Nat),q0H [.int g,.lst (bs.map Y4)]=some (.fr ((row.map (XR ms)).map mvD))/\Ym g bs ms/\Φ ms/\row.Perm (zk ms.length)/\Wlk (ms.map Y9) g row g/\ms.length<=(m0 g bs).length+2*(knw g bs).length+1:=by
 obtain⟨ms,e,Y,F,al,ll⟩:=qeo hb hk h Φ cut f0;have ml:=q82 (g:=g) hb (n:=21) hk;have ha:=q9O (ms:=ms) ∅;obtain⟨row,hr,rp,rw'⟩:=qfz (as:=ms.map Y9) (s:=g) (by rw[zB];omega) (Y.perm h) (λq hq=>by
  obtain⟨m,hm,rfl⟩:=yA.mp hq;exact al m hm)
 rw[zB]at rp;refine⟨ms,row,?_,Y,F,rp,rw',ll⟩;have hc:=zCK hb h;have hc':qu [.int g,.lst (bs.map Y4)]=some (.sh .non):=hc;have h1:=qgF (bs:=bs) ∅;have h2:=qgH hb h;have h3:WR (.lst ((wcK 0 bs).map mvD)) (.lst ((emM g bs).map mvD))=some (.fr ((m0 g bs).map mvD)):=by
  rw[q4O,<- zc];rfl;have q:=ml;unfold m0 at q;rw[zC]at q;rw[zB,zB];omega
 have cq:(cst row).map D.int=row.map λn:Nat=>D.int (n:Int):=by unfold cst;rw[yg];rfl
 rw[cq]at hr;have hq:(row.map λn:Nat=>D.int (n:Int)).length<=1000000:=by
  rw[zB,rp.length_eq,zz];omega
 have cm:=q05 (i:=0) (f:=q2u) (λn:Nat=>D.int (n:Int)) (λn=>mvD (XR ms n)) row (ω:=[none,↥(.lst (ms.map mvD))]) (λn hn=>by
  have hlt:n<ms.length:=xE.mp (rp.mem_iff.mp hn);have hi:atI (ms.map mvD) (n:Int)=some (mvD (XR ms n)):=by
   rw[q0l ∅ (by rw[zB];omega)];have:((ms.map mvD)[((n:Int)).toNat]'(by rw[zB];omega))=mvD ms[n]:=by
    rw[yu];simp
   rw[this];unfold XR;rw[zK,zD hlt];rfl
  unfold q2u;simp_arith[hi])
 have mm:row.map (λn=>mvD (XR ms n))=(row.map (XR ms)).map mvD:=by rw[yg];rfl
 rw[mm]at cm;unfold q0H q3l;simp_arith[hc',h1,h2,h3,e,ha,hr,Wh hq,inW,Wv,cm]
def q3J(ms:List Mv):(zk ms.length).map (XR ms)=ms:=by
 apply xK;intro i;rw[zX];rcases yB i ms.length with z|z
 ·rw[xN z,yq]
  unfold XR;rw[zK,zD z];rfl
 ·rw[zd ⇑z,zd z];rfl
def qh1{a b:List Int}(h:a.Perm b):a.sum=b.sum:=by
 induction h with
 | nil=>rfl
 | cons x _ ih=>rw[yV,yV,ih]
 | swap x y l=>rw[yV,yV,yV,yV];omega
 | trans _ _ i1 i2=>rw[i1,i2]
def qfn{ms:List Mv}{row:List Nat}(h:row.Perm (zk ms.length)):((row.map (XR ms)).map zCi).sum=(ms.map zCi).sum:=by
 have p:=(h.map (XR ms)).map zCi;rw[q3J]at p;exact qh1 p
noncomputable def zBR(n:Nat):Mv->Nat
 | .go _ _=>n
 | .box k _ _=>k
def bxK(k:Nat):Mv->Bool
 | .go _ _=>false
 | .box j _ _=>j==k
inductive Chn (k:Nat):Int->List Mv->Int->Prop where
 | nil (a:Int):Chn k a [] a
 | cons {a b c:Int} {l:List Mv}:Chn k b l c->Chn k a (.box k a b::l) c
theorem Chn.cut{k:Nat}{a b p:Int}{B:List Mv}:∀{A:List Mv}{x y:Int},Chn k x (A++.box k a b::B) y->Chn k x (A++([.box k a p,.box k p b]++B)) y
 | [],_,_,h=>by
  cases h with
  | cons t=>exact .cons (.cons t)
 | _::A,_,_,h=>by
  cases h with
  | cons t=>exact .cons (t.cut)
def qdI{α:Type}{u v U V:List α}{m1 m2 n1 n2:α}(h:u++m1::m2::v=U++n1::n2::V):
  (u=U/\m1=n1/\m2=n2/\v=V)\/(U=u++[m1]/\m2=n1/\v=n2::V)\/(u=U++[n1]/\m1=n2/\V=m2::v)\/(∃w,U=u++m1::m2::w/\v=w++n1::n2::V)\/(∃w,u=U++n1::n2::w/\V=w++m1::m2::v):=by
 rcases List.append_eq_append_iff.mp h with⟨a,e1,e2⟩|⟨a,e1,e2⟩
 ·match a,e1,e2 with
  | [],e1,e2=>
   simp only[yQ,xi]at e2;exact .inl ⟨by rw[e1,zn],e2.1,e2.2.1,e2.2.2⟩
  | [x],e1,e2=>
   simp only[yv,yQ,xi]at e2;exact .inr (.inl ⟨by rw[e1,e2.1],e2.2.1,e2.2.2⟩)
  | x::y::w,e1,e2=>
   simp only[yv,xi]at e2;exact .inr (.inr (.inr (.inl ⟨w,by rw[e1,e2.1,e2.2.1],e2.2.2⟩)))
 ·match a,e1,e2 with
  | [],e1,e2=>
   simp only[yQ,xi]at e2;exact .inl ⟨by rw[e1,zn],e2.1.symm,e2.2.1.symm,e2.2.2.symm⟩
  | [x],e1,e2=>
   simp only[yv,yQ,xi]at e2;exact .inr (.inr (.inl ⟨by rw[e1,e2.1],e2.2.1.symm,e2.2.2⟩))
  | x::y::w,e1,e2=>
   simp only[yv,xi]at e2;exact .inr (.inr (.inr (.inr ⟨w,by rw[e1,e2.1,e2.2.1],e2.2.2⟩)))
def Gat(g:Int)(ms u:List Mv)(p b:Int)(v:List Mv):Prop:=∃S:Int->Prop,¬S g/\S p/\(∀m∈u,S m.to->S m.frm)/\(∀m∈v,S m.to->S m.frm)/\∀y,S y->Rch (ms.map Y9) g y
def Ord(g:Int)(ms:List Mv):Prop:=∀u k a p p' b v,ms=u++Mv.box k a p::Mv.box k p' b::v->Gat g ms u p' b v
def q7Q{ms:List Mv}{m:Mv}(h:m∈ms){z:Int}(r:Rch (ms.map Y9) z m.to):Rch (ms.map Y9) z m.frm:=r.step (.inr (yA.mpr ⟨m,h,rfl⟩))
def Ord.cut{g:Int}{U V:List Mv}{K:Nat}{c d x:Int}(O:Ord g (U++Mv.box K c d::V))(rc:Rch ((U++Mv.box K c d::V).map Y9) g c)(nx:¬Rch ((U++Mv.box K c d::V).map Y9) g x):Ord g (U++[Mv.box K c x,Mv.box K x d]++V):=by
 intro u k a p p' b v h;have rcx:Rch ((U++[Mv.box K c x,Mv.box K x d]++V).map Y9) g x:=(q2n rc).step (.inl (yA.mpr ⟨.box K c x,by simp,rfl⟩));have far:∀y,Rch ((U++Mv.box K c d::V).map Y9) x y->Rch ((U++[Mv.box K c x,Mv.box K x d]++V).map Y9) g y:=λy r=>rcx.trans (q2n r);have inU:∀m∈U,m∈U++Mv.box K c d::V:=λm h=>za _ h;have inV:∀m∈V,m∈U++Mv.box K c d::V:=λm h=>zW _ (zG _ h);have h':u++Mv.box k a p::Mv.box k p' b::v=U++Mv.box K c x::Mv.box K x d::V:=by
  rw[<- h,zN];rfl
 have grow:∀S:Int->Prop,¬S g->(∀y,S y->Rch ((U++Mv.box K c d::V).map Y9) g y) ->
   ¬(S g\/(S c/\Rch ((U++Mv.box K c d::V).map Y9) x g)) /\
   (∀m∈U++Mv.box K c d::V,(S m.to->S m.frm)->(S m.to\/(S c/\Rch ((U++Mv.box K c d::V).map Y9) x m.to))->(S m.frm\/(S c/\Rch ((U++Mv.box K c d::V).map Y9) x m.frm))) /\
   ((S x\/(S c/\Rch ((U++Mv.box K c d::V).map Y9) x x))->(S c\/(S c/\Rch ((U++Mv.box K c d::V).map Y9) x c))) /\
   ((S d->S c)->(S d\/(S c/\Rch ((U++Mv.box K c d::V).map Y9) x d))->(S x\/(S c/\Rch ((U++Mv.box K c d::V).map Y9) x x))) /\
   (∀y,(S y\/(S c/\Rch ((U++Mv.box K c d::V).map Y9) x y))->Rch ((U++[Mv.box K c x,Mv.box K x d]++V).map Y9) g y):=λS ng rS=>by
  refine⟨λz=>?_,λm hm hs z=>?_,λz=>?_,λhs z=>?_,λy z=>?_⟩
  ·rcases z with z|z
   ·exact ng z
   ·exact nx z.2.symm
  ·rcases z with z|z
   ·exact .inl (hs z)
   ·exact .inr ⟨z.1,q7Q hm z.2⟩
  ·rcases z with z|z
   ·exact vK (rS x z) nx
   ·exact .inl z.1
  ·rcases z with z|z
   ·exact .inr ⟨hs z,.refl⟩
   ·exact .inr ⟨z.1,.refl⟩
  ·rcases z with z|z
   ·exact q2n (rS y z)
   ·exact far y z.2
 rcases qdI h' with⟨e1,e2,e3,e4⟩|⟨e1,e2,e3⟩|⟨e1,e2,e3⟩|⟨w,e1,e2⟩|⟨w,e1,e2⟩
 ·subst e1 e4
  cases e2;cases e3;exact⟨λy=>Rch ((u++Mv.box K c d::v).map Y9) x y,λz=>nx z.symm,.refl,λm hm z=>q7Q (inU m hm) z,λm hm z=>q7Q (inV m hm) z,far⟩
 ·subst e1 e3
  cases e2;obtain⟨S,s1,s2,s3,s4,s5⟩:=O u K a p c d V (by rw[zN];rfl);obtain⟨g1,g2,g3,g4,g5⟩:=grow S s1 s5;refine⟨_,g1,.inl s2,λm hm=>g2 m (inU m (za _ hm)) (s3 m hm),λm hm=>?_,g5⟩;rcases zF.mp hm with rfl|hm
  ·exact g4 λ_=>s2
  ·exact g2 m (inV m hm) (s4 m hm)
 ·subst e1 e3
  cases e2;obtain⟨S,s1,s2,s3,s4,s5⟩:=O U K c d p' b v rfl;obtain⟨g1,g2,g3,g4,g5⟩:=grow S s1 s5;refine⟨_,g1,.inl s2,λm hm=>?_,λm hm=>g2 m (inV m (zG _ hm)) (s4 m hm),g5⟩;rcases zT.mp hm with hm|hm
  ·exact g2 m (inU m hm) (s3 m hm)
  ·rw[zb.mp hm];exact g3
 ·subst e1 e2
  obtain⟨S,s1,s2,s3,s4,s5⟩:=O u k a p p' b (w++Mv.box K c d::V) (by rw[zN];rfl);obtain⟨g1,g2,g3,g4,g5⟩:=grow S s1 s5;refine⟨_,g1,.inl s2,λm hm=>g2 m (inU m (za _ hm)) (s3 m hm),λm hm=>?_,g5⟩;rcases zT.mp hm with hm|hm
  ·exact g2 m (inU m (zW _ (zG _ (zG _ hm)))) (s4 m (za _ hm))
  ·rcases zF.mp hm with rfl|hm
   ·exact g3
   ·rcases zF.mp hm with rfl|hm
    ·exact g4 (s4 (.box K c d) (zW _ zI))
    ·exact g2 m (inV m hm) (s4 m (zW _ (zG _ hm)))
 ·subst e1 e2
  obtain⟨S,s1,s2,s3,s4,s5⟩:=O (U++Mv.box K c d::w) k a p p' b v (by rw[zN];rfl);obtain⟨g1,g2,g3,g4,g5⟩:=grow S s1 s5;refine⟨_,g1,.inl s2,λm hm=>?_,λm hm=>g2 m (inV m (zW _ (zG _ (zG _ hm)))) (s4 m hm),g5⟩;rcases zT.mp hm with hm|hm
  ·exact g2 m (inU m hm) (s3 m (za _ hm))
  ·rcases zF.mp hm with rfl|hm
   ·exact g3
   ·rcases zF.mp hm with rfl|hm
    ·exact g4 (s3 (.box K c d) (zW _ zI))
    ·exact g2 m (inV m (za _ hm)) (s3 m (zW _ (zG _ hm)))
structure Lgs (g:Int) (bs:List (Int×Int)) (ms:List Mv):Prop where
 up:(ms.map (zBR bs.length)).Pairwise (· <= ·)
 ch:∀(k:Nat)(b:Int×Int),bs[k]?=some b->Chn k b.1 (ms.filter (bxK k)) b.2
 lt:∀k a b,Mv.box k a b∈ms->k<bs.length
 od:Ord g ms
theorem Lgs.cut{g:Int}{bs:List (Int×Int)}{U V:List Mv}{K:Nat}{c d x:Int}(L:Lgs g bs (U++Mv.box K c d::V))(rc:Rch ((U++Mv.box K c d::V).map Y9) g c)(nx:¬Rch ((U++Mv.box K c d::V).map Y9) g x):Lgs g bs (U++[Mv.box K c x,Mv.box K x d]++V):=by
 refine⟨?_,λk b hb=>?_,λk a b hm=>?_,L.od.cut rc nx⟩
 ·have h:=L.up
  simp only[zc,zY,yw,zV,zZ,zT,zF,zg,or_false,zN,yv,yQ]at h ⊢;have tg:∀p q,zBR bs.length (.box K p q)=K:=λ_ _=>rfl;simp only[tg]at h ⊢;refine⟨h.1,⟨λy hy=>?_,h.2.1⟩,λy hy z hz=>?_⟩
  ·rcases hy with rfl|hy
   ·exact zM _
   ·exact h.2.1.1 y hy
  ·rcases hz with rfl|rfl|hz
   ·exact h.2.2 y hy _ (.inl rfl)
   ·exact h.2.2 y hy _ (.inl rfl)
   ·exact h.2.2 y hy z (.inr hz)
 ·have h:=L.ch k b hb
  rw[yb,yK]at h;rw[yb,yb,yK,yK,wD];have t1:bxK k (.box K c d)=(K==k):=rfl;have t2:bxK k (.box K c x)=(K==k):=rfl;have t3:bxK k (.box K x d)=(K==k):=rfl;rw[t1]at h;rw[t2,t3]
  by_cases z:(K==k)=true
  ·rw[vC z]at h ⊢
   have:K=k:=by simpa using z
   subst this;rw[vC z,zN];exact h.cut
  ·rw[vF z]at h ⊢
   rw[vF z,zn];exact h
 ·have old:∀p q,Mv.box K p q∈U++Mv.box K c d::V->K<bs.length:=λp q=>L.lt K p q
  have hK:=old c d (by simp);simp only[zT,zF,zg,or_false]at hm;rcases hm with (q|q|q)|q
  ·exact L.lt k a b (by simp[q])
  ·cases q;exact hK
  ·cases q;exact hK
  ·exact L.lt k a b (by simp[q])
theorem qcE:∀(bs:List (Int×Int))(j k:Nat),(wcK j bs).filter (bxK k)=if j<=k then (match bs[k-j]? with|some b=>if b.1=b.2 then []else [.box k b.1 b.2]|none=>[])else []
 | [],j,k=>by
  show []=if j<=k then []else []
  split <;> rfl
 | b::r,j,k=>by
  unfold wcK;rw[yb,qcE r (j+1) k]
  by_cases z:j=k
  ·subst z
   rw[vF (show ¬(j+1<=j) by omega),vC (zM j),wg,zn];show _=if b.1=b.2 then []else [Mv.box j b.1 b.2]
   split
   ·rfl
   ·rw[yK,vC (by show (j==j)=true;simp)];rfl
  ·have e:(if b.1=b.2 then []else [Mv.box j b.1 b.2]).filter (bxK k)=[]:=by
    split
    ·rfl
    ·rw[yK,vF (by show ¬(j==k)=true;simpa using z)];rfl
   rw[e,yQ]
   by_cases y:j<=k
   ·rw[vC y,vC (show j+1<=k by omega),show k-j=(k-(j+1))+1 by omega];rfl
   ·rw[vF y,vF (show ¬(j+1<=k) by omega)]
def qhj(g:Int)(bs:List (Int×Int))(k:Nat):(emM g bs).filter (bxK k)=[]:=wO.mpr λm hm=>by
 obtain⟨p,_,e|e⟩:=q7H m hm
 ·rw[e];exact zy
 ·rw[e];exact zy
theorem qd3(n:Nat):∀(bs:List (Int×Int))(j:Nat),j+bs.length<=n->((wcK j bs).map (zBR n)).Pairwise (· <= ·)/\∀m∈wcK j bs,j<=zBR n m/\zBR n m<n/\∀k a b,m=.box k a b->k<n
 | [],_,_=>⟨.nil,λm hm=>by cases hm⟩
 | b::r,j,h=>by
  rw[zE]at h;obtain⟨i1,i2⟩:=qd3 n r (j+1) ∅;unfold wcK
  by_cases z:b.1=b.2
  ·rw[vC z,yQ]
   exact⟨i1,λm hm=>⟨by have:=(i2 m hm).1;omega,(i2 m hm).2⟩⟩
  ·rw[vF z,List.singleton_append]
   refine⟨zZ.mpr ⟨λy hy=>?_,i1⟩,λm hm=>?_⟩
   ·obtain⟨m,hm,rfl⟩:=yA.mp hy
    have:=(i2 m hm).1;show j<=zBR n m;omega
   ·rcases zF.mp hm with rfl|hm
    ·exact⟨zM j,(by show j<n;omega),λk a b e=>by cases e;omega⟩
    ·exact⟨by have:=(i2 m hm).1;omega,(i2 m hm).2⟩
def qcn(g:Int)(bs:List (Int×Int)):Lgs g bs (m0 g bs):=by
 obtain⟨w1,w2⟩:=qd3 bs.length bs 0 ∅;have go:∀m∈emM g bs,∃p q,m=.go p q:=λm hm=>by
  obtain⟨p,_,e|e⟩:=q7H m hm
  ·exact⟨_,_,e⟩
  ·exact⟨_,_,e⟩
 have fil:∀k,(m0 g bs).filter (bxK k)=match bs[k]? with|some b=>if b.1=b.2 then []else [.box k b.1 b.2]|none=>[]:=λk=>by
  unfold m0;rw[yb,qhj,zn,qcE,vC (yE _)];rfl
 refine⟨?_,λk b hb=>?_,λk a b hm=>?_,λu k a p p' b v h=>?_⟩
 ·unfold m0
  rw[zc,zV];refine⟨w1,List.pairwise_of_forall_mem_list λx hx y hy=>?_,λx hx y hy=>?_⟩
  ·obtain⟨m,hm,rfl⟩:=yA.mp hx
   obtain⟨m',hm',rfl⟩:=yA.mp hy;obtain⟨p,q,rfl⟩:=go m hm;obtain⟨p',q',rfl⟩:=go m' hm';exact zM _
  ·obtain⟨m,hm,rfl⟩:=yA.mp hx
   obtain⟨m',hm',rfl⟩:=yA.mp hy;obtain⟨p',q',rfl⟩:=go m' hm';have:=(w2 m hm).2.1;show zBR bs.length m<=bs.length;omega
 ·rw[fil,hb]
  show Chn k b.1 (if b.1=b.2 then []else [Mv.box k b.1 b.2]) b.2
  split
  ·rename_i e;rw[e];exact .nil _
  ·exact .cons (.nil _)
 ·rcases zT.mp hm with q|q
  ·exact(w2 _ q).2.2 k a b rfl
  ·obtain⟨p',q',e⟩:=go _ q;cases e
 ·have f:=fil k
  rw[h,yb,yK,yK]at f;have t1:bxK k (.box k a p)=true:=by show (k==k)=true;simp
  have t2:bxK k (.box k p' b)=true:=by show (k==k)=true;simp
  rw[vC t1,vC t2]at f;have l:=uA xg f;rw[zC,zE,zE]at l;exfalso;revert l
  split
  ·split <;> simp <;> omega
  ·simp
theorem Wlk.split{as:List (Int×Int)}:∀{r q:List Nat}{a c:Int},Wlk as a (r++q) c->∃b,Wlk as a r b/\Wlk as b q c
 | [],_,a,_,h=>⟨a,.nil _,h⟩
 | n::r,q,a,c,h=>by
  cases h with
  | cons e t=>
   obtain⟨b,h1,h2⟩:=t.split;exact⟨b,.cons e h1,h2⟩
def q94{P:Nat->Bool}{s:Nat}{row:List Nat}(nd:row.Nodup)(lo:∀n,P n=true->s<=n)(Q:∀r1 n r2,row=r1++n::r2->P n=true->n≠s->n-1∈r1/\P (n-1)=true):∃t,row.filter P=YS s t:=by
 have key:∀(r2 r1:List Nat),row=r1++r2->(∃t,r1.filter P=YS s t)->∃t,row.filter P=YS s t:=by
  intro r2
  induction r2 with
  | nil=>intro r1 e h;rw[e,zn];exact h
  | cons n r2 ih=>
   intro r1 e ⟨t,h⟩;refine ih (r1++[n]) (by rw[e,zN];rfl) ?_;rw[yb,yK,wD];cases pn:P n with
   | false=>exact⟨t,by rw[vF (by decide),zn,h]⟩
   | true=>
    have nin:n∉r1:=λz=>by
     rw[e,xl]at nd;exact nd.2.2 n z n zI rfl
    have out:¬(s<=n/\n<s+t):=λy=>nin (xL.mp (by rw[h];exact YK.mpr y)).1;have ln:=lo n pn;have e2:n=s+t:=by
     by_cases z:n=s
     ·omega
     ·obtain⟨q1,q2⟩:=Q r1 n r2 e pn z
      have m1:n-1∈r1.filter P:=xL.mpr ⟨q1,q2⟩;rw[h,YK]at m1;omega
    exact⟨t+1,by rw[vC rfl,h,e2,List.range'_1_concat]⟩
 exact key row [] rfl ⟨0,rfl⟩
def qdC{P:Nat->Bool}:∀n,P n=true->∃s,P s=true/\∀j,P j=true->s<=j:=λn=>by
 induction n using Nat.strongRecOn with
 | _ n ih=>
  intro h
  by_cases z:∃j,j<n/\P j=true
  ·obtain⟨j,j1,j2⟩:=z
   exact ih j j1 j2
  ·exact⟨n,h,λj hj=>by
    rcases yB j n with y|y
    ·exact vK ⟨j,y,hj⟩ z
    ·exact y⟩
def q47(ms:List Mv)(n:Nat):Xm (ms.map Y9) n=(XR ms n).frm/\W0 (ms.map Y9) n=(XR ms n).to:=by
 unfold Xm W0 XR;rw[zK,zK,zX];cases ms[n]? with
 | none=>exact⟨rfl,rfl⟩
 | some m=>exact⟨rfl,rfl⟩
def qfe{as:List (Int×Int)}{S:Int->Prop}{a b:Int}{r:List Nat}(w:Wlk as a r b):¬S a->(∀j∈r,S (W0 as j)->S (Xm as j))->¬S b:=by
 induction w with
 | nil=>intro h _;exact h
 | cons e t ih=>
  intro h q;refine ih (λz=>h ?_) λj hj=>q j (zG _ hj);rw[<- e];exact q _ zI z
def split2{ms:List Mv}{n:Nat}(h:n+1<ms.length):ms=ms.take n++XR ms n::XR ms (n+1)::ms.drop (n+2):=by
 have a:XR ms n=ms[n]:=by unfold XR;rw[zK,zD ∅];rfl
 have b:XR ms (n+1)=ms[n+1]:=by unfold XR;rw[zK,zD h];rfl
 rw[a,b,show n+2=n+1+1 from rfl,ZO,ZO,yS]
def qfk{ms:List Mv}{n j:Nat}(h:j<n)(hl:j<ms.length):XR ms j∈ms.take n:=by
 have a:XR ms j=ms[j]:=by unfold XR;rw[zK,zD hl];rfl
 rw[a];exact List.mem_take_iff_getElem.mpr ⟨j,∅,rfl⟩
def q9T{ms:List Mv}{n j:Nat}(h:n<=j)(hl:j<ms.length):XR ms j∈ms.drop n:=by
 have a:XR ms j=ms[j]:=by unfold XR;rw[zK,zD hl];rfl
 rw[a];exact List.mem_drop_iff_getElem.mpr ⟨j-n,∅,by congr 1;omega⟩
def qaR{k:Nat}{ms:List Mv}{n:Nat}(h:bxK k (XR ms n)=true):n<ms.length:=by
 rcases yB n ms.length with z|z
 ·exact z
 ·unfold XR at h
  rw[zK,zd z]at h;cases h
def q5Z{k:Nat}{m:Mv}(h:bxK k m=true):∃a b,m=.box k a b:=by
 cases m with
 | go a b=>cases h
 | box j a b=>
  have e:j=k:=by simpa [bxK]using h
  exact⟨a,b,by rw[e]⟩
def qd2{g:Int}{bs:List (Int×Int)}{ms:List Mv}(L:Lgs g bs ms){row:List Nat}(nd:row.Nodup)(rl:∀n∈row,n<ms.length)(w:Wlk (ms.map Y9) g row g){k:Nat}{r1 r2:List Nat}{n:Nat}(e:row=r1++(n+1)::r2)(h0:bxK k (XR ms n)=true)(h1:bxK k (XR ms (n+1))=true):n∈r1:=by
 refine Classical.byContradiction λno=>?_;have lt:=qaR h1;obtain⟨a,p,e0⟩:=q5Z h0;obtain⟨p',b,e1⟩:=q5Z h1;have sp:=split2 lt;rw[e0,e1]at sp;obtain⟨S,s1,s2,s3,s4,_⟩:=L.od _ k a p p' b _ sp;rw[e]at w;obtain⟨x,w1,w2⟩:=w.split;cases w2 with
 | cons es t=>
  rw[(q47 ms (n+1)).1,e1]at es;have es':p'=x:=es;rw[<- es']at w1;refine qfe w1 s1 (λj hj=>?_) s2;rw[(q47 ms j).1,(q47 ms j).2];have jl:=rl j (by rw[e];exact za _ hj);have jn:j≠n:=λz=>no (z▸hj);have jn1:j≠n+1:=λz=>by
   rw[e,xl]at nd;exact nd.2.2 j hj (n+1) zI z
  rcases yB j n with q|q
  ·exact s3 _ (qfk q jl)
  ·exact s4 _ (q9T ∅ jl)
def qah{n:Nat}{ms:List Mv}(h:(ms.map (zBR n)).Pairwise (· <= ·)){i j:Nat}(ij:i<=j)(jl:j<ms.length):zBR n (XR ms i)<=zBR n (XR ms j):=by
 rcases Nat.lt_or_eq_of_le ij with z|z
 ·have:=y0.mp h i j (by rw[zB];omega) (by rw[zB];omega) z
  rw[yu,yu]at this;have a:∀q(hq:q<ms.length),XR ms q=ms[q]:=λq hq=>by unfold XR;rw[zK,zD hq];rfl
  rw[a i ∅,a j jl];exact this
 ·subst z;exact zM _
def qc4{g:Int}{bs:List (Int×Int)}{ms:List Mv}(L:Lgs g bs ms){k s n j:Nat}(hs:bxK k (XR ms s)=true)(hn:bxK k (XR ms n)=true)(h1:s<=j)(h2:j<=n):bxK k (XR ms j)=true:=by
 have nl:=qaR hn;obtain⟨a,b,e0⟩:=q5Z hs;obtain⟨c,d,e1⟩:=q5Z hn;have t1:=qah L.up h1 ∅;have t2:=qah L.up h2 nl;rw[e0]at t1;rw[e1]at t2;have kl:=L.lt k c d (by rw[<- e1];have:=q9T (n:=0) (yE n) nl;rwa [Za]at this);have t3:zBR bs.length (XR ms j)=k:=Nat.le_antisymm t2 t1;cases q:XR ms j with
 | go x y=>rw[q]at t3;have:bs.length=k:=t3;omega
 | box i x y=>rw[q]at t3;have:i=k:=t3;show (i==k)=true;simp[this]
def qel{g:Int}{bs:List (Int×Int)}{ms:List Mv}(L:Lgs g bs ms){row:List Nat}(pm:row.Perm (zk ms.length))(w:Wlk (ms.map Y9) g row g)(k:Nat):(row.map (XR ms)).filter (bxK k)=ms.filter (bxK k):=by
 have nd:row.Nodup:=pm.nodup_iff.mpr wT;have rl:∀n∈row,n<ms.length:=λn hn=>xE.mp (pm.mem_iff.mp hn);have fe:row.filter (λn=>bxK k (XR ms n))=(zk ms.length).filter (λn=>bxK k (XR ms n)):=by
  have pf:=pm.filter (λn=>bxK k (XR ms n))
  by_cases z:∃n,bxK k (XR ms n)=true
  ·obtain⟨n0,h0⟩:=z
   obtain⟨s,s1,s2⟩:=qdC (P:=λn=>bxK k (XR ms n)) n0 h0;obtain⟨t,ht⟩:=q94 (P:=λn=>bxK k (XR ms n)) nd s2 λr1 n r2 e pn ne=>by
    have ln:=s2 n pn;have pm1:=qc4 L s1 pn (j:=n-1) ∅ ∅;refine⟨?_,pm1⟩;have en:n=n-1+1:=∅
    rw[en]at e pn;exact qd2 L nd rl w e pm1 pn
   obtain⟨t',ht'⟩:=q94 (P:=λn=>bxK k (XR ms n)) (row:=zk ms.length) wT s2 λr1 n r2 e pn ne=>by
    have ln:=s2 n pn;refine⟨?_,qc4 L s1 pn (j:=n-1) ∅ ∅⟩;have l1:r1.length=n:=by
     have g1:=uA (λl=>l[r1.length]?) e;simp only[zf (zM _),wg,xJ]at g1;obtain⟨q1,q2⟩:=zh.mp g1;rw[Zz]at q2;exact q2
    have g2:r1=zk n:=by
     have:=uA (List.take n) e;rw[List.take_range,List.take_append_of_le_length ∅,yZ (show r1.length<=n by omega)]at this;rw[<- this];have:=qaR pn;rw[ZS ∅]
    rw[g2];exact xE.mpr ∅
   have le:=pf.length_eq;rw[ht,ht',Z0,Z0]at le;rw[ht,ht',le]
  ·have no:∀l:List Nat,l.filter (λn=>bxK k (XR ms n))=[]:=λl=>wO.mpr λn _ q=>z ⟨n,q⟩
   rw[no,no]
 have c1:∀l:List Nat,(l.map (XR ms)).filter (bxK k)=(l.filter λn=>bxK k (XR ms n)).map (XR ms):=λl=>by
  rw[YZ];rfl
 have ar:=q3J ms;rw[c1,fe,<- c1,ar]
inductive Hc:Int->List Mv->Int->Prop where
 | nil (a:Int):Hc a [] a
 | cons {m:Mv} {l:List Mv} {a c:Int}:m.frm=a->Hc m.to l c->Hc a (m::l) c
def qgR{ms:List Mv}{a b:Int}{r:List Nat}(w:Wlk (ms.map Y9) a r b):Hc a (r.map (XR ms)) b:=by
 induction w with
 | nil=>exact .nil _
 | cons e t ih=>
  rw[(q47 ms _).1]at e;rw[(q47 ms _).2]at ih;exact .cons e ih
theorem q6E{gs:List Int}:∀(mvs:List Mv)(h h':Int)(ls:List Int),ls.length=gs.length->Hc h mvs h'->(∀m∈mvs,m.frm≠m.to)->(∀k a b,Mv.box k a b∈mvs->k<ls.length) ->
  (∀(k:Nat)x y,ls[k]?=some x->gs[k]?=some y->Chn k x (mvs.filter (bxK k)) y)->Xc Xb (h,ls) mvs=some (h',gs)
 | [],h,h',ls,hl,hc,_,_,ch=>by
  cases hc;have:ls=gs:=xK λk=>by
   rcases yB k ls.length with z|z
   ·have e1:=zD z
    have e2:=zD (l:=gs) (i:=k) ∅;have c:=ch k _ _ e1 e2;rw[e1,e2];rw[wD]at c;generalize ls[k]=x at c;generalize gs[k]=y at c;cases c;rfl
   ·rw[zd z,zd ∅]
  rw[this];rfl
 | m::mvs,h,h',ls,hl,hc,ne,kl,ch=>by
  cases hc with
  | cons e t=>
   have nm:=ne m zI;show (Xb (h,ls) m).bind (λc=>Xc Xb c mvs)=_;cases m with
   | go p q=>
    have e':p=h:=e;have nm':p≠q:=nm;rw[q25,vC ⟨e',λz=>nm' (by rw[e',z])⟩,z9];exact q6E mvs q h' ls hl t (λm hm=>ne m (zG _ hm)) (λk a b hm=>kl k a b (zG _ hm)) λk x y hx hy=>ch k x y hx hy
   | box k p q=>
    have e':p=h:=e;have nm':p≠q:=nm;have kk:=kl k p q zI;have e1:=zD kk;have e2:=zD (l:=gs) (i:=k) ∅;have c:=ch k _ _ e1 e2;rw[yK,vC (by show (k==k)=true;simp)]at c;generalize ls[k]=x at c e1;generalize gs[k]=y at c e2;cases c with
    | cons c=>
     rw[q1w,vC ⟨e',λz=>nm' (by rw[e',z]),by rw[e1,e']⟩,z9];refine q6E mvs q h' (ls.set k q) (by rw[yC];exact hl) t (λm hm=>ne m (zG _ hm)) (λk' a b hm=>by rw[yC];exact kl k' a b (zG _ hm)) λk' x' y' hx hy=>?_
     by_cases z:k=k'
     ·subst z
      rw[yU kk]at hx;cases hx;rw[e2]at hy;cases hy;exact c
     ·rw[zJ z]at hx
      have c':=ch k' x' y' hx hy;rw[yK,vF (by show ¬(k==k')=true;simpa using z)]at c';exact c'
def qex{g:Int}{bs:List (Int×Int)}(hb:bs.length<=20)(hk:(knw g bs).length<=22)(h:∀b∈bs,g<=b.1/\g<=b.2):
  ∃(ms:List Mv) (row:List Nat),q0H [.int g,.lst (bs.map Y4)]=some (.fr ((row.map (XR ms)).map mvD))/\Ym g bs ms/\row.Perm (zk ms.length)/\Xc Xb (g,starts bs) (row.map (XR ms))=some (g,Wp bs)/\ms.length<=(m0 g bs).length+2*(knw g bs).length+1:=by
 obtain⟨ms,row,e,Y,L,pm,w,ll⟩:=qha hb hk h (Lgs g bs) (λu k a b p v _ L _ _ ra rp=>L.cut ra rp) (qcn g bs);have mem:∀m∈row.map (XR ms),m∈ms:=λm hm=>by
  have:=(pm.map (XR ms)).mem_iff.mp hm
  rwa [q3J]at this
 have sl:(starts bs).length=bs.length:=by unfold starts;rw[zB]
 have gl:(Wp bs).length=bs.length:=by unfold Wp;rw[zB]
 refine⟨ms,row,e,Y,pm,q6E _ g g (starts bs) (by rw[sl,gl]) (qgR w) (λm hm=>(Y.inn m (mem m hm)).2.2) (λk a b hm=>by rw[sl];exact L.lt k a b (mem _ hm)) (λk x y hx hy=>?_),ll⟩;rw[qel L pm w k];unfold starts at hx;unfold Wp at hy;rw[zX]at hx hy;cases q:bs[k]? with
 | none=>rw[q]at hx;cases hx
 | some b=>
  rw[q]at hx hy;cases hx;cases hy;exact L.ch k b q
def qfy{g:Int}{ps:List Int}{bs:List (Int×Int)}(h:∀b∈bs,b.1∈g::ps/\b.2∈g::ps):(knw g bs).length<=(g::ps).length:=by
 refine q1s (qd5 g bs) λc hc=>?_;rcases qm.mp hc with q|⟨b,hb,_,q|q⟩
 ·rw[q];exact zI
 ·rw[q];exact(h b hb).1
 ·rw[q];exact(h b hb).2
def q71(s:Int×List Int):∀ms:List Mv,Xc XH s (ms.map mvD)=Xc Xb s ms:=λms=>by
 induction ms generalizing s with
 | nil=>rfl
 | cons m r ih=>
  show (XH s (mvD m)).bind (λc'=>Xc XH c' (r.map mvD))=(Xb s m).bind λc'=>Xc Xb c' r;unfold XH;rw[q7p,z9];cases Xb s m with
  | none=>rfl
  | some c=>exact ih c
def qeM(m:Mv):Rm (mvD m):=by
 cases m with
 | go a b=>exact RV.rm (.inl ⟨a,b,rfl⟩)
 | box k a b=>exact RV.rm (.inr ⟨k,a,b,rfl⟩)
def qc6{gate:Int}{bs:List (Int×Int)}{ms:List Mv}(hc:qu [.int gate,.lst (bs.map Y4)]=some (.sh .non))(hb:bs.length<=30)(hz:ms.length<=200)(t:Xc Xb (gate,starts bs) ms=some (gate,Wp bs)):
  qV [.int gate,.lst (bs.map Y4),.lst (ms.map mvD)]=↥(.bl true):=by
 rw[qdZ hc hb (λd hd=>by obtain⟨m,_,rfl⟩:=yA.mp hd;exact qeM m) (by rw[zB];exact hz)];unfold WN;rw[q71,t];simp
def qey{g:Int}{bs:List (Int×Int)}(hb:bs.length<=9)(hk:(knw g bs).length<=7):(m0 g bs).length+2*(knw g bs).length+1<=200:=by
 have tm:∀p,tmG bs p<=9:=λp=>by
  have l1:ovR p.2 bs<=bs.length:=yn;have l2:ovL p.2 bs<=bs.length:=yn;unfold tmG mx3;repeat' split
  all_goals omega
 have el:∀L:List (Int×Int),(L.flatMap (emG bs)).length<=18*L.length:=λL=>by
  induction L with
  | nil=>exact yE _
  | cons p L ih=>
   have t:=tm p;have g:=q62 bs p;have e:(emG bs p).length<=18:=by unfold emG;rw[zC,zw,zw];omega
   rw[wN,zC,zE];omega
 have a:=q5R bs 0;have b:=el (nbs (knw g bs));rw[q2p]at b;unfold m0 emM;rw[zC];omega
def qek{g:Int}{bs:List (Int×Int)}(hb:bs.length<=30):q17 [.int g,.lst (bs.map Y4)]=some (.fr ((knw g bs).map D.int)):=by
 unfold q17 q2M;simp_arith[qw];obtain⟨ω',e,x3,x4,rfl⟩:=q0k (g:=gT 2 (Yw (gN 3) (Yw (gN 4) Xr))) (b:=q2g) Y4 bs
  (λpre ω=>∃x3 x4:Option W,ω=[↥(.int g),↥(.lst (bs.map Y4)),↥(.lst ((We g pre).map D.int)),x3,x4])
  (λpre b post ω hd ⟨x3,x4,hω⟩=>by
   subst hω;refine⟨_,rfl,?_⟩;have hl:pre.length<=bs.length:=by rw[hd,zC];omega
   have hk:=q1j g pre;have e1:=q4O (xs:=(We g pre).map D.int) (ys:=[.int b.1,.int b.2]) (by rw[zB,zE,zx];omega);unfold q2g;rw[q8E]
   by_cases h:b.1=b.2
   ·have h':(b.1==b.2)=true:=by simpa using h
    simp_arith[h',vC h,zn];exact⟨_,_,rfl⟩
   ·have h':(b.1==b.2)=false:=by simpa using h
    simp_arith[h',vF h,e1,zc];exact⟨_,_,rfl⟩)
  (ω:=[↥(.int g),↥(.lst (bs.map Y4)),↥(.lst [.int g]),none,none]) ⟨none,none,rfl⟩
 have hk:=q1j g bs;have hs:Xy (vOf (Yr 2)) [↥(.int g),↥(.lst (bs.map Y4)),↥(.lst ((We g bs).map D.int)),x3,x4]=some (.fr ((knw g bs).map D.int)):=by
  show Wc (.lst ((We g bs).map D.int))=_;show (intsOf ((We g bs).map D.int)).bind _=_;rw[q0e];exact vC (qcc ∅)
 simp_arith[e,hs]
def qe4(ws:List (Int×Int))(w q:Int×Int):rts (ws++[w]) q=rts ws q+(if over w.1 w.2 q=true then 1 else 0)/\lfs (ws++[w]) q=lfs ws q+(if over w.2 w.1 q=true then 1 else 0):=by
 unfold rts lfs;rw[yb,yb,zC,zC,yK,yK,wD,wD]
 constructor <;> split <;> simp
def qar{ws:List (Int×Int)}{l r:Int}:q0I [.lst (ws.map Y4),.int l,.int r]=↥(.tup [.int (rts ws (l,r)),.int (lfs ws (l,r))]):=by
 unfold q0I q3e;simp_arith[qw];obtain⟨ω',e,x5,x6,rfl⟩:=q0k (g:=gT 2 (Yw (gN 5) (Yw (gN 6) Xr))) (b:=q2S) Y4 ws
  (λpre ω=>∃x5 x6:Option W,ω=[↥(.lst (ws.map Y4)),↥(.int l),↥(.int r),↥(.int (rts pre (l,r))),↥(.int (lfs pre (l,r))),x5,x6])
  (λpre w post ω hd ⟨x5,x6,hω⟩=>by
   subst hω;refine⟨_,rfl,?_⟩;obtain⟨s1,s2⟩:=qe4 pre w (l,r);have o1:over w.1 w.2 (l,r)=(decide (w.1<=l)&&decide (r<=w.2)):=rfl;have o2:over w.2 w.1 (l,r)=(decide (w.2<=l)&&decide (r<=w.1)):=rfl;rw[s1,s2,o1,o2];unfold q2S
   by_cases a:w.1<=l <;> by_cases b:r<=w.2 <;> by_cases c:w.2<=l <;> by_cases d:r<=w.1 <;> simp_arith[a,b,c,d,decide_true,decide_false,YJ] <;> exact⟨_,_,rfl⟩)
  (ω:=[↥(.lst (ws.map Y4)),↥(.int l),↥(.int r),↥(.int 0),↥(.int 0),none,none]) ⟨none,none,rfl⟩
 simp_arith[e]
def qd0{g:Int}{bs:List (Int×Int)}{ms T:List Mv}(Y:Ym g bs ms)(pm:T.Perm ms)(hbs:∀b∈bs,g<=b.1/\g<=b.2){p:Int×Int}(hp:p∈nbs (knw g bs)):
  rts bs p=ovR p.2 bs/\lfs bs p=ovL p.2 bs/\rts (T.map Y9) p=tmG bs p/\lfs (T.map Y9) p=tmG bs p:=by
 obtain⟨k1,k2,k3,k4⟩:=q0S (q1m g bs) p hp;obtain⟨r1,r2⟩:=q5y (K:=knw g bs) (bs:=bs) k3 (λb hb z=>⟨k4 b.1 (qm.mpr (.inr ⟨b,hb,z,.inl rfl⟩)),k4 b.2 (qm.mpr (.inr ⟨b,hb,z,.inr rfl⟩))⟩);obtain⟨t1,t2⟩:=q5y (K:=knw g bs) (bs:=T.map Y9) k3 (λb hb _=>by
  obtain⟨m,hm,rfl⟩:=yA.mp hb;have i:=Y.inn m (pm.mem_iff.mp hm);exact⟨k4 _ i.1,k4 _ i.2.1⟩)
 have gp:g<p.2:=by
  have:g<=p.1:=by
   rcases qm.mp k1 with q|⟨b,hb,_,q|q⟩
   ·omega
   ·rw[q];exact(hbs b hb).1
   ·rw[q];exact(hbs b hb).2
  omega
 have hi:hiB bs p.2=true:=by
  rcases qm.mp k2 with q|⟨b,hb,ne,q⟩
  ·omega
  ·exact q1R.mpr ⟨b,hb,ne,∅⟩
 have pe:pu bs p.2=tmG bs p:=by unfold pu tmG;rw[vC hi]
 have c:=Y.cr p.2 gp;have c1:ovR p.2 (T.map Y9)=crR p.2 ms:=by
  unfold ovR crR;rw[wC,<- pm.countP_eq];rfl
 have c2:ovL p.2 (T.map Y9)=crL p.2 ms:=by
  unfold ovL crL;rw[wC,<- pm.countP_eq];rfl
 exact⟨r1,r2,by rw[t1,c1,c.1,pe],by rw[t2,c2,c.2,pe]⟩
def qfL(x y:Int):zCZ [.int 1,.int (zAc [x,y])]=↥(.int (mx3 1 x y)):=by
 show some (R.sh (D.int _))=_
 congr 3
 show (if (if x<=y then y else x)>1 then (if x<=y then y else x)else 1)=_;unfold mx3
 repeat' split
 all_goals omega
def qe0(ns:List Int)(hl:ns.length<=63):q4F [.scr ns]=↥(.bl true):=by
 obtain⟨gate,ps,h2,h6,hps⟩:=qeX (ns:=ns);have h7:(gate::ps).length=7:=by rw[zE,h6]
 obtain⟨bs,h4,h5,h9⟩:=qct (ns:=ns) (some':=gate::ps) h7 hl;have pe:(pairD2:Int×Int->D)=Y4:=rfl;rw[pe]at h4;have ge:∀p∈gate::ps,gate<=p:=λp hp=>(zF.mp hp).elim (λe=>by rw[e];exact yI _) (hps p);have hbs:∀b∈bs,gate<=b.1/\gate<=b.2:=λb hb=>⟨ge _ (h5 b hb).1,ge _ (h5 b hb).2⟩;have i0:atI ((gate::ps).map D.int) 0=some (.int gate):=by rw[q0l (by decide) (by simp)];rfl
 have hc:=qdi (gate:=gate) (bs:=bs) ∅ hbs;have yl':q0m [.int gate,.lst (bs.map Y4)]=↥(.int (yl gate bs)):=qdt gate bs ∅ hbs;have kf:=qfy (g:=gate) (ps:=ps) h5;obtain⟨ms,row,y1,Y,rp,fo,ll⟩:=qex (g:=gate) (bs:=bs) ∅ ∅ hbs;have pT:(row.map (XR ms)).Perm ms:=by have:=rp.map (XR ms);rwa [q3J]at this
 have sumT:((row.map (XR ms)).map zCi).sum=yl gate bs:=by rw[qfn rp,Y.len hbs]
 have lT:(row.map (XR ms)).length<=200:=by
  have:=q82 (g:=gate) (bs:=bs) ∅ (n:=6) ∅;have a:=q5R bs 0;have q:=qey (g:=gate) h9 ∅;rw[pT.length_eq];omega
 generalize row.map (XR ms)=T at y1 fo pT sumT lT;have yt:=qc6 hc ∅ lT fo;have dt:q0G [.int gate,.lst (bs.map Y4),.lst (T.map mvD)]=↥(.bl true):=by
  rw[qfH ∅ (λd hd=>by obtain⟨m,_,rfl⟩:=yA.mp hd;exact qeM m)];unfold WN;rw[q71,fo];simp
 have bl:zCg [.lst (bs.map Y4)]=some (.fr (bs.map Y4)):=rfl;have sh:shp (.lst (bs.map Y4))=true:=qaj 2 (by decide) λd hd=>by
  obtain⟨b,_,rfl⟩:=yA.mp hd;exact⟨rfl,by show 1<=2;decide⟩
 have nn:=q9l sh;have ee:=q7K sh;have tl:(T.map mvD).length<=1000000:=by rw[zB];omega
 have cw:=q05 (i:=0) (f:=q8j) mvD (λm=>Y4 (Y9 m)) T (ω:=[none]) (λm _=>by
  unfold q8j;cases m with
  | go a b=>
   have l:WU [mvD (.go a b)]=↥(.int 3):=rfl;have i1:oIx (mvD (.go a b)) (.int 2)=↥(.int b):=rfl;have i2:oIx (mvD (.go a b)) (.int 1)=↥(.int a):=rfl;simp_arith -implicitDefEqProofs [l,i1,i2];rfl
  | box k a b=>
   have l:WU [mvD (.box k a b)]=↥(.int 4):=rfl;have i1:oIx (mvD (.box k a b)) (.int 3)=↥(.int b):=rfl;have i2:oIx (mvD (.box k a b)) (.int 2)=↥(.int a):=rfl;simp_arith -implicitDefEqProofs [l,i1,i2];rfl)
 have mm:T.map (λm=>Y4 (Y9 m))=(T.map Y9).map Y4:=by rw[yg];rfl
 rw[mm]at cw;have wl:((T.map Y9).map Y4).length<=1000000:=by rw[zB,zB];omega
 have cg:=q2i (g:=gT 2 (Yw (gN 0) (Yw (gN 1) Xr))) (c:=XQ) (f:=q5H) (λw=>∃a b,w=[a,b]) (λ_=>true) Y4 (λw:Int×Int=>D.int (absI (w.2-w.1))) (T.map Y9) (ω:=[none,none]) ⟨_,_,rfl⟩ λq _ w hw=>by
  obtain⟨a,b,rfl⟩:=hw;refine⟨_,rfl,⟨_,_,rfl⟩,rfl,λ_=>?_⟩;show q5H [↥(.int q.1),↥(.int q.2)]=_;have ba:bAbs [.int (q.2-q.1)]=↥(.int (absI (q.2-q.1))):=rfl;unfold q5H;simp_arith -implicitDefEqProofs [ba]
 rw[wd.mpr (λ_ _=>rfl)]at cg;have sg:zC1 [.lst ((T.map Y9).map λw=>D.int (absI (w.2-w.1)))]=↥(.int (yl gate bs)):=by
  rw[qd4 (λw:Int×Int=>absI (w.2-w.1)),yg,<- sumT];rfl
 have kn:=qek (g:=gate) (bs:=bs) ∅;have ov:∀p∈nbs (knw gate bs),_:=λp hp=>qd0 Y pT hbs hp;have yd:yl gate bs=((zAJ (knw gate bs) bs).map λp=>2*p.2.2*(p.2.1-p.1)).sum:=rfl;rw[yd]at yl' sg;have sm:∀p,0<=tmG bs p/\tmG bs p<=20:=λp=>by have:=q62 bs p;have:=qbD (bs:=bs) ∅ p;omega
 clear yd Y pT fo sumT ll rp;generalize hK:knw gate bs=K at *;clear hK;have rg:=qhu (a:=1) (b:=(K.length:Int)) ∅ ∅;generalize hP:(gate::ps).map D.int=P at h2 h4 i0;unfold q4F qbj;simp_arith -implicitDefEqProofs [h2,h4,bl,i0,y1,nn,dt,Wh tl,inW,Wv,cw,kn,rg];rw[show ((K.length:Int)-1).toNat=K.length-1 by omega];obtain⟨ω',e,y8,y9,rfl⟩:=q7b (g:=gN 8) (b:=q86) 1 (K.length-1)
  (λi ω=>∃y8 y9:Option W,ω=[↥(.scr ns),↥(.lst P),↥(.lst (bs.map Y4)),↥(.lst (bs.map Y4)),↥(.lst (T.map mvD)),↥(.lst ((T.map Y9).map Y4)),↥(.lst (K.map D.int)),↥(.int (((zAJ K bs).take i).map λp=>2*p.2.2*(p.2.1-p.1)).sum),y8,y9,none])
  (λi ω hi ⟨y8,y9,hω⟩=>by
   subst hω;refine⟨_,rfl,?_⟩;have hi1:i+1<K.length:=∅
   have a1:atI (K.map D.int) (1+(i:Int))=some (.int K[i+1]):=by
    rw[q0l ∅ (by rw[zB];omega),yu];have:(1+(i:Int)).toNat=i+1:=∅
    simp only[this]
   have a0:atI (K.map D.int) (1+(i:Int)-1)=some (.int K[i]):=by
    rw[q0l ∅ (by rw[zB];omega),yu];have:(1+(i:Int)-1).toNat=i:=∅
    simp only[this]
   have hat:(zAJ K bs)[i]?=some (K[i],K[i+1],tmG bs (K[i],K[i+1])):=by
    unfold zAJ;rw[zX,qcp hi1];rfl
   obtain⟨o1,o2,o3,o4⟩:=ov _ (yN (qcp hi1));have s:=sm (K[i],K[i+1]);rw[q1k hat,zc,YV,zY,yw,yV,List.sum_nil,YJ];have v1:=qar (ws:=bs) (l:=K[i]) (r:=K[i+1]);have v2:=qar (ws:=T.map Y9) (l:=K[i]) (r:=K[i+1]);have tm:tmG bs (K[i],K[i+1])=mx3 1 (ovR K[i+1] bs) (ovL K[i+1] bs):=rfl;rw[o1,o2]at v1;rw[o3,o4]at v2;generalize K[i]=l at *;generalize K[i+1]=r at *;have mt:zAU [.tup [.int (ovR r bs),.int (ovL r bs)]]=↥(.int (zAc [(ovR r bs:Int),ovL r bs])):=q6J (ns:=[(ovR r bs:Int),ovL r bs]) (by simp);have mx:=qfL (ovR r bs) (ovL r bs);rw[<- tm]at mx;generalize tmG bs (l,r)=t at *;have te:oEq true (.tup [.int t,.int t]) (.tup [.int t,.int t])=↥(.bl false):=q9l rfl;have m0:zBG (.int 2) (.int t)=↥(.int (2*t)):=q3x (by decide) (by decide);have m1:zBG (.int (2*t)) (.int (r-l))=↥(.int (2*t*(r-l))):=q3x ∅ ∅;unfold q86;simp_arith -implicitDefEqProofs [a0,a1,v1,mt,mx,v2,te,m0,m1];exact⟨_,_,rfl⟩)
  (ω:=[↥(.scr ns),↥(.lst P),↥(.lst (bs.map Y4)),↥(.lst (bs.map Y4)),↥(.lst (T.map mvD)),↥(.lst ((T.map Y9).map Y4)),↥(.lst (K.map D.int)),↥(.int 0),none,none,none]) ⟨none,none,rfl⟩
 rw[yZ (by unfold zAJ;rw[zB,q2p];exact zM _)]at e;simp_arith -implicitDefEqProofs [e,Wh wl,inW,Wv,cg,sg,i0,yl',yt,ee]
def qgg{l:ZR}{w:vZ}{K:zA}{h:vn}{mg:Str->Option vB}{fa:vJ}(X:K.In h)(G:h.Ns vY mg)(hfa:mg "law" = some (.ref fa)){f0:vJ}{f1:vJ}{f2:vJ}{f3:vJ}{f4:vJ}{f5:vJ}{f6:vJ}{f7:vJ}{f8:vJ}{f9:vJ}{f10:vJ}{f11:vJ}{f12:vJ}{f13:vJ}{f14:vJ}{f15:vJ}{f16:vJ}{f17:vJ}{f18:vJ}{f19:vJ}{f20:vJ}{f21:vJ}{f22:vJ}{f23:vJ}{f24:vJ}{f25:vJ}{f26:vJ}{f27:vJ}{f28:vJ}{f29:vJ}{f30:vJ}{f31:vJ}{f32:vJ}{f33:vJ}{f34:vJ}{f35:vJ}{f36:vJ}{f37:vJ}{f38:vJ}{f39:vJ}{f40:vJ}(D0:Fd K "is_whole" q3B f0)(D1:Fd K "is_box" q59 f1)(D2:Fd K "is_errand" q3b f2)(D3:Fd K "leads_over" q2G f3)(D4:Fd K "crossed" q46 f4)(D5:Fd K "neighbours" q2q f5)(D6:Fd K "group_of" q3T f6)(D7:Fd K "numbers_by_start" q0d f7)(D8:Fd K "as_many_begin_as_end" q0i f8)(D9:Fd K "round_from" q0W f9)(D10:Fd K "row_of" q5i f10)(D11:Fd K "is_go" q6e f11)(D12:Fd K "has_carry_form" q1n f12)(D13:Fd K "leads" q6P f13)(D14:Fd K "is_yard" q4l f14)(D15:Fd K "check_yard" q2r f15)(D16:Fd K "yard_places" q2d f16)(D17:Fd K "times_passed" q1S f17)(D18:Fd K "passes" q55 f18)(D19:Fd K "yard_least" q2K f19)(D20:Fd K "is_yard_carry" q1y f20)(D21:Fd K "brings_each_box" q1d f21)(D22:Fd K "is_yard_tour" q22 f22)(D23:Fd K "whole_carries" q1u f23)(D24:Fd K "empty_moves" q2e f24)(D25:Fd K "arcs_of" q4p f25)(D26:Fd K "ends_of" q4m f26)(D27:Fd K "lies_amid" q36 f27)(D28:Fd K "cut_in_two" q2A f28)(D29:Fd K "with_one_cut" q1Y f29)(D30:Fd K "hung_together" q1K f30)(D31:Fd K "yard_tour" q3c f31)(D32:Fd K "_law_cell" q34 f32)(D33:Fd K "_law_menu" q3a f33)(D34:Fd K "_law_boxes" q2Q f34)(D35:Fd K "_law_whole" q2C f35)(D36:Fd K "_law_moved" q2s f36)(D37:Fd K "_law_does" q3k f37)(D38:Fd K "_law_known" q2t f38)(D39:Fd K "_law_over" q39 f39)(D40:Fd K "law" q4R f40)(z_isinstance:yM K vY "isinstance" = some none)(z_bool:yM K vY "bool" = some none)(z_int:yM K vY "int" = some none)(z_len:yM K vY "len" = some none)(z_tuple:yM K vY "tuple" = some none)(z_list:yM K vY "list" = some none)(z_all:yM K vY "all" = some none)(z_sorted:yM K vY "sorted" = some none)(z_enumerate:yM K vY "enumerate" = some none)(z_reversed:yM K vY "reversed" = some none)(z_min:yM K vY "min" = some none)(q1E:yM K vY "set" = some none)(z_max:yM K vY "max" = some none)(z_zip:yM K vY "zip" = some none)(z_sum:yM K vY "sum" = some none)(z_range:yM K vY "range" = some none)(z_abs:yM K vY "abs" = some none)(i_int:IsT K .int)(i_bool:IsT K .bl)(i_tuple:IsT K .tup)(i_list:IsT K .lst): ∃fd:vP,(∀(s:vG)(v:vB),sD s fd ⟨[v],[]⟩ [("script", v)])/\∀base:vn,K.In base->base.Ns vY mg->FnOk l.prog w K mg base CX0 9 fa fd ["script"] (spD K 1 q4F):=by
 have e:=hfa.symm.trans (wV X G D40.1);cases e;obtain⟨d0,F0⟩:=D0.2;obtain⟨d1,F1⟩:=D1.2;obtain⟨d2,F2⟩:=D2.2;obtain⟨d3,F3⟩:=D3.2;obtain⟨d4,F4⟩:=D4.2;obtain⟨d5,F5⟩:=D5.2;obtain⟨d6,F6⟩:=D6.2;obtain⟨d7,F7⟩:=D7.2;obtain⟨d8,F8⟩:=D8.2;obtain⟨d9,F9⟩:=D9.2;obtain⟨d10,F10⟩:=D10.2;obtain⟨d11,F11⟩:=D11.2;obtain⟨d12,F12⟩:=D12.2;obtain⟨d13,F13⟩:=D13.2;obtain⟨d14,F14⟩:=D14.2;obtain⟨d15,F15⟩:=D15.2;obtain⟨d16,F16⟩:=D16.2;obtain⟨d17,F17⟩:=D17.2;obtain⟨d18,F18⟩:=D18.2;obtain⟨d19,F19⟩:=D19.2;obtain⟨d20,F20⟩:=D20.2;obtain⟨d21,F21⟩:=D21.2;obtain⟨d22,F22⟩:=D22.2;obtain⟨d23,F23⟩:=D23.2;obtain⟨d24,F24⟩:=D24.2;obtain⟨d25,F25⟩:=D25.2;obtain⟨d26,F26⟩:=D26.2;obtain⟨d27,F27⟩:=D27.2;obtain⟨d28,F28⟩:=D28.2;obtain⟨d29,F29⟩:=D29.2;obtain⟨d30,F30⟩:=D30.2;obtain⟨d31,F31⟩:=D31.2;obtain⟨d32,F32⟩:=D32.2;obtain⟨d33,F33⟩:=D33.2;obtain⟨d34,F34⟩:=D34.2;obtain⟨d35,F35⟩:=D35.2;obtain⟨d36,F36⟩:=D36.2;obtain⟨d37,F37⟩:=D37.2;obtain⟨d38,F38⟩:=D38.2;obtain⟨d39,F39⟩:=D39.2;obtain⟨_,F40⟩:=D40.2;obtain⟨_,_,kV,dc,pm,an,cd,ct,_,rfl,_,_⟩:=F40.ex;have y_isinstance:=zv X G z_isinstance;have y_bool:=zv X G z_bool;have y_int:=zv X G z_int;have y_len:=zv X G z_len;have y_tuple:=zv X G z_tuple;have y_list:=zv X G z_list;have y_all:=zv X G z_all;have y_sorted:=zv X G z_sorted;have y_enumerate:=zv X G z_enumerate;have y_reversed:=zv X G z_reversed;have y_min:=zv X G z_min;have y_set:=zv X G q1E;have y_max:=zv X G z_max;have y_zip:=zv X G z_zip;have y_sum:=zv X G z_sum;have y_range:=zv X G z_range;have y_abs:=zv X G z_abs;refine⟨xX "law" "law" (WL q4R) (Xq q4R) (Yt q4R) .none kV dc pm an cd ct,λs v=>.of_eq rfl,λbase _ _=>?_⟩;have C0:=qo l.prog w base X G D0 F0 (q9p F0 y_isinstance y_bool y_int i_int i_bool) λ_ _ _ _ _ _ us hl=>match us,hl with|[_],_=>rfl
 have C1:=qo l.prog w base X G D1 F1 (qdw F1 C0 y_len y_isinstance y_tuple i_tuple) λ_ _ _ _ _ _ us hl=>match us,hl with|[_],_=>rfl
 have C2:=qo l.prog w base X G D2 F2 (q8B F2 C0 C1 y_isinstance y_list y_all i_list) λ_ _ _ _ _ _ us hl=>match us,hl with|[_,_,_],_=>rfl
 have C3:=qo l.prog w base X G D3 F3 (q7s F3) λ_ _ _ _ _ _ us hl=>match us,hl with|[_,_,_],_=>rfl
 have C4:=qo l.prog w base X G D4 F4 (qbv F4 C3 y_len) λ_ _ _ _ _ _ us hl=>match us,hl with|[_,_],_=>rfl
 have C5:=qo l.prog w base X G D5 F5 (q7E F5) λ_ _ _ _ _ _ us hl=>match us,hl with|[_,_],_=>rfl
 have C6:=qo l.prog w base X G D6 F6 (q9s F6 y_sorted) λ_ _ _ _ _ _ us hl=>match us,hl with|[_,_],_=>rfl
 have C7:=q41 (P:=l.prog) (w:=w) (mg:=mg) (base:=base) F7 y_enumerate;have C8:=qo l.prog w base X G D8 F8 (q2U F8 y_sorted) λ_ _ _ _ _ _ us hl=>match us,hl with|[_],_=>rfl
 have C9:=qo l.prog w base X G D9 F9 (q7t F9 C7 (wV X G D7.1) F7.kp (F7.binds (ps:=["arcs"]) λ_ _ _ _ _ _ us hl=>match us,hl with|[_],_=>rfl) y_list y_reversed) λ_ _ _ _ _ _ us hl=>match us,hl with|[_,_],_=>rfl
 have C10:=qo l.prog w base X G D10 F10 (qcH F10 C8 C9 y_len) λ_ _ _ _ _ _ us hl=>match us,hl with|[_,_],_=>rfl
 have C11:=qo l.prog w base X G D11 F11 (qee F11 C0 y_len y_isinstance y_tuple i_tuple) λ_ _ _ _ _ _ us hl=>match us,hl with|[_],_=>rfl
 have C12:=qo l.prog w base X G D12 F12 (q4W F12 C0 y_len y_isinstance y_tuple y_all i_tuple) λ_ _ _ _ _ _ us hl=>match us,hl with|[_,_],_=>rfl
 have C13:=qo l.prog w base X G D13 F13 (qdE F13) λ_ _ _ _ _ _ us hl=>match us,hl with|[_,_,_],_=>rfl
 have C14:=qo l.prog w base X G D14 F14 (qaH F14 C2 y_min y_all) λ_ _ _ _ _ _ us hl=>match us,hl with|[_,_],_=>rfl
 have C15:=qo l.prog w base X G D15 F15 (q7C F15 C14) λ_ _ _ _ _ _ us hl=>match us,hl with|[_,_],_=>rfl
 have C16:=qo l.prog w base X G D16 F16 (q6h F16 y_sorted y_set) λ_ _ _ _ _ _ us hl=>match us,hl with|[_,_],_=>rfl
 have C17:=qo l.prog w base X G D17 F17 (q5Y F17 C4 y_max) λ_ _ _ _ _ _ us hl=>match us,hl with|[_,_],_=>rfl
 have C18:=qo l.prog w base X G D18 F18 (qcj F18 C15 C16 C17 y_zip) λ_ _ _ _ _ _ us hl=>match us,hl with|[_,_],_=>rfl
 have C19:=qo l.prog w base X G D19 F19 (q7x F19 C18 y_sum) λ_ _ _ _ _ _ us hl=>match us,hl with|[_,_],_=>rfl
 have C20:=qo l.prog w base X G D20 F20 (q5v F20 C12) λ_ _ _ _ _ _ us hl=>match us,hl with|[_,_],_=>rfl
 have C21:=qo l.prog w base X G D21 F21 (q44 F21) λ_ _ _ _ _ _ us hl=>match us,hl with|[_,_],_=>rfl
 have C22:=qo l.prog w base X G D22 F22 (q5P F22 C15 C20 C11 C21 C13 y_isinstance y_list y_all i_list) λ_ _ _ _ _ _ us hl=>match us,hl with|[_,_,_],_=>rfl
 have C23:=qo l.prog w base X G D23 F23 (q5m F23 y_enumerate) λ_ _ _ _ _ _ us hl=>match us,hl with|[_],_=>rfl
 have C24:=qo l.prog w base X G D24 F24 (q6i F24 C18 C4) λ_ _ _ _ _ _ us hl=>match us,hl with|[_,_],_=>rfl
 have C25:=qo l.prog w base X G D25 F25 (qbR F25) λ_ _ _ _ _ _ us hl=>match us,hl with|[_],_=>rfl
 have C26:=qo l.prog w base X G D26 F26 (qbt F26 y_sorted y_set) λ_ _ _ _ _ _ us hl=>match us,hl with|[_],_=>rfl
 have C27:=qo l.prog w base X G D27 F27 (q8l F27 y_max y_min) λ_ _ _ _ _ _ us hl=>match us,hl with|[_,_],_=>rfl
 have C28:=qo l.prog w base X G D28 F28 (q7u F28) λ_ _ _ _ _ _ us hl=>match us,hl with|[_,_],_=>rfl
 have C29:=qo l.prog w base X G D29 F29 (q5K F29 C26 C27 C28 y_enumerate) λ_ _ _ _ _ _ us hl=>match us,hl with|[_,_],_=>rfl
 have C30:=qo l.prog w base X G D30 F30 (q54 F30 C26 C6 C5 C25 C29 y_len) λ_ _ _ _ _ _ us hl=>match us,hl with|[_,_],_=>rfl
 have C31:=qo l.prog w base X G D31 F31 (q8v F31 C15 C30 C23 C24 C10 C25) λ_ _ _ _ _ _ us hl=>match us,hl with|[_,_],_=>rfl
 have C32:=qo l.prog w base X G D32 F32 (q8t F32 y_len) λ_ _ _ _ _ _ us hl=>match us,hl with|[_,_],_=>rfl
 have C33:=qo l.prog w base X G D33 F33 (q9g F33 C32 y_range) λ_ _ _ _ _ _ us hl=>match us,hl with|[_],_=>rfl
 have C34:=qo l.prog w base X G D34 F34 (q7z F34 C32) λ_ _ _ _ _ _ us hl=>match us,hl with|[_,_],_=>rfl
 have C35:=qo l.prog w base X G D35 F35 (q7v F35 y_isinstance y_bool y_int i_int i_bool) λ_ _ _ _ _ _ us hl=>match us,hl with|[_],_=>rfl
 have C36:CalW _ _ _ _ _ _ _ _ _ _ _ _:=⟨q7B (P:=l.prog) (w:=w) (mg:=mg) (base:=base) F36 C35 y_len y_isinstance y_tuple i_tuple,wV X G D36.1,F36.kp,F36.binds (ps:=["lies", "here", "move"]) λ_ _ _ _ _ _ us hl=>match us,hl with|[_,_,_],_=>rfl⟩;have C37:=qo l.prog w base X G D37 F37 (q9d F37 C36 y_isinstance y_list i_list) λ_ _ _ _ _ _ us hl=>match us,hl with|[_,_,_],_=>rfl
 have C38:=qo l.prog w base X G D38 F38 (q7D F38 y_sorted y_set) λ_ _ _ _ _ _ us hl=>match us,hl with|[_,_],_=>rfl
 have C39:=qo l.prog w base X G D39 F39 (q8W F39) λ_ _ _ _ _ _ us hl=>match us,hl with|[_,_,_],_=>rfl
 exact qgL F40 C33 C34 C31 C37 C38 C39 C19 C22 y_list y_len y_range y_max y_abs y_sum
def walk{l:ZR}{q:vQ}{loose:List Str}{XP:(Str->Option vB)->vn->Prop}{YP:vZ->vn->Prop}{d:DefRec}{K:Params->zA}(hn:l.most=some 63)(hdf:d.params.defaults=[])(hY:∀(w:vZ)(h:vn),YP w h->(K w.params).In h)(F:∀(w:vZ)(mg:Str->Option vB)(fa:vJ)(h:vn),(K w.params).In h->h.Ns vY mg->mg d.name=some (.ref fa) ->
   ∃fd:vP,(∀(s:vG)(u:vB),sD s fd ⟨[u],[]⟩ [("script", u)])/\∀base:vn,(K w.params).In base->base.Ns vY mg->FnOk l.prog w (K w.params) mg base CX0 9 fa fd ["script"] (spD (K w.params) 1 q4F)) :
  Yi q loose XP YP l.row.toRowW d [] (λf vs=>PySem.call f vs) :=
 L2.qam (n:=63) (k:=9) (x := "script") (CX:=λ_=>CX0) (sp:=λw=>spD (K w.params) 1 q4F) hn (by decide) hdf ⟨rfl,by decide,by decide⟩ hY F
  (λ_ H a ns hl _ hS=>⟨H,[.scr ns],.sh (.bl true),qe0 ns hl,rfl,Y7.refl _,⟨.ref a,[],rfl,⟨a,rfl,hS⟩,rfl⟩,λ_ _ _ _ y=>y⟩) λ_ _ _ _ _ z=>z
end Kx
namespace PySem.W.Fast
def tw12785426836158210303:=0
def tw6995789500170261845:=0
def tw12047231424452179738:=0
def tw7536997151678535565:=0
def tw9461196143734956888:=0
def tw16834300033638759911:=0
def tw9346141353246413111:=0
def tw7722103794804224744:=0
def tw6660148802801674380:=0
def tw15538509640833965366:=0
def tw7722969407192871259:=0
def tw14106924991041925433:=0
def tw15152259392607560154:=0
def tw9927500740594435905:=0
def tw11956331511052750190:=0
def tw9825559199648580454:=0
def tw8388969334031466861:=0
def tw14003383088916978963:=0
def tw14127031542782603063:=0
def tw491674110341785758:=0
def tw17113350959047660714:=0
def tw8855468778291193073:=0
def tw11952283125292126444:=0
def tw6650939715607536545:=0
def tw13548415979334497279:=0
def tw670710677984362958:=0
def tw9766596593975427045:=0
def tw2818222996695484190:=0
def tw13299805025634910481:=0
def tw7006306470282709755:=0
def tw3165433949370138843:=0
def tw118832157723609314:=0
def tw13996185267550751736:=0
def tw5907777144866206977:=0
def tw11350216519998536294:=0
def tw12227408442061707612:=0
def tw5226063185245450267:=0
def tw10664344059794866782:=0
def tw3189641541801557270:=0
def tw13187803466831441986:=0
def tw11171646093311637168:=0
def tw12745603927721090502:=0
def tw12738521226490328830:=0
def tw17578544265659586385:=0
def tw15691823578895341126:=0
def tw17800727689026064487:=0
def tw7913913675878502233:=0
def tw15329785186630467106:=0
def tw12756759937406515591:=0
def tw15452709579421334493:=0
def tw12614194125646508216:=0
def tw7594869499977439404:=0
def tw2066817835564640670:=0
def tw17834425615177810810:=0
def tw4999936459499865157:=0
def tw18264727089037554640:=0
def tw8575922393167920985:=0
def tw10761494654626314120:=0
def tw12839281391477734930:=0
def tw12167690333731412711:=0
def tw4554759681023091586:=0
def tw7337852078458203931:=0
def tw7632458554253183361:=0
def tw12657667004166721048:=0
def tw18337693624862190728:=0
def tw3001085621364425237:=0
def tw14291850726784648031:=0
def tw976749614134486069:=0
def tw5274581459322612405:=0
def tw13318509769546814328:=0
def tw8709052640811330146:=0
def tw15936761360572615228:=0
def tw9650096010701339734:=0
def tw15767830298847887075:=0
def tw15569114376687514199:=0
def tw18421773122179746256:=0
def tw14332544938569071061:=0
def tw5005176350544733877:=0
def tw11825658873138336102:=0
def tw14294700506402916722:=0
def tw9326897232921117518:=0
def tw7699196878262541712:=0
def tw15010877556111393102:=0
def tw10613728128975816781:=0
def tw2598442253384252223:=0
def tw14208482376505664785:=0
def tw7692849170299589714:=0
def tw4534451069901867035:=0
def tw9879381109502599839:=0
def tw4757700808627519090:=0
def tw4056458815321599580:=0
def tw9579758899832723152:=0
def tw789943975722867281:=0
def tw7707533750491917237:=0
def tw11250752569200241242:=0
def tw4471688925923781724:=0
def tw5299648068235664053:=0
def tw7437826765295473874:=0
def tw14300318653700367404:=0
def tw6726096960460750829:=0
def tw17276422838285422501:=0
def tw10604505734926567051:=0
def tw4521123028465020801:=0
def tw1890030562060779941:=0
def tw5271163076763177868:=0
def tw8679292496495823626:=0
def tw644809666765561386:=0
def tw13765468545003821112:=0
def tw13009000697359500539:=0
def tw8993470805108620757:=0
def tw1747785830720776738:=0
def tw4525131002504749780:=0
def tw2045261043732391206:=0
def tw6236232100090455510:=0
def tw11231049482719689462:=0
def tw72954522050870331:=0
def tw8006406755765880353:=0
def tw1485134877171166707:=0
def tw15513066922057190956:=0
def tw11486264189436152685:=0
def tw4742358738910914753:=0
def tw14586362123369153927:=0
def tw11224445827250818295:=0
def tw11377567716634721358:=0
def tw10711901099861267118:=0
def tw12569512369863027388:=0
def tw11525797841653066257:=0
def tw17173166700536842437:=0
def tw4606298368479153320:=0
def tw16652197766543250695:=0
def tw17658327449209142887:=0
def tw2472012604282104967:=0
def tw11852949881969085956:=0
def tw3796083229100649981:=0
def tw9241818606788284188:=0
def tw11084816895893952238:=0
def tw12859871289200379291:=0
def tw17926666340142000676:=0
def tw10594164363619316673:=0
def tw10080354845051992113:=0
def tw794456006426159565:=0
def tw14411206708051976495:=0
def tw16262649746989363164:=0
def tw17425462577987326532:=0
def tw10947816340833487990:=0
def tw6659973094927827629:=0
def tw18331922553078772169:=0
def tw10592354078624308267:=0
def tw13976931314078222553:=0
def tw8906385305771811877:=0
def tw12010926035490153935:=0
def tw8966057983191678844:=0
def tw1390186105824814145:=0
def tw9297117733283485143:=0
def tw11586182428985552064:=0
def tw4321943342082605721:=0
def tw14024340736480856342:=0
def tw13227708314488412381:=0
def tw18437412330142400408:=0
def tw14913828258106002423:=0
def tw12277465324090785124:=0
def tw5950484548425501083:=0
def tw1109138577379330510:=0
def tw14105037802751626882:=0
def tw12710515003339019386:=0
def tw17974965748336516787:=0
def tw15060279262105892903:=0
def tw16895030181788930142:=0
def tw16417987896522326624:=0
def tw9233792871783683956:=0
def tw7389781145853352116:=0
def tw18177423795407342921:=0
def tw8567413785522231794:=0
def tw509065198680126665:=0
def tw524339093859253257:=0
def tw17404135516192070396:=0
def tw1484336576851266350:=0
def tw9794356437633747160:=0
def tw12668430328433047004:=0
def tw4945946021736623918:=0
def tw6385302421913573379:=0
def tw8476015127957142050:=0
def tw13181056581194259385:=0
def tw5528508931114179604:=0
def tw14950920936693510996:=0
def tw8238927000890285250:=0
def tw193943521338136881:=0
def tw1719601093362470578:=0
def tw6868179945203388402:=0
def tw18445011148383256839:=0
def tw44486141540747214:=0
def tw3459252542707272530:=0
def tw1085974478731309727:=0
def tw6801099813025988603:=0
def tw7906375828612309791:=0
def tw12509822470309209805:=0
def tw14819584778433558815:=0
def tw11967287419506064935:=0
def tw4182552549306067855:=0
def tw2776570599796905372:=0
def tw9551829931429634556:=0
def tw1980393017744941071:=0
def tw14062793163183136520:=0
def tw15487231154600858685:=0
def tw6365780164532006740:=0
def tw18149654120854316102:=0
def tw10188962918901369629:=0
def tw16893670649059281967:=0
def tw14845909846601453423:=0
def tw14199149715622344043:=0
def tw12470897390542036417:=0
def tw14879895646316776903:=0
def tw18392495516084516223:=0
def tw5557690222348432785:=0
def tw4473633929218429428:=0
def tw2866843221456597845:=0
def tw6690949160846165954:=0
def tw15612045271570690985:=0
def tw2337451548019719739:=0
def tw11392027711248519301:=0
def tw685823922915262916:=0
def tw16407367996097475383:=0
def tw700685750412866841:=0
def tw8389846984595225453:=0
def tw6082281805634683523:=0
def tw8414869167266678584:=0
def tw2796718567706080001:=0
def tw10038643509092051483:=0
def tw9369307167950422579:=0
def tw11109121474524458199:=0
def tw3027200824881686367:=0
def tw14368561607163223097:=0
def tw1945078442125849830:=0
def tw16328709924796746237:=0
def tw640547577483885350:=0
def tw16464731778167360135:=0
def tw10494463496286270642:=0
def tw3371743984068348820:=0
def tw17722079545928488335:=0
def tw4234582871069616716:=0
def tw3306662107720773827:=0
def tw2912026349499983530:=0
def tw9500479845410250262:=0
def tw2149813237130131338:=0
def tw8406108189349868867:=0
def tw7162994897963679668:=0
def tw8049092133596196915:=0
def tw12067048064028554523:=0
def tw7258825397630548071:=0
def tw5350309353251771119:=0
def tw5438368558007867201:=0
def tw17586858718585444651:=0
def tw14476896338488473217:=0
def tw2952959063368149989:=0
def tw10093539113246446974:=0
def tw9410983256216289103:=0
def tw11711649985244202533:=0
def tw8028330707576928167:=0
def tw8131300118398760994:=0
def tw18293039856171625664:=0
def tw17372496963509907976:=0
def tw8782555354928588486:=0
def tw13722576001687009468:=0
def tw7737375357486739828:=0
def tw12074520011689269727:=0
def tw10204048415705838375:=0
def tw10248394337885960285:=0
def tw2044727482507074905:=0
def tw2264923575909540903:=0
def tw6251448868865474383:=0
def tw11276762039109485246:=0
def tw5937459487430245391:=0
def tw12247113118599971913:=0
def tw7074567373272236978:=0
def tw16761296929035899205:=0
def tw18264210928360559202:=0
def tw1232251390752181198:=0
def tw9180107390504987698:=0
def tw11427235011515248161:=0
def tw4991981401925170000:=0
def tw10267321715276196838:=0
end PySem.W.Fast
open PySem PySem.W PyProof.Rows
set_option maxRecDepth 100000 in
set_option maxHeartbeats 0 in
theorem PySem.Challenge.cw_hookrail_k53_a_yard_tour_walked_holds : PySem.Challenge.rw_hookrail_k53_a_yard_tour_walked.Holds := by
 w_on;o_law;k_head;(case hw=>w_witness2)
 k_fill
 refine Kx.walk (l:=PySem.Challenge.rw_hookrail_k53_a_yard_tour_walked) rfl rfl (λw h Y=>Yb Y) ?F
 case F =>
  intro w mg fa h KX G hmg;refine' Kx.qgg KX G hmg ?D0 ?D1 ?D2 ?D3 ?D4 ?D5 ?D6 ?D7 ?D8 ?D9 ?D10 ?D11 ?D12 ?D13 ?D14 ?D15 ?D16 ?D17 ?D18 ?D19 ?D20 ?D21 ?D22 ?D23 ?D24 ?D25 ?D26 ?D27 ?D28 ?D29 ?D30 ?D31 ?D32 ?D33 ?D34 ?D35 ?D36 ?D37 ?D38 ?D39 ?D40 ?z_isinstance ?z_bool ?z_int ?z_len ?z_tuple ?z_list ?z_all ?z_sorted ?z_enumerate ?z_reversed ?z_min ?q1E ?z_max ?z_zip ?z_sum ?z_range ?z_abs ?i_int ?i_bool ?i_tuple ?i_list
  (case D0|D1|D2|D3|D4|D5|D6|D7|D8|D9|D10|D11|D12|D13|D14|D15|D16|D17|D18|D19|D20|D21|D22|D23|D24|D25|D26|D27|D28|D29|D30|D31|D32|D33|D34|D35|D36|D37|D38|D39|D40=>(refine' Hk.qhx ?a ?l ?c ?k;(case a=>k_is);(case l=>k_is);(case c=>k_is);(case k=>k_is)))
  (case z_isinstance|z_bool|z_int|z_len|z_tuple|z_list|z_all|z_sorted|z_enumerate|z_reversed|z_min|q1E|z_max|z_zip|z_sum|z_range|z_abs=>k_is)
  (case i_int=>intro t ht;cases t <;> first|(exact absurd rfl ht)|rfl|k_is)
  (case i_bool=>intro t ht;cases t <;> first|(exact absurd rfl ht)|rfl|k_is)
  (case i_tuple=>intro t ht;cases t <;> first|(exact absurd rfl ht)|rfl|k_is)
  (case i_list=>intro t ht;cases t <;> first|(exact absurd rfl ht)|rfl|k_is)
#print axioms PySem.Challenge.cw_hookrail_k53_a_yard_tour_walked_holds
