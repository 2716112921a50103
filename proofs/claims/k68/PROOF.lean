import PyProof.Rows.All
import Wide.All
import OpenK.AllK
import Wide.FinOn
import Lean
import PyProof.EqAt
import PyProof.EqKinds
import PyProof.TupleCall
import PySem.SetOps
import KE.KDictSum
import KE.KDictList
import PyProof.ZipIter
import KE.KFind
import PyProof.MaxThree
import PyProof.Rows.IntMath
import PyProof.EnumMake
import PyProof.Rows.EnumRows
import PyProof.DictWalks
import PyProof.Rows.SortRuns
import KE.KSortKey
import PySem.Challenge.RW_hookrail_k68_rings_made_otherwise
open Array renaming length_toList→zQ,getElem?_toList→zX,getElem?_eq_getElem→zw,getElem?_eq_none→yb,toArray_toList→xM,size_push→wc,getElem?_push→ww,forIn_toList→ZJ,toList_push→ZT,toList→Z1
open Bool renaming and_eq_true→zr,false_eq_true→zy,false_ne_true→yG,or_false→xo,eq_iff_iff→xw,and_false→xz,false_and→wg,and_eq_true_iff→wm,false_or→ZC,not_true→ZD,true_and→ZF,true_or→ZW,not_false→Zx,and_true→Z0
open Int renaming le_refl→yM,toNat_natCast→yk,one_mul→xN,le_trans→xP,mul_one→xX,le_of_lt→xh,emod_eq_of_lt→xi,mul_le_mul_of_nonneg_left→xq,emod_nonneg→xv,emod_lt_of_pos→wF,zero_add→wW,sub_emod→wY,toNat→wq,toNat_of_nonneg→wz,reducePow→ZE,le_antisymm→Zk,reduceToNat→Zo
open List renaming length_map→zB,getElem?_eq_getElem→zC,mem_cons→zE,mem_append_right→zF,length_append→zG,mem_append_left→zH,mem_cons_self→zI,mem_cons_of_mem→zJ,mem_append→zK,mem_singleton→zL,length_cons→zM,size_toArray→zO,mem_map→zR,getElem?_set_ne→zT,map_cons→zU,getElem?_append_right→zV,getElem?_map→zW,not_mem_nil→zY,getElem?_append_left→zZ,map_append→za,length_take→zb,pairwise_cons→zc,mem_filter→zd,getElem_mem→ze,mem_map_of_mem→zg,getD_eq_getElem?_getD→zj,sum_cons→zk,mem_iff_getElem→zm,getElem?_eq_none→zo,map_map→zp,getElem?_eq_some_iff→zq,length_singleton→zx,append_nil→z5,length_range→z7,length_drop→z8,mem_of_getElem?→z9,perm_ext_iff_of_nodup→yA,range→yB,filter_cons→yC,append_assoc→yE,mem_range→yF,map_congr_left→yI,pairwise_iff_getElem→yJ,length_set→yN,nodup_cons→yO,nodup_append→yR,length_zip→yT,take_append_drop→yV,map_nil→yX,nil_append→yY,getElem?_replicate→yZ,getElem?_zip_eq_some→yc,length_replicate→yd,mem_iff_getElem?→yf,lookup_cons→yg,getElem?_take→yh,length→yi,eq_nil_of_length_eq_zero→yj,ext_getElem?→yl,getElem?_cons_succ→ym,getElem?_range→yo,filter_eq_self→yq,getElem?_set_self→yr,all_eq_true→yu,getElem?_drop→yv,sum_append→yw,filter_map→yx,filter_congr→y9,filterMap_cons→xA,length_reverse→xB,getElem?_cons_zero→xD,find?_cons→xF,all_cons→xG,length_filter_le→xH,pairwise_map→xI,pairwise_append→xK,drop_eq_getElem_cons→xR,getElem?_eq_none_iff→xS,map_eq_nil_iff→xT,any_cons→xU,take_of_length_le→xZ,pairwise_lt_range→xa,nodup_nil→xb,take_length→xk,map_fst_zip→xl,mem_flatten→xm,mem_flatMap→xn,of_mem_zip→xr,length_nil→xu,replicate→xx,length_eraseIdx_of_lt→wB,drop_zero→wE,foldl_append→wI,take_append_getElem→wK,getElem_inj→wL,filter_cons_of_pos→wN,filter_cons_of_neg→wO,pairwise_singleton→wP,range_succ_eq_map→wR,all_map→wS,zipWith→wU,filter_eq_nil_iff→wV,sum_nil→wX,forIn_cons→wd,dropLast_eq_take→wf,reverse_reverse→wo,map_id→wp,length_pos_iff→wu,replicate_succ→wx,replicate_zero→wy,flatMap_append→w8,map_take→ZA,map_drop→ZB,mem_filterMap→ZG,filterMap_map→ZH,set_cons_succ→ZL,set_cons_zero→ZM,map_singleton→ZN,take_sublist→ZQ,getElem_take→ZR,take_add_one→ZV,flatten_cons→Za,map_id'→Zc,perm_middle→Zg,drop_length→Zh,cons_append→Zi,take_left'→Zm,drop_left'→Zn,forIn_nil→Zs,take_take→Zt,drop_take→Zu,drop_drop→Zv,take_zero→Zw
open List.Pairwise renaming imp_of_mem→xV,nil→xY,sublist→xj
open List.Perm renaming refl→xL,trans→Zj
open List.Sublist renaming refl→ZZ
open List.cons renaming inj→Zz
open Nat renaming le_refl→zN,ne_of_lt→zi,lt_of_lt_of_le→zn,lt_or_ge→zu,le_trans→z6,lt_succ_of_lt→yD,le_of_lt→yK,zero_le→yL,lt_succ_self→yU,lt_irrefl→yt,le_succ→y8,ne_of_gt→xO,zero_add→xg,not_lt_zero→xt,lt_of_le_of_lt→wA,eq_or_lt_of_le→wC,le_succ_of_le→wH,lt_trichotomy→wJ,add_sub_cancel_left→wM,sub_self→wT,min_le_left→we,eq_zero_or_pos→ZI,add_sub_cancel→ZK,lt_trans→ZS,sub_zero→ZY,min_le_right→Ze,min_eq_left→Zl,not_lt→Zr
open Option renaming isSome_iff_exists→yW,bind_some→ya,map_some→yn,map_eq_some_iff→xf,isSome_map→ZX,getD_none→Zf,none→Z2
open Option.some renaming inj→zt
open PySem.Heap renaming get?_push_of_some→zD,lt_size→zP,get?_push_size→zS,get?_update_other→zh,size_push→yP,get?_update_self→ye,SameBut→yy,size_update→xE,get?_some_iff→xW
open PySem.Heap.IsSliceOf renaming new→Z3
open PySem.Heap.SameBut renaming update→wt,refl→ZU
open PySem.W renaming Frag→zA,mg_none_of→zv,nsIn→yH,kia_one→yS,fnOf→yz,keepIn→xJ,codeIn→xy,methodObj→wG,cellsFrom_some→wQ,instObj→wZ,OpenLaw→wb,lookIn→wj,kitOne→wk,mg_of→w9,kitx_list→ZO,kitx_dict→ZP,plainGet→Zd,findIn→Zp,kIn_of→Zq,WalkO→Zy
open PyProof.Rows renaming arrOf→vS,wpS_bind→vj,seqObj→vp,IntsAre→v5,wpS_pure→v7,Keyed→ub,SortedTo→uc,SortSt→ug,wpS_forRange→uq,AllBare→ux,SBase→uy,listUpdate_at→u4,subscriptTail_builtinR→tD,envOfC→tH,K_mirror_equal→tK,wpS_reverse→tL,mirror_perm→tM,subscriptTail→tS,numOf→tU,args_tuple_getitem→tV,plain_sorted→tf,entry_sorted→tj,kind_sorted→t4,NonInc→sD,wpS_mono→sE
open PySem renaming wpAny_bind→vA,Value→vB,Shared→vC,wpAny_pure→vF,Addr→vG,starEach→vK,wpAny→vL,FuncData→vN,Program→vO,Expr→vP,mainGlobals→vQ,World→vT,bootBuiltins→vX,Around→vY,Heap→vZ,wpAny_holding→vc,wpAny_newObj_type→ve,wpAny_ite_split→vg,wpAny_mono→vh,wpAny_call_entry→vi,wpAny_setState_of→vk,backTo→vm,sizeLine_eq→vn,Stmt→vo,behindInMarks→vq,foldedSetIterable→vt,swapsWith→vv,keywordEach→vz,builtinLookup_eq_fast→v3,wpAny_setField_rec→v4,codeAny_builtin→v6,sysModules→v8,wpAny_Call_Name_kw→v9,wpAny_passesOwn→uA,wpAny_updateSeq→uB,wpAny_truthy_bool→uC,assignEach→uD,plainId_quiet→uE,pyNext→uF,wpAny_field→uG,rawInt→uH,wpAny_rule→uI,binaryOp→uJ,backToKw→uK,NameKind→uL,typeLookup_type→uM,compareOp→uN,wpAny_attempt→uO,codeAny→uP,codeAny_mono→uQ,scanBound→uR,wpAny_isInstance→uS,attributeBase→uT,sliceBounds→uU,wpAny_pyIter_list→uV,Keyword→uW,wpAny_typeOf→uX,wpAny_seqItems→uY,IsPair→uZ,wpAny_nextOf_list_item→ua,Scope→ud,cLine→ue,pickOrder→uf,ZipApart→uh,wpAny_execs_nil→ui,letOwnedTupleGo→uj,wpAny_specialOf→uk,intKind→ul,getItem→um,setNext→uo,isSubtype_type→ur,wpAny_fieldsOf→ut,firstArgMember→uu,isSubtype_stop→uv,tupleKind_room_in1→uw,wpAny_standAt→uz,wpAny_newList→u0,wpAny_comprehension_free→u3,wpAny_askSetting→u5,updateSeq→u6,wpAny_pyIter_zip→u7,IsPart→u8,typeLookup→u9,wpAny_isTrue_Compare1→tE,wpAny_nextOf_list_end→tF,wpAny_pyNext_zip_item→tG,wpAny_newTuple→tI,wpAny_pyNext_zip_end→tJ,tupleKind→tN,PassesOwn→tO,callerA→tP,valueAt→tQ,call_meets→tW,GenState→tX,BindsTo→tY,slotArgs→tZ,Paired→tm,Result→tq,CmpOp→tt,seqIndex_of→tu,wpAny_of_eq→tz,atKey→t5,hashInt→t6,standAt→t7,isTrue→t8,pyIter→t9,argsOk→sA,raiseNew→sB,numAt_eq→sC
noncomputable def vH:=@if_pos
noncomputable def vJ:=@if_neg
noncomputable def vM:=@absurd
noncomputable def vU:=@decide_eq_true
noncomputable def vW:=@decide_eq_false
noncomputable def vf:=@congrArg
local macro_rules|`(∅)=>`(by omega)
local macro_rules|`(⋯)=>`(by decide +kernel)
local macro_rules|`(↥$x)=>`(some (.sh $x))
local macro_rules|`(⇑$x)=>`(by simpa using $x)
local macro_rules|`(tactic|omega)=>`(tactic|lia)
set_option Elab.async false
set_option linter.all false
set_option maxRecDepth 100000
namespace L2
open PySem PySem.Spec PyProof.Rows
noncomputable abbrev Key:=Sum Int Str
noncomputable def X8:Key->vB->Bool
 | .inl k,v=>Value.isInt k v
 | .inr x,v=>Value.isStrOf x v
noncomputable def keyH(w:vT):Key->Int
 | .inl k=>t6 k
 | .inr x=>hashStr w x
theorem qy:∀{k:Key}{v:vB},X8 k v=true->(∃i t,k=Sum.inl i/\v=Value.int i t)\/(∃x t,k=Sum.inr x/\v=Value.str x t)
 | .inl i,v,h=>by
  obtain⟨t,e⟩:=Value.isInt_shape (k:=i) (v:=v) h;exact .inl ⟨i,t,rfl,e⟩
 | .inr x,v,h=>by
  obtain⟨t,e⟩:=Value.isStrOf_shape (x:=x) (v:=v) h;exact .inr ⟨x,t,rfl,e⟩
theorem qaQ(i:Int)(t:Tok):X8 (.inl i) (.int i t)=true:=by simp[X8,Value.isInt]
theorem q9T(x:Str)(t:Tok):X8 (.inr x) (.str x t)=true:=by simp[X8,Value.isStrOf]
theorem qeB(a b:Int):decide ((Sum.inl a:Key)=Sum.inl b)=(a==b):=by
 by_cases e:a=b
 ·subst e;simp
 ·have h:¬(Sum.inl a:Key)=Sum.inl b:=λq=>e (Sum.inl.inj q)
  rw[vW h];exact(beq_eq_false_iff_ne.mpr e).symm
theorem qep(a b:Str):decide ((Sum.inr a:Key)=Sum.inr b)=decide (a=b):=by
 by_cases e:a=b
 ·subst e;simp
 ·have h:¬(Sum.inr a:Key)=Sum.inr b:=λq=>e (Sum.inr.inj q)
  rw[vW h,vW e]
theorem qfi(a:Int)(b:Str):decide ((Sum.inl a:Key)=Sum.inr b)=false:=vW (λq=>nomatch q)
theorem qfe(a:Str)(b:Int):decide ((Sum.inr a:Key)=Sum.inl b)=false:=vW (λq=>nomatch q)
noncomputable def YN(prog:vO)(w:vT):PySem.KeyKind prog w Key where
 is:=X8
 hash:=keyH w
 inj:=λv a b ha hb=>by
  rcases qy ha with⟨i,t,rfl,rfl⟩|⟨x,t,rfl,rfl⟩
  ·rcases qy hb with⟨j,u,rfl,e⟩|⟨y,u,rfl,e⟩
   ·injection e with e1 _;rw[e1]
   ·exact nomatch e
  ·rcases qy hb with⟨j,u,rfl,e⟩|⟨y,u,rfl,e⟩
   ·exact nomatch e
   ·injection e with e1 _;rw[e1]
 byValue:=λk v h=>by
  rcases qy h with⟨i,t,rfl,rfl⟩|⟨x,t,rfl,rfl⟩ <;> rfl
 pyHash:=λhv h=>by
  rcases qy hv with⟨i,t,rfl,rfl⟩|⟨x,t,rfl,rfl⟩
  ·exact wpAny_pyHash_int h
  ·exact wpAny_pyHash_str h
 eqBool:=λhu hv h=>by
  rcases qy hu with⟨i,t,rfl,rfl⟩|⟨x,t,rfl,rfl⟩
  ·rcases qy hv with⟨j,u,rfl,rfl⟩|⟨y,u,rfl,rfl⟩
   ·rw[qeB]at h;exact wpAny_eqBool_int h
   ·rw[qfi]at h;exact SeqAt.EqAt.int_str i t y u _ _ _ _ h
  ·rcases qy hv with⟨j,u,rfl,rfl⟩|⟨y,u,rfl,rfl⟩
   ·rw[qfe]at h;exact SeqAt.EqAt.str_int x t j u _ _ _ _ h
   ·rw[qep]at h;exact wpAny_eqBool_str h
 «strs»:=λk x t v h=>by
  rcases qy h with⟨i,u,rfl,e⟩|⟨y,u,rfl,e⟩
  ·exact nomatch e
  ·injection e with e1 _
   subst e1;cases v <;> rfl
theorem q7s(prog:vO)(w:vT)(i:Int)(t:Tok):(YN prog w).is (.inl i) (.int i t)=true:=qaQ i t
theorem q7r(prog:vO)(w:vT)(x:Str)(t:Tok):(YN prog w).is (.inr x) (.str x t)=true:=q9T x t
inductive V where
 | non|bl (b:Bool)|int (i:Int)|str (x:Str)|byt (b:Array UInt8)|flt (b:UInt64)|ref (a:vG)|ty (n:String)
 deriving DecidableEq
def RelV:V->vB->Prop
 | .non,u=>u=Value.none
 | .bl b,u=>u=Value.bool b
 | .int i,u=>∃t,u=Value.int i t
 | .str x,u=>∃t,u=Value.str x t
 | .byt b,u=>∃t,u=Value.bytes b t
 | .flt b,u=>∃t,u=Value.float b t
 | .ref a,u=>u=Value.ref a
 | .ty n,u=>u=Value.type n
abbrev YO:List V->List vB->Prop:=tm RelV
theorem YO.length{xs:List V}{us:List vB}(r:YO xs us):xs.length=us.length:=Paired.length r
theorem YO.get:∀{xs:List V}{us:List vB}{i:Nat}{x:V},YO xs us->xs[i]?=some x->∃u,us[i]?=some u/\RelV x u
 | _,_,_,_,.nil,e=>by simp at e
 | _,_,0,_,.cons r _,e=>by simp at e;subst e;exact⟨_,rfl,r⟩
 | _,_,i+1,x,.cons _ t,e=>by
  obtain⟨u,h1,h2⟩:=YO.get (i:=i) (x:=x) t ⇑e;exact⟨u,by simpa using h1,h2⟩
theorem YO.set{x:V}{u:vB}(r:RelV x u):∀{xs:List V}{us:List vB}(i:Nat),YO xs us->YO (xs.set i x) (us.set i u)
 | _,_,_,.nil=>.nil
 | _,_,0,.cons _ t=>.cons r t
 | _,_,i+1,.cons q t=>.cons q (YO.set r i t)
theorem YO.append:∀{xs ys:List V}{us ws:List vB},YO xs us->YO ys ws->YO (xs++ys) (us++ws)
 | _,_,_,_,.nil,s=>s
 | _,_,_,_,.cons r t,s=>.cons r (YO.append t s)
theorem YO.take:∀{xs:List V}{us:List vB}(n:Nat),YO xs us->YO (xs.take n) (us.take n)
 | _,_,0,_=>.nil
 | _,_,_+1,.nil=>.nil
 | _,_,n+1,.cons r t=>.cons r (YO.take n t)
theorem YO.drop:∀{xs:List V}{us:List vB}(n:Nat),YO xs us->YO (xs.drop n) (us.drop n)
 | _,_,0,r=>r
 | _,_,_+1,.nil=>.nil
 | _,_,n+1,.cons _ t=>YO.drop n t
def Wa:Option V->Option vB->Prop
 | some v,some u=>RelV v u
 | none,none=>True
 | _,_=>False
def KV{κ:Type}:List (κ×V)->List (κ×vB)->Prop:=tm λ(p:κ×V) (q:κ×vB)=>p.1=q.1/\RelV p.2 q.2
noncomputable def kV:Key->V
 | .inl i=>.int i
 | .inr x=>.str x
inductive HO where
 
 | lst (xs:List V)
 
 | tup (xs:List V)
 
 | dK (kvs:List (Key×V))|dT (kvs:List (List Key×V))
 
 | set (S:Int->Bool) (n:Nat)
 
 | ins (C dx:vG) (fs:List (Str×V))
 
 | own (x:vG)
 
 | xd (fs:List (Str×V))
 
 | met (f x:vG)
 
 | rng (lo hi:Int)
 
 | frz (o:Obj) (u:HO)
 
 | tbl (ps:Array vB)
 
 | ext (φ:vZ->Prop)
noncomputable abbrev Hp:=vG->Option HO
noncomputable def upd(H:Hp)(a:vG)(o:HO):Hp:=λb=>if b=a then some o else H b
theorem qe{H:Hp}{a:vG}{o:HO}:upd H a o a=some o:=by unfold upd;rw[vH rfl]
theorem qb{H:Hp}{a b:vG}{o:HO}(h:b≠a):upd H a o b=H b:=by unfold upd;rw[vJ h]
theorem qfP{H:Hp}{a b:vG}{o u:HO}(h:H a=some o)(h':H b=some u)(d:o≠u):a≠b:=by
 intro e;subst e;rw[h]at h';exact d (zt h')
theorem q01{H:Hp}{a b:vG}{o:HO}(h:H a=some o)(h':H b=none):a≠b:=by
 intro e;subst e;rw[h]at h';cases h'
section
variable(P:vO)(w:vT)
def YQ(H:Hp)(h:vZ)(a:vG):HO->Prop
 | .lst xs=>xs.length<=sizeLine/\∃(its:List vB) (n:Nat),YO xs its/\h.get? a=some { cls:=.type "list", data:=.seq its.toArray n }
 | .tup xs=>xs.length<=sizeLine/\∃its:List vB,YO xs its/\IsTup h a its.toArray
 | .dK kvs=>kvs.length<=sizeLine/\(a==v8)=false/\∃vs,KV kvs vs/\h.DictOf (YN P w) a vs
 | .dT kvs=>kvs.length<=sizeLine/\(a==v8)=false/\∃xs:List (List Key×vG×vB),
   tm (λ(p:List Key×V) (q:List Key×vG×vB)=>p.1=q.1/\H q.2.1=some (.tup (p.1.map kV))/\RelV p.2 q.2.2) kvs xs /\
   ∃o es ep,h.get? a=some o/\o.ExactDict/\o.data=.dict es ep/\es.toList=xs.map (entryOfKey (tN (YN P w)))/\(xs.map (·.1)).Nodup
 | .set S n=>h.SetOf (ul P w) a S n
 | .ins C dx fs=>H dx=some (.own a)/\fs.length<=1000/\dx≠a/\h.get? a=some (wZ C dx) /\
   ∃mA,h.Ns1 dx mA/\(∀f,Wa (fs.lookup f) (mA f))/\PySem.Within mA (fs.map (·.1))
 | .own _=>∃o,h.get? a=some o
 | .xd fs=>∃mA,h.Ns1 a mA/\∀f,Wa (fs.lookup f) (mA f)
 | .rng lo hi=>∃t u v,h.get? a=some { cls:=.type "range", data:=.fields #[.int lo t,.int hi u,.int 1 v] }
 | .frz o u=>h.get? a=some o/\YQ H h a u
 | .tbl ps=>h.get? a=some { cls:=.none,data:=.fields ps }
 | .met f x=>h.get? a=some (wG (.ref f) (.ref x))
 | .ext φ=>φ h/\(∃o,h.get? a=some o)/\∀h1 h2:vZ,φ h1->(∀o,h1.get? a=some o->h2.get? a=some o)->φ h2
def HOk(H:Hp)(h:vZ):Prop:=∀a o,H a=some o->YQ P w H h a o
end
section
variable{P:vO}{w:vT}{H H':Hp}{h h':vZ}{a:vG}{o:HO}
theorem YQ.lt(x:YQ P w H h a o):a<h.objs.size:=by
 cases o with
 | lst xs=>obtain⟨_,_,_,_,e⟩:=x;exact zP e
 | tup xs=>obtain⟨_,_,_,p⟩:=x;exact p.lt
 | dK kvs=>obtain⟨_,_,_,_,o,_,_,e,_⟩:=x;exact zP e
 | dT kvs=>obtain⟨_,_,_,_,o,_,_,e,_⟩:=x;exact zP e
 | set S n=>obtain⟨o,_,_,_,e,_⟩:=x;exact zP e
 | ins C dx fs=>obtain⟨_,_,_,e,_⟩:=x;exact zP e
 | own y=>obtain⟨_,e⟩:=x;exact zP e
 | xd fs=>obtain⟨_,⟨_,_,_,e,_⟩,_⟩:=x;exact zP e
 | rng lo hi=>obtain⟨_,_,_,e⟩:=x;exact zP e
 | frz ob u=>obtain⟨e,_⟩:=x;exact zP e
 | tbl ps=>exact zP (show h.get? a=some _ from x)
 | met f y=>exact zP (show h.get? a=some _ from x)
 | ext φ=>obtain⟨_,⟨_,e⟩,_⟩:=x;exact zP e
theorem Paired.mapP{α β:Type}{F G:α->β->Prop}:∀{l₁:List α}{l₂:List β},tm F l₁ l₂->(∀a b,F a b->G a b)->tm G l₁ l₂
 | _,_,.nil,_=>.nil
 | _,_,.cons r t,f=>.cons (f _ _ r) (Paired.mapP t f)
theorem YQ.stay(x:YQ P w H h a o)(k:∀b u,(b=a\/H b=some (.own a))->h.get? b=some u->h'.get? b=some u)(ho:∀b,H b=some (.own a)->H' b=some (.own a))(ht:∀b xs,H b=some (.tup xs)->H' b=some (.tup xs)):YQ P w H' h' a o:=by
 induction o with
 | lst xs=>obtain⟨z,its,n,r,e⟩:=x;exact⟨z,its,n,r,k _ _ (.inl rfl) e⟩
 | tup xs=>obtain⟨z,its,r,ob,e,c⟩:=x;exact⟨z,its,r,ob,k _ _ (.inl rfl) e,c⟩
 | dK kvs=>obtain⟨z,y,vs,r,ob,es,ep,e,c⟩:=x;exact⟨z,y,vs,r,ob,es,ep,k _ _ (.inl rfl) e,c⟩
 | dT kvs=>
  obtain⟨z,y,xs,r,ob,es,ep,e,c⟩:=x;exact⟨z,y,xs,Paired.mapP r λp q z=>⟨z.1,ht _ _ z.2.1,z.2.2⟩,ob,es,ep,k _ _ (.inl rfl) e,c⟩
 | set S n=>obtain⟨ob,es,ep,t,e,c⟩:=x;exact⟨ob,es,ep,t,k _ _ (.inl rfl) e,c⟩
 | ins C dx fs=>
  obtain⟨d,z,ne,e,mA,⟨od,es,ep,e2,c⟩,r⟩:=x;exact⟨ho _ d,z,ne,k _ _ (.inl rfl) e,mA,⟨od,es,ep,k _ _ (.inr d) e2,c⟩,r⟩
 | own y=>obtain⟨ob,e⟩:=x;exact⟨ob,k _ _ (.inl rfl) e⟩
 | xd fs=>obtain⟨mA,⟨od,es,ep,e,c⟩,r⟩:=x;exact⟨mA,⟨od,es,ep,k _ _ (.inl rfl) e,c⟩,r⟩
 | rng lo hi=>obtain⟨t,u,v,e⟩:=x;exact⟨t,u,v,k _ _ (.inl rfl) e⟩
 | frz ob u ih=>obtain⟨e,q⟩:=x;exact⟨k _ _ (.inl rfl) e,ih q⟩
 | tbl ps=>
  have e:h.get? a=some { cls:=.none,data:=.fields ps }:=x;show h'.get? a=some { cls:=.none,data:=.fields ps };exact k a _ (.inl rfl) e
 | met f y=>
  have e:h.get? a=some (wG (.ref f) (.ref y)):=x;show h'.get? a=some (wG (.ref f) (.ref y));exact k a _ (.inl rfl) e
 | ext φ=>obtain⟨p,⟨o,e⟩,st⟩:=x;exact⟨st _ _ p λo q=>k _ _ (.inl rfl) q,⟨o,k _ _ (.inl rfl) e⟩,st⟩
theorem HOk.lt(x:HOk P w H h)(e:H a=some o):a<h.objs.size:=(x a o e).lt
theorem HOk.fresh(x:HOk P w H h)(e:h.objs.size<=a):H a=none:=by
 cases q:H a with
 | none=>rfl
 | some u=>exact vM (zn (x.lt q) e) (yt _)
theorem HOk.kept(x:HOk P w H h)(k:∀b u,h.get? b=some u->h'.get? b=some u):HOk P w H h':=λa o e=>
 (x a o e).stay (λb u _ q=>k b u q) (λ_ q=>q) λ_ _ q=>q
theorem HOk.laid(x:HOk P w H h)(k:∀b u,h.get? b=some u->h'.get? b=some u)(hp:h.objs.size<=a)(new:YQ P w (upd H a o) h' a o):HOk P w (upd H a o) h':=λb u e=>by
 have hn:=x.fresh hp
 by_cases hb:b=a
 ·subst hb;rw[qe]at e;cases e;exact new
 ·rw[qb hb]at e
  exact(x b u e).stay (λc v _ q=>k c v q) (λc q=>by rw[qb (q01 q hn)];exact q) λc xs q=>by rw[qb (q01 q hn)];exact q
end
def Rd(H:Hp)(a:vG)(u:HO):Prop:=H a=some u\/∃o,H a=some (.frz o u)
theorem Rd.ok{P:vO}{w:vT}{H:Hp}{h:vZ}{a:vG}{u:HO}(r:Rd H a u)(x:HOk P w H h):YQ P w H h a u:=by
 rcases r with r|⟨o,r⟩
 ·exact x a u r
 ·obtain⟨_,q⟩:=x a _ r
  exact q
def Mut:Option HO->Prop
 | some (.lst _)=>True
 | some (.dK _)=>True
 | some (.dT _)=>True
 | some (.set _ _)=>True
 | some (.ins _ _ _)=>True
 | some (.ext _)=>True
 | _=>False
section
variable{P:vO}{w:vT}{H:Hp}{h h':vZ}{x e:vG}{o':HO}
theorem HOk.write(ok:HOk P w H h)(mu:Mut (H x))(he:e=x\/H e=some (.own x))(k:∀b u,b≠e->h.get? b=some u->h'.get? b=some u)(heo:∃u,h'.get? e=some u)(new:YQ P w (upd H x o') h' x o'):HOk P w (upd H x o') h':=λb u q=>by
 have nown:∀c y,H c=some (.own y)->c≠x:=λc y r z=>by subst z;rw[r]at mu;exact mu
 have ntup:∀c xs,H c=some (.tup xs)->c≠x:=λc xs r z=>by subst z;rw[r]at mu;exact mu
 by_cases hb:b=x
 ·subst hb;rw[qe]at q;cases q;exact new
 ·rw[qb hb]at q
  by_cases hbe:b=e
  ·have q':H b=some (.own x):=by
    rcases he with z|z
    ·exact vM (hbe.trans z) hb
    ·rw[hbe];exact z
   rw[q]at q';cases q';obtain⟨v,hv⟩:=heo;exact⟨v,by rw[hbe];exact hv⟩
  ·refine(ok b u q).stay (λc v hc r=>k c v ?_ r) (λc r=>by rw[qb (nown c b r)];exact r) λc xs r=>by rw[qb (ntup c xs r)];exact r
   rcases hc with rfl|hc
   ·exact hbe
   ·rintro rfl
    rcases he with z|z
    ·exact nown c b hc z
    ·rw[hc]at z;cases z;exact hb rfl
end
structure Un (fs ex:List vG) (H H':Hp) (h h':vZ):Prop where
 keep:∀b o,h.get? b=some o->H b=none->b∉fs->b∉ex->h'.get? b=some o
 slot:∀b o,h.get? b=some o->H b=none->b∈fs->b∉ex->∃sl,h'.get? b=some { o with slots:=sl }
 free:∀b o,h.get? b=some o->H b=none->b∉ex->H' b=none
 there:∀b o,h.get? b=some o->b∉ex->∃o',h'.get? b=some o'
 tups:∀b xs,H b=some (.tup xs)->H' b=some (.tup xs)
 frzs:∀b o u,H b=some (.frz o u)->H' b=some (.frz o u)
 tbls:∀b ps,H b=some (.tbl ps)->∃more,H' b=some (.tbl (ps++more))
section
variable{fs fs' ex ex':List vG}{H H1 H2:Hp}{h h1 h2 h':vZ}{a x e:vG}{o:HO}
theorem Un.any(u:Un fs ex H H1 h h1){b:vG}{ob:Obj}(q:h.get? b=some ob)(n:H b=none)(hx:b∉ex):∃sl,h1.get? b=some { ob with slots:=sl }:=by
 by_cases hb:b∈fs
 ·exact u.slot b ob q n hb hx
 ·exact⟨ob.slots,u.keep b ob q n hb hx⟩
theorem Un.kept(k:∀b u,h.get? b=some u->h'.get? b=some u):Un fs ex H H h h' :=
 ⟨λb ob q _ _ _=>k b ob q,λb ob q _ _ _=>⟨ob.slots,k b ob q⟩,λ_ _ _ n _=>n,λb ob q _=>⟨ob,k b ob q⟩,λ_ _ q=>q,λ_ _ _ q=>q,λ_ ps q=>⟨#[],by rw[q];simp⟩⟩
theorem Un.refl:Un fs ex H H h h:=Un.kept λ_ _ q=>q
theorem Un.laid(k:∀b u,h.get? b=some u->h'.get? b=some u)(hp:h.objs.size<=a)(hn:H a=none):Un fs ex H (upd H a o) h h' where
 keep:=λb u q _ _ _=>k b u q
 slot:=λb u q _ _ _=>⟨u.slots,k b u q⟩
 free:=λb u q n _=>by rw[qb (zi (zn (zP q) hp))];exact n
 there:=λb u q _=>⟨u,k b u q⟩
 tups:=λb xs q=>by rw[qb (q01 q hn)];exact q
 frzs:=λb u xs q=>by rw[qb (q01 q hn)];exact q
 tbls:=λb ps q=>⟨#[],by rw[qb (q01 q hn),q];simp⟩
theorem Un.write(mu:Mut (H x))(he:e=x\/H e=some (.own x))(k:∀b u,b≠e->h.get? b=some u->h'.get? b=some u)(heo:∃u,h'.get? e=some u):Un fs ex H (upd H x o) h h':=by
 have hx:∀b,H b=none->b≠x:=λb n z=>by subst z;rw[n]at mu;exact mu
 have hb:∀b,H b=none->b≠e:=λb n z=>by
  subst z;rcases he with r|r
  ·exact hx b n r
  ·rw[n]at r;cases r
 have hm:∀b u,H b=some u->¬Mut (some u)->b≠x:=λb u q nm z=>by subst z;rw[q]at mu;exact nm mu
 refine⟨λb u q n _ _=>k b u (hb b n) q,λb u q n _ _=>⟨u.slots,k b u (hb b n) q⟩,λb u q n _=>by rw[qb (hx b n)];exact n,λb u q _=>?_,
  λb xs q=>by rw[qb (hm b _ q λz=>z)];exact q,λb u xs q=>by rw[qb (hm b _ q λz=>z)];exact q,λb ps q=>⟨#[],by rw[qb (hm b _ q λz=>z),q];simp⟩⟩
 by_cases hbe:b=e
 ·subst hbe;exact heo
 ·exact⟨u,k b u hbe q⟩
end
noncomputable def trk(h:vZ)(H:Hp):List vG:=(yB h.objs.size).filter λa=>(H a).isSome
noncomputable def Wy(h:vZ)(H:Hp):vZ:=PySem.W.hideAll h (trk h H)
theorem qau(h:vZ)(H:Hp):(Wy h H).objs.size=h.objs.size:=PySem.W.hideAll_size _ _
theorem qcg{h:vZ}{H:Hp}{b:vG}{o:Obj}(e:h.get? b=some o)(n:H b=none):(Wy h H).get? b=some o :=
 PySem.W.hideAll_get _ e λhm=>by
  have q:(H b).isSome=true:=(zd.mp hm).2;rw[n]at q;simp at q
theorem qe8{h:vZ}{H:Hp}{b:vG}{o:Obj}(e:(Wy h H).get? b=some o):h.get? b=some o/\H b=none:=by
 have e':h.get? b=some o:=PySem.W.of_hideAll (trk h H) e;refine⟨e',?_⟩;cases q:H b with
 | none=>rfl
 | some x=>
  have hm:b∈trk h H:=zd.mpr ⟨yF.mpr (zP e'),by simp[q]⟩;have z:(Wy h H).get? b=none:=PySem.W.hideAll_none (trk h H) hm;rw[z]at e;cases e
noncomputable def zAK(g h:vZ)(L:vG):List (vG×Obj):=(yB h.objs.size).filterMap λa=>if a=L\/(g.get? a).isSome=true then none else (h.get? a).map λo=>(a,o)
noncomputable def rest(g h:vZ)(L d:vG):List (vG×Obj):=(zAK g h L).filter λp=>decide (p.1≠d)
structure Mod (K:zA) (mg:Str->Option vB) (base:vZ):Prop where
 kin:K.In base
 glob:base.Ns vQ mg
 blt:∃mb,base.Ns builtinsNs mb/\∀x:Str,x ≠ "__name__" -> mb x=vX x
 nolimit:base.NoLimit
structure Cx where
 prog:vO
 w:vT
 K:zA
 mg:Str->Option vB
 base:vZ
 A:vY
 N:List Str
 s₀:vC
 H₀:Hp
 env:Env
 outer:List Env
 stack:List Env
 ex:List vG
 fn:Str->Bool
 calm:Bool
 pn:List (vG×Obj)
 xe:vB->vC->Prop
noncomputable def frs(l:List Env):List vG:=l.filterMap (·.frame)
noncomputable abbrev Cx.fs(X:Cx):List vG:=frs X.outer
def Vis(sc:ud)(x:Str):Prop:=sc.names.lookup x=some .local\/sc.names.lookup x=some .cell\/sc.names.lookup x=some .free
def Loc(sc:ud)(x:Str):Prop:=sc.names.lookup x=some .local\/sc.names.lookup x=some .cell
def Look(env:Env)(h:vZ)(m:Str->Option vB)(x:Str)(u:vB):Prop :=
 (env.kindOf x=some .local/\m x=some u)\/((env.kindOf x=some .cell\/env.kindOf x=some .free)/\∃c,env.cells.lookup x=some c/\h.IsCell c (some u))
structure Cx.Ok (X:Cx):Prop where
 mod:Mod X.K X.mg X.base
 kind:X.env.scope.kind=.function
 glob:X.env.globals=vQ
 blt:X.env.builtins=builtinsNs
 above:X.s₀.heap.objs.size<=X.env.locals
 inj:∀x y c,X.env.cells.lookup x=some c->X.env.cells.lookup y=some c->x=y
 has:∀x,(X.env.kindOf x=some .cell\/X.env.kindOf x=some .free)->∃c,X.env.cells.lookup x=some c
 cab:∀x c,X.fn x=true->X.env.cells.lookup x=some c->X.s₀.heap.objs.size<=c
 hd:X.calm=true->X.A.handled=none
 frames:X.A.frames=some X.stack
 stk:X.stack=X.outer\/(X.stack=X.env::X.outer/\X.env.frame=some X.env.locals)
 exf:∀b∈X.ex,b≠X.env.locals/\∀x c,X.env.cells.lookup x=some c->c≠b
 bs:∀b o,X.base.get? b=some o->X.s₀.heap.get? b=some o/\X.H₀ b=none
 bsz:X.base.objs.size<=X.s₀.heap.objs.size
 noex:∀b o,X.base.get? b=some o->b∉X.ex
 exfs:∀b∈X.ex,b∉X.fs
 funs:X.s₀.heap.FunFrames X.base X.outer
 frf:∀b∈X.fs,X.H₀ b=none
structure Inv (X:Cx) (pins:List (vG×Obj)) (σ:List (Option V)) (H:Hp) (s:vC):Prop where
 ok:X.Ok
 os:s.os=X.s₀.os
 bare:ux s.gens
 base:Un X.fs X.ex X.H₀ H X.s₀.heap s.heap
 loc:∃m,s.heap.Ns X.env.locals m/\∀(i:Nat)(x:Str)(v:V),X.N[i]?=some x->σ[i]?=some (some v)->Vis X.env.scope x->∃u,RelV v u/\Look X.env s.heap m x u
 cell:∀x c,X.env.cells.lookup x=some c->∃v,s.heap.IsCell c v
 free:H X.env.locals=none
 freeC:∀x c,X.env.cells.lookup x=some c->H c=none
 pin:∀p∈X.pn++pins,s.heap.get? p.1=some p.2/\H p.1=none/\p.1≠X.env.locals/\p.1∉X.fs/\∀v,p.2.data≠.cell v
 hok:HOk X.prog X.w H s.heap
 len:σ.length=X.N.length
section
variable{X:Cx}{pins:List (vG×Obj)}{σ:List (Option V)}{H H':Hp}{s:vC}{h':vZ}
theorem Cx.Ok.nofr(ok:X.Ok){b:vG}{o:Obj}(e:X.base.get? b=some o):b∉X.fs:=λhb=>by
 have:=(ok.funs.mem hb).1;rw[e]at this;cases this
theorem Inv.bs(I:Inv X pins σ H s):∀b o,X.base.get? b=some o->s.heap.get? b=some o/\H b=none:=λb o e=>
 ⟨I.base.keep b o (I.ok.bs b o e).1 (I.ok.bs b o e).2 (I.ok.nofr e) (I.ok.noex b o e),I.base.free b o (I.ok.bs b o e).1 (I.ok.bs b o e).2 (I.ok.noex b o e)⟩
theorem Inv.bk(I:Inv X pins σ H s):∀b o,X.base.get? b=some o->s.heap.get? b=some o:=λb o e=>(I.bs b o e).1
theorem Inv.mod(I:Inv X pins σ H s):Mod X.K X.mg X.base:=I.ok.mod
theorem Inv.kIn(I:Inv X pins σ H s):X.K.In s.heap:=I.ok.mod.kin.keeps I.bk
theorem Inv.lt(I:Inv X pins σ H s):X.env.locals<s.heap.objs.size:=let ⟨_,hn,_⟩:=I.loc;hn.lt
theorem Inv.sz(I:Inv X pins σ H s):X.s₀.heap.objs.size<=s.heap.objs.size:=z6 I.ok.above (yK I.lt)
theorem Inv.nofs(I:Inv X pins σ H s){a:vG}(h:s.heap.objs.size<=a):a∉X.fs:=λhb=>by
 obtain⟨_,o,ho,_⟩:=I.ok.funs.mem hb;exact vM (zn (zP ho) (z6 I.sz h)) (yt _)
theorem Inv.cne(I:Inv X pins σ H s):∀x c,X.env.cells.lookup x=some c->c≠X.env.locals:=λx c e z=>by
 obtain⟨v,o,ho,hd⟩:=I.cell x c e;obtain⟨m,⟨o',es,ep,ho',hd',_⟩,_⟩:=I.loc;rw[z,ho']at ho;cases ho;rw[hd']at hd;cases hd
theorem Inv.funs(I:Inv X pins σ H s):s.heap.FunFrames X.base X.outer:=by
 have all:∀(l:List Env),(∀b∈frs l,b∈X.fs)->X.s₀.heap.FunFrames X.base l->s.heap.FunFrames X.base l:=by
  intro l
  induction l with
  | nil=>intro _ _;trivial
  | cons env r ih=>
   intro hs hl;obtain⟨hk,⟨L,o,hf,hn,ho,hd⟩,hr⟩:=hl;have hL:L∈X.fs:=hs L (by unfold frs;rw[xA,hf];exact zI);obtain⟨sl,e⟩:=I.base.slot L o ho (I.ok.frf L hL) hL λz=>I.ok.exfs L z hL;exact⟨hk,⟨L,_,hf,hn,e,hd⟩,ih (λb hb=>hs b (by unfold frs;rw[xA,hf];exact zJ _ hb)) hr⟩
 exact all X.outer (λ_ hb=>hb) I.ok.funs
theorem Inv.stack(I:Inv X pins σ H s):s.heap.FunFrames X.base X.stack:=by
 rcases I.ok.stk with e|⟨e,hf⟩
 ·rw[e];exact I.funs
 ·rw[e]
  obtain⟨m,hn,_⟩:=I.loc;refine .cons (by rw[I.ok.kind];decide) hf hn ?_ I.funs;exact Heap.get?_none_of_le (z6 I.ok.bsz I.ok.above)
theorem Inv.stkSub(I:Inv X pins σ H s):∀b∈frs X.stack,b∈X.env.locals::X.fs:=λb hb=>by
 rcases I.ok.stk with e|⟨e,hf⟩
 ·rw[e]at hb;exact zJ _ hb
 ·rw[e]at hb
  unfold frs at hb;rw[xA,hf]at hb;exact hb
theorem Inv.stkFree(I:Inv X pins σ H s):∀b∈frs X.stack,H b=none:=λb hb=>by
 rcases zE.mp (I.stkSub b hb)with e|hb
 ·rw[e];exact I.free
 ·obtain⟨_,o,ho,_⟩:=I.ok.funs.mem hb
  exact I.base.free b o ho (I.ok.frf b hb) λz=>I.ok.exfs b z hb
theorem Inv.step{g':Array tX}{t':Nat}{d':Drawn}{ch:List vG}(I:Inv X pins σ H s)(hch:∀b∈ch,(b∈X.ex\/X.s₀.heap.objs.size<=b)/\b≠X.env.locals/\(∀x c,X.env.cells.lookup x=some c->c≠b)/\∀p∈X.pn++pins,p.1≠b)(keep:∀b o,b≠X.env.locals->b∉X.fs->b∉ch->s.heap.get? b=some o->H b=none->h'.get? b=some o)(slot:∀b o,b≠X.env.locals->b∈X.fs->b∉ch->s.heap.get? b=some o->H b=none->∃sl,h'.get? b=some { o with slots:=sl })(free:∀b o,b∉ch->s.heap.get? b=some o->H b=none->H' b=none)(there:∀b o,b∉ch->s.heap.get? b=some o->∃o',h'.get? b=some o')(tups:∀b xs,H b=some (.tup xs)->H' b=some (.tup xs))(frzs:∀b o u,H b=some (.frz o u)->H' b=some (.frz o u))(tbls:∀b ps,H b=some (.tbl ps)->∃more,H' b=some (.tbl (ps++more)))(ns:∀m,s.heap.Ns X.env.locals m->h'.Ns X.env.locals m)(hok:HOk X.prog X.w H' h')(hg:ux g'):
  Inv X pins σ H' { s with heap:=h',gens:=g',drawn:=d',toks:=t' }:=by
 have neL:∀b o,X.s₀.heap.get? b=some o->b≠X.env.locals:=λb o e=>zi (zn (zP e) I.ok.above);have neC:∀b o,X.s₀.heap.get? b=some o->b∉X.ex->b∉ch:=λb o e hx hb=>by
  rcases (hch b hb).1 with z|z
  ·exact hx z
  ·exact vM (zn (zP e) z) (yt _)
 have cellK:∀x c,X.env.cells.lookup x=some c->∀v,s.heap.IsCell c v->h'.IsCell c v:=λx c e v ⟨o,ho,hd⟩=>by
  have nch:c∉ch:=λz=>(hch c z).2.2.1 x c e rfl
  by_cases hc:c∈X.fs
  ·obtain⟨sl,q⟩:=slot c o (I.cne x c e) hc nch ho (I.freeC x c e)
   exact⟨_,q,hd⟩
  ·exact⟨o,keep c o (I.cne x c e) hc nch ho (I.freeC x c e),hd⟩
 refine⟨I.ok,I.os,hg,⟨λb o e n hb hx=>?_,λb o e n hb hx=>?_,λb o e n hx=>?_,λb o e hx=>?_,λb xs e=>tups b xs (I.base.tups b xs e),λb o xs e=>frzs b o xs (I.base.frzs b o xs e),λb ps e=>?_⟩,?_,λx c e=>?_,?_,λx c e=>?_,λp hp=>?_,hok,I.len⟩
 ·exact keep b o (neL b o e) hb (neC b o e hx) (I.base.keep b o e n hb hx) (I.base.free b o e n hx)
 ·obtain⟨sl,e1⟩:=I.base.slot b o e n hb hx
  obtain⟨sl',e2⟩:=slot b _ (neL b o e) hb (neC b o e hx) e1 (I.base.free b o e n hx);exact⟨sl',e2⟩
 ·obtain⟨o',e1⟩:=I.base.there b o e hx
  exact free b o' (neC b o e hx) e1 (I.base.free b o e n hx)
 ·obtain⟨o',e1⟩:=I.base.there b o e hx
  exact there b o' (neC b o e hx) e1
 ·obtain⟨m1,e1⟩:=I.base.tbls b ps e
  obtain⟨m2,e2⟩:=tbls b _ e1;exact⟨m1++m2,by rw[e2,Array.append_assoc]⟩
 ·obtain⟨m,hn,hl⟩:=I.loc
  refine⟨m,ns m hn,λi x v e1 e2 e3=>?_⟩;obtain⟨u,r,l⟩:=hl i x v e1 e2 e3;refine⟨u,r,?_⟩;rcases l with l|⟨k,c,e,z⟩
  ·exact .inl l
  ·exact .inr ⟨k,c,e,cellK x c e _ z⟩
 ·obtain⟨v,z⟩:=I.cell x c e
  exact⟨v,cellK x c e v z⟩
 ·obtain⟨m,⟨o,_,_,ho,_⟩,_⟩:=I.loc
  exact free _ o (λz=>(hch _ z).2.1 rfl) ho I.free
 ·obtain⟨v,o,ho,hd⟩:=I.cell x c e
  exact free c o (λz=>(hch c z).2.2.1 x c e rfl) ho (I.freeC x c e)
 ·obtain⟨e,n,ne,nf,d⟩:=I.pin p hp
  have nch:p.1∉ch:=λz=>(hch p.1 z).2.2.2 p hp rfl;exact⟨keep p.1 p.2 ne nf nch e n,free p.1 p.2 nch e n,ne,nf,d⟩
theorem Inv.un{t':Nat}(I:Inv X pins σ H s)(u:Un X.fs [] H H' s.heap h')(hok:HOk X.prog X.w H' h'):Inv X pins σ H' { s with heap:=h',toks:=t' }:=by
 obtain⟨m,⟨o,es,ep,ho,r⟩,_⟩:=id I.loc;obtain⟨sl,hL⟩:=u.any ho I.free (by simp);exact I.step (g':=s.gens) (d':=s.drawn) (ch:=[]) (λ_ z=>nomatch z) (λb o _ hb _ e n=>u.keep b o e n hb (by simp)) (λb o _ hb _ e n=>u.slot b o e n hb (by simp)) (λb o _ e n=>u.free b o e n (by simp)) (λb o _ e=>u.there b o e (by simp)) u.tups u.frzs u.tbls (λm' hm=>by
  obtain⟨o',es',ep',ho',r'⟩:=hm;rw[ho]at ho';cases ho';exact⟨_,es',ep',hL,r'⟩) hok I.bare
theorem Inv.call{g':Array tX}{t':Nat}{d':Drawn}{ch:List vG}(I:Inv X pins σ H s)(u:Un (frs X.stack) ch H H' s.heap h')(hok:HOk X.prog X.w H' h')(hg:ux g')(hch:∀b∈ch,(b∈X.ex\/X.s₀.heap.objs.size<=b)/\b≠X.env.locals/\(∀x c,X.env.cells.lookup x=some c->c≠b)/\∀p∈X.pn++pins,p.1≠b):
  Inv X pins σ H' { s with heap:=h',gens:=g',drawn:=d',toks:=t' }:=by
 obtain⟨m,⟨o,es,ep,ho,r⟩,_⟩:=id I.loc;obtain⟨sl,hL⟩:=u.any ho I.free λz=>(hch _ z).2.1 rfl;exact I.step (ch:=ch) hch (λb o hL hb hc e n=>u.keep b o e n (λz=>(zE.mp (I.stkSub b z)).elim hL hb) hc) (λb o _ _ hc e n=>u.any e n hc) (λb o hc e n=>u.free b o e n hc) (λb o hc e=>u.there b o e hc) u.tups u.frzs u.tbls (λm' hm=>by
  obtain⟨o',es',ep',ho',r'⟩:=hm;rw[ho]at ho';cases ho';exact⟨_,es',ep',hL,r'⟩) hok hg
theorem Inv.turned{t':Nat}{it:vG}(I:Inv X pins σ H s)(k:∀b o,b≠it->s.heap.get? b=some o->h'.get? b=some o)(hn:H it=none)(hL:it≠X.env.locals)(h1:it∈X.ex\/X.s₀.heap.objs.size<=it)(h2:∀x c,X.env.cells.lookup x=some c->c≠it)(h3:∀p∈X.pn++pins,p.1≠it):Inv X pins σ H { s with heap:=h',toks:=t' }:=by
 have nit:∀b u,H b=some u->b≠it:=λb u e z=>by rw[z,hn]at e;cases e
 refine I.step (g':=s.gens) (d':=s.drawn) (ch:=[it]) (λb hb=>?_) (λb o _ _ hc e _=>k b o (λz=>hc (by simp[z])) e) (λb o _ _ hc e _=>⟨o.slots,k b o (λz=>hc (by simp[z])) e⟩) (λ_ _ _ _ n=>n)
  (λb o hc e=>⟨o,k b o (λz=>hc (by simp[z])) e⟩) (λ_ _ e=>e) (λ_ _ _ e=>e) (λb ps e=>⟨#[],by rw[e];simp⟩) (λm hm=>?_) (λb u e=>?_) I.bare
 ·have e:b=it:=by simpa using hb
  subst e;exact⟨h1,hL,h2,h3⟩
 ·obtain⟨o,es,ep,ho,r⟩:=hm
  exact⟨o,es,ep,k _ o (Ne.symm hL) ho,r⟩
 ·refine(I.hok b u e).stay (λc v hc q=>k c v ?_ q) (λ_ q=>q) λ_ _ q=>q
  rcases hc with z|z
  ·rw[z];exact nit b u e
  ·exact nit c _ z
theorem Inv.tok(I:Inv X pins σ H s)(t:Nat):Inv X pins σ H { s with toks:=t }:=I.un (h':=s.heap) (t':=t) Un.refl I.hok
theorem Inv.kept{t':Nat}(I:Inv X pins σ H s)(k:∀b u,s.heap.get? b=some u->h'.get? b=some u):Inv X pins σ H { s with heap:=h',toks:=t' }:=I.un (Un.kept k) (I.hok.kept k)
theorem Inv.laid{a:vG}{o:HO}{t':Nat}(I:Inv X pins σ H s)(k:∀b u,s.heap.get? b=some u->h'.get? b=some u)(hp:s.heap.objs.size<=a)(new:YQ X.prog X.w (upd H a o) h' a o):
  Inv X pins σ (upd H a o) { s with heap:=h',toks:=t' }:=I.un (Un.laid k hp (I.hok.fresh hp)) (I.hok.laid k hp new)
theorem Inv.write{x e:vG}{o:HO}{t':Nat}(I:Inv X pins σ H s)(mu:Mut (H x))(he:e=x\/H e=some (.own x))(k:∀b u,b≠e->s.heap.get? b=some u->h'.get? b=some u)(heo:∃u,h'.get? e=some u)(new:YQ X.prog X.w (upd H x o) h' x o):Inv X pins σ (upd H x o) { s with heap:=h',toks:=t' }:=I.un (Un.write mu he k heo) (I.hok.write mu he k heo new)
theorem Inv.pins_of{pins':List (vG×Obj)}(I:Inv X pins σ H s)(h:∀p∈pins',s.heap.get? p.1=some p.2/\H p.1=none/\p.1≠X.env.locals/\p.1∉X.fs/\∀v,p.2.data≠.cell v):Inv X pins' σ H s :=
 ⟨I.ok,I.os,I.bare,I.base,I.loc,I.cell,I.free,I.freeC,λp hp=>(zK.mp hp).elim (λz=>I.pin p (zH _ z)) (h p),I.hok,I.len⟩
theorem q6E{N:List Str}(hN:N.Nodup){i j:Nat}{x:Str}(a:N[i]?=some x)(b:N[j]?=some x):i=j:=by
 obtain⟨h1,e1⟩:=zq.mp a;obtain⟨h2,e2⟩:=zq.mp b;exact(wL hN).mp (e1.trans e2.symm)
theorem q5v{M:Model}{A:vY}{E:vB->vC->Prop}{i:Nat}{x:Str}{v:V}{u:vB}{Q:Unit->vC->Prop}(I:Inv X pins σ H s)(hN:X.N.Nodup)(hi:X.N[i]?=some x)(hx:Loc X.env.scope x)(r:RelV v u)(h:∀s',Inv X pins (σ.set i (some v)) H s'->(∃a,yy a s.heap s'.heap/\(a=X.env.locals\/X.env.cells.lookup x=some a))->Q () s')(hf:X.fn x=true\/X.env.scope.names.lookup x=some .local:=by first|exact .inl rfl|exact .inr rfl|assumption):vL M A (storeName X.env x u) Q E s:=by
 obtain⟨m,hn,hl⟩:=id I.loc;have hcls:(X.env.scope.kind == .class || (X.env.scope.kind == .module&&X.env.locals != X.env.globals))=false:=by rw[I.ok.kind];rfl
 have hiσ:i<σ.length:=by rw[I.len];exact(zq.mp hi).1
 have cne:=I.cne;have tracked:∀{a:vG}{h':vZ},(∃o,s.heap.get? a=some o/\H a=none)->yy a s.heap h'->HOk X.prog X.w H h':=λ{a h'} ha hs b ob e=>by
  obtain⟨_,_,hfree⟩:=ha;refine(I.hok b ob e).stay (λc w' hc q=>(hs.2 c ?_).trans q) (λ_ q=>q) λ_ _ q=>q;rintro rfl;rcases hc with rfl|hc
  ·rw[hfree]at e;cases e
  ·rw[hfree]at hc;cases hc
 rcases hx with hk|hk
 ·refine wpAny_storeName_local hk hn (λh' hn' hs=>?_) hcls
  obtain⟨oL,_,_,hoL,_⟩:=id hn;refine h _ ⟨I.ok,I.os,I.bare,⟨λb o e n hb hx=>?_,λb o e n hb hx=>?_,I.base.free,λb o e hx=>?_,I.base.tups,I.base.frzs,I.base.tbls⟩,⟨_,hn',λj y v' e1 e2 e3=>?_⟩,λy c e=>?_,I.free,I.freeC,λp hp=>?_,tracked ⟨oL,hoL,I.free⟩ hs,by simpa using I.len⟩ ⟨_,hs,.inl rfl⟩
  ·exact(hs.2 b (zi (zn (zP e) I.ok.above))).trans (I.base.keep b o e n hb hx)
  ·obtain⟨sl,e1⟩:=I.base.slot b o e n hb hx
   exact⟨sl,(hs.2 b (zi (zn (zP e) I.ok.above))).trans e1⟩
  ·obtain⟨o',e1⟩:=I.base.there b o e hx
   exact⟨o',(hs.2 b (zi (zn (zP e) I.ok.above))).trans e1⟩
  ·by_cases hj:j=i
   ·subst hj
    rw[hi]at e1;cases e1;rw[yr hiσ]at e2;cases e2;exact⟨u,r,.inl ⟨hk,by simp⟩⟩
   ·rw[zT (Ne.symm hj)]at e2
    obtain⟨u',r',q⟩:=hl j y v' e1 e2 e3;refine⟨u',r',?_⟩;rcases q with⟨k,e⟩|⟨k,c,e,z⟩
    ·refine .inl ⟨k,?_⟩
     have:y≠x:=λe=>hj (q6E hN e1 (e▸hi));simp[this,e]
    ·exact .inr ⟨k,c,e,z.sameBut hs (cne y c e)⟩
  ·obtain⟨w',z⟩:=I.cell y c e
   exact⟨w',z.sameBut hs (cne y c e)⟩
  ·obtain⟨e,n,ne,nf,d⟩:=I.pin p hp
   exact⟨(hs.2 p.1 ne).trans e,n,ne,nf,d⟩
 ·have hfn:X.fn x=true:=by
   rcases hf with z|z
   ·exact z
   ·rw[z]at hk;cases hk
  obtain⟨c,hc⟩:=I.ok.has x (.inl hk);obtain⟨w',z⟩:=I.cell x c hc;refine wpAny_storeName_cell I.ok.kind hk hc z (λh' hc' hs=>?_);obtain⟨oc,hoc,hocd⟩:=id z;refine h { s with heap:=h' } ⟨I.ok,I.os,I.bare,⟨λb o e n hb hx=>?_,λb o e n hb hx=>?_,I.base.free,λb o e hx=>?_,I.base.tups,I.base.frzs,I.base.tbls⟩,⟨m,hn.sameBut hs (Ne.symm (cne x c hc)),λj y v' e1 e2 e3=>?_⟩,λy c' e=>?_,I.free,I.freeC,λp hp=>?_,tracked ⟨oc,hoc,I.freeC x c hc⟩ hs,by simpa using I.len⟩ ⟨c,hs,.inr hc⟩
  ·exact(hs.2 b (zi (zn (zP e) (I.ok.cab x c hfn hc)))).trans (I.base.keep b o e n hb hx)
  ·obtain⟨sl,e1⟩:=I.base.slot b o e n hb hx
   exact⟨sl,(hs.2 b (zi (zn (zP e) (I.ok.cab x c hfn hc)))).trans e1⟩
  ·obtain⟨o',e1⟩:=I.base.there b o e hx
   exact⟨o',(hs.2 b (zi (zn (zP e) (I.ok.cab x c hfn hc)))).trans e1⟩
  ·by_cases hj:j=i
   ·subst hj
    rw[hi]at e1;cases e1;rw[yr hiσ]at e2;cases e2;exact⟨u,r,.inr ⟨.inl hk,c,hc,hc'⟩⟩
   ·rw[zT (Ne.symm hj)]at e2
    obtain⟨u',r',q⟩:=hl j y v' e1 e2 e3;refine⟨u',r',?_⟩;rcases q with q|⟨k,c',e,z'⟩
    ·exact .inl q
    ·refine .inr ⟨k,c',e,z'.sameBut hs ?_⟩
     rintro rfl;exact hj (q6E hN e1 (I.ok.inj _ _ _ e hc▸hi))
  ·by_cases hcc:c'=c
   ·subst hcc;exact⟨_,hc'⟩
   ·obtain⟨w2,z2⟩:=I.cell y c' e
    exact⟨w2,z2.sameBut hs hcc⟩
  ·obtain⟨e,n,ne,nf,d⟩:=I.pin p hp
   refine⟨(hs.2 p.1 ?_).trans e,n,ne,nf,d⟩;intro q;rw[q,hoc]at e;have q':oc=p.2:=zt e;exact d w' (by rw[<- q'];exact hocd)
theorem q6q{M:Model}{A:vY}{E:vB->vC->Prop}{i:Nat}{x:Str}{v:V}{u:vB}{Q:Unit->vC->Prop}(I:Inv X pins σ H s)(hN:X.N.Nodup)(hi:X.N[i]?=some x)(hx:Loc X.env.scope x)(r:RelV v u)(h:∀s',Inv X pins (σ.set i (some v)) H s'->Q () s')(hf:X.fn x=true\/X.env.scope.names.lookup x=some .local:=by first|exact .inl rfl|exact .inr rfl|assumption):vL M A (storeName X.env x u) Q E s :=
 q5v I hN hi hx r (λs' I' _=>h s' I') hf
theorem Inv.call'{s':vC}{ch:List vG}(I:Inv X pins σ H s)(ho:s'.os=s.os)(u:Un (frs X.stack) ch H H' s.heap s'.heap)(hok:HOk X.prog X.w H' s'.heap)(hg:ux s'.gens)(hch:∀b∈ch,(b∈X.ex\/X.s₀.heap.objs.size<=b)/\b≠X.env.locals/\(∀x c,X.env.cells.lookup x=some c->c≠b)/\∀p∈X.pn++pins,p.1≠b):Inv X pins σ H' s':=by
 obtain⟨h',g',d',t',o'⟩:=s';have e:o'=s.os:=ho;subst e;exact I.call (g':=g') (t':=t') (d':=d') u hok hg hch
end
abbrev XK:=vB->Option vG->Hp->Prop
noncomputable abbrev St:=List (Option V)
abbrev VK:=V->Hp->Prop
abbrev TE:=St->Hp->VK->Prop
abbrev TT:=St->Hp->(Bool->Hp->Prop)->Prop
abbrev TA:=St->Hp->(List V->Hp->Prop)->Prop
structure Ends where
 nx:St->Hp->Prop
 rt:VK
 bk:St->Hp->Prop:=λ_ _=>False
 ct:St->Hp->Prop:=λ_ _=>False
abbrev TS:=Ends->St->Hp->Prop
def EP(X:Cx)(pins:List (vG×Obj))(σ:St)(Q:VK)(u:vB)(s':vC):Prop:=∃v H',Inv X pins σ H' s'/\RelV v u/\Q v H'
def TP(X:Cx)(pins:List (vG×Obj))(σ:St)(Q:Bool->Hp->Prop)(b:Bool)(s':vC):Prop:=∃H',Inv X pins σ H' s'/\Q b H'
def AP(X:Cx)(pins:List (vG×Obj))(σ:St)(Q:List V->Hp->Prop)(us:List vB)(s':vC):Prop:=∃vs H',Inv X pins σ H' s'/\YO vs us/\Q vs H'
def SP(X:Cx)(pins:List (vG×Obj))(D:Ends)(f:Flow)(s':vC):Prop :=
 match f with
 | .next=>∃σ' H',Inv X pins σ' H' s'/\D.nx σ' H'
 | .brk=>∃σ' H',Inv X pins σ' H' s'/\D.bk σ' H'
 | .cont=>∃σ' H',Inv X pins σ' H' s'/\D.ct σ' H'
 | .ret u=>∃v σ' H',Inv X pins σ' H' s'/\RelV v u/\D.rt v H'
def PE(X:Cx)(e:vP)(t:TE):Prop :=
 ∀(pins:List (vG×Obj))(s:vC)(σ:St)(H:Hp)(Q:VK),Inv X pins σ H s->t σ H Q->vL (model X.prog X.w) X.A (eval e X.env) (EP X pins σ Q) X.xe s
def PT(X:Cx)(e:vP)(t:TT):Prop :=
 ∀(pins:List (vG×Obj))(s:vC)(σ:St)(H:Hp)(Q:Bool->Hp->Prop),Inv X pins σ H s->t σ H Q->vL (model X.prog X.w) X.A (t8 e X.env (eval e X.env)) (TP X pins σ Q) X.xe s
def PW(X:Cx)(e:vP)(t:TT):Prop :=
 ∀(whole:Sem vB)(pins:List (vG×Obj))(s:vC)(σ:St)(H:Hp)(Q:Bool->Hp->Prop),Inv X pins σ H s->t σ H Q->vL (model X.prog X.w) X.A (t8 e X.env whole) (TP X pins σ Q) X.xe s
theorem PW.pt{X:Cx}{e:vP}{t:TT}(h:PW X e t):PT X e t:=h _
def PA(X:Cx)(es:List vP)(t:TA):Prop :=
 ∀(pos:Pos)(pins:List (vG×Obj))(s:vC)(σ:St)(H:Hp)(Q:List V->Hp->Prop),Inv X pins σ H s->t σ H Q->vL (model X.prog X.w) X.A (spliced (vm pos (vK es X.env))) (AP X pins σ Q) X.xe s
def PS(X:Cx)(st:vo)(t:TS):Prop :=
 ∀(pins:List (vG×Obj))(s:vC)(σ:St)(H:Hp)(D:Ends),Inv X pins σ H s->t D σ H->vL (model X.prog X.w) X.A (exec st X.env) (SP X pins D) X.xe s
def PSs(X:Cx)(st:List vo)(t:TS):Prop :=
 ∀(pins:List (vG×Obj))(s:vC)(σ:St)(H:Hp)(D:Ends),Inv X pins σ H s->t D σ H->vL (model X.prog X.w) X.A (execs st X.env) (SP X pins D) X.xe s
theorem thn{α:Type}{t:Sem α}{Q Q':α->vC->Prop}{M:Model}{A:vY}{E:vB->vC->Prop}{s:vC}(h:vL M A t Q E s)(hQ:∀a s,Q a s->Q' a s):vL M A t Q' E s:=vh h hQ λ_ _ x=>x
section
variable{X:Cx}
theorem bin{a b:vP}{ta tb:TE}(ha:PE X a ta)(hb:PE X b tb){pins:List (vG×Obj)}{s:vC}{σ:St}{H:Hp}{R:V->V->Hp->Prop}(I:Inv X pins σ H s)(h:ta σ H λx H1=>tb σ H1 λy H2=>R x y H2){α:Type}{Q:α->vC->Prop}{f:vB->vB->Sem α}(hf:∀v u s2 x y H2,Inv X pins σ H2 s2->RelV x v->RelV y u->R x y H2->vL (model X.prog X.w) X.A (f v u) Q X.xe s2):
  vL (model X.prog X.w) X.A (eval a X.env) (λv s₁=>vL (model X.prog X.w) X.A (eval b X.env) (λu s₂=>vL (model X.prog X.w) X.A (f v u) Q X.xe s₂) X.xe s₁) X.xe s:=by
 refine thn (ha pins s σ H _ I h) λv s1 ⟨x,H1,I1,r1,q1⟩=>?_;refine thn (hb pins s1 σ H1 _ I1 q1) λu s2 ⟨y,H2,I2,r2,q2⟩=>?_;exact hf v u s2 x y H2 I2 r1 r2 q2
noncomputable def Y7(i:Nat):TE:=λσ H Q=>∃v,σ[i]?=some (some v)/\Q v H
noncomputable def tC(v:V):TE:=λ_ H Q=>Q v H
theorem qfc{i:Nat}{x:Str}{pos:Pos}(hN:X.N[i]?=some x)(hv:Vis X.env.scope x)(hd:(x==("__debug__" : Str))=false:=by decide)(hcd:(x==("__classdict__" : Str))=false:=by decide):PE X (.Name x pos) (Y7 i):=by
 intro pins s σ H Q I h;obtain⟨v,e,h⟩:=h;obtain⟨m,hn,hl⟩:=I.loc;obtain⟨u,r,l⟩:=hl i x v hN e hv;have fin:EP X pins σ Q u s:=⟨v,H,I,r,h⟩;rcases l with⟨hk,hm⟩|⟨hk,c,hc,hcell⟩
 ·exact wpAny_Name (wpAny_loadName_local I.ok.kind hk hn hm fin) hd
 ·rcases hk with hk|hk
  ·exact wpAny_Name (wpAny_loadName_cell I.ok.kind hk hc hcell fin) hd
  ·exact wpAny_Name (wpAny_loadName_free I.ok.kind hk hc hcell fin hcd) hd
theorem qeo{i j pos}:PE X (.Constant (.int i) j pos) (tC (.int i)):=λ_ _ _ H _ I h=>wpAny_Constant_int ⟨.int i,H,I.tok _,⟨_,rfl⟩,h⟩
theorem qfv{b j pos}:PE X (.Constant (.bool b) j pos) (tC (.bl b)):=λ_ _ _ H _ I h=>Constant_bool ⟨.bl b,H,I,rfl,h⟩
def Gl(X:Cx)(x:Str):Prop:=X.env.kindOf x=some .globalImplicit
theorem q8X{E:vB->vC->Prop}{pins:List (vG×Obj)}{s:vC}{σ:St}{H:Hp}{x:Str}{u:vB}{pos:Pos}{Q:vB->vC->Prop}(I:Inv X pins σ H s)(hg:Gl X x)(hm:X.mg x=some u)(h:Q u s)(hd:(x==("__debug__" : Str))=false:=by decide):vL (model X.prog X.w) X.A (eval (.Name x pos) X.env) Q E s :=
 Calls.Name_function_global I.ok.kind hg (Calls.loadGlobal_global (by rw[I.ok.glob];exact I.mod.glob.keeps I.bk) hm h) hd
theorem q0s{E:vB->vC->Prop}{pins:List (vG×Obj)}{s:vC}{σ:St}{H:Hp}{x:Str}{u:vB}{pos:Pos}{Q:vB->vC->Prop}(I:Inv X pins σ H s)(hg:Gl X x)(hm:X.mg x=none)(hv:vX x=some u)(h:Q u s)(hn:x ≠ "__name__" := by decide)(hd:(x==("__debug__" : Str))=false:=by decide):vL (model X.prog X.w) X.A (eval (.Name x pos) X.env) Q E s:=by
 obtain⟨mb,h1,h2⟩:=I.mod.blt;exact Calls.Name_function_global I.ok.kind hg (Calls.loadGlobal_builtin (by rw[I.ok.glob];exact I.mod.glob.keeps I.bk) hm (by rw[I.ok.blt];exact h1.keeps I.bk) ((h2 x hn).trans hv) h) hd
theorem qdz{x:Str}{v:V}{u:vB}{pos:Pos}(hg:Gl X x)(hm:X.mg x=some u)(r:RelV v u)(hd:(x==("__debug__" : Str))=false:=by decide):PE X (.Name x pos) (tC v) :=
 λ_ _ _ H _ I h=>q8X I hg hm ⟨v,H,I,r,h⟩ hd
theorem qdE{x:Str}{v:V}{u:vB}{pos:Pos}(hg:Gl X x)(hm:X.mg x=none)(hv:vX x=some u)(r:RelV v u)(hn:x ≠ "__name__" := by decide)(hd:(x==("__debug__" : Str))=false:=by decide):PE X (.Name x pos) (tC v) :=
 λ_ _ _ H _ I h=>q0s I hg hm hv ⟨v,H,I,r,h⟩ hn hd
variable{a b:vP}{ta tb:TE}{pos:Pos}
def PC(X:Cx)(op:tt)(a b:vP)(t:TE):Prop :=
 ∀(pins:List (vG×Obj))(s:vC)(σ:St)(H:Hp)(Q:VK),Inv X pins σ H s->t σ H Q ->
  vL (model X.prog X.w) X.A (eval a X.env) (λv s₁=>vL (model X.prog X.w) X.A (eval b X.env) (λu s₂=>vL (model X.prog X.w) X.A (uN op v u) (EP X pins σ Q) X.xe s₂) X.xe s₁) X.xe s
theorem W6(b:vP){op:tt}(h:op≠.In)(h2:op≠.NotIn):vq op b=false:=by
 have e1:(op==CmpOp.In)=false:=by cases op <;> first|rfl|exact vM rfl h
 have e2:(op==CmpOp.NotIn)=false:=by cases op <;> first|rfl|exact vM rfl h2
 cases b <;> simp[vq,e1,e2]
noncomputable def tB(t:TE):TT:=λσ H Q=>t σ H λx H1=>∃c,x=.bl c/\Q c H1
theorem qeV{op:tt}{t:TE}(h:PC X op a b t)(h1:vq op b=false:=by first|exact W6 _ (by decide) (by decide)|rfl):PT X (.Compare a [op] [b] pos) (tB t):=by
 intro pins s σ H Q I hw;refine tE (thn (h pins s σ H _ I hw) λv s1 h1=>thn h1 λu s2 h2=>thn h2 λc s3 ⟨x,H1,I1,r1,q1⟩=>?_) h1;obtain⟨d,rfl,q⟩:=q1;cases r1;exact uC ⟨H1,I1,q⟩
variable{tA tB':TT}{rest:List vP}
noncomputable def tAnd(t u:TT):TT:=λσ H Q=>t σ H λc H1=>if c=true then u σ H1 Q else Q false H1
noncomputable def tOr(t u:TT):TT:=λσ H Q=>t σ H λc H1=>if c=true then Q true H1 else u σ H1 Q
noncomputable def tNot(t:TT):TT:=λσ H Q=>t σ H λc H1=>Q (!c) H1
theorem qdk(ha:PT X a tA):PW X (.BoolOp .And [a] pos) tA:=by
 intro wh pins s σ H Q I h;refine isTrue_and (thn (ha pins s σ H Q I h) λc s1 e=>?_);cases c with
 | true=>exact isTrue_and_nil e
 | false=>exact e
theorem qeQ(ha:PT X a tA):PW X (.BoolOp .Or [a] pos) tA:=by
 intro wh pins s σ H Q I h;refine isTrue_or (thn (ha pins s σ H Q I h) λc s1 e=>?_);cases c with
 | false=>exact isTrue_or_nil e
 | true=>exact e
theorem qeE(ha:PT X a tA)(hb:PW X (.BoolOp .And (b::rest) pos) tB'):PW X (.BoolOp .And (a::b::rest) pos) (tAnd tA tB'):=by
 intro wh pins s σ H Q I h;refine isTrue_and (thn (ha pins s σ H _ I h) λc s1 ⟨H1,I1,q1⟩=>?_);cases c with
 | true=>exact hb wh pins s1 σ H1 Q I1 q1
 | false=>exact⟨H1,I1,q1⟩
theorem qfA(ha:PT X a tA)(hb:PW X (.BoolOp .Or (b::rest) pos) tB'):PW X (.BoolOp .Or (a::b::rest) pos) (tOr tA tB'):=by
 intro wh pins s σ H Q I h;refine isTrue_or (thn (ha pins s σ H _ I h) λc s1 ⟨H1,I1,q1⟩=>?_);cases c with
 | true=>exact⟨H1,I1,q1⟩
 | false=>exact hb wh pins s1 σ H1 Q I1 q1
theorem qfl(ha:PT X a tA):PT X (.UnaryOp .Not a pos) (tNot tA):=by
 intro pins s σ H Q I h;exact isTrue_not (ha pins s σ H (λc H1=>Q (!c) H1) I h)
noncomputable def tAndV(ta tb:TE):TE:=λσ H Q=>ta σ H λx H1=>∃c,x=.bl c/\if c=true then tb σ H1 Q else Q (.bl false) H1
noncomputable def tNotV(ta:TE):TE:=λσ H Q=>ta σ H λx H1=>∃c,x=.bl c/\Q (.bl (!c)) H1
theorem qeD{op}{t:TE}(h:PE X a t):PE X (.BoolOp op [a] pos) t:=λpins s σ H Q I hw=>BoolOp_one (h pins s σ H Q I hw)
theorem qeR(ha:PE X a ta)(hb:PE X (.BoolOp .And (b::rest) pos) tb):PE X (.BoolOp .And (a::b::rest) pos) (tAndV ta tb):=by
 intro pins s σ H Q I h;refine BoolOp_and (thn (ha pins s σ H _ I h) λv s1 ⟨x,H1,I1,r1,q1⟩=>?_);obtain⟨c,rfl,q1⟩:=q1;cases r1;refine uC ?_;cases c with
 | true=>exact hb pins s1 σ H1 Q I1 q1
 | false=>exact⟨.bl false,H1,I1,rfl,q1⟩
theorem qeN(ha:PE X a ta):PE X (.UnaryOp .Not a pos) (tNotV ta):=by
 intro pins s σ H Q I h;refine UnaryOp_ (thn (ha pins s σ H _ I h) λv s1 ⟨x,H1,I1,r1,q1⟩=>?_);obtain⟨c,rfl,q1⟩:=q1;cases r1;exact not_of (uC ⟨.bl (!c),H1,I1,rfl,q1⟩)
noncomputable def tIf(t:TT)(ta tb:TE):TE:=λσ H Q=>t σ H λc H1=>if c=true then ta σ H1 Q else tb σ H1 Q
theorem qbF{c:vP}(hc:PT X c tA)(ha:PE X a ta)(hb:PE X b tb):PE X (.IfExp c a b pos) (tIf tA ta tb):=by
 intro pins s σ H Q I h;refine wpAny_IfExp (thn (hc pins s σ H _ I h) λd s1 ⟨H1,I1,q1⟩=>?_);cases d with
 | true=>exact ha pins s1 σ H1 Q I1 q1
 | false=>exact hb pins s1 σ H1 Q I1 q1
end
def SqL(K:zA)(H:Hp)(a:vG)(xs:List V):Prop :=
 Rd H a (.lst xs) \/
  ∃(o:Obj) (its:Array vB) (n:Nat),K.lookup a=some o/\o.cls=.type "list" /\ o.dict=none/\o.data=.seq its n/\its.size<=sizeLine/\YO xs its.toList
def SqT(K:zA)(H:Hp)(a:vG)(xs:List V):Prop :=
 Rd H a (.tup xs) \/
  ∃(o:Obj) (its:Array vB) (n:Nat),K.lookup a=some o/\o.cls=.type "tuple" /\ o.data=.seq its n/\its.size<=sizeLine/\YO xs its.toList
noncomputable def absV:vB->Option V
 | .none=>some .non
 | .bool b=>some (.bl b)
 | .int i _=>some (.int i)
 | .str x _=>some (.str x)
 | .bytes b _=>some (.byt b)
 | .float b _=>some (.flt b)
 | .ref a=>some (.ref a)
 | .type n=>some (.ty n)
 | _=>none
theorem RelV.abs{x:V}{u:vB}(r:RelV x u):absV u=some x:=by
 cases x with
 | non=>cases r;rfl
 | bl _=>cases r;rfl
 | int _=>obtain⟨t,rfl⟩:=r;rfl
 | str _=>obtain⟨t,rfl⟩:=r;rfl
 | byt _=>obtain⟨t,rfl⟩:=r;rfl
 | flt _=>obtain⟨t,rfl⟩:=r;rfl
 | ref _=>cases r;rfl
 | ty _=>cases r;rfl
theorem RelV.inj{x y:V}{u:vB}(r:RelV x u)(q:RelV y u):x=y:=zt (r.abs.symm.trans q.abs)
theorem YO.inj:∀{xs ys:List V}{us:List vB},YO xs us->YO ys us->xs=ys
 | _,_,_,.nil,.nil=>rfl
 | _,_,_,.cons r t,.cons r' t'=>by rw[r.inj r',YO.inj t t']
section
variable{X:Cx}{pins:List (vG×Obj)}{σ:St}{H:Hp}{s:vC}{a:vG}{xs ys:List V}
theorem SqL.of{K:zA}(h:H a=some (.lst xs)):SqL K H a xs:=.inl (.inl h)
theorem SqT.of{K:zA}(h:H a=some (.tup xs)):SqT K H a xs:=.inl (.inl h)
theorem Inv.list(I:Inv X pins σ H s)(h:SqL X.K H a xs):∃its:List vB,YO xs its/\PlainL s.heap a its.toArray/\xs.length<=sizeLine:=by
 rcases h with h|⟨o,its,n,hk,hc,hd,hs,hz,r⟩
 ·obtain⟨z,its,n,r,e⟩:=h.ok I.hok
  exact⟨its,r,⟨_,n,e,rfl,rfl,rfl⟩,z⟩
 ·refine⟨its.toList,r,⟨o,n,I.kIn a o hk,hc,hd,by simpa using hs⟩,?_⟩
  have e:=r.length;simp only[zQ]at e;omega
theorem Inv.tuple(I:Inv X pins σ H s)(h:SqT X.K H a xs):∃its:List vB,YO xs its/\IsTup s.heap a its.toArray/\xs.length<=sizeLine:=by
 rcases h with h|⟨o,its,n,hk,hc,hs,hz,r⟩
 ·obtain⟨z,its,r,p⟩:=h.ok I.hok
  exact⟨its,r,p,z⟩
 ·refine⟨its.toList,r,⟨o,I.kIn a o hk,hc,n,by simpa using hs⟩,?_⟩
  have e:=r.length;simp only[zQ]at e;omega
theorem Inv.list_inj(I:Inv X pins σ H s)(h:SqL X.K H a xs)(h':SqL X.K H a ys):xs=ys:=by
 obtain⟨its,r,⟨o,n,e,_,_,d⟩,_⟩:=I.list h;obtain⟨its',r',⟨o',n',e',_,_,d'⟩,_⟩:=I.list h';rw[e]at e';cases e';rw[d]at d';injection d' with d1 _;have:its=its':=by simpa using vf Z1 d1
 subst this;exact r.inj r'
theorem Inv.tuple_inj(I:Inv X pins σ H s)(h:SqT X.K H a xs)(h':SqT X.K H a ys):xs=ys:=by
 obtain⟨its,r,⟨o,e,_,n,d⟩,_⟩:=I.tuple h;obtain⟨its',r',⟨o',e',_,n',d'⟩,_⟩:=I.tuple h';rw[e]at e';cases e';rw[d]at d';injection d' with d1 _;have:its=its':=by simpa using vf Z1 d1
 subst this;exact r.inj r'
end
noncomputable abbrev Cx.wish(X:Cx)(E:vB->vC->Prop):Cx:={ X with xe:=E }
noncomputable abbrev Cx.nox(X:Cx):Cx:=X.wish λ_ _=>False
theorem Cx.Ok.wish{X:Cx}(ok:X.Ok)(E:vB->vC->Prop):(X.wish E).Ok :=
 ⟨ok.mod,ok.kind,ok.glob,ok.blt,ok.above,ok.inj,ok.has,ok.cab,ok.hd,ok.frames,ok.stk,ok.exf,ok.bs,ok.bsz,ok.noex,ok.exfs,ok.funs,ok.frf⟩
theorem Cx.Ok.unwish{X:Cx}{E:vB->vC->Prop}(ok:(X.wish E).Ok):X.Ok :=
 ⟨ok.mod,ok.kind,ok.glob,ok.blt,ok.above,ok.inj,ok.has,ok.cab,ok.hd,ok.frames,ok.stk,ok.exf,ok.bs,ok.bsz,ok.noex,ok.exfs,ok.funs,ok.frf⟩
section
variable{X:Cx}{pins:List (vG×Obj)}{σ:St}{H:Hp}{s:vC}{E:vB->vC->Prop}
theorem Inv.wish(I:Inv X pins σ H s)(E:vB->vC->Prop):Inv (X.wish E) pins σ H s:=⟨I.ok.wish E,I.os,I.bare,I.base,I.loc,I.cell,I.free,I.freeC,I.pin,I.hok,I.len⟩
theorem Inv.unwish(I:Inv (X.wish E) pins σ H s):Inv X pins σ H s:=⟨I.ok.unwish,I.os,I.bare,I.base,I.loc,I.cell,I.free,I.freeC,I.pin,I.hok,I.len⟩
theorem SP.unwish{D:Ends}{f:Flow}{s':vC}(h:SP (X.wish E) pins D f s'):SP X pins D f s':=by
 cases f with
 | next=>obtain⟨σ',H',I,q⟩:=h;exact⟨σ',H',I.unwish,q⟩
 | brk=>obtain⟨σ',H',I,q⟩:=h;exact⟨σ',H',I.unwish,q⟩
 | cont=>obtain⟨σ',H',I,q⟩:=h;exact⟨σ',H',I.unwish,q⟩
 | ret u=>obtain⟨v,σ',H',I,r,q⟩:=h;exact⟨v,σ',H',I.unwish,r,q⟩
theorem PSs.nox{st:List vo}{t:TS}(h:PSs X.nox st t):PSs X st t:=λpins s σ H D I hw=>
 vh (h pins s σ H D (I.wish _) hw) (λ_ _ q=>q.unwish) λ_ _ z=>False.elim z
end
section
variable{X:Cx}{st:vo}{rest:List vo}{t u:TS}{e:vP}{te:TE}{pos:Pos}
noncomputable def tNext:TS:=λD σ H=>D.nx σ H
noncomputable def tSeq(t u:TS):TS:=λD σ H=>t { D with nx:=u D } σ H
theorem qdA:PSs X [] tNext:=λ_ _ σ H _ I h=>ui ⟨σ,H,I,h⟩
theorem q1L(h1:PS X st t)(h2:PSs X rest u):PSs X (st::rest) (tSeq t u):=by
 intro pins s σ H D I h;refine wpAny_execs_cons (thn (h1 pins s σ H { D with nx:=u D } I h) λf s1 q=>?_);cases f with
 | next=>
  obtain⟨σ',H',I',q⟩:=q;exact h2 pins s1 σ' H' D I' q
 | ret v=>exact q
 | brk=>exact q
 | cont=>exact q
theorem q3M(h1:PS X st t):PSs X [st] t:=by
 intro pins s σ H D I h;refine wpAny_execs_cons (thn (h1 pins s σ H D I h) λf s1 q=>?_);cases f with
 | next=>exact ui q
 | ret v=>exact q
 | brk=>exact q
 | cont=>exact q
theorem Inv.quiet{pins:List (vG×Obj)}{σ:St}{H:Hp}{s:vC}(I:Inv X pins σ H s):interactive X.env=false:=by simp[interactive,I.ok.kind]
noncomputable def tDrop(te:TE):TS:=λD σ H=>te σ H λ_ H1=>D.nx σ H1
theorem q2N(he:PE X e te)(hs:vv e none pos.line X.env=pure false:=by rfl):PS X (.Expr e pos) (tDrop te):=by
 intro pins s σ H D I h;exact wpAny_Expr_any (thn (he pins s σ H _ I h) λv s1 ⟨x,H1,I1,r1,q1⟩=>⟨σ,H1,I1,q1⟩) I.quiet hs
noncomputable def tRet(te:TE):TS:=λD σ H=>te σ H D.rt
theorem q6a(he:PE X e te):PS X (.Return (some e) pos) (tRet te):=by
 intro pins s σ H D I h;exact wpAny_Return_some (thn (he pins s σ H _ I h) λv s1 ⟨x,H1,I1,r1,q1⟩=>⟨x,σ,H1,I1,r1,q1⟩)
noncomputable def tIfS(c:TT)(t u:TS):TS:=λD σ H=>c σ H λb H1=>if b=true then t D σ H1 else u D σ H1
theorem qfw{c:vP}{a b:List vo}{tc:TT}(hc:PT X c tc)(ha:PSs X a t)(hb:PSs X b u):PS X (.If c a b pos) (tIfS tc t u):=by
 intro pins s σ H D I h;refine wpAny_If (thn (hc pins s σ H _ I h) λd s1 ⟨H1,I1,q1⟩=>?_);cases d with
 | true=>exact ha pins s1 σ H1 D I1 q1
 | false=>exact hb pins s1 σ H1 D I1 q1
noncomputable def tNever:TS:=λ_ _ _=>False
theorem qbG:PS X st tNever:=λ_ _ _ _ _ _ h=>h.elim
end
abbrev TG:=V->St->Hp->(St->Hp->Prop)->Prop
abbrev TGs:=List V->St->Hp->(St->Hp->Prop)->Prop
def PG(X:Cx)(target:vP)(t:TG):Prop :=
 ∀(pins:List (vG×Obj))(s:vC)(σ:St)(H:Hp)(v:V)(u:vB)(Q:St->Hp->Prop),Inv X pins σ H s->RelV v u->t v σ H Q ->
  vL (model X.prog X.w) X.A (assign target X.env u) (λ_ s'=>∃σ' H',Inv X pins σ' H' s'/\Q σ' H') X.xe s
def PGs(X:Cx)(ts:List vP)(t:TGs):Prop :=
 ∀(pins:List (vG×Obj))(s:vC)(σ:St)(H:Hp)(vs:List V)(us:List vB)(Q:St->Hp->Prop),Inv X pins σ H s->YO vs us->t vs σ H Q ->
  vL (model X.prog X.w) X.A (assignInOrder ((uD ts X.env).map (·.2)) us) (λ_ s'=>∃σ' H',Inv X pins σ' H' s'/\Q σ' H') X.xe s
abbrev TSet:=V->V->V->Hp->(Hp->Prop)->Prop
def PSet(X:Cx)(t:TSet):Prop :=
 ∀(pins:List (vG×Obj))(s:vC)(σ:St)(H:Hp)(o i v:V)(ov iv u:vB)(Q:Hp->Prop),Inv X pins σ H s->RelV o ov->RelV i iv->RelV v u->t o i v H Q ->
  vL (model X.prog X.w) X.A (setItem ov iv u) (λ_ s'=>∃H',Inv X pins σ H' s'/\Q H') X.xe s
section
variable{X:Cx}{pos:Pos}
noncomputable def WN(i:Nat):TG:=λv σ H Q=>Q (σ.set i (some v)) H
theorem q4N{i:Nat}{x:Str}(hN:X.N.Nodup)(hi:X.N[i]?=some x)(hx:Loc X.env.scope x)(hf:X.fn x=true\/X.env.scope.names.lookup x=some .local:=by first|exact .inl rfl|exact .inr rfl|assumption):PG X (.Name x pos) (WN i):=by
 intro pins s σ H v u Q I r h;exact wpAny_assign_Name (q6q I hN hi hx r (λs' I'=>⟨_,H,I',h⟩) hf)
noncomputable def gNil:TGs:=λvs σ H Q=>vs=[]/\Q σ H
noncomputable def gCons(t:TG)(u:TGs):TGs:=λvs σ H Q=>∃v r,vs=v::r/\t v σ H λσ' H'=>u r σ' H' Q
theorem qdJ:PGs X [] gNil:=by
 intro pins s σ H vs us Q I r h;obtain⟨e,h⟩:=h;subst e;cases r;exact assignInOrder_nil ⟨σ,H,I,h⟩
theorem qbU{e:vP}{es:List vP}{t:TG}{u:TGs}(h1:PG X e t)(h2:PGs X es u)(hs:(uD (e::es) X.env).map (·.2)=assign e X.env::(uD es X.env).map (·.2):=by rfl):PGs X (e::es) (gCons t u):=by
 intro pins s σ H vs us Q I r h;obtain⟨v,vr,e1,h⟩:=h;subst e1;cases r with
 | cons r rr=>
  rw[hs];refine assignInOrder_cons (thn (h1 pins s σ H _ _ _ I r h) λ_ s1 ⟨σ1,H1,I1,q1⟩=>?_);exact h2 pins s1 σ1 H1 _ _ Q I1 rr q1
noncomputable def gTup(K:zA)(n:Nat)(t:TGs):TG:=λv σ H Q=>∃a xs,v=.ref a/\SqT K H a xs/\xs.length=n/\t xs σ H Q
theorem qft{es:List vP}{k:Nat}{t:TGs}{n:Nat}(hc:X.calm=true)(h:PGs X es t)(hn:(uD es X.env).length=n:=by rfl)(hst:(uD es X.env).findIdx? (·.1)=none:=by rfl):PG X (.Tuple es k pos) (gTup X.K n t):=by
 intro pins s σ H v u Q I r hw;obtain⟨a,xs,e1,hq,hl,hw⟩:=hw;subst e1;cases r;obtain⟨its,rv,ht,hz⟩:=I.tuple hq;refine assign_Tuple_tuple (I.ok.hd hc) ht (by simp[hn,<- hl,rv.length]) hst λh' hx=>?_;have I1:Inv X pins σ H { s with heap:=h' }:=I.kept (t':=s.toks) λb o e=>hx b o (zi (zP e)) e;exact h pins _ σ H xs _ Q I1 ⇑rv hw
noncomputable def gSub(to ti:TE)(t:TSet):TG:=λv σ H Q=>to σ H λo H1=>ti σ H1 λi H2=>t o i v H2 λH3=>Q σ H3
theorem qf0{o i:vP}{to ti:TE}{t:TSet}(ho:PE X o to)(hi:PE X i ti)(hs:PSet X t)(ha:∀v,assign (.Subscript o i pos) X.env v=(do
   let ov <- holding [v] (eval o X.env)
   let iv <- holding [v,ov] (eval i X.env)
   t7 pos
   holding [v,ov,iv] (setItem ov iv v)
   release [v,ov,iv] []):=by intro _;rfl):PG X (.Subscript o i pos) (gSub to ti t):=by
 intro pins s σ H v u Q I r h;rw[ha];refine vA (vc (thn (ho pins s σ H _ I h) λov s1 ⟨x,H1,I1,r1,q1⟩=>?_));refine vA (vc (thn (hi pins s1 σ H1 _ I1 q1) λiv s2 ⟨y,H2,I2,r2,q2⟩=>?_));refine vA (uz (vA (vc (thn (hs pins s2 σ H2 x y v ov iv u _ I2 r1 r2 r q2) λ_ s3 ⟨H3,I3,q3⟩=>?_))));exact wpAny_release ⟨σ,H3,I3,q3⟩
noncomputable def tAsg(te:TE)(g:TG):TS:=λD σ H=>te σ H λx H1=>g x σ H1 D.nx
theorem qen{tg e:vP}{te:TE}{g:TG}(he:PE X e te)(hg:PG X tg g)(hs:swapsWithSole [tg] e pos.line X.env=pure false:=by rfl)(hw:swappedStores [tg] e X.env=pure none:=by rfl)(h1:(uD [tg] X.env).map (·.2)=[assign tg X.env]:=by rfl):PS X (.Assign [tg] e pos) (tAsg te g):=by
 intro pins s σ H D I h;refine wpAny_Assign_stores (thn (he pins s σ H _ I h) λv s1 ⟨x,H1,I1,r1,q1⟩=>?_) hs hw;rw[h1];exact thn (hg pins s1 σ H1 x v _ I1 r1 q1) λ_ s2 q=>q
theorem q3y{i:Nat}{x:Str}{e:vP}{te:TE}{pos':Pos}(hN:X.N.Nodup)(hi:X.N[i]?=some x)(hx:Loc X.env.scope x)(he:PE X e te)(hs:vv e (some (.Name x pos')) pos.line X.env=pure false:=by rfl)(hf:X.fn x=true\/X.env.scope.names.lookup x=some .local:=by first|exact .inl rfl|exact .inr rfl|assumption):
  PS X (.Assign [.Name x pos'] e pos) (tAsg te (WN i)):=by
 intro pins s σ H D I h;refine wpAny_Assign_Name (thn (he pins s σ H _ I h) λv s1 ⟨y,H1,I1,r1,q1⟩=>?_) hs;exact q6q I1 hN hi hx r1 (λs2 I2=>⟨_,H1,I2,q1⟩) hf
end
section
variable{X:Cx}{pos:Pos}
noncomputable def W7(c:TT)(tb:TS):TS:=λD σ H=>∃W:Nat->St->Hp->Prop,(∃m,W m σ H)/\∀m σ H,W m σ H ->
 c σ H λb H1=>if b=true then ∃N:St->Hp->Prop,(∀σ' H',N σ' H'->∃m',m'<m/\W m' σ' H')/\tb { D with nx:=N,ct:=N,bk:=D.nx } σ H1 else D.nx σ H1
theorem qbM{c:vP}{body:List vo}{tc:TT}{tb:TS}(hp:tO (model X.prog X.w) X.A X.env X.xe)(hc:PT X c tc)(hb:PSs X body tb):PS X (.While c body [] pos) (W7 tc tb):=by
 intro pins s σ H D I h;obtain⟨W,⟨m0,w0⟩,turn⟩:=h;refine wpAny_While (codeAny_whileLoop (λn s'=>∃σ' H',Inv X pins σ' H' s'/\W n σ' H') ?_ m0 ⟨σ,H,I,w0⟩);rintro n s1 ⟨σ1,H1,I1,w1⟩;refine uA hp (thn (hc pins s1 σ1 H1 _ I1 (turn n σ1 H1 w1)) λb s2 ⟨H2,I2,q2⟩=>?_);cases b with
 | true=>
  obtain⟨N,hN,q2⟩:=q2;rw[vH rfl];refine uA hp (thn (hb pins s2 σ1 H2 _ I2 q2) λf s3 q3=>?_);cases f with
  | next=>
   obtain⟨σ3,H3,I3,n3⟩:=q3;obtain⟨m',hm,w3⟩:=hN σ3 H3 n3;exact⟨m',hm,σ3,H3,I3,w3⟩
  | cont=>
   obtain⟨σ3,H3,I3,n3⟩:=q3;obtain⟨m',hm,w3⟩:=hN σ3 H3 n3;exact⟨m',hm,σ3,H3,I3,w3⟩
  | brk=>exact q3
  | ret v=>exact q3
 | false=>
  rw[vJ yG];exact ui ⟨σ1,H2,I2,q2⟩
end
structure It where
 go:Nat->Hp->Prop
 yld:Nat->Hp->V->Hp->Prop
 stop:Nat->Hp->Prop
def Y2(X:Cx)(pins:List (vG×Obj))(H:Hp)(b:vG):Prop :=
 H b=none/\b≠X.env.locals/\b∉X.fs/\(b∈X.ex\/X.s₀.heap.objs.size<=b)/\(∀x c,X.env.cells.lookup x=some c->c≠b)/\∀p∈X.pn++pins,p.1≠b
theorem Inv.fpOk{X:Cx}{pins:List (vG×Obj)}{σ:St}{H H':Hp}{s:vC}{b:vG}(I:Inv X pins σ H s)(hb:s.heap.objs.size<=b)(hn:H' b=none):Y2 X pins H' b:=by
 refine⟨hn,xO (zn I.lt hb),I.nofs hb,.inr (z6 I.sz hb),λx c e z=>?_,λp hp z=>?_⟩
 ·obtain⟨v,q⟩:=I.cell x c e
  exact vM (zn q.lt (by rw[z];exact hb)) (yt _)
 ·exact vM (zn (zP (I.pin p hp).1) (by rw[z];exact hb)) (yt _)
structure Turn (P:vO) (w:vT) (K:zA) (tg:vP) (J:It) (fp:List vG) (it:vG) (tn:Nat->vZ->Prop):Prop where
 mem:it∈fp
 obj:∀i h,tn i h->∀b∈fp,∃o,h.get? b=some o/\∀v,o.data≠.cell v
 keep:∀i h h',tn i h->(∀b∈fp,∀o,h.get? b=some o->h'.get? b=some o)->tn i h'
 item:∀(X:Cx),X.prog=P->X.w=w->X.K=K->X.calm=true->∀(i:Nat)(pins:List (vG×Obj))(s:vC)(σ:St)(H:Hp)(E:vB->vC->Prop),Inv X pins σ H s->(∀b∈fp,Y2 X pins H b)->tn i s.heap->J.go i H ->
  vL (model P w) X.A (uF (.ref it)) (λr s1=>∃u,r=some u /\
   vL (model P w) X.A (uj tg (.ref it) u) (λ_ s2=>∃x H',Inv X pins σ H' s2/\RelV x u/\J.yld i H x H'/\tn (i+1) s2.heap/\∀b∈fp,H' b=none) E s1) E s
 done:∀(X:Cx),X.prog=P->X.w=w->X.K=K->X.calm=true->∀(i:Nat)(pins:List (vG×Obj))(s:vC)(σ:St)(H:Hp)(E:vB->vC->Prop),Inv X pins σ H s->(∀b∈fp,Y2 X pins H b)->tn i s.heap->J.stop i H ->
  vL (model P w) X.A (uF (.ref it)) (λr s1=>r=none/\Inv X pins σ H s1) E s
 self:∀(A:vY)(i:Nat)(s:vC)(Q:vB->vC->Prop)(E:vB->vC->Prop),tn i s.heap->Q (.ref it) s->vL (model P w) A (t9 (.ref it)) Q E s
abbrev TI:=St->Hp->(It->Hp->Prop)->Prop
def PIE(X:Cx)(pins:List (vG×Obj))(σ:St)(tg:vP)(R:It->Hp->Prop)(itv:vB)(s2:vC):Prop :=
 ∃(it:vG) (fp:List vG) (tn:Nat->vZ->Prop) (J:It) (H':Hp),itv=.ref it/\Inv X pins σ H' s2/\Turn X.prog X.w X.K tg J fp it tn/\tn 0 s2.heap/\(∀b∈fp,Y2 X pins H' b)/\R J H'
def PI(X:Cx)(tg iter:vP)(wi:TI):Prop :=
 ∀(pins:List (vG×Obj))(s:vC)(σ:St)(H:Hp)(R:It->Hp->Prop),Inv X pins σ H s->wi σ H R ->
  vL (model X.prog X.w) X.A (eval iter X.env) (λv s1=>vL (model X.prog X.w) X.A (t9 v) (PIE X pins σ tg R) X.xe s1) X.xe s
theorem q68{M:Model}{A:vY}{E:vB->vC->Prop}{s:vC}{tg:vP}{it:vG}{u:vB}{o:Obj}{n:String}{vs:Array vB}{Q:Unit->vC->Prop}(ho:s.heap.get? it=some o)(hc:o.cls=.type n)(hd:o.data=.fields vs)(hn:["enumerate", "zip", "dict_itemiterator", "dict_reverseitemiterator", "odict_iterator", "itertools.zip_longest", "itertools.pairwise"].contains n=false)(hQ:Q () s):vL M A (uj tg (.ref it) u) Q E s:=by
 unfold uj;cases tg <;> first
  | exact vF hQ
  | (cases u <;> first
    | exact vF hQ
    | (refine vA (wpAny_load ho ?_)
       rw[hc,hd];show vL M A (if (["enumerate", "zip", "dict_itemiterator", "dict_reverseitemiterator", "odict_iterator", "itertools.zip_longest", "itertools.pairwise"].contains n&&vs[0]?==some (uH _))=true then _ else _) Q E s;rw[vJ (by intro h;rw[hn,wg]at h;cases h)];exact vF hQ))
noncomputable def Itl(K:zA)(a:vG):It :=
 ⟨λi H=>∃xs x,SqL K H a xs/\xs[i]?=some x,λi H x H'=>H'=H/\∀xs,SqL K H a xs->xs[i]?=some x,λi H=>∃xs,SqL K H a xs/\xs.length<=i⟩
noncomputable def Itt(K:zA)(a:vG):It :=
 ⟨λi H=>∃xs x,SqT K H a xs/\xs[i]?=some x,λi H x H'=>H'=H/\∀xs,SqT K H a xs->xs[i]?=some x,λi H=>∃xs,SqT K H a xs/\xs.length<=i⟩
noncomputable def Itr(lo:Int)(n:Nat):It:=⟨λi _=>i<n,λi H x H'=>H'=H/\x=.int (lo+i),λi _=>n<=i⟩
theorem qaz{P:vO}{w:vT}{K:zA}{tg:vP}(a it:vG):Turn P w K tg (Itl K a) [it] it (λi h=>h.IsListIter it a i) where
 mem:=by simp
 obj:=λi h st b hb=>by
  have e:b=it:=by simpa using hb
  subst e;obtain⟨o,e,c,d⟩:=st;exact⟨o,e,λv z=>by rw[d]at z;cases z⟩
 keep:=λi h h' st k=>st.at λo e=>k it (by simp) o e
 item:=by
  intro X hP hw hK hc i pins s σ H E I hf st hg;subst hP hw hK;obtain⟨xs,x,hq,hx⟩:=hg;obtain⟨its,rv,p,hz⟩:=I.list hq;obtain⟨u,hu,ru⟩:=rv.get hx;obtain⟨f0,f1,f2,f3,f4,f5⟩:=hf it (by simp);refine wpAny_pyNext_list_item st p.isList (x:=u) ⇑hu λh' st' sb=>?_;have I1:Inv X pins σ H { s with heap:=h' }:=I.turned (t':=s.toks) (λb o hb e=>(sb.2 b hb).trans e) f0 f1 f3 f4 f5;obtain⟨o,e,c,d⟩:=id st';exact⟨u,rfl,q68 (s:={ s with heap:=h' }) e c d (by decide) ⟨x,H,I1,ru,⟨rfl,λys hy=>by rw[I.list_inj hy hq];exact hx⟩,st',λb hb=>(hf b hb).1⟩⟩
 done:=by
  intro X hP hw hK hc i pins s σ H E I hf st hg;subst hP hw hK;obtain⟨xs,hq,hx⟩:=hg;obtain⟨its,rv,p,hz⟩:=I.list hq;obtain⟨f0,f1,f2,f3,f4,f5⟩:=hf it (by simp);have hl:=rv.length;exact wpAny_pyNext_list_end (I.ok.hd hc) st p.isList (by simp;omega) λh' eb=>⟨rfl,I.turned (t':=s.toks) (λb o hb e=>eb b o hb e) f0 f1 f3 f4 f5⟩
 self:=λ_ _ _ _ _ st h=>wpAny_pyIter_listiter st h
theorem q9y{P:vO}{w:vT}{K:zA}{tg:vP}(a it:vG):Turn P w K tg (Itt K a) [it] it (λi h=>h.IsTupleIter it a i) where
 mem:=by simp
 obj:=λi h st b hb=>by
  have e:b=it:=by simpa using hb
  subst e;obtain⟨o,e,c,d⟩:=st;exact⟨o,e,λv z=>by rw[d]at z;cases z⟩
 keep:=λi h h' st k=>st.at λo e=>k it (by simp) o e
 item:=by
  intro X hP hw hK hc i pins s σ H E I hf st hg;subst hP hw hK;obtain⟨xs,x,hq,hx⟩:=hg;obtain⟨its,rv,p,hz⟩:=I.tuple hq;obtain⟨u,hu,ru⟩:=rv.get hx;obtain⟨f0,f1,f2,f3,f4,f5⟩:=hf it (by simp);refine wpAny_pyNext_tuple_item st (show s.heap.IsTuple a its.toArray from p) (x:=u) ⇑hu λh' st' sb=>?_;have I1:Inv X pins σ H { s with heap:=h' }:=I.turned (t':=s.toks) (λb o hb e=>(sb.2 b hb).trans e) f0 f1 f3 f4 f5;obtain⟨o,e,c,d⟩:=id st';exact⟨u,rfl,q68 (s:={ s with heap:=h' }) e c d (by decide) ⟨x,H,I1,ru,⟨rfl,λys hy=>by rw[I.tuple_inj hy hq];exact hx⟩,st',λb hb=>(hf b hb).1⟩⟩
 done:=by
  intro X hP hw hK hc i pins s σ H E I hf st hg;subst hP hw hK;obtain⟨xs,hq,hx⟩:=hg;obtain⟨its,rv,p,hz⟩:=I.tuple hq;obtain⟨f0,f1,f2,f3,f4,f5⟩:=hf it (by simp);have hl:=rv.length;exact wpAny_pyNext_tuple_end (I.ok.hd hc) st (show s.heap.IsTuple a its.toArray from p) (by simp;omega) λh' eb=>⟨rfl,I.turned (t':=s.toks) (λb o hb e=>eb b o hb e) f0 f1 f3 f4 f5⟩
 self:=λ_ _ _ _ _ st h=>wpAny_pyIter_tupleiter st h
theorem q9d{P:vO}{w:vT}{K:zA}{tg:vP}(it:vG)(lo:Int)(n:Nat):Turn P w K tg (Itr lo n) [it] it (λi h=>IsRangeIter h it (lo+(i:Nat)*1) ((n:Int)-(i:Nat)) 1) where
 mem:=by simp
 obj:=λi h st b hb=>by
  have e:b=it:=by simpa using hb
  subst e;exact⟨_,st,λv z=>by
   have z':Data.fields _=Data.cell v:=z;cases z'⟩
 keep:=λi h h' st k=>k it (by simp) _ st
 item:=by
  intro X hP hw hK hc i pins s σ H E I hf st hg;subst hP hw hK;obtain⟨f0,f1,f2,f3,f4,f5⟩:=hf it (by simp);have W:=Walks.range (prog:=X.prog) (w:=X.w) (I.ok.hd hc) it lo 1 n;refine W.item i s _ _ hg st λv h' tk hv st' kk=>?_;obtain⟨t,rfl⟩:=hv;have I1:Inv X pins σ H { s with heap:=h',toks:=tk }:=I.turned (λb o hb e=>kk b o (by simpa using hb) e) f0 f1 f3 f4 f5;refine⟨_,rfl,q68 (s:={ s with heap:=h',toks:=tk }) (n := "range_iterator") st' rfl rfl (by decide) ⟨.int (lo+i),H,I1,⟨t,?_⟩,⟨rfl,rfl⟩,st',λb hb=>(hf b hb).1⟩⟩;rw[xX]
 done:=by
  intro X hP hw hK hc i pins s σ H E I hf st hg;subst hP hw hK;obtain⟨f0,f1,f2,f3,f4,f5⟩:=hf it (by simp);exact wpAny_pyNext_range_end (I.ok.hd hc) st (by have:n<=i:=hg;omega) λh' eb=>⟨rfl,I.turned (t':=s.toks) (λb o hb e=>eb b o hb e) f0 f1 f3 f4 f5⟩
 self:=λ_ _ _ _ _ st h=>wpAny_pyIter_rangeiter st h
section
variable{X:Cx}{tg:vP}
noncomputable def iList(K:zA)(tl:TE):TI:=λσ H R=>tl σ H λx H1=>∃a,x=.ref a/\(∃xs,SqL K H1 a xs)/\R (Itl K a) H1
noncomputable def iTup(K:zA)(tl:TE):TI:=λσ H R=>tl σ H λx H1=>∃a,x=.ref a/\(∃xs,SqT K H1 a xs)/\R (Itt K a) H1
theorem q4T{l:vP}{tl:TE}(hl:PE X l tl):PI X tg l (iList X.K tl):=by
 intro pins s σ H R I h;refine thn (hl pins s σ H _ I h) λv s1 ⟨x,H1,I1,r1,q1⟩=>?_;obtain⟨a,e,⟨xs,hq⟩,q⟩:=q1;subst e;cases r1;obtain⟨its,rv,p,hz⟩:=I1.list hq;refine uV p.isList ?_;refine⟨s1.heap.objs.size,[s1.heap.objs.size],_,_,H1,rfl,I1.kept (t':=s1.toks) λb o e=>zD _ e,qaz a _,⟨_,zS _ rfl,rfl,rfl⟩,λb hb=>?_,q⟩;have e:b=s1.heap.objs.size:=by simpa using hb
 subst e;exact I1.fpOk (zN _) (I1.hok.fresh (zN _))
theorem qes{l:vP}{tl:TE}(hl:PE X l tl):PI X tg l (iTup X.K tl):=by
 intro pins s σ H R I h;refine thn (hl pins s σ H _ I h) λv s1 ⟨x,H1,I1,r1,q1⟩=>?_;obtain⟨a,e,⟨xs,hq⟩,q⟩:=q1;subst e;cases r1;obtain⟨its,rv,p,hz⟩:=I1.tuple hq;refine wpAny_pyIter_tuple (show s1.heap.IsTuple a its.toArray from p) ?_;refine⟨s1.heap.objs.size,[s1.heap.objs.size],_,_,H1,rfl,I1.kept (t':=s1.toks) λb o e=>zD _ e,q9y a _,⟨_,zS _ rfl,rfl,rfl⟩,λb hb=>?_,q⟩;have e:b=s1.heap.objs.size:=by simpa using hb
 subst e;exact I1.fpOk (zN _) (I1.hok.fresh (zN _))
theorem q6n{pins:List (vG×Obj)}{σ:St}{H:Hp}{s:vC}{R:It->Hp->Prop}{E:vB->vC->Prop}{lo hi:Int}{t u v:Tok}{tk:Nat}(I:Inv X pins σ H s)(h1:-(2^62)<=lo)(h2:lo<2^62)(h3:-(2^62)<=hi)(h4:hi<2^62)(q:R (Itr lo (hi-lo).toNat) H):vL (model X.prog X.w) X.A (t9 (.ref s.heap.objs.size)) (PIE X pins σ tg R) E { s with heap:=s.heap.push { cls:=.type "range", data:=.fields #[.int lo t,.int hi u,.int 1 v] },toks:=tk }:=by
 refine wpAny_pyIter_range (IsRange.new ..) (small_one h1 h2 h3 h4) ?_;have I1:Inv X pins σ H { s with heap:=s.heap.push { cls:=.type "range", data:=.fields #[.int lo t,.int hi u,.int 1 v] },toks:=tk }:=I.kept λb o e=>zD _ e;refine⟨(s.heap.push { cls:=.type "range", data:=.fields #[.int lo t,.int hi u,.int 1 v] }).objs.size,[(s.heap.push { cls:=.type "range", data:=.fields #[.int lo t,.int hi u,.int 1 v] }).objs.size],_,_,H,rfl,
  I1.kept (t':=tk) λb o e=>zD _ e,q9d _ lo (hi-lo).toNat,?_,λb hb=>?_,q⟩
 ·have e1:lo+((0:Nat):Int)*1=lo:=by simp
  have e2:(((hi-lo).toNat:Nat):Int)-((0:Nat):Int)=Builtin.Range.rangeSize lo hi 1:=by rw[rangeSize_one];split <;> omega
  show IsRangeIter _ _ (lo+((0:Nat):Int)*1) ((((hi-lo).toNat:Nat):Int)-((0:Nat):Int)) 1;rw[e1,e2];exact zS _ rfl
 ·have e:b=(s.heap.push { cls:=.type "range", data:=.fields #[.int lo t,.int hi u,.int 1 v] }).objs.size:=by simpa using hb
  subst e;exact I1.fpOk (zN _) (I1.hok.fresh (zN _))
noncomputable def iRng1(ta:TA):TI:=λσ H R=>ta σ H λvs H1=>∃j:Int,vs=[.int j]/\-(2^62)<=j/\j<2^62/\R (Itr 0 j.toNat) H1
noncomputable def iRng2(ta:TA):TI:=λσ H R=>ta σ H λvs H1=>∃i j:Int,vs=[.int i,.int j]/\(-(2^62)<=i/\i<2^62/\-(2^62)<=j/\j<2^62)/\R (Itr i (j-i).toNat) H1
theorem qaF{a:vP}{ta:TA}{p pos:Pos}(hg:Gl X "range")(hm:X.mg "range" = none)(ha:PA X [a] ta)(hs:vK [a] X.env=[(false,eval a X.env)]:=by rfl):PI X tg (.Call (.Name "range" p) [a] [] pos) (iRng1 ta):=by
 intro pins s σ H R I h;refine Call_ (q0s I hg hm boot_range (PyProof.Rows.callWith_type1 (thn (ha pos pins s σ H _ I h) λus s1 ⟨vs,H1,I1,r1,q1⟩=>?_) hs rfl));obtain⟨j,e,q1,q2,q⟩:=q1;subst e;cases r1 with
 | cons r rr=>
  cases rr;obtain⟨t,rfl⟩:=r;exact call_range_1 (q6n I1 ∅ ∅ q1 q2 ⇑q)
theorem q9W{a b:vP}{ta:TA}{p pos:Pos}(hg:Gl X "range")(hm:X.mg "range" = none)(ha:PA X [a,b] ta)(hs:vK [a,b] X.env=[(false,eval a X.env),(false,eval b X.env)]:=by rfl)(hs2:vK [b] X.env=[(false,eval b X.env)]:=by rfl):
  PI X tg (.Call (.Name "range" p) [a,b] [] pos) (iRng2 ta):=by
 intro pins s σ H R I h;refine Call_ (q0s I hg hm boot_range (PyProof.Rows.callWith_type1 (thn (ha pos pins s σ H _ I h) λus s1 ⟨vs,H1,I1,r1,q1⟩=>?_) (by rw[hs,hs2]) (by rw[hs2];rfl)));obtain⟨i,j,e,⟨q1,q2,q3,q4⟩,q⟩:=q1;subst e;cases r1 with
 | cons r rr=>
  cases rr with
  | cons r' rr=>
   cases rr;obtain⟨t,rfl⟩:=r;obtain⟨t',rfl⟩:=r';exact call_range_2 (q6n I1 q1 q2 q3 q4 q)
noncomputable def tFor(wi:TI)(g:TG)(tb:TS):TS:=λD σ H=>wi σ H λJ H1=>∃W:Nat->Nat->St->Hp->Prop,(∃m,W 0 m σ H1)/\∀i m σ H,W i m σ H ->
 (J.stop i H/\D.nx σ H)\/(J.go i H/\∃N:St->Hp->Prop,(∀σ' H',N σ' H'->∃m',m'<m/\W (i+1) m' σ' H')/\∀x H',J.yld i H x H'->g x σ H' λσ2 H2=>tb { D with nx:=N,ct:=N,bk:=D.nx } σ2 H2)
noncomputable def Xj(fp:List vG)(h:vZ):List (vG×Obj):=fp.filterMap λb=>(h.get? b).map λo=>(b,o)
theorem q1z{fp:List vG}{h:vZ}{b:vG}{o:Obj}(hb:b∈fp)(e:h.get? b=some o):(b,o)∈Xj fp h:=ZG.mpr ⟨b,hb,by rw[e];rfl⟩
theorem q9L{fp:List vG}{h:vZ}{p:vG×Obj}(hp:p∈Xj fp h):p.1∈fp/\h.get? p.1=some p.2:=by
 obtain⟨b,hb,e⟩:=ZG.mp hp;cases q:h.get? b with
 | none=>rw[q]at e;cases e
 | some o=>
  rw[q]at e;have e':(b,o)=p:=zt e;subst e';exact⟨hb,q⟩
theorem Inv.pinned{pins:List (vG×Obj)}{σ:St}{H:Hp}{s:vC}{fp:List vG}(I:Inv X pins σ H s)(hf:∀b∈fp,Y2 X pins H b)(ho:∀b∈fp,∃o,s.heap.get? b=some o/\∀v,o.data≠.cell v):Inv X (pins++Xj fp s.heap) σ H s :=
 I.pins_of λp hp=>(zK.mp hp).elim (λz=>I.pin p (zF _ z)) λz=>by
  obtain⟨hb,e⟩:=q9L z;obtain⟨f0,f1,f2,_⟩:=hf p.1 hb;obtain⟨o,e',d⟩:=ho p.1 hb;rw[e]at e';cases e';exact⟨e,f0,f1,f2,d⟩
theorem Inv.unpinned{pins pl:List (vG×Obj)}{σ:St}{H:Hp}{s:vC}(I:Inv X (pins++pl) σ H s):Inv X pins σ H s:=I.pins_of λp hp=>I.pin p (zF _ (zH _ hp))
theorem q6d{iter:vP}{body:List vo}{wi:TI}{g:TG}{tb:TS}{pos:Pos}(hp:tO (model X.prog X.w) X.A X.env X.xe)(hc:X.calm=true)(hi:PI X tg iter wi)(hg:PG X tg g)(hb:PSs X body tb)(hs:∀x,vt iter X.env x=pure x:=by intro _;rfl):PS X (.For tg iter body [] pos) (tFor wi g tb):=by
 intro pins s σ H D I h;refine wpAny_For (thn (hi pins s σ H _ I h) λv s1 h1=>thn h1 λitv s2 h2=>?_) hs;obtain⟨it,fp,tn,J,H2,e,I2,T,st2,f2,W,⟨m0,w0⟩,turn⟩:=h2;subst e;have stat:∀{H':Hp},(∀b∈fp,H' b=none)->∀b∈fp,Y2 X pins H' b:=λhn b hb=>⟨hn b hb,(f2 b hb).2⟩;refine codeAny_forLoop_any (λn s'=>∃i σ' H',Inv X pins σ' H' s'/\tn i s'.heap/\(∀b∈fp,H' b=none)/\W i n σ' H') ?_ m0 ⟨0,σ,H2,I2,st2,λb hb=>(f2 b hb).1,w0⟩;rintro n s3 ⟨i,σ3,H3,I3,st3,fr3,w3⟩;rcases turn i n σ3 H3 w3 with⟨stop,qn⟩|⟨go,N,hN,step⟩
 ·refine uA hp (thn (T.done X rfl rfl rfl hc i pins s3 σ3 H3 X.xe I3 (stat fr3) st3 stop) λr s4 ⟨hr,I4⟩=>?_)
  subst hr;exact ui ⟨σ3,H3,I4,qn⟩
 ·refine uA hp (thn (T.item X rfl rfl rfl hc i pins s3 σ3 H3 X.xe I3 (stat fr3) st3 go) λr s4 ⟨u,hr,h4⟩=>?_)
  subst hr;refine uA hp (thn h4 λ_ s5 ⟨x,H5,I5,r5,y5,st5,fr5⟩=>?_);have I5':=I5.pinned (stat fr5) (T.obj _ _ st5);refine uA hp (thn (hg _ s5 σ3 H5 x u _ I5' r5 (step x H5 y5)) λ_ s6 ⟨σ6,H6,I6,q6⟩=>?_);refine uA hp (thn (hb _ s6 σ6 H6 _ I6 q6) λf s7 q7=>?_);have again:∀{σ7:St}{H7:Hp},Inv X (pins++Xj fp s5.heap) σ7 H7 s7->N σ7 H7->∃m,m<n/\∃i σ' H',Inv X pins σ' H' s7/\tn i s7.heap/\(∀b∈fp,H' b=none)/\W i m σ' H':=λ{σ7 H7} I7 n7=>by
   obtain⟨m',hm,w7⟩:=hN σ7 H7 n7;refine⟨m',hm,i+1,σ7,H7,I7.unpinned,T.keep _ _ _ st5 λb hb o e=>(I7.pin (b,o) (zF _ (zF _ (q1z hb e)))).1,λb hb=>?_,w7⟩;obtain⟨o,e,d⟩:=T.obj _ _ st5 b hb;exact(I7.pin (b,o) (zF _ (zF _ (q1z hb e)))).2.1
  cases f with
  | next=>obtain⟨σ7,H7,I7,n7⟩:=q7;exact again I7 n7
  | cont=>obtain⟨σ7,H7,I7,n7⟩:=q7;exact again I7 n7
  | brk=>obtain⟨σ7,H7,I7,q7⟩:=q7;exact⟨σ7,H7,I7.unpinned,q7⟩
  | ret v=>obtain⟨x7,σ7,H7,I7,r7,q7⟩:=q7;exact⟨x7,σ7,H7,I7.unpinned,r7,q7⟩
end
abbrev R2:=V->V->Hp->VK->Prop
def OpR(X:Cx)(f:vB->vB->Sem vB)(r:R2):Prop :=
 ∀(pins:List (vG×Obj))(s:vC)(σ:St)(H:Hp)(x y:V)(v u:vB)(Q:VK),Inv X pins σ H s->RelV x v->RelV y u->r x y H Q ->
  vL (model X.prog X.w) X.A (f v u) (EP X pins σ Q) X.xe s
def UnR(X:Cx)(f:vB->Sem vB)(r:V->Hp->VK->Prop):Prop :=
 ∀(pins:List (vG×Obj))(s:vC)(σ:St)(H:Hp)(x:V)(v:vB)(Q:VK),Inv X pins σ H s->RelV x v->r x H Q ->
  vL (model X.prog X.w) X.A (f v) (EP X pins σ Q) X.xe s
def Yq(X:Cx)(f:vB)(r:List V->Hp->VK->Prop):Prop :=
 ∀(pins:List (vG×Obj))(s:vC)(σ:St)(H:Hp)(xs:List V)(us:List vB)(Q:VK),Inv X pins σ H s->YO xs us->r xs H Q ->
  vL (model X.prog X.w) X.A (call f us) (EP X pins σ Q) X.xe s
def TruR(X:Cx)(r:V->Hp->(Bool->Hp->Prop)->Prop):Prop :=
 ∀(pins:List (vG×Obj))(s:vC)(σ:St)(H:Hp)(x:V)(v:vB)(Q:Bool->Hp->Prop),Inv X pins σ H s->RelV x v->r x H Q ->
  vL (model X.prog X.w) X.A (truthy v) (TP X pins σ Q) X.xe s
noncomputable def tOp(r:R2)(ta tb:TE):TE:=λσ H Q=>ta σ H λx H1=>tb σ H1 λy H2=>r x y H2 Q
noncomputable def tUn(r:V->Hp->VK->Prop)(ta:TE):TE:=λσ H Q=>ta σ H λx H1=>r x H1 Q
noncomputable def rI(C:Int->Int->Prop)(g:Int->Int->V):R2:=λx y H Q=>∃i j,x=.int i/\y=.int j/\C i j/\Q (g i j) H
noncomputable def rI0(g:Int->Int->V):R2:=λx y H Q=>∃i j,x=.int i/\y=.int j/\Q (g i j) H
def rU(g:Int->V):V->Hp->VK->Prop:=λx H Q=>∃i,x=.int i/\Q (g i) H
section
variable{X:Cx}{a b c:vP}{ta tb tc:TE}{pos:Pos}
theorem binT(ha:PE X a ta)(hb:PE X b tb){pins:List (vG×Obj)}{s:vC}{σ:St}{H:Hp}{R:V->V->Hp->Prop}(I:Inv X pins σ H s)(h:ta σ H λx H1=>tb σ H1 λy H2=>R x y H2){Q:vB->vC->Prop}{f:vB->vB->Sem vB}(hf:∀v u s2 x y H2,Inv X pins σ H2 s2->RelV x v->RelV y u->R x y H2->vL (model X.prog X.w) X.A (f v u) Q X.xe s2):
  vL (model X.prog X.w) X.A (eval a X.env) (λv s₁=>vL (model X.prog X.w) X.A (eval b X.env) (λu s₂=>vL (model X.prog X.w) X.A (f v u) Q X.xe s₂) X.xe s₁) X.xe s:=by
 refine thn (ha pins s σ H _ I h) λv s1 ⟨x,H1,I1,r1,q1⟩=>?_;refine thn (hb pins s1 σ H1 _ I1 q1) λu s2 ⟨y,H2,I2,r2,q2⟩=>?_;exact hf v u s2 x y H2 I2 r1 r2 q2
theorem qfO{op:Operator}{r:R2}(ho:OpR X (uJ op) r)(ha:PE X a ta)(hb:PE X b tb):PE X (.BinOp a op b pos) (tOp r ta tb):=by
 intro pins s σ H Q I h;exact wpAny_BinOp (binT ha hb I h λv u s2 x y H2 I2 rx ry q=>ho pins s2 σ H2 x y v u Q I2 rx ry q)
theorem qfN{op:UnaryOp}{r:V->Hp->VK->Prop}(ho:UnR X (unaryOp op) r)(ha:PE X a ta):PE X (.UnaryOp op a pos) (tUn r ta):=by
 intro pins s σ H Q I h;exact UnaryOp_ (thn (ha pins s σ H _ I h) λv s1 ⟨x,H1,I1,r1,q1⟩=>ho pins s1 σ H1 x v Q I1 r1 q1)
theorem opI{f:vB->vB->Sem vB}{C:Int->Int->Prop}{g:Int->Int->Int}(rule:∀(i j:Int)(t u:Tok)(s:vC)(Q:vB->vC->Prop)(E:vB->vC->Prop),C i j->Q (.int (g i j) s.toks) { s with toks:=s.toks+1 }->vL (model X.prog X.w) X.A (f (.int i t) (.int j u)) Q E s):
  OpR X f (rI C λi j=>.int (g i j)):=by
 intro pins s σ H x y v u Q I rx ry h;obtain⟨i,j,rfl,rfl,hc,q⟩:=h;obtain⟨t,rfl⟩:=rx;obtain⟨t',rfl⟩:=ry;exact rule i j t t' s _ _ hc ⟨.int (g i j),H,I.tok _,⟨_,rfl⟩,q⟩
theorem opI0{f:vB->vB->Sem vB}{g:Int->Int->Int}(rule:∀(i j:Int)(t u:Tok)(s:vC)(Q:vB->vC->Prop)(E:vB->vC->Prop),Q (.int (g i j) s.toks) { s with toks:=s.toks+1 }->vL (model X.prog X.w) X.A (f (.int i t) (.int j u)) Q E s):
  OpR X f (rI0 λi j=>.int (g i j)):=by
 intro pins s σ H x y v u Q I rx ry h;obtain⟨i,j,rfl,rfl,q⟩:=h;obtain⟨t,rfl⟩:=rx;obtain⟨t',rfl⟩:=ry;exact rule i j t t' s _ _ ⟨.int (g i j),H,I.tok _,⟨_,rfl⟩,q⟩
theorem opB0{f:vB->vB->Sem vB}{g:Int->Int->Bool}(rule:∀(i j:Int)(t u:Tok)(s:vC)(Q:vB->vC->Prop)(E:vB->vC->Prop),Q (.bool (g i j)) s->vL (model X.prog X.w) X.A (f (.int i t) (.int j u)) Q E s):
  OpR X f (rI0 λi j=>.bl (g i j)):=by
 intro pins s σ H x y v u Q I rx ry h;obtain⟨i,j,rfl,rfl,q⟩:=h;obtain⟨t,rfl⟩:=rx;obtain⟨t',rfl⟩:=ry;exact rule i j t t' s _ _ ⟨.bl (g i j),H,I,rfl,q⟩
def CDiv(i j:Int):Prop:=0<j/\j<1073741824
def CPow(i j:Int):Prop:=0<=j/\j<=1000000/\i.natAbs<2^64
def CMul(i j:Int):Prop:=(-(2^64)<i/\i<2^64)\/(-(2^64)<j/\j<2^64)
theorem CMul.ok{i j:Int}(h:CMul i j):IntMulOk i j:=by
 rcases h with⟨h1,h2⟩|⟨h1,h2⟩
 ·exact .of_left (intBits_le_64 h1 h2)
 ·exact .of_right (intBits_le_64 h1 h2)
theorem qfa:OpR X (uJ .Add) (rI0 λi j=>.int (i+j)):=opI0 λ_ _ _ _ _ _ _ q=>add_int q
theorem qel:OpR X (uJ .Sub) (rI0 λi j=>.int (i-j)):=opI0 λ_ _ _ _ _ _ _ q=>sub_int q
theorem qeA:OpR X (uJ .Mult) (rI CMul λi j=>.int (i*j)):=opI λ_ _ _ _ _ _ _ hc q=>mul_int q hc.ok
theorem qdU:OpR X (uJ .FloorDiv) (rI CDiv λi j=>.int (i/j)):=opI λi j _ _ _ _ _ hc q=>by
 have h1:(0:Int)<j:=hc.1;have h2:j<1073741824:=hc.2;exact floordiv_int ∅ (by rw[Int.fdiv_eq_ediv_of_nonneg i ∅];exact q) (.inl (PyProof.noPylong_small ∅))
theorem qeO:OpR X (uJ .Mod) (rI (λ_ j=>0<j) λi j=>.int (i%j)):=opI λi j _ _ _ _ _ hc q=>by
 have h1:(0:Int)<j:=hc;exact mod_int' ∅ (by rw[Int.fmod_eq_emod_of_nonneg i ∅];exact q)
theorem qf9:OpR X (uJ .Pow) (rI CPow λi j=>.int (i^j.toNat)):=opI λ_ _ _ _ _ _ _ hc q=>pow_int_small hc.1 hc.2.1 hc.2.2 q
theorem unI{f:vB->Sem vB}{g:Int->Int}(rule:∀(i:Int)(t:Tok)(s:vC)(Q:vB->vC->Prop)(E:vB->vC->Prop),Q (.int (g i) s.toks) { s with toks:=s.toks+1 }->vL (model X.prog X.w) X.A (f (.int i t)) Q E s):
  UnR X f (rU λi=>.int (g i)):=by
 intro pins s σ H x v Q I rx h;obtain⟨i,rfl,q⟩:=h;obtain⟨t,rfl⟩:=rx;exact rule i t s _ _ ⟨.int (g i),H,I.tok _,⟨_,rfl⟩,q⟩
theorem qf5:UnR X (unaryOp .USub) (rU λi=>.int (-i)):=unI λ_ _ _ _ _ q=>neg_int q
end
section
variable{X:Cx}{a b c:vP}{ta tb tc:TE}{pos:Pos}
theorem qcS:OpR X (uN .Lt) (rI0 λi j=>.bl (decide (i<j))):=opB0 λ_ _ _ _ _ _ _ q=>lt_int q
theorem qfF:OpR X (uN .GtE) (rI0 λi j=>.bl (decide (j<=i))):=opB0 λ_ _ _ _ _ _ _ q=>ge_int q
theorem OpR.or{f:vB->vB->Sem vB}{r r':R2}(h:OpR X f r)(h':OpR X f r'):OpR X f (λx y H Q=>r x y H Q\/r' x y H Q):=by
 intro pins s σ H x y v u Q I rx ry q;rcases q with q|q
 ·exact h pins s σ H x y v u Q I rx ry q
 ·exact h' pins s σ H x y v u Q I rx ry q
theorem XU(b:vP){op:tt}(h:op≠.In:=by decide)(h2:op≠.NotIn:=by decide):vq op b=false:=by
 have e1:(op==CmpOp.In)=false:=by cases op <;> first|rfl|exact vM rfl h
 have e2:(op==CmpOp.NotIn)=false:=by cases op <;> first|rfl|exact vM rfl h2
 cases b <;> simp[vq,e1,e2]
theorem qe6{op:tt}{r:R2}(ho:OpR X (uN op) r)(ha:PE X a ta)(hb:PE X b tb)(hm:vq op b=false):PE X (.Compare a [op] [b] pos) (tOp r ta tb):=by
 intro pins s σ H Q I h;exact wpAny_Compare1 (binT ha hb I h λv u s2 x y H2 I2 rx ry q=>ho pins s2 σ H2 x y v u Q I2 rx ry q) hm
noncomputable def tTest(t:TE):TT:=λσ H Q=>t σ H λx H'=>∃k,x=.bl k/\Q k H'
theorem qei{op:tt}{r:R2}(ho:OpR X (uN op) r)(ha:PE X a ta)(hb:PE X b tb)(hm:vq op b=false):PT X (.Compare a [op] [b] pos) (tTest (tOp r ta tb)):=by
 intro pins s σ H Q I h;refine tE (thn (ha pins s σ H _ I h) λv s1 ⟨x,H1,I1,r1,q1⟩=>thn (hb pins s1 σ H1 _ I1 q1) λu s2 ⟨y,H2,I2,r2,q2⟩=>
  thn (ho pins s2 σ H2 x y v u _ I2 r1 r2 q2) λc s3 ⟨z,H3,I3,r3,k,e,q3⟩=>?_) hm
 subst e;cases r3;exact uC ⟨H3,I3,q3⟩
def TruV(K:zA)(x:V)(H:Hp)(k:Bool):Prop :=
 match x with
 | .non=>k=false
 | .bl b=>k=b
 | .int i=>k=(i != 0)
 | .str y=>y.length<=sizeLine/\k=((y.length:Int) != 0)
 | .byt y=>y.size<=sizeLine/\k=((y.size:Int) != 0)
 | .ref p=>(∃xs,SqL K H p xs/\k=!xs.isEmpty)\/(∃xs,SqT K H p xs/\k=!xs.isEmpty)\/∃kvs,H p=some (.dK kvs)/\k=!kvs.isEmpty
 | _=>False
theorem q97{κ:Type}{kvs:List (κ×V)}{vs:List (κ×vB)}(r:KV kvs vs):(!vs.isEmpty)=!kvs.isEmpty:=by
 cases r <;> rfl
theorem q4G{xs:List V}{its:List vB}(r:YO xs its):(!its.toArray.isEmpty)=!xs.isEmpty:=by
 cases r <;> simp
theorem XZ:(sizeLine:Nat)<2^63:=by rw[vn];decide
theorem qeF:TruR X (λx H Q=>∃k,TruV X.K x H k/\Q k H):=by
 intro pins s σ H x v Q I rx h;obtain⟨k,e,q⟩:=h;have hl:=XZ;have hs:sizeLine=16777216:=vn;cases x with
 | non=>
  cases rx;have e':k=false:=e;subst e';exact truthy_none ⟨H,I,q⟩
 | bl b=>
  cases rx;have e':k=b:=e;subst e';exact uC ⟨H,I,q⟩
 | int i=>
  obtain⟨t,rfl⟩:=rx;have e':k=(i != 0):=e;subst e';exact PySem.P.truthy_int ⟨H,I,q⟩
 | str y=>
  obtain⟨t,rfl⟩:=rx;obtain⟨hy,e'⟩:y.length<=sizeLine/\k=((y.length:Int) != 0):=e;subst e';exact PySem.P.truthy_str ∅ ⟨H,I.tok _,q⟩
 | byt y=>
  obtain⟨t,rfl⟩:=rx;obtain⟨hy,e'⟩:y.size<=sizeLine/\k=((y.size:Int) != 0):=e;subst e';exact PySem.W.truthy_bytes ∅ ⟨H,I.tok _,q⟩
 | ref p=>
  cases rx;have e':(∃xs,SqL X.K H p xs/\k=!xs.isEmpty)\/(∃xs,SqT X.K H p xs/\k=!xs.isEmpty)\/∃kvs,H p=some (.dK kvs)/\k=!kvs.isEmpty:=e;rcases e' with⟨xs,hx,e'⟩|⟨xs,hx,e'⟩|⟨kvs,hx,e'⟩
  ·subst e'
   obtain⟨its,r,pl,hz⟩:=I.list hx;have hlen:=r.length;exact wpAny_truthy_list pl.isList (by simp only[zO];omega) ⟨H,I.tok _,by rw[q4G r];exact q⟩
  ·subst e'
   obtain⟨its,r,pl,hz⟩:=I.tuple hx;have hlen:=r.length;exact truthy_tuple pl (by simp only[zO];omega) ⟨H,I.tok _,by rw[q4G r];exact q⟩
  ·subst e'
   obtain⟨hz,hS,vs,r,m⟩:kvs.length<=sizeLine/\(p==v8)=false/\∃vs,KV kvs vs/\s.heap.DictOf (YN X.prog X.w) p vs:=I.hok p _ hx;have hlen:kvs.length=vs.length:=Paired.length r;exact wpAny_truthy_dict hS m ∅ ⟨H,I.tok _,by rw[q97 r];exact q⟩
 | _=>exact(show False from e).elim
theorem qby(ha:PE X a ta)(he:∀whole,t8 a X.env whole=(do let v <- whole;t7 a.pos;holding [v] (truthy v))):
  PT X a (λσ H Q=>ta σ H λx H'=>∃k,TruV X.K x H' k/\Q k H'):=by
 intro pins s σ H Q I h;exact isTrue_plain (thn (ha pins s σ H _ I h) λv s1 ⟨x,H1,I1,r1,q1⟩=>qeF pins s1 σ H1 x v Q I1 r1 q1) (he _)
theorem vals1{x:V}{us:List vB}(r:YO [x] us):∃u,us=[u]/\RelV x u:=by
 cases r with
 | cons r1 r2=>cases r2;exact⟨_,rfl,r1⟩
theorem vals2{x y:V}{us:List vB}(r:YO [x,y] us):∃u w',us=[u,w']/\RelV x u/\RelV y w':=by
 cases r with
 | cons r1 r2=>
  cases r2 with
  | cons r3 r4=>cases r4;exact⟨_,_,rfl,r1,r3⟩
theorem qbI:Yq X (.builtin "abs") (λxs H Q=>∃i,xs=[.int i]/\Q (.int (if i<0 then -i else i)) H):=by
 intro pins s σ H xs us Q I r h;obtain⟨i,rfl,q⟩:=h;obtain⟨u,rfl,t,rfl⟩:=vals1 r;exact call_abs_int λu tk=>⟨.int (if i<0 then -i else i),H,I.tok _,⟨_,rfl⟩,q⟩
end
structure ObjM (h:vZ) (x dx C:vG) (mA:Str->Option vB):Prop where
 obj:h.get? x=some (wZ C dx)
 ns:h.Ns1 dx mA
 ne:dx≠x
theorem q9U{h:vZ}{dx:vG}{mA:Str->Option vB}(n:h.Ns1 dx mA):∃od,h.get? dx=some od/\∀name,wj name od=some (mA name):=by
 obtain⟨o,es,ep,ho,hd,hk,_,hm⟩:=n;refine⟨o,ho,λname=>?_⟩;have e:=hm name;unfold nsFind findBy at e;rw[<- Array.find?_toList]at e;unfold wj;rw[hd]
 dsimp only
 split
 ·rename_i y q
  rw[q]at e;exact vf some e
 ·rename_i q
  rw[q]at e;have a:es.toList.any (·.refKey)=false:=by
   rw[List.any_eq_false];intro y hy;obtain⟨z,t,hkey⟩:=hk y (Array.mem_toList_iff.mp hy);simp[DictEntry.refKey,hkey]
  have a':¬es.toList.any (·.refKey)=true:=by rw[a];exact yG
  rw[vJ a'];exact vf some e
theorem ObjM.look{h:vZ}{x dx C:vG}{mA:Str->Option vB}(I:ObjM h x dx C mA):∃od,PySem.W.InstAt h x (wZ C dx) C (some od)/\∀name,wj name od=some (mA name) :=
 let ⟨od,ho,hl⟩:=q9U I.ns
 ⟨od,⟨I.obj,rfl,rfl,ho⟩,hl⟩
section
variable{prog:vO}{w:vT}{A:vY}{E:vB->vC->Prop}{s:vC}{K:zA}{x dx C f:vG}{mA:Str->Option vB}{name:Str}{v:vB}
end
theorem Wa.some_of{v:V}{o:Option vB}(r:Wa (some v) o):∃u,o=some u/\RelV v u:=by
 cases o with
 | none=>exact(show False from r).elim
 | some u=>exact⟨u,rfl,r⟩
section
variable{P:vO}{w:vT}{H H':Hp}{h h':vZ}{a C dx:vG}{fs fs':List (Str×V)}
theorem qdN(hok:HOk P w H h)(e:H a=some (.ins C dx fs)):∃mA,ObjM h a dx C mA/\(∀f,Wa (fs.lookup f) (mA f))/\PySem.Within mA (fs.map (·.1))/\fs.length<=1000/\H dx=some (.own a):=by
 obtain⟨d,z,ne,ob,mA,n,r,q⟩:=(show YQ P w H h a (.ins C dx fs)from hok a _ e);exact⟨mA,⟨ob,n,ne⟩,r,q,z,d⟩
end
structure Cls (K:zA) (C:vG):Prop where
 pg:Zd K C Str.empty=true
 hd:PySem.W.hasDictIn K C=true
 po:PySem.W.plainOver K C=true
 sa:Zp K (.ref C) "__setattr__" = some (some (.builtin "object.__setattr__"))
theorem Cls.get{K:zA}{C:vG}(c:Cls K C)(f:Str):Zd K C f=true:=c.pg
section
variable{X:Cx}{pins:List (vG×Obj)}{σ:St}{H:Hp}{s:vC}{a C dx:vG}{fs:List (Str×V)}{f:Str}{v:V}{A:vY}{E:vB->vC->Prop}
end
section
variable{X:Cx}{o e value:vP}{f:Str}{pos pos' tpos:Pos}{ta tv:TE}
end
section
variable{X:Cx}{pins:List (vG×Obj)}{σ:St}{H:Hp}{s:vC}{A:vY}{E:vB->vC->Prop}{Q:vB->vC->Prop}{c:vB}{b:Bool}
inductive TyOf (K:zA) (H:Hp):V->vB->Prop where
 | non:TyOf K H .non (.type "NoneType")
 | bl (x:Bool):TyOf K H (.bl x) (.type "bool")
 | int (i:Int):TyOf K H (.int i) (.type "int")
 | str (x:Str):TyOf K H (.str x) (.type "str")
 | flt (x:UInt64):TyOf K H (.flt x) (.type "float")
 | lst {a:vG} {xs:List V} (e:H a=some (.lst xs)):TyOf K H (.ref a) (.type "list")
 | frz {a:vG} {o:Obj} {xs:List V} (e:H a=some (.frz o (.lst xs))):TyOf K H (.ref a) (.type "list")
 | tup {a:vG} {xs:List V} (e:H a=some (.tup xs)):TyOf K H (.ref a) (.type "tuple")
 | dK {a:vG} {kvs:List (Key×V)} (e:H a=some (.dK kvs)):TyOf K H (.ref a) (.type "dict")
 | dT {a:vG} {kvs:List (List Key×V)} (e:H a=some (.dT kvs)):TyOf K H (.ref a) (.type "dict")
 | ins {a C dx:vG} {fs:List (Str×V)} (e:H a=some (.ins C dx fs)) (cl:Cls K C) (ha:Zp K (.ref C) "__class__" = some (some (.builtin "object.__class__")))
   (hn:PySem.W.specialIn K (.builtin "object.__class__") "__get__" = some (some (.builtin "getset_descriptor.__get__"))) (htk:PySem.W.takesIn K (.builtin "object.__class__")=some true)
   (hm:PySem.W.mroIn K C (.type "object")=some true):TyOf K H (.ref a) (.ref C)
theorem qaI{x:V}{u t:vB}(I:Inv X pins σ H s)(rx:RelV x u)(ty:TyOf X.K H x t)(e:wk X.K t c=some b)(h:∀tk,Q (.bool b) { s with toks:=tk }):
  vL (model X.prog X.w) A (call (.builtin "isinstance") [u,c]) Q E s:=by
 cases ty with
 | non=>cases (show u=Value.none from rx);exact yS PySem.W.kitx_none I.kIn True.intro e (λz=>nomatch z) h
 | bl y=>cases (show u=Value.bool y from rx);exact yS PySem.W.kitx_bool I.kIn True.intro e (λz=>nomatch z) h
 | int i=>obtain⟨t,q⟩:=(show ∃t,u=Value.int i t from rx);cases q;exact yS PySem.W.kitx_int I.kIn True.intro e (λz=>nomatch z) h
 | str y=>obtain⟨t,q⟩:=(show ∃t,u=Value.str y t from rx);cases q;exact yS PySem.W.kitx_str I.kIn True.intro e (λz=>nomatch z) h
 | flt y=>obtain⟨t,q⟩:=(show ∃t,u=Value.float y t from rx);cases q;exact yS PySem.W.kitx_float I.kIn True.intro e (λz=>nomatch z) h
 | @lst a xs ea=>
  cases (show u=Value.ref a from rx);obtain⟨_,_,n,_,h1⟩:=(show YQ X.prog X.w H s.heap a (.lst xs)from I.hok a _ ea);exact yS ZO I.kIn ⟨_,h1,rfl⟩ e (λz=>nomatch z) h
 | @frz a ob xs ea=>
  cases (show u=Value.ref a from rx);obtain⟨_,_,_,n,_,h1⟩:=(show YQ X.prog X.w H s.heap a (.frz ob (.lst xs))from I.hok a _ ea);exact yS ZO I.kIn ⟨_,h1,rfl⟩ e (λz=>nomatch z) h
 | @tup a xs ea=>
  cases (show u=Value.ref a from rx);obtain⟨_,_,_,p⟩:=(show YQ X.prog X.w H s.heap a (.tup xs)from I.hok a _ ea);obtain⟨o,h1,h2,_⟩:=p;exact yS PySem.W.kitx_tuple I.kIn ⟨o,h1,h2⟩ e (λz=>nomatch z) h
 | @dK a kvs ea=>
  cases (show u=Value.ref a from rx);obtain⟨_,_,vs,_,p⟩:=(show YQ X.prog X.w H s.heap a (.dK kvs)from I.hok a _ ea);obtain⟨o,es,ep,h1,h2,_⟩:=p;exact yS ZP I.kIn ⟨o,h1,h2.1⟩ e (λz=>nomatch z) h
 | @dT a kvs ea=>
  cases (show u=Value.ref a from rx);obtain⟨_,_,xs,_,o,es,ep,h1,h2,_⟩:=(show YQ X.prog X.w H s.heap a (.dT kvs)from I.hok a _ ea);exact yS ZP I.kIn ⟨o,h1,h2.1⟩ e (λz=>nomatch z) h
 | @ins a C dx fs ea cl ha hn htk hm=>
  cases (show u=Value.ref a from rx);obtain⟨mA,O,_⟩:=qdN I.hok ea;obtain⟨od,J,_⟩:=O.look;exact yS (PySem.W.kitx_own (cl.get _) cl.hd ha hn htk hm) I.kIn J e (λz=>nomatch z) h
end
structure Room (k:Nat) (A:vY):Prop where
 hd:A.handled=none
 dp:A.depth+3*k+5<recursionLimit
 un:A.units+16*k+200<ue
theorem Room.mono{j k:Nat}{A:vY}(r:Room k A)(h:j<=k):Room j A:=⟨r.hd,by have:=r.dp;omega,by have:=r.un;omega⟩
theorem Room.deeper{k:Nat}{A:vY}(r:Room (k+1) A)(env:Env):Room k (A.deeper env) :=
 ⟨r.hd,by have:=r.dp;show A.depth+1+3*k+5<_;omega,by have:=r.un;show A.units+3+16*k+200<_;omega⟩
theorem Room.in1{k:Nat}{A:vY}(r:Room (k+1) A):Room k A.in1 :=
 ⟨r.hd,by have:=r.dp;show A.depth+3*k+5<_;omega,by have:=r.un;show A.units+1+16*k+200<_;omega⟩
theorem Room.depth{k:Nat}{A:vY}(r:Room k A):A.depth<recursionLimit:=by have:=r.dp;omega
theorem Room.units{k:Nat}{A:vY}(r:Room k A):A.units+64<ue:=by have:=r.un;omega
noncomputable def tNil:TA:=λ_ H Q=>Q [] H
noncomputable def zAX(ta:TE)(tr:TA):TA:=λσ H Q=>ta σ H λx H1=>tr σ H1 λxs H2=>Q (x::xs) H2
section
variable{X:Cx}{e:vP}{es:List vP}{te:TE}{t:TA}{pos:Pos}
theorem qW:PA X [] tNil:=λ_ _ _ _ H Q I h=>Calls.spliced_nil ⟨[],H,I,.nil,h⟩
theorem qM(ha:PE X e te)(hr:PA X es t)(hs:vK (e::es) X.env=(false,eval e X.env)::vK es X.env:=by rfl):PA X (e::es) (zAX te t):=by
 intro pos pins s σ H Q I h;rw[hs];show vL _ _ (spliced ((false,eval e X.env)::vm pos (vK es X.env))) _ _ s;refine Calls.spliced_cons (thn (ha pins s σ H _ I h) λu s1 ⟨x,H1,I1,r1,q1⟩=>?_);exact thn (hr pos pins s1 σ H1 _ I1 q1) λus s2 ⟨xs,H2,I2,r2,q2⟩=>⟨x::xs,H2,I2,.cons r1 r2,q2⟩
noncomputable def tTup(t:TA):TE:=λσ H Q=>t σ H λxs H1=>xs.length<=sizeLine/\∀p,H1 p=none->Q (.ref p) (upd H1 p (.tup xs))
noncomputable def tLst(t:TA):TE:=λσ H Q=>t σ H λxs H1=>xs.length<=sizeLine/\∀p,H1 p=none->Q (.ref p) (upd H1 p (.lst xs))
theorem qfn{x1}(h:PA X es t):PE X (.Tuple es x1 pos) (tTup t):=by
 intro pins s σ H Q I hq;refine wpAny_Tuple_spliced (thn (h pos pins s σ H _ I hq) λus s1 ⟨xs,H1,I1,r,z,q⟩=>⟨by rw[<- r.length];exact z,?_⟩);have hf:H1 s1.heap.objs.size=none:=I1.hok.fresh (zN _);refine⟨.ref s1.heap.objs.size,upd H1 s1.heap.objs.size (.tup xs),I1.laid (t':=s1.toks) (λb u e=>zD _ e) (zN _) ?_,rfl,q _ hf⟩;exact⟨z,us,r,⟨_,zS _ rfl,rfl,_,rfl⟩⟩
theorem qan(h:PA X es t):PE X (.List es pos) (tLst t):=by
 intro pins s σ H Q I hq;refine wpAny_List_spliced (thn (h pos pins s σ H _ I hq) λus s1 ⟨xs,H1,I1,r,z,q⟩=>⟨by rw[<- r.length];exact z,?_⟩);have hf:H1 s1.heap.objs.size=none:=I1.hok.fresh (zN _);refine⟨.ref s1.heap.objs.size,upd H1 s1.heap.objs.size (.lst xs),I1.laid (t':=s1.toks) (λb u e=>zD _ e) (zN _) ?_,rfl,q _ hf⟩;exact⟨z,us,0,r,zS _ rfl⟩
end
abbrev Sp:=List V->Hp->VK->XK->Prop
abbrev CXT:=List Env->Hp->vC->XK->vB->vC->Prop
structure Env0 (P:vO) (w:vT) (K:zA) (mg:Str->Option vB) (base:vZ) (A:vY) (outer:List Env) (s:vC) (H:Hp):Prop where
 frames:A.frames=some outer
 mod:Mod K mg base
 bs:∀b o,base.get? b=some o->s.heap.get? b=some o/\H b=none
 bsz:base.objs.size<=s.heap.objs.size
 funs:s.heap.FunFrames base outer
 frf:∀b∈frs outer,H b=none
 hok:HOk P w H s.heap
 bare:ux s.gens
def CE(outer:List Env)(P:vO)(w:vT)(H:Hp)(s:vC)(Q:VK)(u:vB)(s':vC):Prop :=
 ∃v H',s'.os=s.os/\ux s'.gens/\Un (frs outer) [] H H' s.heap s'.heap/\HOk P w H' s'.heap/\RelV v u/\Q v H'
def CR(CX:CXT)(outer:List Env)(P:vO)(w:vT)(H:Hp)(s:vC)(Q:VK)(E:XK)(r:tq)(s':vC):Prop :=
 match r with
 | .ok (.ret u)=>CE outer P w H s Q u s'
 | .ok _=>False
 | .error e=>CX outer H s E e s'
structure FnOk (P:vO) (w:vT) (K:zA) (mg:Str->Option vB) (base:vZ) (CX:CXT) (k:Nat) (f:vG) (fd:vN) (ps:List Str) (sp:Sp):Prop where
 len:∀vs H Q E,sp vs H Q E->vs.length=ps.length
 run:∀(A:vY)(outer:List Env)(s:vC)(H:Hp)(args:Args)(us:List vB)(vs:List V)(Q:VK)(E:XK),Room k A->Env0 P w K mg base A outer s H->tY s fd args (ps.zip us)->YO vs us->sp vs H Q E ->
  uP (model P w) A (.call (.ref f) args) (CR CX outer P w H s Q E) s
theorem Env0.in1{P:vO}{w:vT}{K:zA}{mg:Str->Option vB}{base:vZ}{A:vY}{outer:List Env}{s:vC}{H:Hp}(e:Env0 P w K mg base A outer s H):
  Env0 P w K mg base A.in1 outer s H:=⟨e.frames,e.mod,e.bs,e.bsz,e.funs,e.frf,e.hok,e.bare⟩
section
variable{X:Cx}{pins:List (vG×Obj)}{σ:St}{H:Hp}{s s':vC}
theorem Inv.env0(I:Inv X pins σ H s):Env0 X.prog X.w X.K X.mg X.base X.A X.stack s H :=
 ⟨I.ok.frames,I.ok.mod,I.bs,z6 I.ok.bsz I.sz,I.stack,I.stkFree,I.hok,I.bare⟩
theorem Inv.after{Q:VK}{u:vB}(I:Inv X pins σ H s)(h:CE X.stack X.prog X.w H s Q u s'):EP X pins σ Q u s':=by
 obtain⟨v,H',os,bare,un,hok,r,q⟩:=h;obtain⟨hh,g,d,t,os'⟩:=s';obtain rfl:os'=s.os:=os;exact⟨v,H',I.call (h':=hh) (g':=g) (d':=d) (t':=t) (ch:=[]) un hok bare (λb z=>vM z (by simp)),r,q⟩
end
noncomputable def tCall(sp:Sp)(dvs:List V)(E:XK)(t:TA):TE:=λσ H Q=>t σ H λvs H1=>sp (vs++dvs) H1 Q E
def Binds(K:zA)(fd:vN)(ps:List Str)(ds:List vB):Prop :=
 ∀(s:vC)(us:List vB),K.In s.heap->(us++ds).length=ps.length->tY s fd ⟨us,[]⟩ (ps.zip (us++ds))
theorem Binds.all{K:zA}{fd:vN}{ps:List Str}(h:∀us:List vB,us.length=ps.length->bindArgs fd ⟨us,[]⟩=pure (ps.zip us)):Binds K fd ps []:=λs us _ hl=>by
 rw[z5]at hl ⊢;exact .of_eq (h us hl)
def Xx(CX:CXT)(X:Cx)(E:XK):Prop:=∀(pins:List (vG×Obj))(σ:St)(H:Hp)(s:vC)(e:vB)(s':vC),Inv X pins σ H s->CX X.stack H s E e s'->X.xe e s'
section
variable{X:Cx}{CX:CXT}{k:Nat}{f C:vG}{fd:vN}{ps:List Str}{sp:Sp}{dvs:List V}{ds:List vB}{E:XK}{x m:Str}{p pos apos:Pos}{e o:vP}{es:List vP}{ta:TE}{t:TA}
theorem qeP{pins:List (vG×Obj)}{σ:St}{H:Hp}{s:vC}{Q:VK}{us:List vB}{vs:List V}(F:FnOk X.prog X.w X.K X.mg X.base CX k f fd ps sp)(hr:Room k X.A)(hb:Binds X.K fd ps ds)(hd:YO dvs ds)(hx:Xx CX X E)(I:Inv X pins σ H s)(r:YO vs us)(h:sp (vs++dvs) H Q E):vL (model X.prog X.w) X.A (call (.ref f) us) (EP X pins σ Q) X.xe s:=by
 have r2:YO (vs++dvs) (us++ds):=r.append hd;have hl:(us++ds).length=ps.length:=by rw[<- r2.length];exact F.len _ _ _ _ h
 refine wpAny_call (uQ (F.run X.A X.stack s H ⟨us,[]⟩ (us++ds) (vs++dvs) Q E hr I.env0 (hb s us I.kIn hl) r2 h) λr s' hq=>?_);cases r with
 | error e=>exact hx pins σ H s e s' I hq
 | ok fl=>
  cases fl with
  | ret u=>exact I.after hq
  | next=>exact False.elim hq
  | brk=>exact False.elim hq
  | cont=>exact False.elim hq
theorem qdl(F:FnOk X.prog X.w X.K X.mg X.base CX k f fd ps sp)(hr:Room k X.A)(hg:Gl X x)(hm:X.mg x=some (.ref f))(hk:xJ X.K (.ref f)=true)(hb:Binds X.K fd ps ds)(hd:YO dvs ds)(hx:Xx CX X E)(ha:PA X (e::es) t)(hdb:(x==("__debug__" : Str))=false:=by decide)(he:vK (e::es) X.env=(false,eval e X.env)::vK es X.env:=by rfl)(hpl:(vm pos (vK es X.env)).any (·.1)=false:=by rfl):
  PE X (.Call (.Name x p) (e::es) [] pos) (tCall sp dvs E t):=by
 intro pins s σ H Q I h;refine v9 (q8X I hg hm ?_ hdb);refine PySem.W.callWith_K (h₀:=X.base) I.ok.mod.kin hk (thn (ha pos pins s σ H _ I h) λus s1 ⟨vs,H1,I1,r,q⟩=>⟨I1.kIn,?_⟩) he hpl;exact qeP F hr hb hd hx I1 r q
end
def PK(X:Cx)(kws:List uW)(t:TA):Prop :=
 ∀(pos:Pos)(pins:List (vG×Obj))(s:vC)(σ:St)(H:Hp)(Q:List V->Hp->Prop),Inv X pins σ H s->t σ H Q->vL (model X.prog X.w) X.A (evalAll ((uK pos (vz kws X.env)).map (·.2))) (AP X pins σ Q) X.xe s
section
variable{X:Cx}{CX:CXT}{k:Nat}{f C:vG}{fd:vN}{ps ks:List Str}{sp:Sp}{E:XK}{x m:Str}{p pos apos kpos:Pos}{e o:vP}{es:List vP}{kws:List uW}{te ta:TE}{t tk:TA}{nm:Option Str}
theorem qfq:PK X [] tNil:=λ_ _ _ _ H Q I h=>wpAny_evalAll_nil ⟨[],H,I,.nil,h⟩
theorem qef(ha:PE X e te)(hr:PK X kws t):PK X (⟨nm,e,kpos⟩::kws) (zAX te t):=by
 intro pos pins s σ H Q I h;show vL _ _ (evalAll ((do let v <- eval e X.env;t7 pos;pure v)::(uK pos (vz kws X.env)).map (·.2))) _ _ s;refine wpAny_evalAll_cons (vA (thn (ha pins s σ H _ I h) λu s1 ⟨x,H1,I1,r1,q1⟩=>vA (uz (vF ?_))));exact thn (hr pos pins s1 σ H1 _ I1 q1) λus s2 ⟨xs,H2,I2,r2,q2⟩=>⟨x::xs,H2,I2,.cons r1 r2,q2⟩
variable{g:List vB->List vB->List vB}{gV:List V->List V->List V}
end
structure FnScope (N P:List Str) (sc:ud):Prop where
 kind:sc.kind=.function
 co:sc.isCoroutine=false
 gen:sc.isGenerator=false
 nd:N.Nodup
 pre:N.take P.length=P
 par:∀x∈P,sc.names.lookup x=some .local\/sc.names.lookup x=some .cell
 nofree:∀y∈sc.names,y.2≠.free
theorem q5P{kindOf:Str->Option uL}{x:Str}:∀{binds:List (Str×vB)}{m:Str->Option vB},(∀v,(x,v)∉binds)->bindL kindOf binds m x=m x
 | [],_,_=>rfl
 | (n,v)::r,m,h=>by
  unfold bindL;rw[q5P λw hw=>h w (zJ _ hw)]
  split
  ·have:x≠n:=by rintro rfl;exact h v zI
   simp[this]
  ·rfl
theorem q5J{kindOf:Str->Option uL}{x:Str}:∀{binds:List (Str×vB)}{m:Str->Option vB},(∀v,(x,v)∉binds)->bindC kindOf binds m x=m x
 | [],_,_=>rfl
 | (n,v)::r,m,h=>by
  unfold bindC;rw[q5J λw hw=>h w (zJ _ hw)]
  split
  ·rfl
  ·have:x≠n:=by rintro rfl;exact h v zI
   simp[this]
theorem q5s{kindOf:Str->Option uL}{x:Str}{v:vB}:∀{P:List Str}{vs:List vB}{i:Nat}{m:Str->Option vB},P.Nodup->P[i]?=some x->vs[i]?=some v->kindOf x=some .local ->
  bindL kindOf (P.zip vs) m x=some v
 | [],_,_,_,_,h,_,_=>by simp at h
 | _::_,[],_,_,_,_,h,_=>by simp at h
 | p::P,w::vs,0,m,nd,h1,h2,hk=>by
  simp at h1 h2;subst h1;subst h2;show bindL kindOf ((p,w)::P.zip vs) m p=_;unfold bindL;rw[q5P λv hv=>(yO.mp nd).1 (xr hv).1,vH hk];simp
 | p::P,w::vs,i+1,m,nd,h1,h2,hk=>by
  show bindL kindOf ((p,w)::P.zip vs) m x=_;unfold bindL;exact q5s (i:=i) (yO.mp nd).2 ⇑h1 ⇑h2 hk
theorem q5j{kindOf:Str->Option uL}{x:Str}{v:vB}:∀{P:List Str}{vs:List vB}{i:Nat}{m:Str->Option vB},P.Nodup->P[i]?=some x->vs[i]?=some v->kindOf x≠some .local ->
  bindC kindOf (P.zip vs) m x=some v
 | [],_,_,_,_,h,_,_=>by simp at h
 | _::_,[],_,_,_,_,h,_=>by simp at h
 | p::P,w::vs,0,m,nd,h1,h2,hk=>by
  simp at h1 h2;subst h1;subst h2;show bindC kindOf ((p,w)::P.zip vs) m p=_;unfold bindC;rw[q5J λv hv=>(yO.mp nd).1 (xr hv).1,vJ hk];simp
 | p::P,w::vs,i+1,m,nd,h1,h2,hk=>by
  show bindC kindOf ((p,w)::P.zip vs) m x=_;unfold bindC;exact q5j (i:=i) (yO.mp nd).2 ⇑h1 ⇑h2 hk
noncomputable def start(N:List Str)(vs:List V):St:=vs.map some++xx (N.length-vs.length) none
noncomputable def zAM(CX:CXT)(P:vO)(w:vT)(K:zA)(mg:Str->Option vB)(base:vZ)(N:List Str)(qual:Str)(scope:ud)(f:vG)(cd:vB)(A:vY)(outer:List Env)(s:vC)(H:Hp)(E:XK):Cx where
 prog:=P
 w:=w
 K:=K
 mg:=mg
 base:=base
 A:=A.deeper (tH qual scope s.heap.objs.size f cd)
 N:=N
 s₀:=s
 H₀:=H
 env:=tH qual scope s.heap.objs.size f cd
 outer:=outer
 stack:=tH qual scope s.heap.objs.size f cd::outer
 ex:=[]
 calm:=true
 fn:=λ_=>true
 pn:=[]
 xe:=λe s'=>vL (model P w) (A.deeper (tH qual scope s.heap.objs.size f cd)) (leaving (tH qual scope s.heap.objs.size f cd) e) (λ_ s''=>CX outer H s E e s'') (λe' s''=>CX outer H s E e' s'') s'
theorem q6C{sc:ud}{n:Nat}{x:Str}(h:sc.names.lookup x=some .cell):∃c,(cellsFrom n sc.names []).lookup x=some c:=by
 have q:=wQ sc.names n [] (.inl h);exact yW.mp q
theorem qav{CX:CXT}{P:vO}{w:vT}{K:zA}{mg:Str->Option vB}{base:vZ}{N ps:List Str}{qual:Str}{scope:ud}{f:vG}{cd:vB}{A:vY}{outer:List Env}{s s1:vC}{H:Hp}{E:XK}{us:List vB}{vs:List V}(S:FnScope N ps scope)(hd:A.handled=none)(e0:Env0 P w K mg base A outer s H)(hl:vs.length=ps.length)(r:YO vs us)(x:InCallC s s.heap.objs.size (bindL (tH qual scope s.heap.objs.size f cd).kindOf (ps.zip us) λ_=>none) (cellsFrom (s.heap.objs.size+1) scope.names []) (bindC (tH qual scope s.heap.objs.size f cd).kindOf (ps.zip us) λ_=>none) s1):
  Inv (zAM CX P w K mg base N qual scope f cd A outer s H E) [] (start N vs) H s1:=by
 have hpl:ps.length<=N.length:=by have:=vf yi S.pre;rw[zb]at this;omega
 obtain⟨h1,tk,rfl,hk⟩:=x.done;have noA:∀b:vG,b∉(zAM CX P w K mg base N qual scope f cd A outer s H E).ex:=λb z=>vM (show b∈([]:List vG)from z) (by simp);refine⟨⟨e0.mod,S.kind,rfl,rfl,zN _,λy z c h1 h2=>?_,λy hy=>?_,λy c _ h=>?_,λ_=>hd,Around.frames_deeper e0.frames,.inr ⟨rfl,rfl⟩,λb z=>vM z (noA b),e0.bs,e0.bsz,λb _ _=>noA b,λb z=>vM z (noA b),e0.funs,e0.frf⟩,
  rfl,e0.bare,Un.kept hk,⟨_,x.toInCall.ns,λi y v h1 h2 h3=>?_⟩,λy c h=>⟨_,x.cell y c h⟩,e0.hok.fresh (zN _),λy c h=>?_,λp hp=>vM (show p∈([]:List (vG×Obj))from hp) (by simp),e0.hok.kept hk,?_⟩
 ·exact name_of_addr x.apart (PySem.mem_of_lookup h1) (PySem.mem_of_lookup h2)
 ·have hy:scope.names.lookup y=some .cell\/scope.names.lookup y=some .free:=hy
  rcases hy with hy|hy
  ·exact q6C hy
  ·exact vM rfl (S.nofree _ (PySem.mem_of_lookup hy))
 ·exact yK (x.above y c (PySem.mem_of_lookup h))
 ·have hi:i<vs.length:=by
   unfold start at h2
   by_cases hi:i<vs.length
   ·exact hi
   ·rw[zV ⇑hi]at h2
    rw[yZ]at h2
    split at h2 <;> cases h2
  have ha:vs[i]?=some v:=by
   unfold start at h2;rw[zZ ⇑hi,zW]at h2;cases e:vs[i]? with
   | none=>rw[e]at h2;cases h2
   | some a=>rw[e]at h2;cases h2;rfl
  obtain⟨u,hu,rv⟩:=r.get ha;have hp:ps[i]?=some y:=by
   rw[<- S.pre,List.getElem?_take_of_lt ∅];exact h1
  have ndP:ps.Nodup:=by rw[<- S.pre];exact S.nd.sublist (ZQ _ _)
  refine⟨u,rv,?_⟩;rcases S.par y (z9 hp)with k|k
  ·exact .inl ⟨k,q5s ndP hp hu k⟩
  ·obtain⟨c,e⟩:=q6C (n:=s.heap.objs.size+1) k
   refine .inr ⟨.inl k,c,e,?_⟩;have q:=x.cell y c e;rw[q5j ndP hp hu (by show scope.names.lookup y≠_;rw[k];decide)]at q;exact q
 ·exact e0.hok.fresh (yK (x.above y c (PySem.mem_of_lookup h)))
 ·unfold start
  show _=N.length;rw[zG,zB,yd];omega
theorem qfS{CX:CXT}{P:vO}{w:vT}{K:zA}{mg:Str->Option vB}{base:vZ}{k:Nat}{f:vG}{name qual:Str}{params:Arguments}{body:List vo}{scope:ud}{dV kV doc pm cdv ct oc:vB}{an od:Option vG}{osl:Array (Option vB)}{N ps:List Str}{sp:Sp}(lk:K.lookup f=some ⟨oc,od,.func (yz name qual params body scope dV kV doc pm an cdv ct),osl⟩)(hcd:xy K cdv qual=true)(S:FnScope N ps scope)(len:∀vs H Q E,sp vs H Q E->vs.length=ps.length)(hbody:∀(A:vY)(outer:List Env)(s:vC)(H:Hp)(vs:List V)(Q:VK)(E:XK),Room k (A.deeper (tH qual scope s.heap.objs.size f cdv))->sp vs H Q E ->
   ∃t,PSs (zAM CX P w K mg base N qual scope f cdv A outer s H E) body t/\t { nx:=λ_ H'=>Q .non H',rt:=Q } (start N vs) H) :
  FnOk P w K mg base CX (k+1) f (yz name qual params body scope dV kV doc pm an cdv ct) ps sp:=by
 refine⟨len,λA outer s H args us vs Q E hr e0 hb r hsp=>?_⟩;have hl:=len _ _ _ _ hsp;have KX:K.In s.heap:=e0.mod.kin.keeps λb o e=>(e0.bs b o e).1;have lim:s.heap.NoLimit:=e0.mod.nolimit.keeps λb o e=>(e0.bs b o e).1;have hkind:∀y∈ps.zip us,scope.names.lookup y.1=some .local\/(scope.names.lookup y.1=some .cell/\((cellsFrom (s.heap.objs.size+1) scope.names []).lookup y.1).isSome=true):=λ⟨n,v⟩ hy=>by
  rcases S.par n (xr hy).1 with q|q
  ·exact .inl q
  ·exact .inr ⟨q,wQ _ _ _ (.inl q)⟩
 refine codeAny_call_function hr.depth (KX _ _ lk) rfl S.co S.gen rfl (PySem.W.codeRec_of KX hcd) (hb _ _ _ _ ?_);refine wpAny_newFunctionEnv_cells S.kind hkind λenv he s1 x=>?_;subst he;refine⟨lim.keeps x.toInCall.keep,codeAny_func ?_⟩;obtain⟨t,ht,hq⟩:=hbody A outer s H vs Q E (hr.deeper _) hsp;have I:Inv (zAM CX P w K mg base N qual scope f cdv A outer s H E) [] (start N vs) H s1:=qav S hr.hd e0 hl r x;refine vh (ht [] s1 (start N vs) H _ I hq) (λfl s' hs=>?_) λe s' hs=>hs;have fin:∀{σ':St}{H':Hp}{v:V}{u:vB},Inv (zAM CX P w K mg base N qual scope f cdv A outer s H E) [] σ' H' s'->RelV v u->Q v H'->CE outer P w H s Q u s' :=
  λ{σ' H' v u} J rv q=>⟨v,H',J.os,J.bare,J.base,J.hok,rv,q⟩
 cases fl with
 | ret u=>
  obtain⟨v,σ',H',J,rv,q⟩:=hs;exact fin J rv q
 | next=>
  obtain⟨σ',H',J,q⟩:=hs;exact fin (v:=V.non) (u:=Value.none) J rfl q
 | brk=>
  obtain⟨_,_,_,q⟩:=hs;exact False.elim q
 | cont=>
  obtain⟨_,_,_,q⟩:=hs;exact False.elim q
section
variable{X:Cx}{x:Str}{p pos:Pos}{e:vP}{es:List vP}{t:TA}{id T:String}{r:List V->Hp->VK->Prop}
noncomputable def tCB(r:List V->Hp->VK->Prop)(t:TA):TE:=λσ H Q=>t σ H λvs H1=>r vs H1 Q
theorem q1I(hc:Yq X (.builtin id) r)(hg:Gl X x)(hm:X.mg x=none)(hv:vX x=some (.builtin id))(ha:PA X (e::es) t)(hn:x ≠ "__name__" := by decide)(hdb:(x==("__debug__" : Str))=false:=by decide)(he:vK (e::es) X.env=(false,eval e X.env)::vK es X.env:=by rfl)(hpl:(vm pos (vK es X.env)).any (·.1)=false:=by rfl):PE X (.Call (.Name x p) (e::es) [] pos) (tCB r t):=by
 intro pins s σ H Q I h;refine v9 (q0s I hg hm hv ?_ hn hdb);exact PyProof.Rows.callWith_builtin1 (thn (ha pos pins s σ H _ I h) λus s1 ⟨vs,H1,I1,r1,q1⟩=>hc pins s1 σ H1 vs us Q I1 r1 q1) he hpl
theorem q5w(hc:Yq X (.type T) r)(hg:Gl X x)(hm:X.mg x=none)(hv:vX x=some (.type T))(ha:PA X (e::es) t)(hn:x ≠ "__name__" := by decide)(hdb:(x==("__debug__" : Str))=false:=by decide)(he:vK (e::es) X.env=(false,eval e X.env)::vK es X.env:=by rfl)(hpl:(vm pos (vK es X.env)).any (·.1)=false:=by rfl):PE X (.Call (.Name x p) (e::es) [] pos) (tCB r t):=by
 intro pins s σ H Q I h;refine v9 (q0s I hg hm hv ?_ hn hdb);exact PyProof.Rows.callWith_type1 (thn (ha pos pins s σ H _ I h) λus s1 ⟨vs,H1,I1,r1,q1⟩=>hc pins s1 σ H1 vs us Q I1 r1 q1) he hpl
end
end L2
namespace HT
open PySem PyProof.Rows
section
open PySem.SeqAt
open PySem.AutoSeq1 (wpAny_loadPart')
open PySem.MeetsSeq PySem.MeetsSeq2 PySem.MeetsSeq3
end
section
variable{prog:vO}{w:vT}{A:vY}{E:vB->vC->Prop}{s:vC}
theorem qda{t b:vG}{vs ws:List vB}{Q:vB->vC->Prop}(ht:IsTup s.heap t vs.toArray)(hb:IsTup s.heap b ws.toArray)(hv:vs≠[])(h1:ws=[]->Q (.ref t) s)(h2:ws≠[]->Q (.ref s.heap.objs.size) { s with heap:=s.heap.push { cls:=.type "tuple", data:=.seq (vs++ws).toArray } })(hsz:vs.length+ws.length<=sizeLine):vL (model prog w) A (uJ .Add (.ref t) (.ref b)) Q E s:=by
 obtain⟨⟨cls,dd,data,sl⟩,ho,hc,n,hd⟩:=id ht;obtain⟨⟨cls2,dd2,data2,sl2⟩,ho2,hc2,n2,hd2⟩:=id hb;simp only at hc hd hc2 hd2;subst hc hd hc2 hd2;have e:vs.toArray++ws.toArray=(vs++ws).toArray:=by simp
 by_cases hw:ws=[]
 ·exact concat_meets ⟨_,ho,rfl⟩ ⟨_,ho2,rfl⟩ noFill_tuple_add seq_tuple_add PySem.F.slot_tuple_add PySem.F.entry_tuple_add (PySem.F.args_tuple_add_2 _ _)
   (tuple_addW1 t b vs.toArray ws.toArray n n2 dd dd2 sl sl2 ⇑hv (by simp[hw])) ⟨ho,ho2,h1 hw⟩
 ·refine concat_meets ⟨_,ho,rfl⟩ ⟨_,ho2,rfl⟩ noFill_tuple_add seq_tuple_add PySem.F.slot_tuple_add PySem.F.entry_tuple_add (PySem.F.args_tuple_add_2 _ _)
   (tuple_addW2 t b vs.toArray ws.toArray n n2 dd dd2 sl sl2 ⇑hv ⇑hw (by rw[zO,zO];exact hsz)) ⟨ho,ho2,?_⟩
  rw[e];exact h2 hw
noncomputable def sIx(n d:Nat):Option Int->Nat
 | none=>d
 | some v=>if v<0 then (v+(n:Int)).toNat else min v.toNat n
theorem q73(n d:Nat):sIx n d none=d:=rfl
theorem q1B(n d k:Nat):sIx n d (some (k:Int))=min k n:=by
 show (if (k:Int)<0 then ((k:Int)+(n:Int)).toNat else min (k:Int).toNat n)=min k n;rw[vJ ∅,yk]
theorem qeU(n d:Nat)(hd:d<=n)(o:Option Int):sIx n d o<=n:=by
 cases o with
 | none=>exact hd
 | some v=>
  show (if v<0 then (v+(n:Int)).toNat else min v.toNat n)<=n
  by_cases hv:v<0
  ·rw[vH hv];omega
  ·rw[vJ hv];exact Ze _ _
theorem q80(v:Int)(n d:Nat):(if v<0 then max (v+(n:Int)) 0 else min v (n:Int))=((sIx n d (some v):Nat):Int):=by
 show (if v<0 then max (v+(n:Int)) 0 else min v (n:Int))=(((if v<0 then (v+(n:Int)).toNat else min v.toNat n):Nat):Int)
 by_cases hv:v<0
 ·simp only[vH hv];omega
 ·simp only[vJ hv];omega
theorem q9u(lo hi:Option Int)(n:Nat):Builtin.Slice.sliceAdjust lo hi 1 (n:Int)=(((sIx n 0 lo:Nat):Int),((sIx n n hi:Nat):Int)):=by
 have h1:¬((1:Int)<0):=∅
 unfold Builtin.Slice.sliceAdjust;simp only[h1,if_false];refine Prod.ext ?_ ?_
 ·cases lo with
  | none=>rfl
  | some v=>exact q80 v n 0
 ·cases hi with
  | none=>rfl
  | some v=>exact q80 v n n
theorem q95(i j:Nat):Builtin.Slice.slicePlaces (i:Int) (j:Int) 1=j-i:=by
 unfold Builtin.Slice.slicePlaces;have h1:(1:Int)>0:=∅
 simp only[h1,if_true,Int.ediv_one]
 split <;> omega
theorem q4t{v:vB}{o:Option Int}{Q:Option Int->vC->Prop}(p:u8 v o)(h:Q o s):vL (model prog w) A (Builtin.Slice.slicePartIndex v) Q E s:=by
 cases p with
 | none=>exact slicePart_none h
 | int i t=>exact slicePart_int h
theorem q1N{sl:vG}{vl vu:vB}{lo hi:Option Int}{n:Nat}{Q:Int×Int×Nat->vC->Prop}(hs:s.heap.IsSliceOf sl vl vu .none)(pl:u8 vl lo)(pu:u8 vu hi)(h:Q (((sIx n 0 lo:Nat):Int),1,sIx n n hi-sIx n 0 lo) s):vL (model prog w) A (Builtin.Slice.sliceApplied (.ref sl) (pure (n:Int))) Q E s:=by
 obtain⟨os,hos,hcs,hds⟩:=id hs;unfold Builtin.Slice.sliceApplied Builtin.Slice.sliceFields;refine vA (vA (uG hos hds (x:=vl) rfl (vA (uG hos hds (x:=vu) rfl (vA (uG hos hds (x:=.none) rfl (vF ?_)))))));refine vA (slicePart_none ?_);show vL _ _ (if ((1:Int)==0)=true then _ else _) _ _ s;rw[vJ (by decide)];refine vA (q4t pl (vA (q4t pu (vA (vF ?_)))));show vL _ _ (match Builtin.Slice.sliceAdjust lo hi 1 (n:Int)with|(lo,hi)=>pure (lo,(1:Int),Builtin.Slice.slicePlaces lo hi 1)) _ _ s;rw[q9u lo hi n];show vL _ _ (pure (((sIx n 0 lo:Nat):Int),(1:Int),Builtin.Slice.slicePlaces ((sIx n 0 lo:Nat):Int) ((sIx n n hi:Nat):Int) 1)) _ _ s;rw[q95];exact vF h
theorem qbE(xs:Array vB)(i k:Nat):((yB k).filterMap λ(m:Nat)=>xs[((i:Int)+(m:Int)*1).toNat]?).toArray=((xs.toList.drop i).take k).toArray:=by
 have e:(λ(m:Nat)=>xs[((i:Int)+(m:Int)*1).toNat]?)=λm=>xs[i+m]?:=by
  funext m
  have:((i:Int)+(m:Int)*1).toNat=i+m:=∅
  rw[this]
 rw[e];have:=pick_run xs i k;rw[ZH]at this;have e2:((λx=>xs[x]?) ∘ λx=>i+x)=λm=>xs[i+m]?:=rfl;rw[e2]at this;rw[this]
theorem q3S{t sl:vG}{items:Array vB}{vl vu:vB}{lo hi:Option Int}{Q:vB->vC->Prop}(ht:IsTup s.heap t items)(hs:s.heap.IsSliceOf sl vl vu .none)(pl:u8 vl lo)(pu:u8 vu hi)(hw:¬(sIx items.size 0 lo=0/\sIx items.size items.size hi=items.size))(h:Q (.ref s.heap.objs.size) { s with heap:=s.heap.push { cls:=.type "tuple", data:=.seq ((items.toList.drop (sIx items.size 0 lo)).take (sIx items.size items.size hi-sIx items.size 0 lo)).toArray } })(hsz:items.size<=sizeLine):vL (model prog w) A (um (.ref t) (.ref sl)) Q E s:=by
 have htake:sizeOk (.seq ((items.toList.drop (sIx items.size 0 lo)).take (sIx items.size items.size hi-sIx items.size 0 lo)).toArray):=by
  show ((items.toList.drop (sIx items.size 0 lo)).take (sIx items.size items.size hi-sIx items.size 0 lo)).toArray.size<=sizeLine;rw[zO,zb,z8,zQ];omega
 have hj:sIx items.size items.size hi<=items.size:=qeU _ _ (zN _) hi;obtain⟨os,hos,hcs,hds⟩:=id hs;have hTs:s.TypeIs (.ref sl) "slice" := ⟨os,hos,hcs⟩;unfold um
 try with_reducible refine vc ?_
 first|refine vA (vF ?_)|skip
 refine vA (wpAny_sequenceKey ht.typeIs (by decide) ?_);refine vA (wpAny_callSpecial?_slot (name:=Str.ofString "__getitem__") ht.typeIs PyProof.Rows.slot_tuple_getitem
  (vi PyProof.Rows.slot_tuple_getitem ht.typeIs entry_tuple_getitem ?_ (tV _ _)))
 show vL _ _ (Builtin.Tuple.tupleItemsOf (.ref t) >>= _) _ _ s;refine vA (tupleItemsOf_ ht ?_);refine vA (uX hTs ?_);rw[vH (by decide)];refine vA (q1N hs pl pu ?_);have hno:¬((((sIx items.size 0 lo:Nat):Int)==0&&(1:Int)==1&&(sIx items.size items.size hi-sIx items.size 0 lo)==items.size)=true):=by
  intro q;rw[zr,zr]at q;have q1:((sIx items.size 0 lo:Nat):Int)=0:=eq_of_beq q.1.1;have q2:sIx items.size items.size hi-sIx items.size 0 lo=items.size:=eq_of_beq q.2;exact hw ⟨∅,∅⟩
 show vL _ _ (if (((sIx items.size 0 lo:Nat):Int)==0&&(1:Int)==1&&(sIx items.size items.size hi-sIx items.size 0 lo)==items.size)=true then _ else _) _ _ s;rw[vJ hno,qbE]
 first
  | exact vA (m:=Builtin.Tuple.tupleExact _) (ve (vF ⟨_,rfl,vF h⟩) htake)
  | exact vA (m:=Builtin.Tuple.tupleExact _) (ve (vA (vF (vF ⟨_,rfl,vF h⟩))) htake)
  | exact vA (vA (m:=Builtin.Tuple.tupleExact _) (ve (vF (vF ⟨_,rfl,vF h⟩)) htake))
  | exact vA (vA (m:=Builtin.Tuple.tupleExact _) (ve (vF ⟨_,rfl,vF h⟩) htake))
end
end HT
namespace L2
open PySem PySem.Spec PyProof.Rows
abbrev TO:=St->Hp->(Option Int->Hp->Prop)->Prop
def PO(X:Cx)(e:Option vP)(t:TO):Prop :=
 ∀(pins:List (vG×Obj))(s:vC)(σ:St)(H:Hp)(Q:Option Int->Hp->Prop),Inv X pins σ H s->t σ H Q ->
  vL (model X.prog X.w) X.A (evalPart e X.env) (λu s'=>∃o H',Inv X pins σ H' s'/\u8 u o/\Q o H') X.xe s
noncomputable def zAT:TO:=λ_ H Q=>Q none H
noncomputable def tPart(t:TE):TO:=λσ H Q=>t σ H λx H1=>∃i,x=.int i/\Q (some i) H1
theorem q0H{ns:List Int}:∀{us:List vB},YO (ns.map V.int) us->v5 us ns:=by
 induction ns with
 | nil=>intro us r;rw[yX]at r;cases r;exact .nil
 | cons n ns ih=>
  intro us r;rw[zU]at r;cases r with
  | cons r1 r2=>
   obtain⟨t,e⟩:=r1;subst e;exact .cons n t (ih r2)
section
variable{X:Cx}{e:vP}{te:TE}{lo hi:Option vP}{tl th:TO}{pos p2:Pos}
theorem qdW:PO X none zAT:=by
 intro pins s σ H Q I h;rw[evalPart_none];exact vF ⟨none,H,I,.none,h⟩
theorem qdu(h:PE X e te):PO X (some e) (tPart te):=by
 intro pins s σ H Q I hw;rw[evalPart_some];refine thn (h pins s σ H _ I hw) λu s1 ⟨x,H1,I1,r1,q1⟩=>?_;obtain⟨i,rfl,q⟩:=q1;obtain⟨t,rfl⟩:=r1;exact⟨some i,H1,I1,.int i t,q⟩
def SlR(X:Cx)(r:V->Option Int->Option Int->Hp->VK->Prop):Prop :=
 ∀(pins:List (vG×Obj))(s:vC)(σ:St)(H:Hp)(x:V)(v vl vu:vB)(lo hi:Option Int)(sl:vG)(Q:VK),Inv X pins σ H s->RelV x v->s.heap.IsSliceOf sl vl vu .none->u8 vl lo->u8 vu hi->r x lo hi H Q ->
  ∃T id,u9 (.type T) "__getitem__" = pure (some (.builtin id))/\s.TypeIs v T/\vL (model X.prog X.w) X.A (um v (.ref sl)) (EP X pins σ Q) X.xe s
theorem SlR.or{r r':V->Option Int->Option Int->Hp->VK->Prop}(h:SlR X r)(h':SlR X r'):SlR X (λx lo hi H Q=>r x lo hi H Q\/r' x lo hi H Q):=by
 intro pins s σ H x v vl vu lo hi sl Q I rx hs pl pu q;rcases q with q|q
 ·exact h pins s σ H x v vl vu lo hi sl Q I rx hs pl pu q
 ·exact h' pins s σ H x v vl vu lo hi sl Q I rx hs pl pu q
noncomputable def tSl(r:V->Option Int->Option Int->Hp->VK->Prop)(te:TE)(tl th:TO):TE:=λσ H Q=>te σ H λx H1=>tl σ H1 λl H2=>th σ H2 λu H3=>r x l u H3 Q
theorem qbB{r:V->Option Int->Option Int->Hp->VK->Prop}(hr:SlR X r)(he:PE X e te)(hl:PO X lo tl)(hu:PO X hi th):PE X (.Subscript e (.Slice lo hi none p2) pos) (tSl r te tl th):=by
 intro pins s σ H Q I h;refine Subscript_ (thn (he pins s σ H _ I h) λv s1 ⟨x,H1,I1,r1,q1⟩=>?_);refine wpAny_Slice (thn (hl pins s1 σ H1 _ I1 q1) λvl s2 ⟨l,H2,I2,pl,q2⟩=>thn (hu pins s2 σ H2 _ I2 q2) λvu s3 ⟨u,H3,I3,pu,q3⟩=>?_);rw[evalPart_none];refine vF ?_;have I4:Inv X pins σ H3 { s3 with heap:=s3.heap.push { cls:=.type "slice", data:=.fields #[vl,vu,.none] } }:=I3.kept (t':=s3.toks) λb ob q=>zD _ q;obtain⟨T,id,hT,ht,hg⟩:=hr pins { s3 with heap:=s3.heap.push { cls:=.type "slice", data:=.fields #[vl,vu,.none] } } σ H3 x v vl vu l u s3.heap.objs.size Q I4 r1 (Z3 ..) pl pu q3;show vL (model X.prog X.w) X.A (tS e (.Slice lo hi none p2) v (.ref s3.heap.objs.size)) (EP X pins σ Q) X.xe { s3 with heap:=s3.heap.push { cls:=.type "slice", data:=.fields #[vl,vu,.none] } };exact tail_any (ops:=[.ref s3.heap.objs.size,v]) ht hT hg (by with_unfolding_all rfl)
noncomputable def Wh(xs:List V)(lo hi:Option Int):List V:=(xs.drop (HT.sIx xs.length 0 lo)).take (HT.sIx xs.length xs.length hi-HT.sIx xs.length 0 lo)
theorem q3Z(xs:List V)(lo hi:Option Int):(Wh xs lo hi).length<=xs.length:=by
 unfold Wh;rw[zb,z8];omega
def rSlT(K:zA):V->Option Int->Option Int->Hp->VK->Prop:=λx lo hi H Q=>∃a xs,x=.ref a/\SqT K H a xs /\
 ¬(HT.sIx xs.length 0 lo=0/\HT.sIx xs.length xs.length hi=xs.length)/\∀p,H p=none->Q (.ref p) (upd H p (.tup (Wh xs lo hi)))
theorem qeK:SlR X (rSlT X.K):=by
 intro pins s σ H x v vl vu lo hi sl Q I rx hs pl pu h;obtain⟨a,xs,rfl,hx,hw,q⟩:=h;cases rx;obtain⟨its,r,ht,hz⟩:=I.tuple hx;have hlen:its.toArray.size=xs.length:=by rw[zO];exact r.length.symm
 refine⟨"tuple", _,PyProof.Rows.slot_tuple_getitem.lookup,ht.typeIs,?_⟩;refine HT.q3S ht hs pl pu (by rw[hlen];exact hw) ?_ (by rw[hlen];exact hz);rw[hlen];refine⟨.ref s.heap.objs.size,_,I.laid (t':=s.toks) (o:=.tup (Wh xs lo hi)) (λb ob q=>zD _ q) (zN _) ?_,rfl,q _ (I.hok.fresh (zN _))⟩;exact⟨z6 (q3Z xs lo hi) hz,_,(r.drop (HT.sIx xs.length 0 lo)).take (HT.sIx xs.length xs.length hi-HT.sIx xs.length 0 lo),IsTup.new _ _⟩
noncomputable def rCatT(K:zA):R2:=λx y H Q=>∃a b xs ys,x=.ref a/\y=.ref b/\SqT K H a xs/\SqT K H b ys/\xs≠[]/\xs.length+ys.length<=sizeLine /\
 (ys=[]->Q (.ref a) H)/\(ys≠[]->∀p,H p=none->Q (.ref p) (upd H p (.tup (xs++ys))))
theorem YO.nil_iff{xs:List V}{us:List vB}(r:YO xs us):us=[]↔xs=[]:=by
 cases r with
 | nil=>simp
 | cons _ _=>simp
theorem qd3:OpR X (uJ .Add) (rCatT X.K):=by
 intro pins s σ H x y v u Q I rx ry h;obtain⟨a,b,xs,ys,rfl,rfl,ha,hb,hx,hz,q1,q2⟩:=h;cases rx;cases ry;obtain⟨its,r1,p1,_⟩:=I.tuple ha;obtain⟨its2,r2,p2,_⟩:=I.tuple hb;refine HT.qda p1 p2 (λz=>hx (r1.nil_iff.mp z)) (λz=>⟨.ref a,H,I,rfl,q1 (r2.nil_iff.mp z)⟩) (λz=>?_) (by rw[<- r1.length,<- r2.length];exact hz);refine⟨.ref s.heap.objs.size,_,I.laid (t':=s.toks) (o:=.tup (xs++ys)) (λb ob q=>zD _ q) (zN _) ?_,rfl,q2 (λw=>z (r2.nil_iff.mpr w)) _ (I.hok.fresh (zN _))⟩;exact⟨by rw[zG];exact hz,_,r1.append r2,IsTup.new _ _⟩
end
noncomputable def ixN(n:Nat)(i:Int):Option Nat:=if 0<=i then (if i<n then some i.toNat else none)else if -(n:Int)<=i then some (i+n).toNat else none
noncomputable def atI{α:Type}(xs:List α)(i:Int):Option α:=(ixN xs.length i).bind λj=>xs[j]?
theorem q8f{n:Nat}{i:Int}{j:Nat}(h:ixN n i=some j):seqIndex? i n=some j/\j<n/\-(n:Int)<=i/\i<n:=by
 unfold ixN at h
 by_cases h0:0<=i
 ·rw[vH h0]at h
  by_cases h1:i<n
  ·rw[vH h1]at h
   have e:i.toNat=j:=zt h;exact⟨by rw[tu h0 h1,e],∅,∅,h1⟩
  ·rw[vJ h1]at h;cases h
 ·rw[vJ h0]at h
  by_cases h1:-(n:Int)<=i
  ·rw[vH h1]at h
   have e:(i+n).toNat=j:=zt h;exact⟨by rw[seqIndex_neg ∅ h1,e],∅,h1,∅⟩
  ·rw[vJ h1]at h;cases h
theorem q56{α:Type}{xs:List α}{i:Int}{v:α}(h:atI xs i=some v):∃j,seqIndex? i xs.length=some j/\xs[j]?=some v/\j<xs.length/\-(xs.length:Int)<=i/\i<xs.length:=by
 unfold atI at h;cases e:ixN xs.length i with
 | none=>rw[e]at h;cases h
 | some j=>
  rw[e]at h;obtain⟨h1,h2,h3,h4⟩:=q8f e;exact⟨j,h1,h,h2,h3,h4⟩
def Xq(b:vP):Prop:=∀o i,subscripted b false o i=operate [o,i] (um o i)
def IxR(X:Cx)(r:R2):Prop :=
 ∀(value slice:vP)(pins:List (vG×Obj))(s:vC)(σ:St)(H:Hp)(x y:V)(v u:vB)(Q:VK),Inv X pins σ H s->RelV x v->RelV y u->r x y H Q ->
  subscripted slice false v u=operate [v,u] (um v u)->vL (model X.prog X.w) X.A (tS value slice v u) (EP X pins σ Q) X.xe s
def MtR(X:Cx)(id:String)(r:V->List V->Hp->VK->Prop):Prop :=
 ∀(pins:List (vG×Obj))(s:vC)(σ:St)(H:Hp)(x:V)(xs:List V)(v:vB)(us:List vB)(Q:VK),Inv X pins σ H s->RelV x v->YO xs us->r x xs H Q ->
  vL (model X.prog X.w) X.A (call (.builtin id) (v::us)) (EP X pins σ Q) X.xe s
section
variable{X:Cx}{a b:vP}{ta tb:TE}{pos:Pos}
theorem IxR.or{r r':R2}(h:IxR X r)(h':IxR X r'):IxR X (λx y H Q=>r x y H Q\/r' x y H Q):=by
 intro value slice pins s σ H x y v u Q I rx ry q hs;rcases q with q|q
 ·exact h value slice pins s σ H x y v u Q I rx ry q hs
 ·exact h' value slice pins s σ H x y v u Q I rx ry q hs
theorem qfz{r:R2}(hr:IxR X r)(ha:PE X a ta)(hb:PE X b tb)(hs:Xq b):PE X (.Subscript a b pos) (tOp r ta tb):=by
 intro pins s σ H Q I h;exact Subscript_ (binT ha hb I h λv u s2 x y H2 I2 rx ry q=>hr a b pins s2 σ H2 x y v u Q I2 rx ry q (hs _ _))
noncomputable def rIxL(K:zA):R2:=λx y H Q=>∃p xs i v,x=.ref p/\y=.int i/\SqL K H p xs/\atI xs i=some v/\Q v H
noncomputable def rIxT(K:zA):R2:=λx y H Q=>∃p xs i v,x=.ref p/\y=.int i/\SqT K H p xs/\atI xs i=some v/\Q v H
noncomputable def rIxS:R2:=λx y H Q=>∃z i c,x=.str z/\y=.int i/\z.length<=sizeLine/\atI z.cps.toList i=some c/\Q (.str ⟨#[c]⟩) H
theorem qeb:IxR X (rIxL X.K):=by
 intro value slice pins s σ H x y v u Q I rx ry h hs;obtain⟨p,xs,i,z,rfl,rfl,hq,he,q⟩:=h;cases rx;obtain⟨t,rfl⟩:=ry;obtain⟨its,r,pl,hz⟩:=I.list hq;obtain⟨j,h1,h2,h3,h4,h5⟩:=q56 he;obtain⟨w,ew,rw'⟩:=r.get h2;have hl:=r.length;have hn:=XZ;have fin:EP X pins σ Q w s:=⟨z,H,I,rw',q⟩
 by_cases h0:0<=i
 ·have hj:i.toNat=j:=by
   rw[tu h0 h5]at h1;exact zt h1
  exact item_listR pl.isList h0 ∅ (by rw[hj];simpa using ew) fin hs
 ·have hj:(i+(its.toArray.size:Int)).toNat=j:=by
   rw[seqIndex_neg ∅ h4]at h1;rw[zO,<- hl];exact zt h1
  exact tD (x:=w) pl.isList.typeIs slot_list_getitem.lookup
   (wpAny_getItem_list_neg (Q:=λr s'=>r=w/\EP X pins σ Q r s') pl.isList ∅ (by rw[zO] <;> omega) ∅ (by rw[hj];simpa using ew) ⟨rfl,fin⟩) hs
theorem qff:IxR X (rIxT X.K):=by
 intro value slice pins s σ H x y v u Q I rx ry h hs;obtain⟨p,xs,i,z,rfl,rfl,hq,he,q⟩:=h;cases rx;obtain⟨t,rfl⟩:=ry;obtain⟨its,r,pl,hz⟩:=I.tuple hq;obtain⟨j,h1,h2,h3,h4,h5⟩:=q56 he;obtain⟨w,ew,rw'⟩:=r.get h2;have hl:=r.length;have hn:=XZ;have fin:EP X pins σ Q w s:=⟨z,H,I,rw',q⟩;exact tD (x:=w) pl.typeIs slot_tuple_getitem.lookup
  (getItem_tuple (j:=j) (Q:=λr s'=>r=w/\EP X pins σ Q r s') pl ∅ ∅ (by rw[zO,<- hl];exact h1) ⇑ew ⟨rfl,fin⟩) hs
theorem qf7:IxR X rIxS:=by
 intro value slice pins s σ H x y v u Q I rx ry h hs;obtain⟨z,i,c,rfl,rfl,hz,he,q⟩:=h;obtain⟨t,rfl⟩:=rx;obtain⟨t',rfl⟩:=ry;obtain⟨j,h1,h2,h3,h4,h5⟩:=q56 he;have hl:z.cps.toList.length=z.length:=by simp[Str.length]
 rw[hl]at h1 h4 h5;have hn:=XZ;exact tail_any (typeIs_str s z t) slot_str_getitem.lookup (getItem_str (c:=c) (by
  have e1:decide (i < -(2^63:Int))=false:=vW ∅;have e2:decide (i>=2^63)=false:=vW ∅;rw[e1,e2,xo]) (by rw[h1];simpa using h2) ⟨.str ⟨#[c]⟩,H,I.tok _,⟨_,rfl⟩,q⟩) hs
noncomputable def rIx(K:zA):R2:=λx y H Q=>rIxL K x y H Q\/rIxT K x y H Q\/rIxS x y H Q
theorem qev:IxR X (rIx X.K):=qeb.or (qff.or qf7)
theorem q98(its:List vB)(n j:Nat)(u:vB):Obj.mapSeq (·.setIfInBounds j u) { cls:=.type "list", data:=.seq its.toArray n }={ cls:=.type "list", data:=.seq (its.set j u).toArray n }:=by
 simp[Obj.mapSeq]
theorem Inv.lst{pins:List (vG×Obj)}{σ:St}{H:Hp}{s:vC}{p:vG}{xs:List V}(I:Inv X pins σ H s)(h:H p=some (.lst xs)):
  ∃(its:List vB) (n:Nat),YO xs its/\s.heap.get? p=some { cls:=.type "list", data:=.seq its.toArray n }/\xs.length<=sizeLine:=by
 obtain⟨z,its,n,r,e⟩:=I.hok p _ h;exact⟨its,n,r,e,z⟩
theorem Inv.lstUpd{pins:List (vG×Obj)}{σ:St}{H:Hp}{s:vC}{p:vG}{xs ys:List V}{its its':List vB}{n n':Nat}{f:Obj->Obj}(I:Inv X pins σ H s)(h:H p=some (.lst xs))(ho:s.heap.get? p=some { cls:=.type "list", data:=.seq its.toArray n })(hf:f { cls:=.type "list", data:=.seq its.toArray n }={ cls:=.type "list", data:=.seq its'.toArray n' })(r:YO ys its')(hz:ys.length<=sizeLine)(t:Nat):
  Inv X pins σ (upd H p (.lst ys)) { s with heap:=s.heap.update p f,toks:=t }:=by
 have e:(s.heap.update p f).get? p=some { cls:=.type "list", data:=.seq its'.toArray n' }:=by
  rw[ye f ho (by rw[hf] <;> rfl),hf]
 refine I.write (x:=p) (e:=p) (by rw[h];trivial) (.inl rfl) (λb u hb q=>(zh _ _ (Ne.symm hb)).trans q) ⟨_,e⟩ ?_;exact⟨hz,its',n',r,e⟩
def rSetL:V->V->V->Hp->(Hp->Prop)->Prop:=λo i v H Q=>∃p xs k j,o=.ref p/\i=.int k/\H p=some (.lst xs)/\ixN xs.length k=some j/\Q (upd H p (.lst (xs.set j v)))
theorem qbP:PSet X rSetL:=by
 intro pins s σ H o i v ov iv u Q I ro ri rv h;obtain⟨p,xs,k,j,rfl,rfl,hp,hj,q⟩:=h;cases ro;obtain⟨t,rfl⟩:=ri;obtain⟨its,n,r,ho,hz⟩:=I.lst hp;obtain⟨h1,h2,h3,h4⟩:=q8f hj;have hl:=r.length;have hn:=XZ;have I':Inv X pins σ (upd H p (.lst (xs.set j v))) { s with heap:=s.heap.update p (Obj.mapSeq (·.setIfInBounds j u)) } :=
  I.lstUpd hp ho (q98 its n j u) (r.set rv j) (by rw[yN];exact hz) s.toks
 by_cases h0:0<=k
 ·have hk:k.toNat=j:=by
   rw[tu h0 h4]at h1;exact zt h1
  exact PySem.W.ki_setAt ho h0 ∅ (by rw[zO,<- hl];exact h4) (by rw[hk];exact⟨_,I',q⟩)
 ·have hk:(k+(its.toArray.size:Int)).toNat=j:=by
   rw[seqIndex_neg ∅ h3]at h1;rw[zO,<- hl];exact zt h1
  exact PySem.W.ki_setBack ho ∅ (by rw[zO,<- hl];exact h3) ∅ (by rw[hk];exact⟨_,I',q⟩)
theorem q7g(lo hi:Option Int)(n:Nat):(uU lo hi none n).1=((HT.sIx n 0 lo:Nat):Int)/\(uU lo hi none n).2.1=((HT.sIx n n hi:Nat):Int)/\(uU lo hi none n).2.2=1:=by
 refine⟨?_,?_,rfl⟩
 ·cases lo with
  | none=>simp[uU,HT.sIx]
  | some i=>
   simp only[uU,HT.sIx,Zf,show (1:Int)>0 by decide,if_true]
   by_cases h:i<0
   ·simp only[h,if_true] <;> omega
   ·simp only[h,if_false] <;> omega
 ·cases hi with
  | none=>simp[uU,HT.sIx]
  | some i=>
   simp only[uU,HT.sIx,Zf,show (1:Int)>0 by decide,if_true]
   by_cases h:i<0
   ·simp only[h,if_true] <;> omega
   ·simp only[h,if_false] <;> omega
theorem q62(its:List vB)(lo hi:Option Int):slicePick its.toArray lo hi none=((its.drop (HT.sIx its.length 0 lo)).take (HT.sIx its.length its.length hi-HT.sIx its.length 0 lo)).toArray:=by
 obtain⟨h1,h2,h3⟩:=q7g lo hi its.toArray.size;unfold slicePick;rw[h1,h2,h3];simp only[sliceRange_one,pick_run,zO] <;> rfl
def rSlL(K:zA):V->Option Int->Option Int->Hp->VK->Prop:=λx lo hi H Q=>∃a xs,x=.ref a/\SqL K H a xs/\∀p,H p=none->Q (.ref p) (upd H p (.lst (Wh xs lo hi)))
theorem qds:SlR X (rSlL X.K):=by
 intro pins s σ H x v vl vu lo hi sl Q I rx hs pl pu h;obtain⟨a,xs,rfl,hx,q⟩:=h;cases rx;obtain⟨its,r,ht,hz⟩:=I.list hx;have hlen:=r.length;refine⟨"list", _,slot_list_getitem.lookup,ht.isList.typeIs,?_⟩;refine wpAny_getItem_list_slice ht.isList hs pl pu .none (by simp) ?_ (by rw[zO] <;> omega);rw[q62,<- hlen];refine⟨.ref s.heap.objs.size,_,I.laid (t':=s.toks) (o:=.lst (Wh xs lo hi)) (λb ob q=>zD _ q) (zN _) ?_,rfl,q _ (I.hok.fresh (zN _))⟩;exact⟨z6 (q3Z xs lo hi) hz,_,0,(r.drop (HT.sIx xs.length 0 lo)).take (HT.sIx xs.length xs.length hi-HT.sIx xs.length 0 lo),zS _ rfl⟩
noncomputable def XL:V->Bool
 | .non=>true
 | .bl _=>true
 | .int _=>true
 | .str _=>true
 | _=>false
noncomputable def eqV:V->V->Bool
 | .non,.non=>true
 | .bl a,.bl b=>a==b
 | .bl a,.int b=>(if a then 1 else 0)==b
 | .int a,.bl b=>a==(if b then 1 else 0)
 | .int a,.int b=>a==b
 | .str a,.str b=>a==b
 | _,_=>false
theorem qem{A:vY}{s:vC}{y x:V}{u v:vB}(ry:RelV y u)(rx:RelV x v)(fy:XL y=true)(fx:XL x=true):SeqAt.EqAt A s u v (eqV y x):=by
 cases y with
 | non=>
  cases ry;cases x with
  | non=>cases rx;exact SeqAt.EqAt.same _
  | bl b=>cases rx;exact SeqAt.EqAt.none_bool b
  | int b=>obtain⟨t,rfl⟩:=rx;exact SeqAt.EqAt.none_int b t
  | str b=>obtain⟨t,rfl⟩:=rx;exact SeqAt.EqAt.none_str b t
  | _=>exact vM (show false=true from fx) yG
 | bl a=>
  cases ry;cases x with
  | non=>cases rx;exact SeqAt.EqAt.bool_none a
  | bl b=>cases rx;exact SeqAt.EqAt.bool_bool a b
  | int b=>obtain⟨t,rfl⟩:=rx;exact SeqAt.EqAt.bool_int a b t
  | str b=>obtain⟨t,rfl⟩:=rx;exact SeqAt.EqAt.bool_str a b t
  | _=>exact vM (show false=true from fx) yG
 | int a=>
  obtain⟨t',rfl⟩:=ry;cases x with
  | non=>cases rx;exact SeqAt.EqAt.int_none a t'
  | bl b=>cases rx;exact SeqAt.EqAt.int_bool a t' b
  | int b=>obtain⟨t,rfl⟩:=rx;exact SeqAt.EqAt.int_int a t' b t
  | str b=>obtain⟨t,rfl⟩:=rx;exact SeqAt.EqAt.int_str a t' b t
  | _=>exact vM (show false=true from fx) yG
 | str a=>
  obtain⟨t',rfl⟩:=ry;cases x with
  | non=>cases rx;exact SeqAt.EqAt.str_none a t'
  | bl b=>cases rx;exact SeqAt.EqAt.str_bool a t' b
  | int b=>obtain⟨t,rfl⟩:=rx;exact SeqAt.EqAt.str_int a t' b t
  | str b=>obtain⟨t,rfl⟩:=rx;exact SeqAt.EqAt.str_str a t' b t
  | _=>exact vM (show false=true from fx) yG
 | _=>exact vM (show false=true from fy) yG
noncomputable def eqU(x:V)(u:vB):Bool:=match u with
 | .none=>eqV .non x
 | .bool b=>eqV (.bl b) x
 | .int i _=>eqV (.int i) x
 | .str z _=>eqV (.str z) x
 | _=>false
theorem q9O{x y:V}{u:vB}(r:RelV y u)(f:XL y=true):eqU x u=eqV y x:=by
 cases y with
 | non=>cases r;rfl
 | bl b=>cases r;rfl
 | int i=>obtain⟨t,rfl⟩:=r;rfl
 | str z=>obtain⟨t,rfl⟩:=r;rfl
 | _=>exact vM (show false=true from f) yG
theorem q4R{x:V}:∀{xs:List V}{us:List vB},YO xs us->xs.all XL=true->us.any (eqU x)=xs.any λy=>eqV y x
 | _,_,.nil,_=>rfl
 | y::xs,u::us,.cons r t,f=>by
  rw[xG,zr]at f;rw[xU,xU,q9O r f.1,q4R t f.2]
theorem q4e{A:vY}{s:vC}{x:V}{v:vB}(rx:RelV x v)(fx:XL x=true):∀{xs:List V}{us:List vB},YO xs us->xs.all XL=true->∀u∈us,SeqAt.EqAt A s u v (eqU x u)
 | _,_,.nil,_=>λu hu=>by cases hu
 | y::xs,u::us,.cons r t,f=>λu' hu=>by
  rw[xG,zr]at f;rcases zE.mp hu with rfl|hu
  ·rw[q9O r f.1];exact qem r rx f.1 fx
  ·exact q4e rx fx t f.2 u' hu
noncomputable def inV(x:V)(xs:List V):Bool:=xs.any λy=>eqV y x
noncomputable def rIn(K:zA)(neg:Bool):R2:=λx y H Q=>∃p xs,y=.ref p/\(SqL K H p xs\/SqT K H p xs)/\XL x=true/\xs.all XL=true/\Q (.bl (if neg then !inV x xs else inV x xs)) H
theorem qbp:OpR X (uN .In) (rIn X.K false):=by
 intro pins s σ H x y v u Q I rx ry h;obtain⟨p,xs,rfl,hq,fx,fs,q⟩:=h;cases ry;rcases hq with hq|hq
 ·obtain⟨its,r,pl,hz⟩:=I.list hq
  refine SeqAt.in_listAt (eqU x) pl.isList (λw hw=>q4e rx fx r fs w ⇑hw) ⟨.bl _,H,I,rfl,?_⟩;rw[show its.toArray.any (eqU x)=its.any (eqU x) by simp,q4R r fs];exact q
 ·obtain⟨its,r,pl,hz⟩:=I.tuple hq
  refine SeqAt.in_tupleAt (eqU x) pl (λw hw=>q4e rx fx r fs w ⇑hw) ⟨.bl _,H,I,rfl,?_⟩;rw[show its.toArray.any (eqU x)=its.any (eqU x) by simp,q4R r fs];exact q
theorem qX:Yq X (.builtin "len") (λxs H Q=>∃p ys,xs=[.ref p]/\(SqL X.K H p ys\/SqT X.K H p ys)/\Q (.int ys.length) H):=by
 intro pins s σ H xs us Q I r h;obtain⟨p,ys,rfl,hq,q⟩:=h;obtain⟨u,rfl,rx⟩:=vals1 r;cases rx;have hn:=XZ;rcases hq with hq|hq
 ·obtain⟨its,r',pl,hz⟩:=I.list hq
  have hlen:=r'.length;exact Calls.call_len_list pl.isList (by simp only[zO] <;> omega) ⟨.int ys.length,H,I.tok _,⟨s.toks+1,by rw[zO,hlen]⟩,q⟩
 ·obtain⟨its,r',pl,hz⟩:=I.tuple hq
  have hlen:=r'.length;exact len_tuple pl (by simp only[zO] <;> omega) ⟨.int ys.length,H,I.tok _,⟨s.toks+1,by rw[zO,hlen]⟩,q⟩
theorem q6r:Yq X (.type "list") (λxs H Q=>∃p ys,xs=[.ref p]/\(SqL X.K H p ys\/SqT X.K H p ys)/\∀l,H l=none->Q (.ref l) (upd H l (.lst ys))):=by
 intro pins s σ H xs us Q I r h;obtain⟨p,ys,rfl,hq,q⟩:=h;obtain⟨u,rfl,rx⟩:=vals1 r;cases rx;have fin:∀(its:List vB),YO ys its->ys.length<=sizeLine->∀(h':vZ)(c':Nat),(∀b o',s.heap.get? b=some o'->h'.get? b=some o') ->
   h'.get? s.heap.objs.size=some { cls:=.type "list", dict:=none,data:=.seq its.toArray c',slots:=#[] }->EP X pins σ Q (.ref s.heap.objs.size) { s with heap:=h' }:=λits r' hz h' c' kp e=>
  ⟨.ref s.heap.objs.size,_,I.laid (t':=s.toks) kp (zN _) (show YQ X.prog X.w _ h' _ (.lst ys)from ⟨hz,its,c',r',e⟩),rfl,q _ (I.hok.fresh (zN _))⟩
 rcases hq with hq|hq
 ·obtain⟨its,r',pl,hz⟩:=I.list hq
  have hlen:=r'.length;obtain⟨o,ho,hc,n,hd⟩:=pl.isList;exact call_list_seq p (.inl rfl) ho hc hd (λh' c' kp e=>fin its r' hz h' c' kp e) (by simp only[zO] <;> omega)
 ·obtain⟨its,r',pl,hz⟩:=I.tuple hq
  have hlen:=r'.length;obtain⟨o,ho,hc,n,hd⟩:=pl;exact call_list_seq p (.inr rfl) ho hc hd (λh' c' kp e=>fin its r' hz h' c' kp e) (by simp only[zO] <;> omega)
def tyV(K:zA)(T:String)(x:V)(H:Hp):Prop:=match x with
 | .str _=>T = "str"
 | .int _=>T = "int"
 | .ref p=>(T = "list" /\ ∃xs,SqL K H p xs)\/(T = "tuple" /\ ∃o,K.lookup p=some o/\o.cls=.type "tuple" /\ o.dict=none) \/
   (T = "dict" /\ ((∃kvs,H p=some (.dK kvs))\/∃kvs,H p=some (.dT kvs)))\/(T = "set" /\ ∃S n,H p=some (.set S n))
 | _=>False
theorem qai{pins:List (vG×Obj)}{σ:St}{H:Hp}{s:vC}{T:String}{x:V}{v:vB}(I:Inv X pins σ H s)(r:RelV x v)(ty:tyV X.K T x H):
  s.TypeIs v T/\∀a,v=.ref a->∃ob,s.heap.get? a=some ob/\ob.dict=none:=by
 cases x with
 | str z=>
  obtain⟨t,rfl⟩:=r;cases (show T = "str" from ty);exact⟨typeIs_str s z t,λ_ e=>nomatch e⟩
 | int i=>
  obtain⟨t,rfl⟩:=r;cases (show T = "int" from ty);exact⟨typeIs_int s i t,λ_ e=>nomatch e⟩
 | ref p=>
  cases r;rcases ty with⟨rfl,xs,hq⟩|⟨rfl,o,hk,hc,hd⟩|⟨rfl,hk⟩|⟨rfl,S,n,hk⟩
  ·obtain⟨its,_,pl,_⟩:=I.list hq
   refine⟨pl.isList.typeIs,λa e=>?_⟩;cases e;obtain⟨o,n,e,c,hd,_⟩:=pl;exact⟨o,e,hd⟩
  ·refine⟨⟨o,I.kIn p o hk,hc⟩,λa e=>?_⟩
   cases e;exact⟨o,I.kIn _ o hk,hd⟩
  ·have z:∃o,s.heap.get? p=some o/\o.ExactDict:=by
    rcases hk with⟨kvs,hk⟩|⟨kvs,hk⟩
    ·obtain⟨_,_,_,_,o,_,_,e,ex,_⟩:=I.hok p _ hk
     exact⟨o,e,ex⟩
    ·obtain⟨_,_,_,_,o,_,_,e,ex,_⟩:=I.hok p _ hk
     exact⟨o,e,ex⟩
   obtain⟨o,e,ex⟩:=z;refine⟨⟨o,e,ex.1⟩,λa e2=>?_⟩;cases e2;exact⟨o,e,ex.2.1⟩
  ·obtain⟨o,_,_,_,e,ex,_⟩:=I.hok p _ hk
   refine⟨⟨o,e,ex.1⟩,λa e2=>?_⟩;cases e2;exact⟨o,e,ex.2.1⟩
 | _=>exact False.elim ty
noncomputable def tBM0(K:zA)(T:String)(r:V->List V->Hp->VK->Prop)(to:TE):TE:=λσ H Q=>to σ H λx H1=>tyV K T x H1/\r x [] H1 Q
noncomputable def tBM(K:zA)(T:String)(r:V->List V->Hp->VK->Prop)(to:TE)(t:TA):TE:=λσ H Q=>to σ H λx H1=>tyV K T x H1/\t σ H1 λxs H2=>r x xs H2 Q
variable{o e:vP}{es:List vP}{to:TE}{t:TA}{name:Str}{apos cpos:Pos}{T id:String}{r:V->List V->Hp->VK->Prop}
theorem qeS(pa:PlainAttrs T)(slot:Slot T name id)(hty:typeOf (.builtin id)=pure (.type "method_descriptor"))(hm:MtR X id r)(ho:PE X o to)(hbase:uT o name X.env (eval o X.env)=eval o X.env:=by rfl)(hline:(apos.endLine==cpos.line)=true:=by rfl):PE X (.Call (.Attribute o name apos) [] [] cpos) (tBM0 X.K T r to):=by
 intro pins s σ H Q I h;refine wpAny_Call_method0_late hbase hline (thn (ho pins s σ H _ I h) λv s1 ⟨x,H1,I1,r1,ty,q1⟩=>?_);obtain⟨h1,h2⟩:=qai I1 r1 ty;exact⟨T,id,pa,slot,hty,h1,h2,Calls.callWith_builtin rfl (PySem.evalArgs_none (hm pins s1 σ H1 x [] v [] Q I1 r1 .nil q1))⟩
theorem q67(pa:PlainAttrs T)(slot:Slot T name id)(hty:typeOf (.builtin id)=pure (.type "method_descriptor"))(hm:MtR X id r)(ho:PE X o to)(ha:PA X (e::es) t)(hbase:uT o name X.env (eval o X.env)=eval o X.env:=by rfl)(hfew:((vm cpos (vK (e::es) X.env)).all (λx=>!x.1)&&(uK cpos (vz [] X.env)).all (λx=>x.1.isSome)
   && decide ((e::es).length+([]:List uW).length+(if ([]:List uW).isEmpty then 0 else 1)<30))=true:=by rfl)
  (hline:(apos.endLine==cpos.line)=true:=by rfl) (hs:vK (e::es) X.env=(false,eval e X.env)::vK es X.env:=by rfl) (hplain:(vm cpos (vK es X.env)).any (·.1)=false:=by rfl) :
  PE X (.Call (.Attribute o name apos) (e::es) [] cpos) (tBM X.K T r to t):=by
 intro pins s σ H Q I h;refine wpAny_Call_method_late hbase hfew hline rfl (thn (ho pins s σ H _ I h) λv s1 ⟨x,H1,I1,r1,ty,q1⟩=>?_);obtain⟨h1,h2⟩:=qai I1 r1 ty;refine⟨T,id,pa,slot,hty,h1,h2,?_⟩;have hA:=ha cpos pins s1 σ H1 _ I1 q1;rw[hs]at hA ⊢;refine Calls.callWith_builtin (by show (false || (vm cpos (vK es X.env)).any (·.1))=false;rw[hplain] <;> rfl) (Calls.evalArgs_plain ?_);exact thn hA λus s2 ⟨vs,H2,I2,r2,q2⟩=>hm pins s2 σ H2 x vs v us Q I2 r1 r2 q2
end
def MtM(X:Cx)(id:String)(r:V->List V->Hp->VK->Prop):Prop :=
 ∀(pins:List (vG×Obj))(s:vC)(σ:St)(H:Hp)(x:V)(xs:List V)(v:vB)(us:List vB)(Q:VK),Inv X pins σ H s->RelV x v->YO xs us->r x xs H Q ->
  vL (model X.prog X.w) X.A (call (.builtin id) (v::us)) (EP X pins σ Q) X.xe s
theorem YO.one:∀{x:V}{us:List vB},YO [x] us->∃u,us=[u]/\RelV x u
 | _,_,.cons r .nil=>⟨_,rfl,r⟩
theorem YO.zero:∀{us:List vB},YO [] us->us=[]
 | _,.nil=>rfl
theorem YO.dropLast{xs:List V}{us:List vB}(h:YO xs us):YO xs.dropLast us.dropLast:=by
 induction h with
 | nil=>exact .nil
 | cons r t ih=>
  cases t with
  | nil=>exact .nil
  | cons q t'=>exact .cons r ih
theorem q9o{α:Type}(l:List α):l.eraseIdx (l.length-1)=l.dropLast:=by
 induction l with
 | nil=>rfl
 | cons a r ih=>
  cases r with
  | nil=>rfl
  | cons b r=>
   have e:(a::b::r).length-1=((b::r).length-1)+1:=by
    have h1:(a::b::r).length=r.length+2:=rfl;have h2:(b::r).length=r.length+1:=rfl;omega
   rw[e,List.eraseIdx_cons_succ,ih]
   all_goals rfl
section
variable{X:Cx}{pins:List (vG×Obj)}{σ:St}{H:Hp}{s:vC}{l b:vG}{xs ys zs:List V}
theorem Inv.lset{its its':List vB}{n:Nat}{f:Array vB->Array vB}{t':Nat}(I:Inv X pins σ H s)(hH:H l=some (.lst xs))(e:s.heap.get? l=some { cls:=.type "list", data:=.seq its.toArray n })(hf:f its.toArray=its'.toArray)(hv:YO ys its')(hz:ys.length<=sizeLine):
  Inv X pins σ (upd H l (.lst ys)) { s with heap:=s.heap.update l (Obj.mapSeq f),toks:=t' }:=by
 have q:=PySem.IsL.update e f;rw[hf]at q;refine I.write (x:=l) (e:=l) (by rw[hH];exact trivial) (.inl rfl) (λb' u hb hu=>(zh s.heap (Obj.mapSeq f) (Ne.symm hb)).trans hu) ⟨_,q⟩ ?_;exact⟨hz,its',_,hv,q⟩
theorem Inv.lnew{its:List vB}{t':Nat}(I:Inv X pins σ H s)(hv:YO ys its)(hz:ys.length<=sizeLine):
  Inv X pins σ (upd H s.heap.objs.size (.lst ys)) { s with heap:=s.heap.push { cls:=.type "list", data:=.seq its.toArray },toks:=t' } :=
 I.laid (λ_ _ q=>zD _ q) (zN _) ⟨hz,its,0,hv,zS _ rfl⟩
theorem Inv.fresh(I:Inv X pins σ H s):H s.heap.objs.size=none:=I.hok.fresh (zN _)
theorem Inv.lstM(I:Inv X pins σ H s)(hH:H l=some (.lst xs)):xs.length<=sizeLine/\∃(its:List vB) (n:Nat),YO xs its/\xs.length=its.length/\s.heap.get? l=some { cls:=.type "list", data:=.seq its.toArray n }:=by
 obtain⟨z,its,n,r,e⟩:=I.hok l _ hH;exact⟨z,its,n,r,r.length,e⟩
theorem X4{n:Nat}(h:n<=sizeLine):Builtin.List.listTooLong n=false:=by
 unfold Builtin.List.listTooLong;exact vW ∅
end
section
variable{X:Cx}
def WQ:V->List V->Hp->VK->Prop:=λx vs H Q=>∃l xs y,x=.ref l/\vs=[y]/\H l=some (.lst xs)/\xs.length<sizeLine/\Q .non (upd H l (.lst (xs++[y])))
theorem q2b:MtM X "list.append" WQ:=by
 intro pins s σ H x vs v us Q I rx rv h;obtain⟨l,xs,y,rfl,rfl,hH,hz,q⟩:=h;cases rx;obtain⟨u,rfl,ru⟩:=rv.one;obtain⟨z,its,n,r,hl,e⟩:=I.lstM hH;refine tW F.slot_list_append ⟨_,e,rfl⟩ F.entry_list_append (F.args_list_append_2 _ _) (PySem.list_append l its.toArray n u (by rw[zO];omega)) ⟨e,?_⟩;refine⟨.non,_,I.lset (its':=its++[u]) hH e (by simp) (r.append (.cons ru .nil)) ?_,rfl,q⟩;rw[zG,zx];omega
def Wf:V->List V->Hp->VK->Prop:=λx vs H Q=>∃l b xs zs,x=.ref l/\vs=[.ref b]/\H l=some (.lst xs)/\H b=some (.lst zs)/\xs.length+zs.length<=sizeLine/\Q .non (upd H l (.lst (xs++zs)))
theorem qb2:MtM X "list.extend" Wf:=by
 intro pins s σ H x vs v us Q I rx rv h;obtain⟨l,b,xs,zs,rfl,rfl,hH,hB,hz,q⟩:=h;cases rx;obtain⟨u,rfl,ru⟩:=rv.one;cases ru;obtain⟨z,its,n,r,hl,e⟩:=I.lstM hH;obtain⟨z2,its2,n2,r2,hl2,e2⟩:=I.lstM hB;have hsz:its.toArray.size+its2.toArray.size<=sizeLine:=by rw[zO,zO];omega
 have hlong:¬(!its.toArray.isEmpty&&Builtin.List.listTooLong (its.toArray.size+its2.toArray.size))=true:=by
  rw[X4 hsz,xz];exact yG
 refine tW F.slot_list_extend ⟨_,e,rfl⟩ F.entry_list_extend (F.args_list_extend_2 _ _)
  (AutoSeq1.list_extend_list_list_0 l its.toArray n b its2.toArray n2 hlong (by rw[zO];omega) ∅) ⟨e,e2,?_⟩
 refine⟨.non,_,I.lset (its':=its++its2) hH e (by simp) (r.append r2) ?_,rfl,q⟩;rw[zG];omega
def rPop:V->List V->Hp->VK->Prop:=λx vs H Q=>∃l xs y,x=.ref l/\vs=[]/\H l=some (.lst xs)/\xs[xs.length-1]?=some y/\Q y (upd H l (.lst xs.dropLast))
theorem qfs:MtM X "list.pop" rPop:=by
 intro pins s σ H x vs v us Q I rx rv h;obtain⟨l,xs,y,rfl,rfl,hH,hy,q⟩:=h;cases rx;have hus:=rv.zero;subst hus;obtain⟨z,its,n,r,hl,e⟩:=I.lstM hH;obtain⟨u,hu,ru⟩:=r.get hy;have hy':its.toArray[its.toArray.size-1]?=some u:=by
  show its.toArray[its.length-1]?=some u;rw[<- zX,<- hl];exact hu
 refine tW F.slot_list_pop ⟨_,e,rfl⟩ F.entry_list_pop (F.args_list_pop_1 _) (MeetsSeq.list_pop_last l its.toArray n u hy' (by rw[zO];omega)) ⟨e,?_⟩;refine⟨y,_,I.lset (its':=its.dropLast) hH e ?_ r.dropLast ?_,ru,q⟩
 ·show its.toArray.eraseIdxIfInBounds (its.toArray.size-1)=its.dropLast.toArray
  rw[zO,List.eraseIdxIfInBounds_toArray,q9o]
 ·rw[List.length_dropLast]
  omega
noncomputable def rCat:R2:=λx y H Q=>∃l b xs zs,x=.ref l/\y=.ref b/\H l=some (.lst xs)/\H b=some (.lst zs)/\xs.length+zs.length<=sizeLine/\∀p,H p=none->Q (.ref p) (upd H p (.lst (xs++zs)))
theorem qf6:OpR X (uJ .Add) rCat:=by
 intro pins s σ H x y v u Q I rx ry h;obtain⟨l,b,xs,zs,rfl,rfl,hH,hB,hz,q⟩:=h;cases rx;cases ry;obtain⟨z,its,n,r,hl,e⟩:=I.lstM hH;obtain⟨z2,its2,n2,r2,hl2,e2⟩:=I.lstM hB;refine PySem.P.add_list e e2 ?_ (by rw[zO,zO];omega);have ea:its.toArray++its2.toArray=(its++its2).toArray:=by simp
 rw[ea];exact⟨.ref _,_,I.lnew (t':=s.toks) (r.append r2) (by rw[zG];omega),rfl,q _ I.fresh⟩
end
section
variable{prog:vO}{w:vT}{A:vY}{E:vB->vC->Prop}{s:vC}
end
section
variable{X:Cx}
end
end L2
namespace Att
open PySem PySem.W PySem.Calls PyProof.Rows
theorem Y9{P:Params}{h:vZ}:∀(ns:List Int)(vs:List vB),WellAll P h vs (ns.map WData.int)->v5 vs ns:=by
 intro ns
 induction ns with
 | nil=>
  intro vs w;rw[yX]at w;cases w;exact .nil
 | cons n ns ih=>
  intro vs w;rw[zU]at w;cases w with
  | cons a b=>
   cases a;exact .cons _ _ (ih _ b)
theorem WO{l:OpenLaw}{n:Nat}(hn:l.most=some n){P:Params}{h:vZ}{args:List WData}{vals:List vB}(hpre:l.row.toRowW.claim.pre args=true)(hwl:WellAll P h vals args):
  ∃a vs ns,vals=[Value.ref a]/\args=[WData.list (ns.map WData.int)]/\h.get? a=some { cls:=.type "list", data:=.seq vs.toArray }/\v5 vs ns/\ns.length<=n:=by
 have hsh:WShape.hasAll [] args [.list .int]=true:=(pre_splitW hpre).1;have hc:l.pre.holds [] { args:=args }=true:=(pre_splitW hpre).2;obtain⟨d,r,rfl,h1,h2⟩:=hasAllW_cons hsh;obtain rfl:=hasAllW_nil h2;obtain⟨xs,rfl,h3⟩:=hasW_list h1;obtain⟨ns,rfl⟩:=items_int h3;have hlen:ns.length<=n:=by
  unfold OpenLaw.pre at hc;have h4:(WTm.not (.lt (.lit (.int (n:Int))) (.len (.arg 0)))).holds [] { args:=[.list (ns.map .int)] }=true:=by
   have h4:=(holds_andW hc).1;rw[hn]at h4;exact h4
  have h5:=condW_of h4 (w_not (w_lt w_lit (w_len_list (w_arg rfl))));rw[zB]at h5;refine Nat.le_of_not_lt λq=>?_;have q':(n:Int)<((ns.length:Nat):Int):=∅
  first
   | (rw[vU q']at h5;exact vM h5 (by decide))
   | (simp at h5;omega)
 cases hwl with
 | cons w1 w2=>
  cases w2;cases w1 with
  | list ho hall=>exact⟨_,_,ns,rfl,rfl,ho,Y9 ns _ hall,hlen⟩
theorem WS(l:OpenLaw)(args:List WData):l.row.toRowW.claim.post args (.bool true) args=true :=
 postW_of (r:=l.row.toRowW) (X:=(true==true))
  (show WShape.has [] (.bool true) .bool=true by first|rfl|decide|simp[WShape.has,WShape.arms,WShape.armsAll])
  (show (WTm.eq .res (.lit (.bool true))).value [] { args:=args,res:=some (.bool true),after:=args }=some (.bool (true==true))from w_eq_bool (w_res rfl) w_lit) rfl
theorem attach_call{l:OpenLaw}{n:Nat}{q:vO}{loose:List Str}{XP:(Str->Option vB)->vZ->Prop}{YP:vT->vZ->Prop}{d:DefRec}(hn:l.most=some n)(hdf:d.params.defaults=[])(call:∀(w:vT)(s₀ s₁:vC)(mg mb:Str->Option vB)(fa:vG)(o:Obj)(pm cd doc:vB)(a:vG)(vs:List vB)(ns:List Int),
   Ground q loose [] XP w s₀ mg mb s₁.heap->YP w s₁.heap ->
   s₁.heap.get? fa=some o->o.data=.func (docDef d.name d.params d.body d.scope pm cd doc)->s₁.heap.CodeRec cd d.name->mg d.name=some (.ref fa) ->
   s₁.heap.get? a=some { cls:=.type "list", data:=.seq vs.toArray }->v5 vs ns->ns.length<=n->s₁.gens=#[] ->
   uP (model l.prog w) tP (.call (.ref fa) ⟨[.ref a],[]⟩) (λr s'=>r=.ok (.ret (.bool true))/\OldK s₁.heap s'.heap/\s'.os=s₁.os/\ux s'.gens) s₁) :
  WalkO q loose XP YP l.row.toRowW d [] (λf vs=>PySem.call f vs):=by
 intro w s₀ s₁ mg mb G Y fa o pm cd doc dV kV ho hd hcd hD hmg hg args vals as hpre hlay hrd hwl hlo;obtain rfl:dV=.none:=Dflts.none hD hdf;obtain rfl:kV=.none:=Dflts.noKw hD;obtain⟨a,vs,ns,rfl,rfl,hobj,WC,hlen⟩:=WO hn hpre hwl;refine enter_call (uQ (call w s₀ s₁ mg mb fa o pm cd doc a vs ns G Y ho (fd_plain hd) hcd hmg hobj WC hlen hg) λr s' hq=>?_);obtain⟨rfl,h2,h3,h4⟩:=hq;exact⟨.inl ⟨.bool true,.bool true,[],rfl,λ_=>rfl,.bool true,WS l _,λ_=>⟨xY,λ_ hm=>(nomatch hm)⟩⟩,h2,h3,h4⟩
section
variable{prog:vO}{w:vT}{A:vY}{E:vB->vC->Prop}{s:vC}{K:Frag}
end
end Att
namespace L2
open PySem PySem.Spec PyProof.Rows
theorem q1n:∀{vs:List vB}{ns:List Int},v5 vs ns->YO (ns.map V.int) vs
 | _,_,.nil=>.nil
 | _,_,.cons n t h=>.cons ⟨t,rfl⟩ (q1n h)
def Only(H:Hp):Prop:=∀b,H b=none\/∃o xs,H b=some (.frz o (.lst xs))
theorem qbK{P:vO}{w:vT}{K:zA}{mg mb:Str->Option vB}{CX:CXT}{k:Nat}{fa a:vG}{fd:vN}{x:Str}{sp:Sp}{s₁:vC}{vs:List vB}{ns:List Int}(KX:K.In s₁.heap)(hns:s₁.heap.Ns vQ mg)(hb:s₁.heap.Ns builtinsNs mb)(hbb:∀x:Str,x ≠ "__name__" -> mb x=vX x)(hlim:s₁.heap.NoLimit)(hg:s₁.gens=#[])(ha:s₁.heap.get? a=some { cls:=.type "list", data:=.seq vs.toArray })(hi:v5 vs ns)(hl:ns.length<=sizeLine)(hr:Room k tP)(F:∀base:vZ,K.In base->base.Ns vQ mg->FnOk P w K mg base CX k fa fd [x] sp)(hbind:∀(s:vC)(u:vB),tY s fd ⟨[u],[]⟩ [(x,u)])(hsp:∀H:Hp,Only H->SqL K H a (ns.map V.int)->sp [.ref a] H (λv _=>v=.bl true) λ_ _ _=>False)(hCX:∀H e s',CX [] H s₁ (λ_ _ _=>False) e s'->False):
  uP (model P w) tP (.call (.ref fa) ⟨[.ref a],[]⟩) (λr s'=>r=.ok (.ret (.bool true))/\OldK s₁.heap s'.heap/\s'.os=s₁.os/\ux s'.gens) s₁:=by
 have rv:=q1n hi;have lenV:=hi.length;have core:∀H:Hp,Only H->SqL K H a (ns.map V.int)->HOk P w H s₁.heap->(∀b,H b≠none->b=a)->(H a≠none->K.lookup a=none) ->
   uP (model P w) tP (.call (.ref fa) ⟨[.ref a],[]⟩) (λr s'=>r=.ok (.ret (.bool true))/\OldK s₁.heap s'.heap/\s'.os=s₁.os/\ux s'.gens) s₁:=by
  intro H hO hS hok hA hK;have base_of:∀{b:vG}{o:Obj},s₁.heap.get? b=some o->H b=none->(Wy s₁.heap H).get? b=some o:=λe n=>qcg e n;have noA:∀{b:vG}{o:Obj}{es:Array DictEntry}{ep:Nat},s₁.heap.get? b=some o->o.data=.dict es ep->H b=none:=λ{b o es ep} e d=>by
   cases q:H b with
   | none=>rfl
   | some u=>
    have e':b=a:=hA b (by rw[q];simp);subst e';rw[ha]at e;cases e;have d':Data.seq vs.toArray _=Data.dict es ep:=d;cases d'
  have nsK:∀{b:vG}{m:Str->Option vB},s₁.heap.Ns b m->(Wy s₁.heap H).Ns b m:=λ{b m} ⟨o,es,ep,e,d,r⟩=>⟨o,es,ep,base_of e (noA e d),d,r⟩;have hKb:K.In (Wy s₁.heap H):=λb o e=>base_of (KX b o e) (by
   cases q:H b with
   | none=>rfl
   | some u=>
    have e':b=a:=hA b (by rw[q];simp);subst e';rw[hK (by rw[q];simp)]at e;cases e)
  have hM:Mod K mg (Wy s₁.heap H):=⟨hKb,nsK hns,⟨mb,nsK hb,hbb⟩,let ⟨mc,h1,h2⟩:=hlim;⟨mc,nsK h1,h2⟩⟩;have e0:Env0 P w K mg (Wy s₁.heap H) tP [] s₁ H:=⟨rfl,hM,λb o e=>qe8 e,Nat.le_of_eq (qau _ _),trivial,λb hb=>vM (show b∈([]:List vG)from hb) (by simp),hok,.of_eq hg⟩;refine uQ ((F _ hKb (nsK hns)).run tP [] s₁ H ⟨[.ref a],[]⟩ [.ref a] [.ref a] _ _ hr e0 (hbind s₁ (.ref a)) (.cons rfl .nil) (hsp H hO hS)) λr s' h=>?_;cases r with
  | error e=>exact(hCX H e s' h).elim
  | ok fl=>
   cases fl with
   | next=>exact False.elim h
   | brk=>exact False.elim h
   | cont=>exact False.elim h
   | ret u=>
    obtain⟨v,H',os,bare,un,hok',r',q⟩:=h;have q':v=.bl true:=q;subst q';obtain rfl:u=Value.bool true:=r';refine⟨rfl,OldK.of_keep λb o e=>?_,os,bare⟩;cases q:H b with
    | none=>exact un.keep b o e q (by intro z;exact vM (show b∈([]:List vG)from z) (by simp)) (by simp)
    | some u=>
     rcases hO b with z|⟨ob,xs,z⟩
     ·rw[q]at z;cases z
     ·have z2:=un.frzs b ob _ z
      obtain⟨e1,_⟩:=hok b _ z;obtain⟨e2,_⟩:=hok' b _ z2;rw[e]at e1;cases e1;exact e2
 cases hk:K.lookup a with
 | some o=>
  have e:=KX a o hk;rw[ha]at e;cases e;refine core (λ_=>none) (λ_=>.inl rfl) (.inr ⟨_,vs.toArray,_,hk,rfl,rfl,rfl,by rw[zO,lenV];exact hl,by simpa using rv⟩) (λb u z=>by have z':(none:Option HO)=some u:=z;cases z') (λb z=>vM rfl z) λz=>vM rfl z
 | none=>
  refine core (λb=>if b=a then some (.frz { cls:=.type "list", data:=.seq vs.toArray } (.lst (ns.map V.int)))else none) (λb=>?_) (.inl (.inr ⟨{ cls:=.type "list", data:=.seq vs.toArray },vH rfl⟩)) (λb u z=>?_) (λb z=>?_) λ_=>hk
  ·by_cases hb:b=a
   ·exact .inr ⟨_,_,vH hb⟩
   ·exact .inl (vJ hb)
  ·by_cases hb:b=a
   ·have z':=(vH hb).symm.trans z
    cases z';subst hb;exact⟨ha,by rw[zB];exact hl,vs,_,rv,ha⟩
   ·have z':=(vJ hb).symm.trans z
    cases z'
  ·by_cases hb:b=a
   ·exact hb
   ·exact vM (vJ hb) z
noncomputable abbrev KOf{K:zA}{h:vZ}(_:K.In h):zA:=K
theorem q8e{l:wb}{n k:Nat}{q:vO}{loose:List Str}{XP:(Str->Option vB)->vZ->Prop}{YP:vT->vZ->Prop}{d:DefRec}{K:Params->zA}{CX:vT->CXT}{sp:vT->Sp}{x:Str}(hn:l.most=some n)(hn2:n<=sizeLine)(hdf:d.params.defaults=[])(hr:Room k tP)(hY:∀(w:vT)(h:vZ),YP w h->(K w.params).In h)(F:∀(w:vT)(mg:Str->Option vB)(fa:vG)(h:vZ),(K w.params).In h->h.Ns vQ mg->mg d.name=some (.ref fa) ->
   ∃fd:vN,(∀(s:vC)(u:vB),tY s fd ⟨[u],[]⟩ [(x,u)]) /\
    ∀base:vZ,(K w.params).In base->base.Ns vQ mg->FnOk l.prog w (K w.params) mg base (CX w) k fa fd [x] (sp w))
  (hsp:∀(w:vT)(H:Hp)(a:vG)(ns:List Int),ns.length<=n->Only H->SqL (K w.params) H a (ns.map V.int)->sp w [.ref a] H (λv _=>v=.bl true) λ_ _ _=>False)
  (hCX:∀(w:vT)(H:Hp)(s:vC)(e:vB)(s':vC),CX w [] H s (λ_ _ _=>False) e s'->False) :
  Zy q loose XP YP l.row.toRowW d [] (λf vs=>PySem.call f vs):=by
 refine Att.attach_call hn hdf λw s₀ s₁ mg mb fa o pm cd doc a vs ns G Y ho hd hcd hmg hobj WC hlen hg=>?_;have KX:=hY w _ Y;obtain⟨fd,hb,hF⟩:=F w mg fa _ KX G.T.g hmg;exact qbK KX G.T.g G.T.b G.T.builtins G.T.nolimit hg hobj WC (z6 hlen hn2) hr hF hb (λH hO hS=>hsp w H a ns hlen hO hS) λH e s'=>hCX w H s₁ e s'
end L2
namespace L2
open PySem PySem.Spec PyProof.Rows
noncomputable def Ys(s:vo):Arguments:=match s with
 | .FunctionDef _ a _ _ _ _ _ _ _ _=>a
 | _=>{ posonlyargs:=[],args:=[],vararg:=none,kwonlyargs:=[],kw_defaults:=[],kwarg:=none,defaults:=[] }
noncomputable def Yd(s:vo):List vo:=match s with
 | .FunctionDef _ _ b _ _ _ _ _ _ _=>b
 | _=>[]
noncomputable def Z9(s:vo):ud:=match s with
 | .FunctionDef _ _ _ _ _ _ sc _ _ _=>sc
 | _=>{ kind:=.function,names:=[],isGenerator:=false,isCoroutine:=false }
noncomputable abbrev CX0:CXT:=λ_ _ _ _ _ _=>False
noncomputable abbrev E0:XK:=λ_ _ _=>False
theorem pass0{X:Cx}:Xx CX0 X E0:=λ_ _ _ _ _ _ _ h=>h.elim
structure Fun (K:zA) (x qual:Str) (st:vo) (f:vG) (fd:vN):Prop where
 ex:∃(oc:vB) (od:Option vG) (kV doc pm:vB) (an:Option vG) (cdv ct:vB) (osl:Array (Option vB)),
  fd=yz x qual (Ys st) (Yd st) (Z9 st) .none kV doc pm an cdv ct/\K.lookup f=some ⟨oc,od,.func fd,osl⟩/\xy K cdv qual=true
 kp:xJ K (.ref f)=true
section
variable{P:vO}{w:vT}{K:zA}{mg:Str->Option vB}{base:vZ}
theorem Fun.ok{x qual:Str}{st:vo}{f:vG}{fd:vN}{N ps:List Str}{k:Nat}{sp:Sp}(F:Fun K x qual st f fd)(S:FnScope N ps (Z9 st))(len:∀vs H Q E,sp vs H Q E->vs.length=ps.length)(hbody:∀(cdv:vB)(A:vY)(outer:List Env)(s:vC)(H:Hp)(vs:List V)(Q:VK)(E:XK),Room k (A.deeper (tH qual (Z9 st) s.heap.objs.size f cdv))->sp vs H Q E ->
   ∃t,PSs (zAM CX0 P w K mg base N qual (Z9 st) f cdv A outer s H E).nox (Yd st) t/\t { nx:=λ_ H'=>Q .non H',rt:=Q } (start N vs) H):FnOk P w K mg base CX0 (k+1) f fd ps sp:=by
 obtain⟨oc,od,kV,doc,pm,an,cdv,ct,osl,rfl,lk,hcd⟩:=F.ex;refine qfS lk hcd S len λA outer s H vs Q E hr hsp=>?_;obtain⟨t,h,q⟩:=hbody cdv A outer s H vs Q E hr hsp;exact⟨t,h.nox,q⟩
theorem Fun.binds{x qual:Str}{st:vo}{f:vG}{fd:vN}{ps:List Str}(F:Fun K x qual st f fd)(h:∀(kV doc pm:vB)(an:Option vG)(cdv ct:vB)(us:List vB),us.length=ps.length->bindArgs (yz x qual (Ys st) (Yd st) (Z9 st) .none kV doc pm an cdv ct) ⟨us,[]⟩=pure (ps.zip us)):Binds K fd ps []:=by
 obtain⟨oc,od,kV,doc,pm,an,cdv,ct,osl,rfl,lk,hcd⟩:=F.ex;exact .all (h kV doc pm an cdv ct)
theorem qez{x qual:Str}{st:vo}{f:vG}{oc:vB}{od an:Option vG}{osl:Array (Option vB)}{kV doc pm cdv ct:vB}(l:K.lookup f=some ⟨oc,od,.func (yz x qual (Ys st) (Yd st) (Z9 st) .none kV doc pm an cdv ct),osl⟩)(c:xy K cdv qual=true)(k:xJ K (.ref f)=true):Fun K x qual st f (yz x qual (Ys st) (Yd st) (Z9 st) .none kV doc pm an cdv ct):=⟨⟨oc,od,kV,doc,pm,an,cdv,ct,osl,rfl,l,c⟩,k⟩
end
theorem Wl{n:Nat}(h:n<=1000):n<sizeLine:=wA h (by decide)
section
variable{X:Cx}
theorem pv(i:Nat){x:Str}{pos:Pos}(hN:X.N[i]?=some x:=by rfl)(hv:Vis X.env.scope x:=by first|exact Or.inl rfl|exact Or.inr (Or.inl rfl)|exact Or.inr (Or.inr rfl))(hd:(x==("__debug__" : Str))=false:=by decide)(hcd:(x==("__classdict__" : Str))=false:=by decide):PE X (.Name x pos) (Y7 i):=qfc hN hv hd hcd
end
def YM(H H':Hp):Prop:=∀b o,H b=some o->H' b=some o
theorem YM.refl(H:Hp):YM H H:=λ_ _ h=>h
theorem YM.trans{H H1 H2:Hp}(a:YM H H1)(b:YM H1 H2):YM H H2:=λc o h=>b c o (a c o h)
theorem YM.free{H H':Hp}(e:YM H H'){l:vG}(h:H' l=Z2):H l=Z2:=by
 cases q:H l with
 | none=>rfl
 | some o=>
  rw[e l o q]at h;cases h
theorem YM.seq{K:zA}{H H':Hp}{a:vG}{xs:List V}(e:YM H H')(h:SqL K H a xs):SqL K H' a xs:=by
 rcases h with (h|⟨o,h⟩)|h
 ·exact .inl (.inl (e _ _ h))
 ·exact .inl (.inr ⟨o,e _ _ h⟩)
 ·exact .inr h
end L2
namespace Hk
open PySem
def WI(xs:Array Nat):Prop:=xs.toList.Pairwise (· < ·)
theorem q3Q{l:List Nat}(h:l.Pairwise (· < ·)){i j:Nat}(hi:i<l.length)(hj:j<l.length)(hij:i<j):l[i]<l[j]:=yJ.mp h i j hi hj hij
theorem qbt{xs:Array Nat}{j:Nat}(h:WI xs):∀(fuel lo hi:Nat),lo<=hi->hi<=xs.size->hi-lo<=fuel->(∀k(z:k<xs.toList.length),k<lo->xs.toList[k]<j)->(∀k(z:k<xs.toList.length),hi<=k->j<=xs.toList[k]) ->
  SetTable.below.go xs j fuel lo hi<=xs.size/\(∀k(z:k<xs.toList.length),k<SetTable.below.go xs j fuel lo hi->xs.toList[k]<j)/\(∀k(z:k<xs.toList.length),SetTable.below.go xs j fuel lo hi<=k->j<=xs.toList[k]):=by
 intro fuel
 induction fuel with
 | zero=>
  intro lo hi h1 h2 h3 h4 h5;have e:lo=hi:=∅
  subst e;exact⟨h2,h4,h5⟩
 | succ n ih=>
  intro lo hi h1 h2 h3 h4 h5;unfold SetTable.below.go
  by_cases hl:lo<hi
  ·rw[vH hl]
   have hm:(lo+hi)/2<xs.toList.length:=by rw[zQ];omega
   have hg:xs.getD ((lo+hi)/2) j=xs.toList[(lo+hi)/2]:=by
    rw[Array.getD_eq_getD_getElem?,<- zX,zC hm];rfl
   by_cases hc:xs.getD ((lo+hi)/2) j<j
   ·simp only[hc,if_true]
    refine ih _ _ ∅ h2 ∅ (λk z hk=>?_) h5
    by_cases e:k=(lo+hi)/2
    ·subst e;rw[hg]at hc;exact hc
    ·have:=q3Q h z hm ∅
     rw[hg]at hc;omega
   ·simp only[hc,if_false]
    refine ih _ _ ∅ ∅ ∅ h4 (λk z hk=>?_)
    by_cases e:k=(lo+hi)/2
    ·subst e;rw[hg]at hc;omega
    ·have:=q3Q h hm z ∅
     rw[hg]at hc;omega
  ·rw[vJ hl]
   have e:lo=hi:=∅
   subst e;exact⟨h2,h4,h5⟩
theorem q6s{xs:Array Nat}(h:WI xs)(j:Nat):SetTable.below xs j<=xs.size/\(∀k(z:k<xs.toList.length),k<SetTable.below xs j->xs.toList[k]<j)/\(∀k(z:k<xs.toList.length),SetTable.below xs j<=k->j<=xs.toList[k]) :=
 qbt h xs.size 0 xs.size (yL _) (zN _) ∅ (λk z hk=>vM hk (xt _)) (λk z hk=>by rw[zQ]at z;omega)
theorem q3b{α:Type}(xs:Array α)(p:Nat)(x:α):(SetTable.insertAt xs p x).toList=xs.toList.take p++x::xs.toList.drop p:=by
 unfold SetTable.insertAt;simp[Array.toList_extract,xZ]
theorem q7z{xs:Array Nat}(h:WI xs){j:Nat}(hn:xs[SetTable.below xs j]?≠some j):WI (SetTable.insertAt xs (SetTable.below xs j) j):=by
 obtain⟨h1,h2,h3⟩:=q6s h j;unfold WI;rw[q3b,xK];have lt:∀y∈xs.toList.drop (SetTable.below xs j),j<y:=by
  intro y hy;obtain⟨k,hk,e⟩:=zm.mp hy;rw[z8]at hk;rw[List.getElem_drop]at e;have hb:SetTable.below xs j<xs.toList.length:=∅
  have hh:=h3 _ hb (zN _);have ne:xs.toList[SetTable.below xs j]≠j:=λz=>hn (by rw[<- zX,zC hb,z]);have hle:xs.toList[SetTable.below xs j]<=y:=by
   by_cases e0:k=0
   ·subst e0;rw[<- e];simp
   ·rw[<- e];exact yK (q3Q h hb ∅ ∅)
  omega
 refine⟨xj (ZQ _ _) h,zc.mpr ⟨lt,xj (List.drop_sublist _ _) h⟩,λa ha b hb=>?_⟩;have haj:a<j:=by
  obtain⟨k,hk,e⟩:=zm.mp ha;rw[zb]at hk;rw[ZR]at e;rw[<- e];exact h2 k ∅ ∅
 rcases zE.mp hb with rfl|hb
 ·exact haj
 ·exact ZS haj (lt b hb)
structure Tb (t:SetTable) (n:Nat):Prop where
 fits:t.fits n=true
 rise:WI t.place
 dum:t.dummies=#[]
theorem q69{t:SetTable}(hd:t.dummies=#[])(j:Nat):t.slot j≠.dummy:=by
 unfold SetTable.slot;rw[hd]
 dsimp only
 split
 ·exact λz=>nomatch z
 ·have:SetTable.has #[] j=false:=by simp[SetTable.has]
  rw[this];exact λz=>nomatch z
theorem q7n{t:SetTable}(hd:t.dummies=#[]){h:Int}:∀(fuel:Nat)(p:SetTable.Probe)(m:SetTable.Met),p.dummy=none->SetTable.probe.go t (λ_=>h+1) h fuel p=some m->∃j,m=.empty j none/\t.slot j=.empty:=by
 intro fuel
 induction fuel with
 | zero=>intro p m _ e;cases e
 | succ n ih=>
  intro p m hp e;unfold SetTable.probe.go at e;cases hs:t.slot p.j with
  | empty=>
   rw[hs]at e;cases e;exact⟨p.j,by rw[hp],hs⟩
  | dummy=>exact vM hs (q69 hd _)
  | live i=>
   rw[hs]at e;have hne:(h+1==h)=false:=by simp only[beq_eq_false_iff_ne,ne_eq];omega
   dsimp only at e
   rw[hne]at e;refine ih _ m ?_ e;unfold SetTable.advance
   split
   ·exact hp
   ·exact hp
theorem q7A{t:SetTable}(hd:t.dummies=#[]){h:Int}{slot:Nat}{b:Bool}(e:t.freeSlot h=some (slot,b)):b=false/\t.place[SetTable.below t.place slot]?≠some slot:=by
 unfold SetTable.freeSlot at e;cases q:t.probe (λ_=>h+1) h (t.probeStart h)with
 | none=>rw[q]at e;cases e
 | some m=>
  rw[q]at e;obtain⟨j,rfl,hs⟩:=q7n hd _ _ m (by rfl) q;cases e;refine⟨rfl,λz=>?_⟩;unfold SetTable.slot at hs
  dsimp only at hs
  have:(t.place[SetTable.below t.place j]?==some j)=true:=by
   rw[show t.place[SetTable.below t.place j]?=some j from z];simp
  rw[vH this]at hs;cases hs
theorem q9v(n:Nat):WI (Array.range n):=by
 unfold WI;rw[Array.toList_range];exact xa
theorem q1y(t:SetTable)(n:Nat):Tb (t.standIn n) n:=by
 refine⟨?_,q9v n,rfl⟩;unfold SetTable.fits SetTable.standIn SetTable.fill;simp;omega
theorem qfG{t:SetTable}{n:Nat}(h:WI t.place)(hd:t.dummies=#[]):Tb (t.orStandIn n) n:=by
 unfold SetTable.orStandIn
 by_cases z:t.fits n=true
 ·rw[vH z];exact⟨z,h,hd⟩
 ·rw[vJ z];exact q1y t n
theorem qfp(t:SetTable)(n:Nat):(t.orStandIn n).led=t.led:=by
 unfold SetTable.orStandIn
 split <;> rfl
theorem qap{t:SetTable}{es:Array (Int×vB)}{h:Int}{x:vB}(T:Tb t es.size):
  (layNew t es h x).2.2.1=false/\Tb (layNew t es h x).2.1 (layNew t es h x).1.size/\(layNew t es h x).2.1.led=t.led/\(layNew t es h x).1.toList.Perm ((h,x)::es.toList):=by
 unfold layNew;cases q:t.freeSlot h with
 | none=>
  refine⟨rfl,?_,rfl,?_⟩
  ·rw[wc];exact q1y t _
  ·rw[ZT]
   exact List.perm_append_singleton _ _
 | some p=>
  obtain⟨slot,b⟩:=p;obtain⟨rfl,hn⟩:=q7A T.dum q;have hd:(t.put slot).1.dummies=#[]:=by
   unfold SetTable.put
   dsimp only
   rw[T.dum];simp[SetTable.has]
  refine⟨rfl,qfG (q7z T.rise hn) hd,(qfp _ _).trans rfl,?_⟩;rw[q3b];refine Zj Zg ?_;rw[yV]
theorem q4f{α:Type}{f:α->Option α}(h:∀x y,f x=some y->y=x):∀l:List α,(l.filterMap f).Sublist l
 | []=>by simp
 | a::r=>by
  rw[xA];cases q:f a with
  | none=>exact(q4f h r).cons a
  | some b=>rw[h a b q];exact(q4f h r).cons_cons a
theorem q4H{α:Type}:∀l:List α,(yB l.length).filterMap (λi=>l[i]?)=l
 | []=>rfl
 | a::r=>by
  rw[zM,wR,xA];simp only[xD];rw[ZH];have e:((λi=>(a::r)[i]?) ∘ Nat.succ)=λi=>r[i]?:=by funext i;simp
  rw[e,q4H r]
theorem qec{mask finger moves:Nat}{led plain:Bool}{hs:Array Int}{t:SetTable}{o:Array Nat}(e:SetTable.laid mask finger moves led plain hs=some (t,o)):WI t.place/\t.dummies=#[]/\t.led=led:=by
 unfold SetTable.laid at e;cases q:SetTable.layClean mask hs with
 | none=>rw[q]at e;cases e
 | some owner=>
  rw[q]at e;cases e;refine⟨?_,rfl,rfl⟩;unfold WI
  dsimp only
  rw[List.map_filterMap];refine xj (q4f (λx y z=>?_) _) xa;cases q2:owner.getD x none with
  | none=>rw[q2]at z;cases z
  | some c=>rw[q2]at z;exact(zt z).symm
theorem qc7{t:SetTable}{es:Array (Int×vB)}(w:Nat):Tb (relayAll t es w).2.1 (relayAll t es w).1.size/\(relayAll t es w).2.1.led=t.led/\(relayAll t es w).1.toList.Perm es.toList:=by
 unfold relayAll;cases q:t.relaid (es.map (·.1)) w with
 | none=>exact⟨q1y t _,rfl,xL _⟩
 | some p=>
  obtain⟨t',order⟩:=p
  dsimp only
  obtain⟨h1,h2,h3⟩:=qec q
  by_cases z:(coversAll order es.size&&t'.fits (order.filterMap (es[·]?)).size)=true
  ·rw[vH z]
   rw[zr]at z;refine⟨⟨z.2,h1,h2⟩,h3,?_⟩;have hp:order.toList.Perm (yB es.size):=List.isPerm_iff.mp z.1;rw[Array.toList_filterMap];have e:(λ(i:Nat)=>es[i]?)=λ(i:Nat)=>es.toList[i]?:=by funext i;simp
   rw[e];have q2:=hp.filterMap λi=>es.toList[i]?;rw[<- zQ,q4H]at q2;exact q2
  ·rw[vJ z]
   exact⟨q1y t _,rfl,xL _⟩
end Hk
namespace Hk
open PySem PySem.Spec PyProof.Rows
noncomputable def vI:vB->Int
 | .int i _=>i
 | _=>0
def Xb(e:Int×vB):Prop:=∃x t,e=(t6 x,Value.int x t)
theorem q99{prog:vO}{w:vT}{l:List (Int×vB)}(h:∀e∈l,Xb e):ElemsOf (ul prog w) l:=λe he=>by
 obtain⟨x,t,rfl⟩:=h e he;exact⟨⟨x,intKind_is _ _ _ _,rfl⟩,rfl⟩
def Xs(h:vZ)(a:vG)(led:Bool)(xs:List Int):Prop:=∃o es ep t,h.get? a=some o/\o.ExactSet/\o.data=.set es ep t/\Tb t es.size/\t.led=led/\es.size<uR /\
 (∀e∈es.toList,Xb e)/\es.toList.map (λe=>vI e.2)=xs/\xs.Nodup
theorem Xs.len{h:vZ}{a:vG}{led:Bool}{xs:List Int}(S:Xs h a led xs):xs.length<uR:=by
 obtain⟨o,es,ep,t,_,_,_,_,_,z,_,e,_⟩:=S;rw[<- e,zB,zQ];exact z
theorem Xs.at{h h':vZ}{a:vG}{led:Bool}{xs:List Int}(S:Xs h a led xs)(k:∀o,h.get? a=some o->h'.get? a=some o):Xs h' a led xs:=by
 obtain⟨o,es,ep,t,e,r⟩:=S;exact⟨o,es,ep,t,k o e,r⟩
theorem q8p{prog:vO}{w:vT}{e:Int×vB}(h:Xb e)(x:Int):(ul prog w).is x e.2=decide (vI e.2=x):=by
 obtain⟨y,t,rfl⟩:=h;show Value.isInt x (.int y t)=decide (y=x)
 by_cases z:y=x
 ·subst z;simp[Value.isInt]
 ·simp[Value.isInt,z]
theorem qa4{prog:vO}{w:vT}{l:List (Int×vB)}(h:∀e∈l,Xb e){x:Int}(q:l.findIdx? (λe=>(ul prog w).is x e.2)=none):x∉l.map (λe=>vI e.2):=λz=>by
 obtain⟨e,he,ex⟩:=zR.mp z;have:=List.findIdx?_eq_none_iff.mp q e he;rw[q8p (h e he),ex]at this;simp at this
theorem qag{prog:vO}{w:vT}{l:List (Int×vB)}(h:∀e∈l,Xb e){x:Int}{j:Nat}(q:l.findIdx? (λe=>(ul prog w).is x e.2)=some j):x∈l.map (λe=>vI e.2):=by
 obtain⟨hj,hp,_⟩:=List.findIdx?_eq_some_iff_getElem.mp q;rw[q8p (h _ (ze hj))]at hp;exact zR.mpr ⟨_,ze hj,of_decide_eq_true hp⟩
section
variable{prog:vO}{w:vT}{A:vY}{E:vB->vC->Prop}{s:vC}
theorem q8M{h:vZ}{a:vG}{o:Obj}{es es':Array (Int×vB)}{ep:Nat}{t t':SetTable}{led:Bool}{xs:List Int}(go:h.get? a=some o)(gx:o.ExactSet)(gd:o.data=.set es ep t)(T:Tb t' es'.size)(gl:t'.led=led)(gb:es'.size<uR)(gg:∀e∈es'.toList,Xb e)(gv:es'.toList.map (λe=>vI e.2)=xs)(gn:xs.Nodup):
  (h.update a (Obj.putSet es' t')).get? a=some { o with data:=.set es' (ep+1) t' }/\Xs (h.update a (Obj.putSet es' t')) a led xs:=by
 have q:=ye (Obj.putSet es' t') go (by rw[putSet_of es' t' gd];rfl);rw[putSet_of es' t' gd]at q;exact⟨q,_,es',ep+1,t',q,gx,rfl,T,gl,gb,gg,gv,gn⟩
theorem q9I{g:Bool->Sem Unit}(gw:∀(b:Bool)(s1:vC)(Q':Unit->vC->Prop),Q' () s1->vL (model prog w) A (g b) Q' E s1){a:vG}{o:Obj}{es es1:Array (Int×vB)}{ep:Nat}{t t2:SetTable}{led:Bool}{xs:List Int}(go:s.heap.get? a=some o)(gx:o.ExactSet)(gd:o.data=.set es ep t)(T:Tb t2 es1.size)(gl:t2.led=led)(gb:es1.size<uR)(gg:∀e∈es1.toList,Xb e)(gv:es1.toList.map (λe=>vI e.2)=xs)(gn:xs.Nodup){dm:Bool}{R:Option Bool->vC->Prop}(k:∀h' ys,yy a s.heap h'->Xs h' a led ys->ys.Perm xs->R (some true) { s with heap:=h' }):
  vL (model prog w) A (do
    storeSet a es1 t2
    if (!dm&&t2.tooFull)=true then do
      g (relayAll t2 es1 (SetTable.grown es1.size)).2.2
      storeSet a (relayAll t2 es1 (SetTable.grown es1.size)).1 (relayAll t2 es1 (SetTable.grown es1.size)).2.1
      pure (some true)
     else pure (some true)) R E s:=by
 refine vA (wpAny_storeSet_of go gd ?_ (fits_of_scanBound gb));obtain⟨g1,S1⟩:=q8M go gx gd T gl gb gg gv gn;have sb:=wt s.heap a (Obj.putSet es1 t2)
 split
 ·obtain⟨T2,l2,p2⟩:=qc7 (t:=t2) (es:=es1) (SetTable.grown es1.size)
  generalize relayAll t2 es1 (SetTable.grown es1.size)=rl at T2 l2 p2 ⊢;obtain⟨es2,t3,gv2⟩:=rl
  dsimp only at T2 l2 p2 ⊢
  have hz:es2.size=es1.size:=by rw[<- zQ,p2.length_eq,zQ]
  have gb2:es2.size<uR:=by rw[hz];exact gb
  have pv:(es2.toList.map λe=>vI e.2).Perm xs:=by rw[<- gv];exact p2.map _
  refine vA (gw _ _ _ ?_);refine vA (wpAny_storeSet_of g1 rfl ?_ (fits_of_scanBound gb2));obtain⟨_,S2⟩:=q8M g1 gx rfl T2 (l2.trans gl) gb2 (λe he=>gg e (p2.mem_iff.mp he)) rfl (pv.nodup_iff.mpr gn);exact vF (k _ _ (sb.trans (wt _ a _)) S2 pv)
 ·exact vF (k _ _ sb S1 (xL _))
theorem qfC{a:vG}{led:Bool}{xs:List Int}{x:Int}{tk:Tok}{Q:Bool->vC->Prop}(S:Xs s.heap a led xs)(room:xs.length+1<uR)(k:∀b h' ys,yy a s.heap h'->Xs h' a led ys->(x∈xs->ys=xs)->(x∉xs->ys.Perm (x::xs))->Q b { s with heap:=h' }):
  vL (model prog w) A (setAddHashed a (.int x tk) (t6 x)) Q E s:=by
 obtain⟨o,es,ep,t,go,gx,gd,T,gl,gb,gg,gv,gn⟩:=id S;have hl:es.size=xs.length:=by rw[<- gv,zB,zQ]
 have el:ElemsOf (ul prog w) es.toList:=q99 gg;unfold setAddHashed setAddHashedIn;refine vc (vA (vk go gd T.fits ?_))
 dsimp only
 rw[byScan_of (knd:=ul prog w) (x:=.int x tk) rfl gb el];simp only[↓reduceIte];unfold setAddByScan;refine vA (vA (uI (vA (wpAny_setScan_of (knd:=ul prog w) (k:=x) (intKind_is _ _ _ _) go gd T.fits el ?_))));cases q:List.findIdx? (λe=>(ul prog w).is x e.2) es.toList with
 | some j=>
  dsimp only
  have hx:x∈xs:=by rw[<- gv];exact qag gg q
  refine vF (vF ?_);exact k false s.heap xs (ZU a s.heap) S (λ_=>rfl) λz=>vM hx z
 | none=>
  dsimp only
  have hx:x∉xs:=by rw[<- gv];exact qa4 gg q
  obtain⟨d0,T1,l1,p1⟩:=qap (t:=t) (es:=es) (h:=t6 x) (x:=.int x tk) T;generalize layNew t es (t6 x) (.int x tk)=ly at d0 T1 l1 p1 ⊢;obtain⟨es1,t1,dm,gave⟩:=ly
  dsimp only at d0 T1 l1 p1 ⊢
  have gg1:∀e∈es1.toList,Xb e:=λe he=>by
   rcases zE.mp (p1.mem_iff.mp he)with rfl|he
   ·exact⟨x,tk,rfl⟩
   ·exact gg e he
  have pv:(es1.toList.map λe=>vI e.2).Perm (x::xs):=by rw[<- gv];exact p1.map _
  have gn1:(es1.toList.map λe=>vI e.2).Nodup:=pv.nodup_iff.mpr (yO.mpr ⟨hx,gn⟩);have gb1:es1.size<uR:=by
   have:=pv.length_eq;rw[zB,zQ,zM]at this;omega
  have gw:∀(b:Bool)(s1:vC)(Q':Unit->vC->Prop),Q' () s1->vL (model prog w) A (match b with|true=>rule "set.scan.the-table-gave-way" | false=>pure ()) Q' E s1 :=
   λb s1 Q' z=>by cases b <;> first|exact vF z|exact uI z
  refine vA (gw _ _ _ ?_);have fin:∀h' ys,yy a s.heap h'->Xs h' a led ys->ys.Perm (es1.toList.map λe=>vI e.2)->Q true { s with heap:=h' }:=λh' ys sb S' p=>k true h' ys sb S' (λz=>vM z hx) λ_=>p.trans pv
  split
  ·refine vA ?_
   rw[hashByValue_scannable 8 (x:=Value.int x tk) rfl];refine vF ?_;refine q9I (λb s1 Q' z=>by cases b <;> first|exact vF z|exact uI z) go gx gd T1 (l1.trans gl) gb1 gg1 rfl gn1 λh' ys sb S' p=>?_;exact vF (fin h' ys sb S' p)
  ·refine vA (vF ?_)
   simp only[↓reduceIte];refine q9I (λb s1 Q' z=>by cases b <;> first|exact vF z|exact uI z) go gx gd T1 (l1.trans gl) gb1 gg1 rfl gn1 λh' ys sb S' p=>?_;exact vF (fin h' ys sb S' p)
end
def W3(h:vZ)(S:vG)(led:Bool)(val:Nat->Int)(m:Nat):Prop:=∃xs,Xs h S led xs/\xs.length<=m/\∀x,x∈xs↔∃i,i<m/\val i=x
theorem W3.at{h h':vZ}{a:vG}{led:Bool}{val:Nat->Int}{m:Nat}(S:W3 h a led val m)(k:∀o,h.get? a=some o->h'.get? a=some o):W3 h' a led val m:=by
 obtain⟨xs,q,r⟩:=S;exact⟨xs,q.at k,r⟩
section
variable{prog:vO}{w:vT}{A:vY}{R:tq->vC->Prop}{I:vG}{fp wr:List vG}{G:Array tX->Array tX->Prop}{n:Nat}{P:Nat->vB->Prop}{St:Nat->vC->Prop}
theorem zAJ(W:WalksS prog w A.in1 I fp wr G n P St)(S:vG)(hS:S∉fp){led:Bool}(val:Nat->Int)(hv:∀i v,P i v->∃t,v=.int (val i) t)(hb:n+1<uR):
  ∀(k i:Nat)(s:vC),n-i=k->i<=n->St i s->W3 s.heap S led val i->(∀s',Moved (S::wr) G s s'->W3 s'.heap S led val n->R (.ok (.ret .none)) s') ->
   uP (model prog w) A (.builtin "set.update.loop" ⟨[.ref S,.ref I],[]⟩) R s:=by
 have hw:S∉wr:=λz=>hS (W.sub _ z);have hsub:∀b∈wr,b∈S::wr:=λb z=>zJ _ z;intro k
 induction k with
 | zero=>
  intro i s hk hi st SV hR;have hin:i=n:=∅
  subst hin;refine v6 PyProof.Rows.F.entry_set_update_loop ?_;rw[Around.under_plainId PyProof.Rows.F.plain_set_update_loop _];show vL _ A.in1 (uF (.ref I) >>= _) _ _ s;refine vA (W.done s _ _ st λs' hm=>?_);show vL _ A.in1 (ret Value.none) _ _ s';exact vF (hR s' (hm.mono hsub) (SV.at λo e=>hm.heap S o hw e))
 | succ k ih=>
  intro i s hk hi st SV hR;have hlt:i<n:=∅
  refine v6 PyProof.Rows.F.entry_set_update_loop ?_;rw[Around.under_plainId PyProof.Rows.F.plain_set_update_loop _];show vL _ A.in1 (uF (.ref I) >>= _) _ _ s;refine vA (W.item i s _ _ hlt st λv s1 hP st1 hm=>?_);obtain⟨t,rfl⟩:=hv i v hP;obtain⟨xs,S1,hl,hx⟩:=SV.at (h':=s1.heap) λo e=>hm.heap S o hw e;show vL _ A.in1 (holding [Value.int (val i) t] (setAdd S (.int (val i) t)) >>= _) _ _ s1;refine vA (vc ?_);unfold setAdd;refine vc ?_;refine vA ((ul prog w).pyHash (k:=val i) (intKind_is _ _ _ _) ?_);refine qfC (s:={ s1 with toks:=s1.toks+1 }) (x:=val i) S1 ∅ λb h' ys sb S2 y1 y2=>?_;have SV2:W3 h' S led val (i+1):=by
   refine⟨ys,S2,?_,λx=>?_⟩
   ·by_cases z:val i∈xs
    ·rw[y1 z];omega
    ·rw[(y2 z).length_eq,zM];omega
   ·by_cases z:val i∈xs
    ·rw[y1 z,hx]
     refine⟨λ⟨j,h1,h2⟩=>⟨j,∅,h2⟩,λ⟨j,h1,h2⟩=>?_⟩
     by_cases e:j=i
     ·subst e;exact(hx x).mp (by rw[<- h2];exact z)
     ·exact⟨j,∅,h2⟩
    ·rw[(y2 z).mem_iff,zE,hx]
     refine⟨λh=>?_,λ⟨j,h1,h2⟩=>?_⟩
     ·rcases h with h|⟨j,h1,h2⟩
      ·exact⟨i,∅,h.symm⟩
      ·exact⟨j,∅,h2⟩
     ·by_cases e:j=i
      ·subst e;exact .inl h2.symm
      ·exact .inr ⟨j,∅,h2⟩
  refine vF ⟨uE PyProof.Rows.F.plain_set_update_loop _,ih (i+1) _ ∅ hlt (W.frame _ s1 _ _ st1 (y8 _) λb z o e=>?_) SV2 λs2 hm2 S3=>?_⟩
  ·rw[sb.2 b (λy:b=S=>hS (by rw[<- y];exact z))];exact e
  ·refine hR s2 (Moved.trans W.gtrans ((hm.mono hsub).then_heap (y8 _) λb o z e=>?_) hm2) S3
   rw[sb.2 b (λy:b=S=>z (by rw[y];exact zI))];exact e
end
noncomputable abbrev Ye(w:vT):Bool:=!w.params.followText "set-order"
section
variable{prog:vO}{w:vT}{A:vY}{E:vB->vC->Prop}{s:vC}
theorem qde(a:vB){Q1:vB->vC->Prop}(h:Q1 (.ref s.heap.objs.size) { s with heap:=s.heap.push { cls:=.type "set", data:=.set #[] 0 (.fresh 0 0 (Ye w)) } }):
  uP (model prog w) A (.call (.builtin "set.__new__") ⟨[.type "set", a],[]⟩) (wants Q1 E) s:=by
 refine codeAny_of_tree ?_;show vL _ A.in1 (checkBuiltinCall "set.__new__" ⟨[.type "set", a],[]⟩ >>= λ_=>again (.builtin "set.__new__" ⟨[.type "set", a],[]⟩)) _ _ s;refine vA (tz (PySem.F.newCall_set_1 a) (vF ⟨uE PySem.F.plain_set_new _,v6 PySem.F.entry_set_new ?_⟩));rw[Around.under_plainId PySem.F.plain_set_new _];unfold Builtin.«set.__new__» Builtin.Frozenset.newClass;have p1:=sub_set_self;obtain⟨hp,g,d,tk,os⟩:=s
 dsimp only
 wp_walk
 refine u5 (vF ?_)
 dsimp only
 simp only[newObj];refine vA (wpAny_alloc (vF ?_));exact vF h
set_option maxHeartbeats 3200000 in
theorem q7v{l:vG}{items:Array vB}{ns:List Int}{Q:vB->vC->Prop}(hh:A.handled=none)(il:s.heap.IsList l items)(ia:v5 items.toList ns)(hb:items.size+1<uR)(k:∀(h':vZ)(tk:Nat),W3 h' s.heap.objs.size (Ye w) (λi=>ns.getD i 0) items.size->(∀b o,b<s.heap.objs.size->s.heap.get? b=some o->h'.get? b=some o)->Q (.ref s.heap.objs.size) { s with heap:=h',toks:=tk }):
  vL (model prog w) A (call (.type "set") [.ref l]) Q E s:=by
 obtain⟨c,tl,c1⟩:=PySem.F.called_set.mro;have c2:=PySem.F.called_set.made;have c3:=PySem.F.called_set.sub;refine wpAny_call (codeAny_of_tree ?_);show vL _ _ (callAny (.type "set") _) _ _ _;refine vF ⟨Code.quiet_builtin _ ⋯,v6 PySem.F.entry_type_call ?_⟩;rw[Around.under_plain (weight_type_call_type "set" [.ref l] []) rfl];have c4:=PySem.F.called_set.notType;have c5:=PySem.F.called_set.canCreate;have c6:=PySem.F.typeCall_set_1 (.ref l)
 repeat (any_goals (first|assumption|wp_step))
 refine uQ (qde (.ref l) (E:=E) (Q1:=λobj s1=>obj=.ref s.heap.objs.size/\s1={ s with heap:=s.heap.push { cls:=.type "set", data:=.set #[] 0 (.fresh 0 0 (Ye w)) } }) ⟨rfl,rfl⟩) λr s1 hr=>?_;cases r with
 | error e=>exact hr
 | ok fl=>
  cases fl with
  | ret obj=>
   obtain⟨rfl,rfl⟩:=hr;have hS:(s.heap.push { cls:=.type "set", data:=.set #[] 0 (.fresh 0 0 (Ye w)) }).get? s.heap.objs.size=some { cls:=.type "set", data:=.set #[] 0 (.fresh 0 0 (Ye w)) }:=zS _ rfl;have hT:Shared.TypeIs { s with heap:=s.heap.push { cls:=.type "set", data:=.set #[] 0 (.fresh 0 0 (Ye w)) } } (.ref s.heap.objs.size) "set" := ⟨_,hS,rfl⟩;have c7:=PySem.F.called_set.init.lookup;have c8:=PySem.F.called_set.init.bind (.ref s.heap.objs.size)
   repeat (any_goals (first|assumption|wp_step))
   refine uQ (codeAny_call_builtin (R:=wants (λr s2=>r=.none/\∃h' tk,s2={ s with heap:=h',toks:=tk }/\W3 h' s.heap.objs.size (Ye w) (λi=>ns.getD i 0) items.size /\
     (∀b o,b<s.heap.objs.size->s.heap.get? b=some o->h'.get? b=some o)) E) PySem.F.called_set.init.plain PySem.F.entry_set_init (check_set_init_1 hT ?_)) λr2 s2 hr2=>?_
   ·obtain⟨ol,e1,e2,nl,e3⟩:=il
    obtain⟨ocls,odict,odata,oslots⟩:=ol;simp only at e2 e3;subst e2;subst e3;have e1':(s.heap.push { cls:=.type "set", data:=.set #[] 0 (.fresh 0 0 (Ye w)) }).get? l=some { cls:=.type "list", dict:=odict,data:=.seq items nl,slots:=oslots }:=zD _ e1;have d1:=PySem.F.sub_list_set;have d2:=PySem.F.sub_list_frozenset;have d3:(Value.type "list" == Value.type "dict")=false:=by decide
    have il1:(s.heap.push { cls:=.type "set", data:=.set #[] 0 (.fresh 0 0 (Ye w)) }).IsList l items:=⟨_,e1',rfl,nl,rfl⟩;unfold Builtin.«set.__init__» noKeywords Builtin.Frozenset.updateFrom;generalize hPI:t9=PI
    wp_walk
    subst hPI;refine uV il1 ?_;refine vA (wpAny_runValue ?_);have lS:l<s.heap.objs.size:=zP e1;have h3:A.in1.in1.in1.handled=none:=by simp[hh]
    have nI:l≠(s.heap.push { cls:=.type "set", data:=.set #[] 0 (.fresh 0 0 (Ye w)) }).objs.size:=by rw[yP];exact zi (yD lS)
    have nS:s.heap.objs.size∉[(s.heap.push { cls:=.type "set", data:=.set #[] 0 (.fresh 0 0 (Ye w)) }).objs.size,l]:=by
     rw[yP];simp only[zE,zL,zY,or_false,not_or];exact⟨zi (yU _),xO lS⟩
    have hv:∀(i:Nat)(v:vB),items[i]?=some v->∃t,v=.int ((λi=>ns.getD i 0) i) t:=λi v z=>IntsAre.int_at ia i v (by rw[zX];exact z);refine zAJ ((Walks.list h3 _ l nI items).toS) s.heap.objs.size nS (led:=Ye w) (λi=>ns.getD i 0) hv hb (items.size-0) 0 _ ∅ (yL _) ⟨⟨_,zS _ rfl,rfl,rfl⟩,(il1.push _)⟩ ?S0 ?RR
    case S0=>
     refine⟨[],⟨_,#[],0,.fresh 0 0 (Ye w),zD _ hS,⟨rfl,rfl,rfl⟩,rfl,⟨rfl,xY,rfl⟩,rfl,by show 0<uR;decide,λe z=>by simp at z,rfl,xb⟩,zN _,λx=>⟨λz=>(by cases z),λ⟨i,z,_⟩=>vM z (xt _)⟩⟩
    case RR=>
     intro s' hm S';obtain⟨h',g',d',tk',os'⟩:=s';have eg:g'=s.gens:=hm.gens;have ed:d'=s.drawn:=hm.drawn;have eos:os'=s.os:=hm.os;subst eg;subst ed;subst eos;show vL _ _ _ _ _ _;refine vF ?_;show vL _ _ (ret Value.none) _ _ _;refine vF ⟨rfl,h',tk',rfl,S',λb o z y=>?_⟩;refine hm.heap b o ?_ (zD _ (zD _ y));simp only[zE,zL,zY,or_false,not_or];exact⟨zi z,by rw[yP];exact zi (yD z)⟩
   ·cases r2 with
    | error e=>exact hr2
    | ok fl2=>
     cases fl2 with
     | ret r=>
      obtain⟨rfl,h',tk,rfl,S',kp⟩:=hr2
      repeat (any_goals (first|assumption|wp_step))
      exact k _ _ S' kp
     | next=>exact hr2.elim
     | brk=>exact hr2.elim
     | cont=>exact hr2.elim
  | next=>exact hr.elim
  | brk=>exact hr.elim
  | cont=>exact hr.elim
end
end Hk
namespace PySem.F
theorem slotSetNext:Slot "set_iterator" "__next__" "set_iterator.__next__" := .of (owner := "set_iterator") (n := "__next__") (by rw[uM,v3];kernel_rfl) ⋯ ⋯ ⋯ (by first|exact .inl ⋯|exact .inr ⋯) (by rw[ur];kernel_rfl)
theorem slotSetIt:Slot "set_iterator" "__iter__" "set_iterator.__iter__" := .of (owner := "set_iterator") (n := "__iter__") (by rw[uM,v3];kernel_rfl) ⋯ ⋯ ⋯ (by first|exact .inl ⋯|exact .inr ⋯) (by rw[ur];kernel_rfl)
theorem X2:Manifest.owners.lookup (String.ofList ['r','o','t','a','r','e','t','i','_','t','e','s'].reverse)=some Manifest.sig_set_iterator:=by kernel_rfl
theorem argsSetNext(a:vB):sA "set_iterator.__next__" ⟨[a],[]⟩:=by
 unfold sA;rw[signature?_of (id := "set_iterator.__next__") (n:=['_','_','t','x','e','n','_','_']) (o:=['r','o','t','a','r','e','t','i','_','t','e','s']) (by kernel_rfl) X2]
 kernel_rfl
theorem argsSetIt(a:vB):sA "set_iterator.__iter__" ⟨[a],[]⟩:=by
 unfold sA;rw[signature?_of (id := "set_iterator.__iter__") (n:=['_','_','r','e','t','i','_','_']) (o:=['r','o','t','a','r','e','t','i','_','t','e','s']) (by kernel_rfl) X2]
 kernel_rfl
theorem entSetNext:entryFor table "set_iterator.__next__" = some Builtin.«set_iterator.__next__»:=entryFor_of_tree (by kernel_rfl)
theorem entSetIter:entryFor table "set.__iter__" = some Builtin.«frozenset.__iter__»:=entryFor_alias (id' := "frozenset.__iter__") (by kernel_rfl) rfl ⋯ (by kernel_rfl)
theorem entSetIt:entryFor table "set_iterator.__iter__" = some Builtin.«dict_keyiterator.__iter__»:=entryFor_alias (id' := "dict_keyiterator.__iter__") (by kernel_rfl) rfl ⋯ (by kernel_rfl)
end PySem.F
namespace Hk
open PySem PySem.Spec PyProof.Rows
section
variable{prog:vO}{w:vT}{A:vY}{E:vB->vC->Prop}{s:vC}
theorem q37{α:Type}:∀(l:List α)(k:Nat)(h:k<l.length),(l[k]::l.eraseIdx k).Perm l
 | a::r,0,_=>xL _
 | a::r,k+1,h=>by
  have h':k<r.length:=by simpa using h
  show (r[k]::a::r.eraseIdx k).Perm (a::r);exact(List.Perm.swap a r[k] _).trans ((q37 r k h').cons a)
theorem q7Y{α:Type}(next:Nat->Nat):∀(fuel k:Nat)(left:List α)(out:Array α),left.length=fuel->(pickOrder.go next fuel k left out).toList.Perm (out.toList++left)
 | 0,k,left,out,h=>by
  have e:left=[]:=yj h;subst e;unfold pickOrder.go;rw[z5]
 | fuel+1,k,left,out,h=>by
  unfold pickOrder.go;have hlt:next k%left.length<left.length:=Nat.mod_lt _ ∅
  rw[zC hlt]
  dsimp only
  refine(q7Y next fuel (k+1) _ _ (by rw[wB hlt,h];rfl)).trans ?_;rw[ZT,yE];exact List.Perm.append_left _ (q37 left _ hlt)
theorem qbl{α:Type}(next:Nat->Nat)(xs:Array α):(uf next xs).toList.Perm xs.toList:=by
 have:=q7Y next xs.size 0 xs.toList #[] (by simp)
 simpa [uf]using this
theorem q9P{M:Model}{src:Source}{n:Nat}{Q:Nat->vC->Prop}(hn:n≠0)(h:Q (M.w.draws src (s.drawn.get src)%n) { s with drawn:=s.drawn.bump src }):vL M A (choose src n) Q E s:=λ_ _ _=>⟨hn,h⟩
theorem q3B{M:Model}{α:Type}:∀(n:Nat)(xs:List α)(s:vC)(Q:List α->vC->Prop),xs.length=n->(∀ys d,ys.Perm xs->Q ys { s with drawn:=d })->vL M A (drawOrder n xs) Q E s
 | 0,xs,s,Q,hl,h=>by
  have e:xs=[]:=yj hl;subst e;exact vF (h [] s.drawn (xL _))
 | n+1,[],s,Q,hl,h=>by cases hl
 | n+1,x::r,s,Q,hl,h=>by
  unfold drawOrder;refine vA (q9P (by simp) ?_);generalize hk:M.w.draws Source.order (s.drawn.get Source.order)%(x::r).length=k;have hlt:k<(x::r).length:=by rw[<- hk];exact Nat.mod_lt _ (by simp)
  rw[zC hlt]
  dsimp only
  have hl2:((x::r).eraseIdx k).length=n:=by rw[wB hlt,hl];rfl
  refine vA (q3B n _ _ _ hl2 λys d p=>vF (h _ d ?_));refine Zj (p.cons _) ?_;exact q37 _ k hlt
end
noncomputable abbrev Yx(f:vB)(i:Nat)(a:vG)(n ep:Nat):Obj:={ cls:=.type "set_iterator", data:=.fields #[f,.int i 0,.ref a,.int n 0,.int ep 0] }
section
variable{prog:vO}{w:vT}{A:vY}{E:vB->vC->Prop}{s:vC}
theorem q0F{a:vG}{o:Obj}{es:Array (Int×vB)}{ep:Nat}{t:SetTable}{Q:Array (Int×vB)->vC->Prop}(go:s.heap.get? a=some o)(gd:o.data=.set es ep t)(gf:t.fits es.size=true)(h:Q es s):vL (model prog w) A (setEntries a) Q E s:=by
 unfold setEntries;exact vA (vk go gd gf (vF h))
theorem qaW{it a:vG}{slot i n ep:Nat}{o:Obj}{es:Array (Int×vB)}{t:SetTable}{x:vB}{nxt:Nat}{Q:Option vB->vC->Prop}(e:s.heap.get? it=some (Yx (.int slot 0) i a n ep))(go:s.heap.get? a=some o)(gd:o.data=.set es ep t)(gf:t.fits es.size=true)(hn:es.size=n)(hnext:∀A' Q' E',Q' (some (x,nxt)) s->vL (model prog w) A' (uo a slot i ep) Q' E' s)(k:∀h',h'.get? it=some (Yx (.int nxt 0) (i+1) a n ep)->yy it s.heap h'->Q (some x) { s with heap:=h' }):
  vL (model prog w) A (uF (.ref it)) Q E s:=by
 have hT:s.TypeIs (.ref it) "set_iterator" := ⟨_,e,rfl⟩;unfold uF;refine vA (uO (wpAny_callSpecial?_slot (name:=Str.ofString "__next__") hT F.slotSetNext (vi F.slotSetNext hT F.entSetNext ?_ (F.argsSetNext _))));unfold Builtin.«set_iterator.__next__»;refine vA (m:=tZ "__next__" 0 ⟨[.ref it],[]⟩) (vF ?_);refine vA (ut e rfl ?_)
 dsimp only
 refine vA (q0F go gd gf ?_);rw[vJ (by rw[hn];simp)];simp only[yk];refine vA (hnext _ _ _ ?_)
 dsimp only
 refine vA (v4 e (by simp) λh1 e1 sb1=>?_);refine vA (v4 (s:={ s with heap:=h1 }) e1 (by simp) λh2 e2 sb2=>?_);refine vF ⟨_,rfl,vF (k h2 ?_ (sb1.trans sb2))⟩;rw[e2];simp[uH]
theorem qbo{it a:vG}{slot i n ep:Nat}{o:Obj}{es:Array (Int×vB)}{t:SetTable}{Q:Option vB->vC->Prop}(hh:A.handled=none)(e:s.heap.get? it=some (Yx (.int slot 0) i a n ep))(go:s.heap.get? a=some o)(gd:o.data=.set es ep t)(gf:t.fits es.size=true)(hn:es.size=n)(hnext:∀A' Q' E',Q' none s->vL (model prog w) A' (uo a slot i ep) Q' E' s)(k:∀h',Heap.ExtBut it s.heap h'->Q none { s with heap:=h' }):
  vL (model prog w) A (uF (.ref it)) Q E s:=by
 have hT:s.TypeIs (.ref it) "set_iterator" := ⟨_,e,rfl⟩;unfold uF;refine vA (uO (wpAny_callSpecial?_slot (name:=Str.ofString "__next__") hT F.slotSetNext (vi F.slotSetNext hT F.entSetNext ?_ (F.argsSetNext _))));unfold Builtin.«set_iterator.__next__»;refine vA (m:=tZ "__next__" 0 ⟨[.ref it],[]⟩) (vF ?_);refine vA (ut e rfl ?_)
 dsimp only
 refine vA (q0F go gd gf ?_);rw[vJ (by rw[hn];simp)];simp only[yk];refine vA (hnext _ _ _ ?_)
 dsimp only
 refine vA (v4 e (by simp) λh1 e1 sb1=>?_);show vL _ _ (newExc (.type "StopIteration") [] >>= λx=>sB x) _ _ _;refine vA ?_;simp only[newExc,newTuple];refine vA (ve ?_ (by size_fits));refine vA (m:=uu _ _) (tz (a:=Value.none) (by first|rfl|(simp only[uu];rfl)) ?_);refine ve ?_ (by size_fits);simp only[sB];refine vA (wpAny_handled ?_);rw[show A.in1.handled=none from hh];refine vA (vF (wpAny_throw ?_));refine vA (uS (T := "StopIteration") (b:=true) ⟨_,zS _ rfl,rfl⟩ uv ?_);exact vF (k _ ((sb1.extBut.push _).push _))
end
section
variable{prog:vO}{w:vT}{A:vY}{E:vB->vC->Prop}{s:vC}
theorem q2e{Q:Bool->vC->Prop}(h:Q (w.params.followText "set-order") s):vL (model prog w) A setsByText Q E s:=by
 unfold setsByText;exact vA (u5 (vF h))
theorem q4z{a:vG}{o:Obj}{es:Array (Int×vB)}{ep:Nat}{t:SetTable}{slot i:Nat}{r:Option (vB×Nat)}{Q:Option (vB×Nat)->vC->Prop}(go:s.heap.get? a=some o)(gd:o.data=.set es ep t)(gf:t.fits es.size=true)(hB:w.params.followText "set-order" = false)(hl:t.led=true)(hd:(!t.plain&&decide (es.size>1))=false)(hr:(match es[SetTable.below t.place slot]?,t.place[SetTable.below t.place slot]? with|some (_,x),some j=>some (x,j+1)|_,_=>none)=r)(h:Q r s):vL (model prog w) A (uo a slot i ep) Q E s:=by
 unfold uo;refine vA (vk go gd gf ?_)
 dsimp only
 refine vA (q2e ?_);rw[hB];refine vg (λz=>vM z (by decide)) (λ_=>?_);refine vg (λz=>vM ((show (!t.plain&&decide (es.size>1))=true from z).symm.trans hd) (by decide)) (λ_=>?_);refine vA ?_;refine vg (λz=>?_) (λ_=>?_)
 ·have z':(!t.led && !es.isEmpty)=true:=z
  rw[hl]at z';exact vM z' (by simp)
 ·refine vF ?_
  refine vF ?_;rw[<- hr]at h;exact h
theorem qae{a:vG}{o:Obj}{es:Array (Int×vB)}{ep:Nat}{t:SetTable}{Q:Array (Int×vB)->vC->Prop}(go:s.heap.get? a=some o)(gd:o.data=.set es ep t)(gf:t.fits es.size=true)(hB:w.params.followText "set-order" = true)(h:Q (uf (w.params.setOrder a ep) es) s):vL (model prog w) A (setWalk a) Q E s:=by
 unfold setWalk;refine vA (vk go gd gf ?_)
 dsimp only
 refine vA (q2e ?_);rw[hB];refine vg (λ_=>?_) (λz=>vM rfl z);exact vA (u5 (vF h))
theorem q5q{a:vG}{o:Obj}{es:Array (Int×vB)}{ep:Nat}{t:SetTable}{slot i:Nat}{Q:Option (vB×Nat)->vC->Prop}(go:s.heap.get? a=some o)(gd:o.data=.set es ep t)(gf:t.fits es.size=true)(hB:w.params.followText "set-order" = true)(h:Q (((uf (w.params.setOrder a ep) es)[i]?).map λe=>(e.2,slot)) s):vL (model prog w) A (uo a slot i ep) Q E s:=by
 unfold uo;refine vA (vk go gd gf ?_)
 dsimp only
 refine vA (q2e ?_);rw[hB];refine vg (λ_=>?_) (λz=>vM rfl z);refine vg (λz=>vM z (by simp)) (λ_=>?_);exact vA (qae go gd gf hB (vF h))
theorem q8a{it:vG}{f:vB}{i:Nat}{a:vG}{n ep:Nat}{Q:vB->vC->Prop}(e:s.heap.get? it=some (Yx f i a n ep))(h:Q (.ref it) s):vL (model prog w) A (t9 (.ref it)) Q E s:=by
 have hT:s.TypeIs (.ref it) "set_iterator" := ⟨_,e,rfl⟩;refine wpAny_pyIter_slot hT F.slotSetIt (vi F.slotSetIt hT F.entSetIt ?_ (F.argsSetIt _));show vL _ _ (ret (.ref it)) _ _ s;exact vF ⟨_,rfl, "set_iterator", _,hT,F.slotSetNext.lookup,h⟩
theorem q9h(hh:A.handled=none){I a:vG}(hne:a≠I){o:Obj}{es:Array (Int×vB)}{ep:Nat}{t:SetTable}(gd:o.data=.set es ep t)(gf:t.fits es.size=true)(slot:Nat->Nat)(val:Nat->vB)(hn:∀(i:Nat)(s:vC),i<es.size->s.heap.get? a=some o->∀A' Q' E',Q' (some (val i,slot (i+1))) s->vL (model prog w) A' (uo a (slot i) i ep) Q' E' s)(hz:∀(s:vC),s.heap.get? a=some o->∀A' Q' E',Q' none s->vL (model prog w) A' (uo a (slot es.size) es.size ep) Q' E' s):
  Walks prog w A I [I,a] [I] es.size (λi v=>v=val i) (λi h=>h.get? I=some (Yx (.int (slot i) 0) i a es.size ep)/\h.get? a=some o) where
 sub:=λb hb=>by simp at hb;simp[hb]
 frame:=λ_ _ _ st hk=>⟨hk I (by simp) _ st.1,hk a (by simp) _ st.2⟩
 item:=λi s Q E hi st hQ=>by
  refine qaW st.1 st.2 gd gf rfl (hn i s hi st.2) λh' e' sb=>?_;exact hQ _ h' s.toks rfl ⟨e',sb.extBut a o hne st.2⟩ λb u hb e=>sb.extBut b u (λz=>hb (by simp[z])) e
 done:=λs Q E st hQ=>qbo hh st.1 st.2 gd gf rfl (hz s st.2) λh' eb=>hQ h' s.toks λb u hb e=>eb b u (λz=>hb (by simp[z])) e
 self:=λ_ _ _ _ st hQ=>q8a st.1 hQ
theorem q9f{it a tp:vG}{i n ep p:Nat}{o:Obj}{es:Array (Int×vB)}{t:SetTable}{x:Int×vB}{ps:Array vB}{ot:Obj}{nt:Nat}{Q:Option vB->vC->Prop}(e:s.heap.get? it=some (Yx (.ref tp) i a n ep))(go:s.heap.get? a=some o)(gd:o.data=.set es ep t)(gf:t.fits es.size=true)(hn:es.size=n)(gt:s.heap.get? tp=some ot)(gtd:ot.data=.seq ps nt)(hp:ps[i]?=some (.int p 0))(hx:es[p]?=some x)(k:∀h',h'.get? it=some (Yx (.ref tp) (i+1) a n ep)->yy it s.heap h'->Q (some x.2) { s with heap:=h' }):
  vL (model prog w) A (uF (.ref it)) Q E s:=by
 have hT:s.TypeIs (.ref it) "set_iterator" := ⟨_,e,rfl⟩;unfold uF;refine vA (uO (wpAny_callSpecial?_slot (name:=Str.ofString "__next__") hT F.slotSetNext (vi F.slotSetNext hT F.entSetNext ?_ (F.argsSetNext _))));unfold Builtin.«set_iterator.__next__»;refine vA (m:=tZ "__next__" 0 ⟨[.ref it],[]⟩) (vF ?_);refine vA (ut e rfl ?_)
 dsimp only
 refine vA (q0F go gd gf ?_);rw[vJ (by rw[hn];simp)];refine vA (uY gt gtd ?_)
 dsimp only
 simp only[yk];rw[hp]
 dsimp only
 unfold setNextDrawn;refine vA (vA (vk go gd gf ?_))
 dsimp only
 refine vg (λz=>vM z (by simp)) (λ_=>?_);simp only[yk];rw[hx];refine vF ?_;refine vA (v4 e (by simp) λh1 e1 sb1=>?_);refine vF ⟨_,rfl,vF (k h1 ?_ sb1)⟩;rw[e1];simp[uH]
theorem q9B{it a tp:vG}{i n ep:Nat}{o:Obj}{es:Array (Int×vB)}{t:SetTable}{ps:Array vB}{ot:Obj}{nt:Nat}{Q:Option vB->vC->Prop}(hh:A.handled=none)(e:s.heap.get? it=some (Yx (.ref tp) i a n ep))(go:s.heap.get? a=some o)(gd:o.data=.set es ep t)(gf:t.fits es.size=true)(hn:es.size=n)(gt:s.heap.get? tp=some ot)(gtd:ot.data=.seq ps nt)(hp:ps[i]?=none)(k:∀h',Heap.ExtBut it s.heap h'->Q none { s with heap:=h' }):
  vL (model prog w) A (uF (.ref it)) Q E s:=by
 have hT:s.TypeIs (.ref it) "set_iterator" := ⟨_,e,rfl⟩;unfold uF;refine vA (uO (wpAny_callSpecial?_slot (name:=Str.ofString "__next__") hT F.slotSetNext (vi F.slotSetNext hT F.entSetNext ?_ (F.argsSetNext _))));unfold Builtin.«set_iterator.__next__»;refine vA (m:=tZ "__next__" 0 ⟨[.ref it],[]⟩) (vF ?_);refine vA (ut e rfl ?_)
 dsimp only
 refine vA (q0F go gd gf ?_);rw[vJ (by rw[hn];simp)];refine vA (uY gt gtd ?_)
 dsimp only
 simp only[yk];rw[hp]
 dsimp only
 refine vA (v4 e (by simp) λh1 e1 sb1=>?_);refine vA (v4 (s:={ s with heap:=h1 }) e1 (by simp) λh2 e2 sb2=>?_);show vL _ _ (newExc (.type "StopIteration") [] >>= λx=>sB x) _ _ _;refine vA ?_;simp only[newExc,newTuple];refine vA (ve ?_ (by size_fits));refine vA (m:=uu _ _) (tz (a:=Value.none) (by first|rfl|(simp only[uu];rfl)) ?_);refine ve ?_ (by size_fits);simp only[sB];refine vA (wpAny_handled ?_);rw[show A.in1.handled=none from hh];refine vA (vF (wpAny_throw ?_));refine vA (uS (T := "StopIteration") (b:=true) ⟨_,zS _ rfl,rfl⟩ uv ?_);exact vF (k _ (((sb1.trans sb2).extBut.push _).push _))
theorem q7E(hh:A.handled=none){I a tp:vG}(hne:a≠I)(htp:tp≠I){o:Obj}{es:Array (Int×vB)}{ep:Nat}{t:SetTable}(gd:o.data=.set es ep t)(gf:t.fits es.size=true){ot:Obj}{nt:Nat}(ord:List Nat)(hp:ord.Perm (yB es.size))(gtd:ot.data=.seq (ord.map λ(i:Nat)=>uH i).toArray nt):
  Walks prog w A I [I,a,tp] [I] es.size (λi v=>∃p x,ord[i]?=some p/\es[p]?=some x/\v=x.2) (λi h=>h.get? I=some (Yx (.ref tp) i a es.size ep)/\h.get? a=some o/\h.get? tp=some ot) where
 sub:=λb hb=>by simp at hb;simp[hb]
 frame:=λ_ _ _ st hk=>⟨hk I (by simp) _ st.1,hk a (by simp) _ st.2.1,hk tp (by simp) _ st.2.2⟩
 item:=λi s Q E hi st hQ=>by
  have hl:ord.length=es.size:=by rw[hp.length_eq,z7]
  have ho:ord[i]?=some (ord[i]'∅):=zC _;have hlt:ord[i]'∅<es.size:=yF.mp (hp.mem_iff.mp (ze _));refine q9f (p:=ord[i]'∅) (x:=es[ord[i]'∅]) st.1 st.2.1 gd gf rfl st.2.2 gtd (by simp[uH,ho]) (by simp[hlt]) λh' e' sb=>?_;exact hQ _ h' s.toks ⟨_,_,ho,by simp[hlt],rfl⟩ ⟨e',sb.extBut a o hne st.2.1,sb.extBut tp ot htp st.2.2⟩ λb u hb e=>sb.extBut b u (λz=>hb (by simp[z])) e
 done:=λs Q E st hQ=>q9B hh st.1 st.2.1 gd gf rfl st.2.2 gtd (by simp[hp.length_eq]) λh' eb=>hQ h' s.toks λb u hb e=>eb b u (λz=>hb (by simp[z])) e
 self:=λ_ _ _ _ st hQ=>q8a st.1 hQ
end
end Hk
namespace PySem.F
theorem slotSetLen:u9 (.type "set") "__len__" = pure (some (.builtin "set.__len__")):=by rw[uM,v3];kernel_rfl
theorem slotSetIter:Slot "set" "__iter__" "set.__iter__" := .of (owner := "set") (n := "__iter__") (by rw[uM,v3];kernel_rfl) ⋯ ⋯ ⋯ (by first|exact .inl ⋯|exact .inr ⋯) (by rw[ur];kernel_rfl)
theorem argsSetIter(a:vB):sA "set.__iter__" ⟨[a],[]⟩:=by
 unfold sA;kernel_rfl
end PySem.F
namespace Hk
open PySem PySem.Spec PyProof.Rows
noncomputable def slotAt(xs:Array Nat):Nat->Nat
 | 0=>0
 | i+1=>xs.toList.getD i 0+1
theorem q4F{xs:Array Nat}(h:WI xs):∀i,i<=xs.size->SetTable.below xs (slotAt xs i)=i:=by
 intro i hi;obtain⟨h1,h2,h3⟩:=q6s h (slotAt xs i);have hz:xs.toList.length=xs.size:=zQ;cases i with
 | zero=>
  rcases ZI (SetTable.below xs (slotAt xs 0))with z|z
  ·exact z
  ·exact vM (h2 0 ∅ z) (xt _)
 | succ i=>
  have hlt:i<xs.toList.length:=∅
  have e:slotAt xs (i+1)=xs.toList[i]+1:=by
   show xs.toList.getD i 0+1=_;rw[zj,zC hlt];rfl
  rw[e]at h2 h3 h1 ⊢;generalize SetTable.below xs (xs.toList[i]+1)=b at h1 h2 h3 ⊢;have a1:i<b:=by
   rcases zu i b with z|z
   ·exact z
   ·have:=h3 i hlt z;omega
  have a2:b<=i+1:=by
   rcases zu (i+1) b with z|z
   ·have y:=h2 (i+1) ∅ z
    have y':=q3Q h hlt (show i+1<xs.toList.length by omega) (yU i);omega
   ·exact z
  omega
theorem qaT{val:Nat->vB}{n:Nat}{acc:Array vB}(h:ItemsOf (λi v=>v=val i) acc n):acc.toList=(yB n).map val:=by
 apply yl;intro i;rw[zX,zW];rcases zu i n with z|z
 ·rw[yo z]
  have hz:i<acc.size:=by rw[h.1];exact z
  have:acc[i]?=some acc[i]:=zw hz;rw[this,h.2 i _ this];rfl
 ·rw[zo (by rw[z7];exact z),yb (by rw[h.1];exact z)];rfl
theorem q5C:∀{l:List (Int×vB)},(∀e∈l,Xb e)->v5 (l.map (·.2)) (l.map λe=>vI e.2)
 | [],_=>.nil
 | e::r,h=>by
  obtain⟨x,t,rfl⟩:=h e zI;exact .cons _ _ (q5C λe he=>h e (zJ _ he))
section
variable{prog:vO}{w:vT}{A:vY}{E:vB->vC->Prop}{s:vC}
theorem qbW{r:vG}{Q:Bool->vC->Prop}(hT:s.TypeIs (.ref r) "set")(h:Q false s):vL (model prog w) A (Builtin.List.listLengthHint (.ref r)) Q E s:=by
 unfold Builtin.List.listLengthHint;refine vA (uk hT F.slotSetLen ?_);generalize hid:("set.__len__" : String)=id0
 wp_delta
 rw[show splitId id0=some ("set", "__len__")from by subst hid;decide +kernel];subst hid;refine vA (uS (T := "set") (b:=true) hT (by rw[ur];kernel_rfl) ?_);refine vg (λhab=>vM hab (by decide)) (λ_=>?_);refine vg (λ_=>?_) (λhab=>vM ⋯ hab);refine vA (uX hT ?_);exact vF h
theorem qbY{a:vG}{xs:List Int}{Q:vB->vC->Prop}(S:Xs s.heap a (Ye w) xs)(k:∀(h':vZ)(d:Drawn)(I:vG)(fp:List vG)(P:Nat->vB->Prop)(St:Nat->vZ->Prop),(∀b o,s.heap.get? b=some o->h'.get? b=some o)->s.heap.objs.size<=I->(∀b∈fp,b=a\/s.heap.objs.size<=b) ->
   (∀A:vY,A.handled=none->Walks prog w A I fp [I] xs.length P St)->St 0 h'->(∀acc:Array vB,ItemsOf P acc xs.length->∃ys,v5 acc.toList ys/\ys.Perm xs)->(∀b∈fp,b<h'.objs.size)->Q (.ref I) { s with heap:=h',drawn:=d }) :
  vL (model prog w) A (t9 (.ref a)) Q E s:=by
 obtain⟨o,es,ep,t,go,gx,gd,T,gl,gb,gg,gv,gn⟩:=id S;have hl:es.size=xs.length:=by rw[<- gv,zB,zQ]
 have hlt:a<s.heap.objs.size:=zP go;have hps:t.place.size=es.size:=by
  have:=T.fits;unfold SetTable.fits at this;simp only[zr,beq_iff_eq]at this;exact this.1
 have hT:s.TypeIs (.ref a) "set" := ⟨o,go,gx.1⟩;refine wpAny_pyIter_slot hT F.slotSetIter (vi F.slotSetIter hT F.entSetIter ?_ (F.argsSetIter _));unfold Builtin.«frozenset.__iter__» Builtin.Frozenset.slot0 Builtin.Frozenset.sizeOf;refine vA ?_;refine vA (m:=tZ "__iter__" 0 ⟨[.ref a],[]⟩) (vF ?_);show vL _ _ (pure a) _ _ s;refine vF ?_;refine vA (vA (q0F go gd T.fits (vF ?_)));refine vA ?_;unfold setDrawn;refine vA (vk go gd T.fits ?_)
 dsimp only
 refine vA (q2e (vF ?_));have perm_ok:∀(l:List (Int×vB)),l.Perm es.toList->∃ys,v5 (l.map (·.2)) ys/\ys.Perm xs:=λl p=>
  ⟨_,q5C λe he=>gg e (p.mem_iff.mp he),by rw[<- gv];exact p.map _⟩
 have slots:∀(slot:Nat->Nat)(l:List (Int×vB)),slot 0=0->l.Perm es.toList ->
   (∀(i:Nat)(s:vC),i<es.size->s.heap.get? a=some o->∀A' Q' E',Q' (some ((l.map (·.2)).getD i .none,slot (i+1))) s->vL (model prog w) A' (uo a (slot i) i ep) Q' E' s) ->
   (∀(s:vC),s.heap.get? a=some o->∀A' Q' E',Q' none s->vL (model prog w) A' (uo a (slot es.size) es.size ep) Q' E' s) ->
   Q (.ref s.heap.objs.size) { s with heap:=s.heap.push (Yx (.int (slot 0:Nat) 0) 0 a es.size ep) }:=λslot l h0 p hn hz=>by
  have:=k (s.heap.push (Yx (.int (slot 0:Nat) 0) 0 a es.size ep)) s.drawn s.heap.objs.size [s.heap.objs.size,a] (λi v=>v=(l.map (·.2)).getD i .none) (λi h=>h.get? s.heap.objs.size=some (Yx (.int (slot i) 0) i a es.size ep)/\h.get? a=some o)
   (λb u e=>zD _ e) (zN _) (λb hb=>by
    simp only[zE,zY,or_false]at hb;rcases hb with rfl|rfl
    ·exact .inr (zN _)
    ·exact .inl rfl) (λA hh=>by rw[<- hl];exact q9h hh (zi hlt) gd T.fits slot _ hn hz) ⟨zS _ rfl,zD _ go⟩ (λacc hacc=>by
    rw[qaT hacc];obtain⟨ys,y1,y2⟩:=perm_ok l p;have e:(yB xs.length).map (λi=>(l.map (·.2)).getD i .none)=l.map (·.2):=by
     apply yl;intro i;have hll:l.length=xs.length:=by rw[p.length_eq,zQ,hl]
     rw[zW];rcases zu i xs.length with z|z
     ·rw[yo z]
      show some ((l.map (·.2)).getD i .none)=_;rw[zj,zC (by rw[zB,hll];exact z)];rfl
     ·rw[zo (by rw[z7];exact z),zo (by rw[zB,hll];exact z)];rfl
    rw[e];exact⟨ys,y1,y2⟩) (λb hb=>by
    rw[yP];simp only[zE,zY,or_false]at hb;rcases hb with rfl|rfl
    ·exact yU _
    ·exact yD hlt)
  exact this
 have getD_at:∀(l:List (Int×vB))(i:Nat)(e:Int×vB),l[i]?=some e->(l.map (·.2)).getD i .none=e.2:=λl i e h=>by
  rw[zj,zW,h];rfl
 cases hB:w.params.followText "set-order" with
 | true=>
  refine vA (vF ?_);refine vA ?_;unfold setEpoch;refine vA (vk go gd T.fits (vF ?_));refine vA (ve (vF ⟨_,rfl, "set_iterator", _,⟨_,zS _ rfl,rfl⟩,F.slotSetNext.lookup,?_⟩));have pp:=qbl (w.params.setOrder a ep) es;have hpl:(uf (w.params.setOrder a ep) es).size=es.size:=by rw[<- zQ,pp.length_eq,zQ]
  refine slots (λ_=>0) _ rfl pp (λi s hi go' A' Q' E' q=>?_) λs go' A' Q' E' q=>?_
  ·refine q5q go' gd T.fits hB ?_
   have hz:i<(uf (w.params.setOrder a ep) es).size:=by rw[hpl];exact hi
   rw[zw hz];have:=getD_at (uf (w.params.setOrder a ep) es).toList i (uf (w.params.setOrder a ep) es)[i] (by rw[zX,zw hz]);rw[this]at q;exact q
  ·refine q5q go' gd T.fits hB ?_
   rw[yb (by rw[hpl];exact zN _)];exact q
 | false=>
  have led:t.led=true:=by rw[gl];unfold Ye;rw[hB];rfl
  cases hD:(!t.plain&&decide (es.size>1))with
  | false=>
   refine vg (λz=>vM ((show (!false&&(!t.plain&&decide (es.size>1)))=true from z)) (by rw[hD];decide)) (λ_=>?_);refine vA (vF ?_);refine vA ?_;unfold setEpoch;refine vA (vk go gd T.fits (vF ?_));refine vA (ve (vF ⟨_,rfl, "set_iterator", _,⟨_,zS _ rfl,rfl⟩,F.slotSetNext.lookup,?_⟩));refine slots (slotAt t.place) es.toList rfl (xL _) (λi s hi go' A' Q' E' q=>?_) λs go' A' Q' E' q=>?_
   ·refine q4z go' gd T.fits hB led hD rfl ?_
    rw[q4F T.rise i ∅,zw hi,zw (show i<t.place.size by omega)];have:=getD_at es.toList i es[i] (by rw[zX,zw hi]);rw[this]at q;have e2:slotAt t.place (i+1)=t.place[i]'∅+1:=by
     show t.place.toList.getD i 0+1=_;rw[zj,zX,zw (show i<t.place.size by omega)];rfl
    rw[e2]at q;exact q
   ·refine q4z go' gd T.fits hB led hD rfl ?_
    rw[q4F T.rise es.size ∅,yb (zN _)];exact q
  | true=>
   refine vg (λ_=>?_) (λz=>vM (show (!false&&(!t.plain&&decide (es.size>1)))=true by rw[hD];rfl) z);refine vA (q3B es.size (yB es.size) _ _ z7 λord d po=>?_);have hol:ord.length=es.size:=by rw[po.length_eq,z7]
   refine vA (tI ?_ (by rw[zB,hol];exact z6 (yK gb) (by decide)));refine vA ?_;unfold setEpoch;have go2:(s.heap.push { cls:=.type "tuple", data:=.seq (ord.map λ(i:Nat)=>uH i).toArray }).get? a=some o:=zD _ go;refine vA (vk go2 gd T.fits (vF ?_));refine vA (ve (vF ⟨_,rfl, "set_iterator", _,⟨_,zS _ rfl,rfl⟩,F.slotSetNext.lookup,?_⟩));have hs1:(s.heap.push { cls:=.type "tuple", data:=.seq (ord.map λ(i:Nat)=>uH i).toArray }).objs.size=s.heap.objs.size+1:=yP _ _;have ht1:(s.heap.push { cls:=.type "tuple", data:=.seq (ord.map λ(i:Nat)=>uH i).toArray }).get? s.heap.objs.size=some { cls:=.type "tuple", data:=.seq (ord.map λ(i:Nat)=>uH i).toArray }:=zS _ rfl;refine k _ d _ [(s.heap.push { cls:=.type "tuple", data:=.seq (ord.map λ(i:Nat)=>uH i).toArray }).objs.size,a,s.heap.objs.size] (λi v=>∃p x,ord[i]?=some p/\es[p]?=some x/\v=x.2)
    (λi h=>h.get? (s.heap.push { cls:=.type "tuple", data:=.seq (ord.map λ(i:Nat)=>uH i).toArray }).objs.size=some (Yx (.ref s.heap.objs.size) i a es.size ep)/\h.get? a=some o/\h.get? s.heap.objs.size=some { cls:=.type "tuple", data:=.seq (ord.map λ(i:Nat)=>uH i).toArray }) (λb u e=>zD _ (zD _ e)) (by rw[hs1];exact y8 _) (λb hb=>?_) (λA hh=>by
    rw[<- hl];exact q7E (tp:=s.heap.objs.size) hh (by rw[hs1];exact zi (yD hlt)) (by rw[hs1];exact zi (yU _)) gd T.fits ord po rfl)
    ⟨zS _ rfl,zD _ go2,zD _ ht1⟩ (λacc hacc=>?_) (λb hb=>?_)
   ·simp only[zE,zY,or_false]at hb
    rcases hb with rfl|rfl|rfl
    ·exact .inr (by rw[hs1];exact y8 _)
    ·exact .inl rfl
    ·exact .inr (zN _)
   ·have e:acc.toList=(ord.map λp=>es.toList.getD p (0,.none)).map (·.2):=by
     apply yl;intro i;rw[zX,zW,zW];rcases zu i acc.size with z|z
     ·obtain⟨p,x,h1,h2,h3⟩:=hacc.2 i acc[i] (zw z)
      rw[zw z,h1,h3];show _=some (es.toList.getD p (0,.none)).2;rw[zj,zX,h2];rfl
     ·rw[yb z,zo (by rw[hol,hl,<- hacc.1];exact z)];rfl
    have p2:(ord.map λp=>es.toList.getD p (0,.none)).Perm es.toList:=by
     refine(po.map _).trans ?_;have:(yB es.size).map (λp=>es.toList.getD p (0,Value.none))=es.toList:=by
      apply yl;intro i;rw[zW];rcases zu i es.size with z|z
      ·rw[yo z]
       show some (es.toList.getD i (0,Value.none))=_;rw[zj,zC (by rw[zQ];exact z)];rfl
      ·rw[zo (by rw[z7];exact z),zo (by rw[zQ];exact z)];rfl
     rw[this]
    rw[e];exact perm_ok _ p2
   ·rw[yP,hs1]
    simp only[zE,zY,or_false]at hb;rcases hb with rfl|rfl|rfl
    ·rw[hs1];exact yU _
    ·exact yD (yD hlt)
    ·exact yD (yU _)
end
section
variable{prog:vO}{w:vT}{A:vY}{E:vB->vC->Prop}{s:vC}
theorem q9a{R:tq->vC->Prop}{a:vG}{xs:List Int}(hh:A.handled=none)(SI:Xs s.heap a (Ye w) xs)(S:vG)(hSa:S≠a)(res:vB)(c₀:Nat)(hS:s.heap.get? S=some { cls:=.type "list", data:=.seq #[] c₀ })(hR:∀h' tk d acc' c',(∀b o,b≠S->s.heap.get? b=some o->h'.get? b=some o)->h'.get? S=some { cls:=.type "list", dict:=none,data:=.seq acc' c',slots:=#[] }->(∃ys,v5 acc'.toList ys/\ys.Perm xs)->R (.ok (.ret res)) { s with heap:=h',toks:=tk,drawn:=d }):
  vL (model prog w) A.in1 (Builtin.List.listExtendWith (.ref S) (.ref a) res)
   (λfin s'=>match fin with|.done f=>R (.ok f) s'|.again c'=>c'.quiet=true/\uP (model prog w) A c' R s') (λe s'=>R (.error e) s') s:=by
 have hn:xs.length<=sizeLine:=z6 (yK SI.len) (by decide);obtain⟨o,es,ep,t,go,gx,gd,T,gl,gb,gg,gv,gn⟩:=id SI;have hTy:∀h:vZ,h.get? a=some o->Shared.TypeIs { s with heap:=h } (.ref a) "set" := λh e=>⟨o,e,gx.1⟩;unfold Builtin.List.listExtendWith;refine vA (uX (T := "set") ⟨o,go,gx.1⟩ ?_);have h1:Builtin.List.listSameRef (.ref S) (.ref a)=false:=by simp[Builtin.List.listSameRef,hSa]
 have h2:(Value.type "set" == Value.type "list")=false:=by decide
 have h3:(Value.type "set" == Value.type "tuple")=false:=by decide
 simp only[h1,h2,h3,xo,zy,if_false];refine vA (qbY SI λh1 d I fp P St keep hI hfp W st items hlt=>?_);have hS1:h1.get? S=some { cls:=.type "list", data:=.seq #[] c₀ }:=keep _ _ hS;have hSlt:S<s.heap.objs.size:=zP hS;have hSf:S∉fp:=λhm=>by
  rcases hfp S hm with z|z
  ·exact hSa z
  ·exact vM hSlt (Zr.mpr z)
 have key:∀(h:vZ)(c₁ tk:Nat),St 0 h->(∀b o,b≠S->s.heap.get? b=some o->h.get? b=some o) ->
   h.get? S=some { cls:=.type "list", data:=.seq #[] c₁ }->uP (model prog w) A (.builtin "list.extend.loop" ⟨[.ref S,.ref I,res],[]⟩) R { s with heap:=h,toks:=tk,drawn:=d }:=by
  intro h c₁ tk hst hk hS₁;refine codeAny_extend_loopS (W A.in1 hh).toS hn S hSf res xs.length 0 _ #[] c₁ rfl (yL _) hst hS₁ (ItemsOf.nil _) λs' acc' c' hm hS' hacc=>?_;rw[Moved.eq_with hm];refine hR s'.heap s'.toks d acc' c' (λb o hb e=>hm.heap b o (λhmem=>?_) (hk b o hb e)) hS' (items acc' hacc);rcases zE.mp hmem with e'|hmem
  ·exact hb e'
  ·exact vM (zP e) (by rw[zL.mp hmem];exact Zr.mpr hI)
 refine vA (vc (qbW ⟨o,keep _ _ go,gx.1⟩ ?_));refine vg (λ_=>?_) (λ_=>vF ⟨uE PySem.F.plain_extend_loop _,key _ c₀ _ st (λb o _ e=>keep b o e) hS1⟩);refine vA (uI ?_);refine vA ?_;show vL _ _ (u6 S (·.push .none) >>= λ_=>u6 S (·.pop)) _ _ _;refine vA (uB hS1 rfl ?_);have hS₂:=ye (Obj.mapSeq (·.push Value.none)) hS1 rfl;refine uB (hz:=by seq_fits) hS₂ rfl ?_;have hS₃:=ye (Obj.mapSeq (·.pop)) hS₂ rfl;refine vF ⟨uE PySem.F.plain_extend_loop _,key _ _ _ ?_ (λb o hb e=>?_) hS₃⟩
 ·refine(W A.in1 hh).frame 0 _ _ st λb hb o e=>?_
  have hbS:b≠S:=λh=>hSf (h▸hb);exact(zh _ _ (Ne.symm hbS)).trans ((zh _ _ (Ne.symm hbS)).trans e)
 ·exact(zh _ _ (Ne.symm hb)).trans ((zh _ _ (Ne.symm hb)).trans (keep b o e))
theorem q7o{R:List vB->vC->Prop}{a:vG}{xs:List Int}(hh:A.handled=none)(SI:Xs s.heap a (Ye w) xs)(h:∀(h':vZ)(tk:Nat)(d:Drawn)(vs:List vB)(ys:List Int),(∀b o,s.heap.get? b=some o->h'.get? b=some o)->s.heap.objs.size<h'.objs.size->v5 vs ys->ys.Perm xs->R vs { s with heap:=h',toks:=tk,drawn:=d }):
  vL (model prog w) A (collect (.ref a)) R E s:=by
 obtain⟨o,es,ep,t,go,gx,gd,T,gl,gb,gg,gv,gn⟩:=id SI;have hlt:a<s.heap.objs.size:=zP go;unfold collect;refine vA (wpAny_runValue (v6 entry_proto_collect' ?_));rw[Around.under_plainId PySem.F.plain_proto_collect _];show vL _ A.in1 (newList [] >>= λl=>again (.builtin "list.__iadd__" ⟨[l,.ref a],[]⟩)) _ _ s;refine vA (ve ?_);refine vF ⟨uE PySem.F.plain_list_iadd _,v6 entry_list_iadd' ?_⟩;rw[Around.under_plainId PySem.F.plain_list_iadd _];have hS₁:(s.heap.push { cls:=.type "list", data:=.seq ([]:List vB).toArray }).get? s.heap.objs.size=some { cls:=.type "list", data:=.seq #[] }:=zS _ rfl;show vL _ A.in1 (Builtin.List.listExtendWith (.ref s.heap.objs.size) (.ref a) (.ref s.heap.objs.size)) _ _ _;have key:=q9a (prog:=prog) (A:=A) (s:={ s with heap:=s.heap.push { cls:=.type "list", data:=.seq ([]:List vB).toArray } })
  (R:=λ(q:tq) (s':vC)=>∃(h':vZ) (tk:Nat) (d:Drawn) (acc':Array vB) (c':Nat),q=.ok (.ret (.ref s.heap.objs.size))/\s'={ s with heap:=h',toks:=tk,drawn:=d } /\
   (∀b o,s.heap.get? b=some o->h'.get? b=some o)/\h'.get? s.heap.objs.size=some { cls:=.type "list", dict:=none,data:=.seq acc' c',slots:=#[] }/\∃ys,v5 acc'.toList ys/\ys.Perm xs)
  hh (SI.at λo e=>zD _ e) s.heap.objs.size (xO hlt) (.ref s.heap.objs.size) 0 hS₁
  (λh' tk d acc' c' hk hS' hacc=>⟨h',tk,d,acc',c',rfl,rfl,λb o e=>hk b o (zi (zP e)) (zD _ e),hS',hacc⟩)
 refine vh key (λfin s' x=>?_) λe s' x=>?_
 ·cases fin with
  | done f=>
   obtain⟨h',tk,d,acc',c',e,rfl,hk,hS',ys,y1,y2⟩:=x;cases e;show vL _ A (load s.heap.objs.size >>= _) _ _ _;refine vA (wpAny_load hS' ?_);exact vF (h h' tk d _ ys hk (zP hS') y1 y2)
  | again c₁=>
   refine⟨x.1,uQ x.2 λq s₂ y=>?_⟩;obtain⟨h',tk,d,acc',c',rfl,rfl,hk,hS',ys,y1,y2⟩:=y;show vL _ A (load s.heap.objs.size >>= _) _ _ _;refine vA (wpAny_load hS' ?_);exact vF (h h' tk d _ ys hk (zP hS') y1 y2)
 ·obtain⟨_,_,_,_,_,e',_⟩:=x
  cases e'
theorem q9g{a:vG}{xs:List Int}{Q:vB->vC->Prop}(hh:A.handled=none)(SI:Xs s.heap a (Ye w) xs)(h64:xs.length<64)(h:∀(D:vG)(h':vZ)(tk:Nat)(d:Drawn)(vs:List vB)(ys:List Int)(n:Nat),(∀b o,s.heap.get? b=some o->h'.get? b=some o)->s.heap.objs.size<=D->h'.get? D=some (vp "list" vs.toArray n)->v5 vs ys->ys.Perm xs->ys.Pairwise (· <= ·)->Q (.ref D) { s with heap:=h',toks:=tk,drawn:=d }):
  vL (model prog w) A (call (.builtin "sorted") [.ref a]) Q E s:=by
 refine Calls.call_function_entry t4 tf tj (args_sorted1 _) ?_;unfold Builtin.«sorted»;refine vA (m:=checkCount "sorted" 1 1 _) (vF ?_);refine vA (q7o (A:=A.in1) hh SI λh1 tk d vs ys hk hz y1 y2=>?_);have hlen:vs.length=xs.length:=by rw[IntsAre.length y1,y2.length_eq]
 refine vA (u0 ?_ (z6 (by rw[hlen];exact yK h64) (by decide)));have hoL:(h1.push (vp "list" vs.toArray 0)).get? h1.objs.size=some (vp "list" vs.toArray 0):=zS _ rfl;refine vA (vc (vi slot_list_sort ⟨_,hoL,rfl⟩ entry_list_sort (list_sort_tree hoL y1 (by rw[hlen];exact h64) λout ns' a1 a2 a3=>⟨_,rfl,?_⟩) (args_list_sort _)));obtain⟨n,hn⟩:=sortedHeap_at (vs:=vs) (out:=out) hoL;refine vF ⟨_,rfl,h h1.objs.size _ tk d out.toList ns' n (λb o e=>?_) ?_ ?_ a1 (a2.trans y2) a3⟩
 ·have e1:=hk b o e
  rw[sortedHeap_old (zi (zP e1)) (by rw[yP];exact yD (zP e1))];exact zD _ e1
 ·exact yK hz
 ·rw[xM];exact hn
end
end Hk
namespace L2
open PySem PySem.Spec PyProof.Rows
noncomputable def XF(names:List (Str×uL))(cells:List (Str×vG))(cs:List (Str×vG)):List (Str×vG) :=
 match names with
 | []=>cs
 | p::r=>XF r cells (if p.2 == .free then (p.1,(cells.lookup p.1).getD 0)::cs else cs)
theorem q39{scope:ud}{env:Env}(h:∀p∈scope.names,p.2=NameKind.free->(env.cells.lookup p.1).isSome=true):
  closureFor scope env=pure (XF scope.names env.cells []):=by
 simp only[closureFor];generalize scope.names=l at h ⊢;have key:∀(l:List (Str×uL))(cs:List (Str×vG)),(∀p∈l,p.2=NameKind.free->(env.cells.lookup p.1).isSome=true) ->
   (forIn l cs (λ(p:Str×uL) (r:List (Str×vG))=>if (p.2==NameKind.free)=true then (do let a <- cellOf env p.1;pure (ForInStep.yield ((p.1,a)::r)))else pure (ForInStep.yield r)):Sem _)=pure (XF l env.cells cs):=by
  intro l
  induction l with
  | nil=>intro cs _;rfl
  | cons p r ih=>
   intro cs hp;rw[wd];have hr:=λq hq=>hp q (zJ _ hq)
   by_cases hf:p.2=NameKind.free
   ·have hs:=hp p zI hf
    obtain⟨a,ha⟩:=yW.mp hs;have e:cellOf env p.1=pure a:=by unfold cellOf;rw[ha]
    have hb:(p.2==NameKind.free)=true:=by rw[hf];rfl
    rw[vH hb,e,pure_bind,pure_bind];show forIn r _ _=_;rw[ih _ hr];show _=pure (XF r env.cells (if p.2 == .free then _ else _));rw[vH hb,ha];rfl
   ·have hb:¬(p.2==NameKind.free)=true:=by intro z;exact hf (by cases hk:p.2 <;> simp_all)
    rw[vJ hb,pure_bind];show forIn r _ _=_;rw[ih _ hr];show _=pure (XF r env.cells (if p.2 == .free then _ else _));rw[vJ hb]
 rw[key l [] h];rfl
theorem q83{k:uL}(h:(k==NameKind.free)=true):k=NameKind.free:=by cases k <;> first|rfl|cases h
theorem q3g{cells:List (Str×vG)}:∀(l:List (Str×uL))(cs:List (Str×vG)),(∀p∈l,p.2=NameKind.free->(cells.lookup p.1).isSome=true) ->
  (∀x c,cs.lookup x=some c->cells.lookup x=some c)->∀x c,(XF l cells cs).lookup x=some c->cells.lookup x=some c
 | [],cs,_,h,x,c,e=>h x c e
 | p::r,cs,hp,h,x,c,e=>by
  refine q3g r _ (λq hq=>hp q (zJ _ hq)) (λy d hy=>?_) x c e
  by_cases hb:(p.2==NameKind.free)=true
  ·rw[vH hb,yg]at hy
   cases hyp:y==p.1 with
   | true=>
    rw[hyp]at hy;have hy':(cells.lookup p.1).getD 0=d:=zt hy;obtain⟨a,ha⟩:=yW.mp (hp p zI (q83 hb));rw[ha]at hy';rw[eq_of_beq hyp,ha,<- hy'];rfl
   | false=>rw[hyp]at hy;exact h y d hy
  ·rw[vJ hb]at hy;exact h y d hy
theorem q3j{cells:List (Str×vG)}:∀(l:List (Str×uL))(cs:List (Str×vG))(x:Str),((x,NameKind.free)∈l\/(cs.lookup x).isSome=true)->((XF l cells cs).lookup x).isSome=true
 | [],cs,x,h=>by
  rcases h with h|h
  ·cases h
  ·exact h
 | p::r,cs,x,h=>by
  refine q3j r _ x ?_;rcases h with h|h
  ·rcases zE.mp h with rfl|h
   ·right
    show (List.lookup x (if (NameKind.free==NameKind.free)=true then _ else _)).isSome=true;rw[vH (by rfl),yg,beq_self_eq_true];rfl
   ·exact .inl h
  ·right
   by_cases hb:(p.2==NameKind.free)=true
   ·rw[vH hb,yg]
    cases hx:x==p.1 with
    | true=>rfl
    | false=>exact h
   ·rw[vJ hb];exact h
noncomputable def Yr(X:Cx)(N:List Str)(scope:ud)(C:vG)(s:vC)(H:Hp)(fp:List vG):Cx :=
 { X with N:=N,s₀:=s,H₀:=H,env:=compEnvC scope (XF scope.names X.env.cells []) C X.env,outer:=X.stack,stack:=X.stack,ex:=fp,fn:=λ_=>false,pn:=[],xe:=λ_ _=>False }
noncomputable def Wo(M:Nat)(frees:List Nat)(σ:St):St:=xx M none++frees.map λj=>(σ[j]?).getD none
structure BlkOk (X:Cx) (N:List Str) (M:Nat) (frees:List Nat) (scope:ud):Prop where
 kind:scope.kind=.function
 nocell:∀y∈scope.names,y.2≠.cell
 own:∀y∈scope.names,y.2=.local->scope.names.lookup y.1=some .local
 cells:∀p∈scope.names,p.2=NameKind.free->(X.env.cells.lookup p.1).isSome=true
 fr:∀(k:Nat)(x:Str),N[M+k]?=some x->∃j,frees[k]?=some j/\X.N[j]?=some x/\(X.env.kindOf x=some .cell\/X.env.kindOf x=some .free)/\scope.names.lookup x=some .free
 len:N.length=M+frees.length
theorem q1K{env:Env}{x:Str}:∀{names:List (Str×uL)}{k:uL},(∀y∈names,y.2≠.cell)->(k=.cell\/k=.free) ->
  (names.map λ(n,k)=>if (k==NameKind.free&&env.scope.kind == .function&&env.kindOf n==some .cell)then (n,NameKind.cell)else (n,k)).lookup x=some k->(x,NameKind.free)∈names
 | [],_,_,_,h=>by cases h
 | (n,k0)::r,k,hc,hk,h=>by
  have ih:=@q1K env x r k (λy hy=>hc y (zJ _ hy)) hk;rw[zU]at h
  by_cases hb:(k0==NameKind.free&&env.scope.kind == .function&&env.kindOf n==some .cell)=true
  ·have hf:k0=NameKind.free:=q83 (by rw[zr,zr]at hb;exact hb.1.1)
   dsimp only at h
   rw[vH hb,yg]at h;cases hx:x==n with
   | true=>rw[eq_of_beq hx,hf];exact zI
   | false=>rw[hx]at h;exact zJ _ (ih h)
  ·dsimp only at h
   rw[vJ hb,yg]at h;cases hx:x==n with
   | true=>
    rw[hx]at h;have e:k0=k:=zt h;have z:=hc (n,k0) zI;rw[eq_of_beq hx];rcases hk with rfl|rfl
    ·exact vM e z
    ·rw[e];exact zI
   | false=>rw[hx]at h;exact zJ _ (ih h)
theorem q3x{env:Env}{x:Str}:∀{names:List (Str×uL)},names.lookup x=some .free ->
  (names.map λ(n,k)=>if (k==NameKind.free&&env.scope.kind == .function&&env.kindOf n==some .cell)then (n,NameKind.cell)else (n,k)).lookup x=some .cell \/
  (names.map λ(n,k)=>if (k==NameKind.free&&env.scope.kind == .function&&env.kindOf n==some .cell)then (n,NameKind.cell)else (n,k)).lookup x=some .free
 | [],h=>by cases h
 | (n,k0)::r,h=>by
  have ih:=@q3x env x r;rw[zU]
  dsimp only
  rw[yg]at h
  by_cases hb:(k0==NameKind.free&&env.scope.kind == .function&&env.kindOf n==some .cell)=true
  ·rw[vH hb,yg]
   cases hx:x==n with
   | true=>exact .inl rfl
   | false=>rw[hx]at h;exact ih h
  ·rw[vJ hb,yg]
   cases hx:x==n with
   | true=>rw[hx]at h;exact .inr h
   | false=>rw[hx]at h;exact ih h
section
variable{X:Cx}{pins:List (vG×Obj)}{σ:St}{H:Hp}{s:vC}{N:List Str}{M:Nat}{frees:List Nat}{scope:ud}{fp:List vG}
theorem Inv.enter{h1:vZ}{C D tk:Nat}{m1:Str->Option vB}(I:Inv X pins σ H s)(B:BlkOk X N M frees scope)(f:∀b∈fp,Y2 X pins H b)(lt:∀b∈fp,b<s.heap.objs.size)(hC:s.heap.objs.size<C)(hD:s.heap.objs.size<=D)(hDC:C≠D)(k:∀b u,s.heap.get? b=some u->h1.get? b=some u)(hns:h1.Ns C m1)(hl:h1.get? D=some { cls:=.type "list", data:=.seq ([]:List vB).toArray }):
  Inv (Yr X N scope C s H fp) [] (Wo M frees σ) (upd H D (.lst [])) { s with heap:=h1,toks:=tk }:=by
 have sub:=q3g (cells:=X.env.cells) scope.names [] B.cells (λx c e=>by cases e);have hfr:H D=none:=I.hok.fresh hD;have hfc:H C=none:=I.hok.fresh (yK hC);have clt:∀x c,(XF scope.names X.env.cells []).lookup x=some c->c<s.heap.objs.size:=λx c e=>by
  obtain⟨v,q⟩:=I.cell x c (sub x c e);exact q.lt
 refine⟨⟨I.ok.mod,B.kind,I.ok.glob,I.ok.blt,yK hC,λx y c e1 e2=>I.ok.inj x y c (sub x c e1) (sub y c e2),λx hx=>?_,λx c e=>vM e (by intro z;cases z),I.ok.hd,I.ok.frames,.inl rfl,λb hb=>?_,I.bs,z6 I.ok.bsz I.sz,λb o e hb=>?_,
  λb hb hf=>?_,I.stack,I.stkFree⟩,rfl,I.bare,Un.laid k hD hfr,⟨m1,hns,λi x v e1 e2 e3=>?_⟩,λx c e=>?_,?_,λx c e=>?_,λp hp=>vM (show p∈([]:List (vG×Obj))from hp) (by simp),I.hok.laid k hD ⟨yL _,[],0,.nil,hl⟩,?_⟩
 ·have hm:(x,NameKind.free)∈scope.names:=by
   rcases hx with hx|hx
   ·exact q1K B.nocell (.inl rfl) hx
   ·exact q1K B.nocell (.inr rfl) hx
  exact yW.mp (q3j scope.names [] x (.inl hm))
 ·exact⟨zi (ZS (lt b hb) hC),λx c e=>(f b hb).2.2.2.2.1 x c (sub x c e)⟩
 ·rcases (f b hb).2.2.2.1 with z|z
  ·exact I.ok.noex b o e z
  ·exact vM (zn (zP e) (z6 I.ok.bsz z)) (yt _)
 ·rcases zE.mp (I.stkSub b hf)with z|z
  ·exact(f b hb).2.1 z
  ·exact(f b hb).2.2.1 z
 ·have hi:M<=i:=by
   rcases zu i M with z|z
   ·unfold Wo at e2
    rw[zZ ⇑z,yZ,vH z]at e2;cases e2
   ·exact z
  obtain⟨q,rfl⟩:∃q,i=M+q:=⟨i-M,∅⟩;obtain⟨j,h1',h2',h3',h4'⟩:=B.fr q x e1;have ev:σ[j]?=some (some v):=by
   unfold Wo at e2;rw[zV (by simp),yd,wM,zW,h1']at e2;cases e:σ[j]? with
   | none=>rw[yn,e]at e2;cases e2
   | some o=>rw[yn,e]at e2;exact e2
  obtain⟨m,hn,hl'⟩:=I.loc;have vis:Vis X.env.scope x:=by
   rcases h3' with z|z
   ·exact .inr (.inl z)
   ·exact .inr (.inr z)
  obtain⟨u,ru,lk⟩:=hl' j x v h2' ev vis;refine⟨u,ru,.inr ?_⟩;rcases lk with⟨z,_⟩|⟨_,c,ec,ic⟩
  ·rcases h3' with y|y <;> (rw[z]at y;cases y)
  ·obtain⟨c',ec'⟩:=yW.mp (q3j (cells:=X.env.cells) scope.names [] x (.inl (PySem.mem_of_lookup h4')))
   have:c'=c:=zt ((sub x c' ec').symm.trans ec);subst this;exact⟨q3x h4',c',ec',ic.keeps k⟩
 ·obtain⟨v,q⟩:=I.cell x c (sub x c e)
  exact⟨v,q.keeps k⟩
 ·show upd H D (.lst []) C=none
  rw[qb hDC];exact hfc
 ·show upd H D (.lst []) c=none
  rw[qb (zi (zn (clt x c e) hD))];exact I.freeC x c (sub x c e)
 ·show (Wo M frees σ).length=N.length
  unfold Wo;rw[zG,yd,zB,B.len]
end
section
variable{prog:vO}{w:vT}{A:vY}{R:tq->vC->Prop}{s:vC}
theorem q7F{elt target iter:vP}{ifs:List vP}{scope:ud}{pos:Pos}{it acc:vB}{env:Env}(J:Nat->vC->Prop)(turn:∀n s,J n s->vL (model prog w) A (uF it) (λr s1=>match r with
   | none=>R (.ok .next) s1
   | some v=>vL (model prog w) A (uj target it v) (λ_ s2=>vL (model prog w) A (assign target env v) (λ_ s3=>
     vL (model prog w) A (forIn ifs true λc r=>if r=true then do let ok <- t8 c env (eval c env);pure (ForInStep.yield ok)else pure (ForInStep.yield r)) (λok s4=>
      if ok=true then vL (model prog w) A (eval elt env) (λx s5=>vL (model prog w) A (call (.builtin "list.append") [acc,x]) (λ_ s6=>∃m,m<n/\J m s6) (λ_ _=>False) s5) (λ_ _=>False) s4
      else ∃m,m<n/\J m s4) (λ_ _=>False) s3) (λ_ _=>False) s2) (λ_ _=>False) s1) (λ_ _=>False) s)
  (n:Nat) (h:J n s):uP (model prog w) A (.compLoop (.ListComp elt [⟨target,iter,ifs,0⟩] scope pos) 0 it acc env) R s:=by
 refine codeAny_loop rfl J (λn s hJ=>?_) n h;show vL _ A ((compTurn (.ListComp elt [⟨target,iter,ifs,0⟩] scope pos) 0 it acc env).onRaise (λx=>do noteFrame x env;theTreesLotGoes x)) _ _ s;refine wpAny_noted (vh (Q:=λfin s'=>match fin with|.done f=>R (.ok f) s'|.again c'=>c'=.compLoop (.ListComp elt [⟨target,iter,ifs,0⟩] scope pos) 0 it acc env/\∃m,m<n/\J m s') ?_ (λ_ _ q=>q) λ_ _ (z:False)=>z.elim);rw[compTurn_list];refine vA (uz (vA (vh (turn n s hJ) (λr s1 h1=>?_) λ_ _ q=>q)));cases r with
 | none=>exact vF h1
 | some v=>
  refine vA (vh h1 (λ_ s2 h2=>vA (vh h2 (λ_ s3 h3=>vA (vh h3 (λok s4 h4=>?_) λ_ _ q=>q)) λ_ _ q=>q)) λ_ _ q=>q);cases ok with
  | false=>exact vF ⟨rfl,h4⟩
  | true=>exact vA (vA (vh h4 (λx s5 h5=>vA (vh h5 (λ_ s6 h6=>vF (vF ⟨rfl,h6⟩)) λ_ _ q=>q)) λ_ _ q=>q))
end
def PTs(X:Cx)(ifs:List vP)(t:TT):Prop :=
 ∀(pins:List (vG×Obj))(s:vC)(σ:St)(H:Hp)(Q:Bool->Hp->Prop),Inv X pins σ H s->t σ H Q ->
  vL (model X.prog X.w) X.A (forIn ifs true λc r=>if r=true then do let ok <- t8 c X.env (eval c X.env);pure (ForInStep.yield ok)else pure (ForInStep.yield r)) (TP X pins σ Q) X.xe s
theorem qdO{X:Cx}:PTs X [] (λ_ H Q=>Q true H):=λ_ _ _ H _ I q=>wpAny_tests_nil ⟨H,I,q⟩
theorem qd9{X:Cx}{c:vP}{t:TT}(h:PT X c t):PTs X [c] t:=λpins s σ H Q I q=>wpAny_tests_one (h pins s σ H Q I q)
noncomputable def zAQ(M:Nat)(frees:List Nat)(wi:TI)(g:TG)(tc:TT)(te:TE):TE:=λσ H Q=>wi σ H λJ H1=>∀D,H1 D=none ->
 ∃W:Nat->Nat->St->Hp->Prop,(∃m,W 0 m (Wo M frees σ) (upd H1 D (.lst [])))/\∀i m σ' H',W i m σ' H' ->
  (J.stop i H'/\Q (.ref D) H')\/(J.go i H'/\∀x H2,J.yld i H' x H2->g x σ' H2 λσ2 H3=>tc σ2 H3 λb H4=>
   if b=true then te σ2 H4 λv H5=>∃acc,H5 D=some (.lst acc)/\acc.length<sizeLine/\∃m',m'<m/\W (i+1) m' σ2 (upd H5 D (.lst (acc++[v])))
   else ∃m',m'<m/\W (i+1) m' σ2 H4)
section
variable{X:Cx}{N:List Str}{M:Nat}{frees:List Nat}{scope:ud}{tg iter elt:vP}{ifs:List vP}{pos:Pos}{wi:TI}{g:TG}{tc:TT}{te:TE}
theorem q6U(hc:X.calm=true)(B:BlkOk X N M frees scope)(hb:∀C s H fp,PG (Yr X N scope C s H fp) tg g/\PTs (Yr X N scope C s H fp) ifs tc/\PE (Yr X N scope C s H fp) elt te){pins:List (vG×Obj)}{σ:St}{Q:VK}{s2:vC}{itv:vB}{E:vB->vC->Prop}{RR:vB->vG->tq->vC->Prop}(h2:PIE X pins σ tg (λJ H1=>∀D,H1 D=none ->
   ∃W:Nat->Nat->St->Hp->Prop,(∃m,W 0 m (Wo M frees σ) (upd H1 D (.lst [])))/\∀i m σ' H',W i m σ' H' ->
    (J.stop i H'/\Q (.ref D) H')\/(J.go i H'/\∀x H2,J.yld i H' x H2->g x σ' H2 λσ2 H3=>tc σ2 H3 λb H4=>
     if b=true then te σ2 H4 λv H5=>∃acc,H5 D=some (.lst acc)/\acc.length<sizeLine/\∃m',m'<m/\W (i+1) m' σ2 (upd H5 D (.lst (acc++[v])))
     else ∃m',m'<m/\W (i+1) m' σ2 H4)) itv s2)
  (hR:∀D C s' H' m,Inv X pins σ H' s'->Q (.ref D) H'->s'.heap.Ns C m->H' C=none->C≠X.env.locals->X.s₀.heap.objs.size<=C->(∀x c,X.env.cells.lookup x=some c->c≠C)->(∀p∈X.pn++pins,p.1≠C)->RR (.ref D) C (.ok .next) s') :
  vL (model X.prog X.w) X.A (newList []) (λacc s3=>vL (model X.prog X.w) X.A (newFunctionEnv scope X.env.globals (XF scope.names X.env.cells []) [] X.env.qual none .none (some X.env)) (λcenv s4=>
   uP (model X.prog X.w) X.A (.compStart (.ListComp elt [⟨tg,iter,ifs,0⟩] scope pos) 0 itv acc { cenv with scope:=relabel scope X.env }) (RR acc cenv.locals) s4) E s3) E s2:=by
 obtain⟨it,fp,tn,J,H2,e,I2,T,st2,f2,q⟩:=h2;subst e;refine ve (wpAny_newFunctionEnv B.nocell (by intro y hy;simp at hy) (λh1 hns hsb=>?_) B.kind)
 dsimp only at hns hsb ⊢
 generalize hP:s2.heap.push { cls:=.type "list", dict:=none,data:=.seq ([]:List vB).toArray }=P1 at hns hsb ⊢;have hsz:P1.objs.size=s2.heap.objs.size+1:=by rw[<- hP,yP]
 have below:∀b,b<s2.heap.objs.size->b≠P1.objs.size:=λb z=>by rw[hsz];exact zi (yD z)
 have keep:∀b u,s2.heap.get? b=some u->h1.get? b=some u:=λb u z=>hsb.extBut b u (below b (zP z)) (zD _ (hP▸zD _ z));have hne:s2.heap.objs.size≠P1.objs.size:=by rw[hsz];exact zi (yU _)
 have hl:h1.get? s2.heap.objs.size=some { cls:=.type "list", data:=.seq ([]:List vB).toArray }:=hsb.extBut _ _ hne (zD _ (hP▸zS _ rfl));have lt2:∀b∈fp,b<s2.heap.objs.size:=λb z=>by
  obtain⟨o,eo,_⟩:=T.obj _ _ st2 b z;exact zP eo
 have hD0:H2 s2.heap.objs.size=none:=I2.hok.fresh (zN _);obtain⟨W,⟨m0,w0⟩,turn⟩:=q s2.heap.objs.size hD0;have I4:=I2.enter (N:=N) (M:=M) (frees:=frees) (scope:=scope) (fp:=fp) (h1:=h1) (C:=P1.objs.size) (D:=s2.heap.objs.size) (tk:=s2.toks+([]:List (Str×vB)).length) B f2 lt2 (by rw[hsz];exact yU _) (zN _) (Ne.symm hne) keep hns hl;have hcx:∀(C:vG),(Yr X N scope C s2 H2 fp).calm=true:=λ_=>hc;have stat:∀{H':Hp},(∀b∈fp,H' b=none)->∀b∈fp,Y2 (Yr X N scope P1.objs.size s2 H2 fp) [] H' b:=λ{H'} hn b z=>by
  refine⟨hn b z,below b (lt2 b z),λy=>?_,.inl z,λx c y=>?_,λp y=>vM (show p∈([]:List (vG×Obj))from y) (by simp)⟩
  ·rcases zE.mp (I2.stkSub b y)with u|u
   ·exact(f2 b z).2.1 u
   ·exact(f2 b z).2.2.1 u
  ·exact(f2 b z).2.2.2.2.1 x c (q3g (cells:=X.env.cells) scope.names [] B.cells (λx c e=>by cases e) x c y)
 have fr4:∀b∈fp,(upd H2 s2.heap.objs.size (HO.lst [])) b=none:=λb z=>by
  rw[qb (zi (lt2 b z))];exact(f2 b z).1
 have st4:tn 0 h1:=T.keep _ _ _ st2 λb _ o z=>keep b o z;have fin:∀(s':vC)(σ':St)(H':Hp),Inv (Yr X N scope P1.objs.size s2 H2 fp) [] σ' H' s'->Q (.ref s2.heap.objs.size) H'->RR (.ref s2.heap.objs.size) P1.objs.size (.ok .next) s':=λs' σ' H' I' q'=>by
  obtain⟨m,hm,_⟩:=I'.loc;have u':Un (frs X.stack) fp H2 H' s2.heap s'.heap:=I'.base;have I0:Inv X pins σ H' s':=I2.call' (ch:=fp) I'.os u' I'.hok I'.bare λb z=>⟨(f2 b z).2.2.2.1,(f2 b z).2.1,(f2 b z).2.2.2.2.1,(f2 b z).2.2.2.2.2⟩;refine hR _ _ s' H' m I0 q' hm I'.free (xO (zn I2.lt (by rw[hsz];exact y8 _))) (z6 I2.sz (by rw[hsz];exact y8 _)) (λx c z=>?_) λp z=>?_
  ·obtain⟨v,y⟩:=I2.cell x c z
   exact below c y.lt
  ·exact below p.1 (zP (I2.pin p z).1)
 have loop:∀s4:vC,s4={ s2 with heap:=h1,toks:=s2.toks+([]:List (Str×vB)).length } ->
   uP (model X.prog X.w) X.A (.compLoop (.ListComp elt [⟨tg,iter,ifs,0⟩] scope pos) 0 (.ref it) (.ref s2.heap.objs.size) (compEnvC scope (XF scope.names X.env.cells []) P1.objs.size X.env)) (RR (.ref s2.heap.objs.size) P1.objs.size) s4:=by
  rintro s4 rfl;refine q7F (λn s'=>∃i σ' H',Inv (Yr X N scope P1.objs.size s2 H2 fp) [] σ' H' s'/\tn i s'.heap/\(∀b∈fp,H' b=none)/\W i n σ' H') ?_ m0 ⟨0,_,_,I4,st4,fr4,w0⟩;rintro n s5 ⟨i,σ5,H5,I5,st5,fr5,w5⟩;rcases turn i n σ5 H5 w5 with⟨stop,qn⟩|⟨go,step⟩
  ·refine thn (T.done (Yr X N scope P1.objs.size s2 H2 fp) rfl rfl rfl hc i [] s5 σ5 H5 _ I5 (stat fr5) st5 stop) λr s6 ⟨hr,I6⟩=>?_
   subst hr;exact fin s6 σ5 H5 I6 qn
  ·refine thn (T.item (Yr X N scope P1.objs.size s2 H2 fp) rfl rfl rfl hc i [] s5 σ5 H5 _ I5 (stat fr5) st5 go) λr s6 ⟨u,hr,h6⟩=>?_
   subst hr;refine thn h6 λ_ s7 ⟨x,H7,I7,r7,y7,st7,fr7⟩=>?_;have I7':=I7.pinned (stat fr7) (T.obj _ _ st7);have B7:=hb P1.objs.size s2 H2 fp;refine thn (B7.1 _ s7 σ5 H7 x u _ I7' r7 (step x H7 y7)) λ_ s8 ⟨σ8,H8,I8,q8⟩=>?_;refine thn (B7.2.1 _ s8 σ8 H8 _ I8 q8) λok s9 ⟨H9,I9,q9⟩=>?_;have again:∀{σa:St}{Ha:Hp}{sa:vC},Inv (Yr X N scope P1.objs.size s2 H2 fp) ([]++Xj fp s7.heap) σa Ha sa->(∃m',m'<n/\W (i+1) m' σa Ha) ->
     ∃m,m<n/\∃i σ' H',Inv (Yr X N scope P1.objs.size s2 H2 fp) [] σ' H' sa/\tn i sa.heap/\(∀b∈fp,H' b=none)/\W i m σ' H':=λ{σa Ha sa} Ia ⟨m',hm,wa⟩=>by
    refine⟨m',hm,i+1,σa,Ha,Ia.unpinned,T.keep _ _ _ st7 λb z o eo=>(Ia.pin (b,o) (zF _ (zF _ (q1z z eo)))).1,λb z=>?_,wa⟩;obtain⟨o,eo,d⟩:=T.obj _ _ st7 b z;exact(Ia.pin (b,o) (zF _ (zF _ (q1z z eo)))).2.1
   cases ok with
   | false=>exact again I9 q9
   | true=>
    rw[vH rfl];refine thn (B7.2.2 _ s9 σ8 H9 _ I9 q9) λy s10 ⟨v,H10,I10,r10,acc,ha,hz,m',hm,wn⟩=>?_;refine thn (q2b (X:=Yr X N scope P1.objs.size s2 H2 fp) _ s10 σ8 H10 (.ref s2.heap.objs.size) [v] (.ref s2.heap.objs.size) [y] (λ_ Hn=>∃m',m'<n/\W (i+1) m' σ8 Hn) I10 rfl (.cons r10 .nil) ⟨_,acc,v,rfl,rfl,ha,hz,m',hm,wn⟩) λ_ s11 ⟨_,H11,I11,_,q11⟩=>?_;exact again I11 q11
 exact codeAny_compStart_list (loop _ rfl) (T.self _ 0 _ _ _ st4 (loop _ rfl))
theorem qdR(hc:X.calm=true)(B:BlkOk X N M frees scope)(hi:PI X tg iter wi)(hb:∀C s H fp,PG (Yr X N scope C s H fp) tg g/\PTs (Yr X N scope C s H fp) ifs tc/\PE (Yr X N scope C s H fp) elt te)(hs:∀x,vt iter X.env x=pure x:=by intro _;rfl):PE X (.ListComp elt [⟨tg,iter,ifs,0⟩] scope pos) (zAQ M frees wi g tc te):=by
 intro pins s σ H Q I h;rw[eval_ListComp];refine u3 (use:=none) rfl hs (q39 B.cells) B.kind B.own (vh (hi pins s σ H _ I h) (λv s1 h1=>vh h1 (λitv s2 h2=>?_) λ_ _ q=>q) λ_ _ q=>q);refine q6U (RR:=λacc C=>compPost (model X.prog X.w) X.A X.xe none (EP X pins σ Q) acc C) hc B hb h2 λD C s' H' m I' q' hm hC h1 h3 h4 h5=>?_;exact⟨m,hm,λh' hs'=>⟨.ref D,H',I'.turned (t':=s'.toks) (λb o z y=>hs'.extBut b o z y) hC h1 (.inr h3) h4 h5,rfl,q'⟩⟩
theorem qdp{i:Nat}{x:Str}{pos' spos:Pos}(hc:X.calm=true)(hN:X.N.Nodup)(hi':X.N[i]?=some x)(hx:X.env.scope.names.lookup x=some .local)(B:BlkOk X N M frees scope)(hi:PI X tg iter wi)(hb:∀C s H fp,PG (Yr X N scope C s H fp) tg g/\PTs (Yr X N scope C s H fp) ifs tc/\PE (Yr X N scope C s H fp) elt te)(hsw:vv (.ListComp elt [⟨tg,iter,ifs,0⟩] scope pos) (some (.Name x pos')) spos.line X.env=pure true:=by rfl)(hs:∀x,vt iter X.env x=pure x:=by intro _;rfl):PS X (.Assign [.Name x pos'] (.ListComp elt [⟨tg,iter,ifs,0⟩] scope pos) spos) (tAsg (zAQ M frees wi g tc te) (WN i)):=by
 intro pins s σ H D I h;rw[exec_Assign_Name_used _ _ _ _ hsw];refine vA (uz (vA ?_));show vL _ X.A (do let _ <- comprehension (.ListComp elt [⟨tg,iter,ifs,0⟩] scope pos) scope X.env _ (newList []) false (eval iter X.env) (some (assign (.Name x pos') X.env))) _ _ s;refine vA (vh (u3 (use:=some (assign (.Name x pos') X.env)) (Q:=λ_ s'=>SP X pins D .next s') rfl hs (q39 B.cells) B.kind B.own
  (vh (hi pins s σ H _ I h) (λv s1 h1=>vh h1 (λitv s2 h2=>?_) λ_ _ q=>q) λ_ _ q=>q)) (λ_ s' hq=>vF (vF hq)) λ_ _ q=>q)
 refine q6U (Q:=λy H1=>WN i y σ H1 D.nx) (RR:=λacc C=>compPost (model X.prog X.w) X.A X.xe (some (assign (.Name x pos') X.env)) (λ_ s'=>SP X pins D .next s') acc C) hc B hb h2 λDd C s' H' m I' q' hm hC h1 h3 h4 h5=>?_;show vL _ X.A (assign (.Name x pos') X.env (.ref Dd)) _ _ _;refine wpAny_assign_Name (q5v I' hN hi' (.inl hx) (v:=.ref Dd) (u:=.ref Dd) rfl (λs'' I'' ⟨a,hsb,ha⟩=>?_) (.inr hx));have hCa:C≠a:=by
  rcases ha with rfl|ha
  ·exact h1
  ·exact Ne.symm (h4 x a ha)
 refine⟨m,hm.sameBut hsb hCa,λh' hs'=>⟨_,H',I''.turned (t':=s''.toks) (λb o z y=>hs'.extBut b o z y) hC h1 (.inr h3) h4 h5,q'⟩⟩
end
end L2
namespace Hk
open PySem L2
inductive D where
 | non|bl (b:Bool)|int (i:Int)|str (x:Str)|lst (xs:List D)|tup (xs:List D)|scr (ns:List Int)|exc (c:Str)|dic (ks:List Int) (xs:List D)
noncomputable def kvsOf:List Int->List V->List (Key×V)
 | k::ks,v::vs=>(.inl k,v)::kvsOf ks vs
 | _,_=>[]
def excP(a C:vG)(h:vZ):Prop:=∃o,h.get? a=some o/\o.cls=.ref C
mutual
def Rep(K:zA)(H:Hp):D->V->Prop
 | .non,v=>v=.non
 | .bl b,v=>v=.bl b
 | .int i,v=>v=.int i
 | .str x,v=>v=.str x
 | .lst ds,v=>∃a vs,v=.ref a/\H a=some (.lst vs)/\YF K H ds vs
 | .tup ds,v=>∃a vs,v=.ref a/\H a=some (.tup vs)/\YF K H ds vs
 | .scr ns,v=>∃a,v=.ref a/\SqL K H a (ns.map V.int)
 | .exc c,v=>∃a C,v=.ref a/\yH K vQ c=some (some (.ref C))/\H a=some (.ext (excP a C))
 | .dic ks ds,v=>∃a vs,v=.ref a/\(∃o,H a=some (.frz o (.dK (kvsOf ks vs))))/\ks.length=ds.length/\YF K H ds vs
def YF(K:zA)(H:Hp):List D->List V->Prop
 | [],vs=>vs=[]
 | d::ds,vs=>∃v r,vs=v::r/\Rep K H d v/\YF K H ds r
end
mutual
theorem Rep.mono{K:zA}{H H':Hp}(e:YM H H'):∀{d:D}{v:V},Rep K H d v->Rep K H' d v
 | .non,_,h=>h
 | .bl _,_,h=>h
 | .int _,_,h=>h
 | .str _,_,h=>h
 | .lst _,_,⟨a,vs,h1,h2,h3⟩=>⟨a,vs,h1,e _ _ h2,YF.mono e h3⟩
 | .tup _,_,⟨a,vs,h1,h2,h3⟩=>⟨a,vs,h1,e _ _ h2,YF.mono e h3⟩
 | .scr _,_,⟨a,h1,h2⟩=>⟨a,h1,e.seq h2⟩
 | .exc _,_,⟨a,C,h1,h2,h3⟩=>⟨a,C,h1,h2,e _ _ h3⟩
 | .dic _ _,_,⟨a,vs,h1,⟨o,h2⟩,h4,h3⟩=>⟨a,vs,h1,⟨o,e _ _ h2⟩,h4,YF.mono e h3⟩
theorem YF.mono{K:zA}{H H':Hp}(e:YM H H'):∀{ds:List D}{vs:List V},YF K H ds vs->YF K H' ds vs
 | [],_,h=>h
 | _::_,_,⟨v,r,h1,h2,h3⟩=>⟨v,r,h1,Rep.mono e h2,YF.mono e h3⟩
end
section
variable{K:zA}{H:Hp}
theorem YF.nil:YF K H [] []:=rfl
theorem YF.cons{d:D}{ds:List D}{v:V}{vs:List V}(h:Rep K H d v)(t:YF K H ds vs):YF K H (d::ds) (v::vs):=⟨v,vs,rfl,h,t⟩
theorem YF.len:∀{ds:List D}{vs:List V},YF K H ds vs->ds.length=vs.length
 | [],_,h=>by cases (show _=_ from h);rfl
 | _::_,_,⟨v,r,h1,_,h3⟩=>by rw[h1,zM,zM,YF.len h3]
theorem YF.app:∀{ds es:List D}{vs us:List V},YF K H ds vs->YF K H es us->YF K H (ds++es) (vs++us)
 | [],_,_,_,h,t=>by cases (show _=_ from h);exact t
 | _::_,_,_,_,⟨v,r,h1,h2,h3⟩,t=>by rw[h1];exact⟨v,_,rfl,h2,YF.app h3 t⟩
theorem YF.get:∀{ds:List D}{vs:List V}{i:Nat}{d:D},YF K H ds vs->ds[i]?=some d->∃v,vs[i]?=some v/\Rep K H d v
 | [],_,_,_,_,e=>by simp at e
 | _::_,_,0,_,⟨v,r,h1,h2,h3⟩,e=>by simp at e;subst e;rw[h1];exact⟨v,rfl,h2⟩
 | _::_,_,i+1,d,⟨v,r,h1,h2,h3⟩,e=>by
  obtain⟨u,e1,e2⟩:=YF.get (i:=i) (d:=d) h3 ⇑e;exact⟨u,by rw[h1];simpa using e1,e2⟩
theorem YF.take:∀{ds:List D}{vs:List V}(n:Nat),YF K H ds vs->YF K H (ds.take n) (vs.take n)
 | _,_,0,_=>rfl
 | [],_,_+1,h=>by cases (show _=_ from h);rfl
 | _::_,_,n+1,⟨v,r,h1,h2,h3⟩=>by rw[h1];exact⟨v,_,rfl,h2,YF.take n h3⟩
theorem YF.drop:∀{ds:List D}{vs:List V}(n:Nat),YF K H ds vs->YF K H (ds.drop n) (vs.drop n)
 | _,_,0,h=>h
 | [],_,_+1,h=>by cases (show _=_ from h);rfl
 | _::_,_,n+1,⟨v,r,h1,h2,h3⟩=>by rw[h1];exact YF.drop n h3
theorem YF.ints:∀(ns:List Int),YF K H (ns.map D.int) (ns.map V.int)
 | []=>rfl
 | n::r=>⟨.int n,_,rfl,rfl,YF.ints r⟩
theorem YF.of_ints:∀{ns:List Int}{vs:List V},YF K H (ns.map D.int) vs->vs=ns.map V.int
 | [],_,h=>h
 | n::r,_,⟨v,vs,h1,h2,h3⟩=>by
  have:=YF.of_ints h3;have e:v=.int n:=h2;rw[h1,this,e];rfl
end
structure Ext (G H G' H':Hp):Prop where
 gg:YM G G'
 gh:YM G' H'
 hh:YM H H'
 new:∀b,G b=none->H b≠none->G' b=none
theorem Ext.refl{G H:Hp}(h:YM G H):Ext G H G H:=⟨YM.refl _,h,YM.refl _,λ_ e _=>e⟩
theorem Ext.trans{G H G1 H1 G2 H2:Hp}(a:Ext G H G1 H1)(b:Ext G1 H1 G2 H2):Ext G H G2 H2:=by
 refine⟨a.gg.trans b.gg,b.gh,a.hh.trans b.hh,λc h1 h2=>?_⟩;have e1:=a.new c h1 h2;refine b.new c e1 λz=>h2 ?_;exact a.hh.free z
theorem Yf{H:Hp}{p:vG}(h:H p=none)(o:HO):YM H (upd H p o):=λb u q=>by rw[qb (q01 q h)];exact q
theorem Xi{G H:Hp}{p:vG}(e:YM G H)(o:HO):YM (upd G p o) (upd H p o):=λb u q=>by
 by_cases z:b=p
 ·subst z;rw[qe]at q ⊢;exact q
 ·rw[qb z]at q ⊢;exact e b u q
theorem YK{G H:Hp}{p:vG}(e:YM G H)(h:G p=none)(o:HO):YM G (upd H p o):=λb u q=>by rw[qb (q01 q h)];exact e b u q
theorem Ext.lay{G H:Hp}{p:vG}(e:YM G H)(h:H p=none)(o:HO):Ext G H (upd G p o) (upd H p o):=by
 have g:G p=none:=e.free h;refine⟨Yf g o,Xi e o,Yf h o,λb h1 h2=>?_⟩
 by_cases z:b=p
 ·subst z;exact vM h h2
 ·rw[qb z];exact h1
theorem Ext.hide{G H:Hp}{p:vG}(e:YM G H)(h:H p=none)(o:HO):Ext G H G (upd H p o) :=
 ⟨YM.refl _,YK e (e.free h) o,Yf h o,λ_ z _=>z⟩
inductive W where
 | sh (d:D)|ow (ds:List D)|od (ks:List Int) (ds:List D)|pw (ds:List D)
noncomputable abbrev WSt:=List (Option W)
structure Fr where
 hp:Hp
 pin:Nat->vG
noncomputable instance:CoeFun Fr λ_=>Hp:=⟨Fr.hp⟩
noncomputable instance:Coe Fr Hp:=⟨Fr.hp⟩
noncomputable def fr(H:Hp):Fr:=⟨H,λ_=>0⟩
def Yp(K:zA)(F:Fr)(G:Hp)(ω:WSt)(σ:St)(H:Hp):Prop:=∀(i:Nat)ds,ω[i]?=some (some (.pw ds))->∃vs,σ[i]?=some (some (.ref (F.pin i)))/\H (F.pin i)=some (.lst vs)/\G (F.pin i)=none/\F.hp (F.pin i)=none/\YF K G ds vs /\
 (∀(j:Nat)es,ω[j]?=some (some (.pw es))->F.pin j=F.pin i->j=i)/\∀(j:Nat)es,ω[j]?=some (some (.ow es))->σ[j]?≠some (some (.ref (F.pin i)))
theorem Yp.keep{K:zA}{F:Fr}{G G':Hp}{ω:WSt}{σ:St}{H H':Hp}(o:Yp K F G ω σ H)(e:Ext G H G' H'):Yp K F G' ω σ H':=λi ds h=>by
 obtain⟨vs,h1,h2,h3,h4,h5,h6⟩:=o i ds h;exact⟨vs,h1,e.hh _ _ h2,e.new _ h3 (by rw[h2];exact λz=>by cases z),h4,h5.mono e.gg,h6⟩
theorem Yp.no{K:zA}{F:Fr}{G:Hp}{ω:WSt}{σ:St}{H:Hp}(h:∀(i:Nat)ds,ω[i]?≠some (some (.pw ds))):Yp K F G ω σ H:=λi ds e=>vM e (h i ds)
structure Own (K:zA) (G0:Hp) (H0:Fr) (G:Hp) (ω:WSt) (σ:St) (H:Hp):Prop where
 ext:Ext G0 H0.hp G H
 len:ω.length=σ.length
 sh:∀(i:Nat)d,ω[i]?=some ↥d->∃v,σ[i]?=some (some v)/\Rep K G d v
 ow:∀(i:Nat)ds,ω[i]?=some (some (.ow ds))->∃l vs,σ[i]?=some (some (.ref l))/\H l=some (.lst vs)/\G l=none/\H0 l=none/\YF K G ds vs
 nd:∀(i j:Nat)ds es l,ω[i]?=some (some (.ow ds))->ω[j]?=some (some (.ow es))->σ[i]?=some (some (.ref l))->σ[j]?=some (some (.ref l))->i=j
 od:∀(i:Nat)ks ds,ω[i]?=some (some (.od ks ds))->∃p vs,σ[i]?=some (some (.ref p))/\H p=some (.dK (kvsOf ks vs))/\G p=none/\H0 p=none/\ks.length=ds.length/\YF K G ds vs /\
  ∀(j:Nat)ks' es,ω[j]?=some (some (.od ks' es))->σ[j]?=some (some (.ref p))->i=j
 pw:Yp K H0 G ω σ H
inductive R where
 | sh (d:D)|fr (ds:List D)|vw (ds:List D)
noncomputable def R.d:R->D
 | .sh d=>d
 | .fr ds=>.lst ds
 | .vw ds=>.lst ds
def zAH(K:zA)(H G' H':Hp):R->V->Prop
 | .sh d,v=>Rep K G' d v
 | .fr ds,v=>∃l vs,v=.ref l/\H l=none/\G' l=none/\H' l=some (.lst vs)/\YF K G' ds vs
 | .vw ds,v=>∃l vs,v=.ref l/\H' l=some (.lst vs)/\YF K G' ds vs
def Vw(K:zA)(G H:Hp)(d:D)(v:V):Prop:=Rep K G d v\/∃ds l vs,d=.lst ds/\v=.ref l/\H l=some (.lst vs)/\YF K G ds vs
theorem Own.keep{K:zA}{G0:Hp}{H0:Fr}{G G':Hp}{ω:WSt}{σ:St}{H H':Hp}(o:Own K G0 H0 G ω σ H)(e:Ext G H G' H'):Own K G0 H0 G' ω σ H':=by
 refine⟨o.ext.trans e,o.len,λi d h=>?_,λi ds h=>?_,o.nd,λi ks ds h=>?_,o.pw.keep e⟩
 ·obtain⟨v,h1,h2⟩:=o.sh i d h
  exact⟨v,h1,h2.mono e.gg⟩
 ·obtain⟨l,vs,h1,h2,h3,h4,h5⟩:=o.ow i ds h
  exact⟨l,vs,h1,e.hh _ _ h2,e.new l h3 (by rw[h2];exact λz=>by cases z),h4,h5.mono e.gg⟩
 ·obtain⟨l,vs,h1,h2,h3,h4,h6,h5,h7⟩:=o.od i ks ds h
  exact⟨l,vs,h1,e.hh _ _ h2,e.new l h3 (by rw[h2];exact λz=>by cases z),h4,h6,h5.mono e.gg,h7⟩
theorem Own.gh{K:zA}{G0:Hp}{H0:Fr}{G:Hp}{ω:WSt}{σ:St}{H:Hp}(o:Own K G0 H0 G ω σ H):YM G H:=o.ext.gh
noncomputable abbrev FE:=WSt->Option R
noncomputable abbrev FD:=WSt->Option D
noncomputable abbrev FT:=WSt->Option Bool
noncomputable abbrev FA:=WSt->Option (List D)
def zAb(K:zA)(t:TE)(f:FE):Prop:=∀G0 H0 G ω σ H r(Q:VK),Own K G0 H0 G ω σ H->f ω=some r ->
 (∀v G' H',Ext G H G' H'->zAH K H G' H' r v->Q v H')->t σ H Q
def zAa(K:zA)(t:TE)(f:FD):Prop:=∀G0 H0 G ω σ H d(Q:VK),Own K G0 H0 G ω σ H->f ω=some d ->
 (∀v G' H',Ext G H G' H'->Rep K G' d v->Q v H')->t σ H Q
def SimV(K:zA)(t:TE)(f:FD):Prop:=∀G0 H0 G ω σ H d(Q:VK),Own K G0 H0 G ω σ H->f ω=some d ->
 (∀v G' H',Ext G H G' H'->Vw K G' H' d v->Q v H')->t σ H Q
def Xz(K:zA)(t:TT)(f:FT):Prop:=∀G0 H0 G ω σ H b(Q:Bool->Hp->Prop),Own K G0 H0 G ω σ H->f ω=some b ->
 (∀G' H',Ext G H G' H'->Q b H')->t σ H Q
def SimA(K:zA)(t:TA)(f:FA):Prop:=∀G0 H0 G ω σ H ds(Q:List V->Hp->Prop),Own K G0 H0 G ω σ H->f ω=some ds ->
 (∀vs G' H',Ext G H G' H'->YF K G' ds vs->Q vs H')->t σ H Q
def XE(X:Cx)(e:vP)(f:FE):Prop:=∃t,PE X e t/\zAb X.K t f
def XD(X:Cx)(e:vP)(f:FD):Prop:=∃t,PE X e t/\zAa X.K t f
def XV(X:Cx)(e:vP)(f:FD):Prop:=∃t,PE X e t/\SimV X.K t f
def XT(X:Cx)(e:vP)(f:FT):Prop:=∃t,PT X e t/\Xz X.K t f
def XW(X:Cx)(e:vP)(f:FT):Prop:=∃t,PW X e t/\Xz X.K t f
def XA(X:Cx)(es:List vP)(f:FA):Prop:=(∃t,PA X es t/\SimA X.K t f)/\∀ω ds,f ω=some ds->ds.length=es.length
noncomputable def eOf(f:FD):FE:=λω=>(f ω).map R.sh
noncomputable def dOf(f:FE):FD:=λω=>match f ω with
 | ↥d=>some d
 | some (.fr ds)=>some (.lst ds)
 | _=>none
noncomputable def vOf(f:FE):FD:=λω=>(f ω).map R.d
section
variable{X:Cx}{e:vP}
theorem XD.toE{f:FD}(h:XD X e f):XE X e (eOf f):=by
 obtain⟨t,h1,h2⟩:=h;refine⟨t,h1,λG0 H0 G ω σ H r Q o e k=>?_⟩;unfold eOf at e;cases q:f ω with
 | none=>rw[q]at e;cases e
 | some d=>rw[q]at e;cases e;exact h2 G0 H0 G ω σ H d Q o q k
theorem XE.toD{f:FE}(h:XE X e f):XD X e (dOf f):=by
 obtain⟨t,h1,h2⟩:=h;refine⟨t,h1,λG0 H0 G ω σ H d Q o e k=>?_⟩;unfold dOf at e;cases q:f ω with
 | none=>rw[q]at e;cases e
 | some r=>
  rw[q]at e;cases r with
  | sh d'=>cases e;exact h2 G0 H0 G ω σ H _ Q o q k
  | fr ds=>
   cases e;refine h2 G0 H0 G ω σ H _ Q o q λv G' H' x ⟨l,vs,e1,e2,e3,e4,e5⟩=>?_;have s1:YM G' (upd G' l (.lst vs)):=Yf e3 _;refine k v (upd G' l (.lst vs)) H' ⟨x.gg.trans s1,λb u z=>?_,x.hh,λb z1 z2=>?_⟩ ⟨l,vs,e1,qe,e5.mono s1⟩
   ·by_cases hb:b=l
    ·subst hb;rw[qe]at z;rw[e4];exact z
    ·rw[qb hb]at z;exact x.gh b u z
   ·rw[qb (λhb=>z2 (by rw[hb];exact e2))];exact x.new b z1 z2
  | vw ds=>cases e
theorem XE.toV{f:FE}(h:XE X e f):XV X e (vOf f):=by
 obtain⟨t,h1,h2⟩:=h;refine⟨t,h1,λG0 H0 G ω σ H d Q o e k=>?_⟩;unfold vOf at e;cases q:f ω with
 | none=>rw[q]at e;cases e
 | some r=>
  rw[q]at e;have e':r.d=d:=zt e;subst e';refine h2 G0 H0 G ω σ H r Q o q λv G' H' x y=>k v G' H' x ?_;cases r with
  | sh d'=>exact .inl y
  | fr ds=>obtain⟨l,vs,e1,e2,e3,e4,e5⟩:=y;exact .inr ⟨ds,l,vs,rfl,e1,e4,e5⟩
  | vw ds=>obtain⟨l,vs,e1,e2,e3⟩:=y;exact .inr ⟨ds,l,vs,rfl,e1,e2,e3⟩
theorem XD.toV{f:FD}(h:XD X e f):XV X e f:=by
 obtain⟨t,h1,h2⟩:=h;exact⟨t,h1,λG0 H0 G ω σ H d Q o e k=>h2 G0 H0 G ω σ H d Q o e λv G' H' x y=>k v G' H' x (.inl y)⟩
end
noncomputable def Z6(i:Nat):FE:=λω=>match ω[i]? with
 | some ↥d=>↥d
 | some (some (.ow ds))=>some (.vw ds)
 | some (some (.pw ds))=>some (.vw ds)
 | _=>none
noncomputable def fC(d:D):FD:=λ_=>some d
section
variable{X:Cx}
theorem Wk{e:vP}(i:Nat)(h:PE X e (Y7 i)):XE X e (Z6 i):=by
 refine⟨_,h,λG0 H0 G ω σ H r Q o e k=>?_⟩;unfold Z6 at e;cases q:ω[i]? with
 | none=>rw[q]at e;cases e
 | some w=>
  rw[q]at e;cases w with
  | none=>cases e
  | some w=>
   cases w with
   | sh d=>
    cases e;obtain⟨v,h1,h2⟩:=o.sh i d q;exact⟨v,h1,k v G H (Ext.refl o.gh) h2⟩
   | ow ds=>
    cases e;obtain⟨l,vs,h1,h2,h3,h4,h5⟩:=o.ow i ds q;exact⟨_,h1,k _ G H (Ext.refl o.gh) ⟨l,vs,rfl,h2,h5⟩⟩
   | od ks ds=>cases e
   | pw ds=>
    cases e;obtain⟨vs,h1,h2,h3,h4,h5,_⟩:=o.pw i ds q;exact⟨_,h1,k _ G H (Ext.refl o.gh) ⟨_,vs,rfl,h2,h5⟩⟩
theorem xd_c{e:vP}{v:V}{d:D}(h:PE X e (tC v))(hr:∀K H,Rep K H d v):XD X e (fC d):=by
 refine⟨_,h,λG0 H0 G ω σ H r Q o e k=>?_⟩;cases e;exact k v G H (Ext.refl o.gh) (hr _ _)
theorem Z7{i j pos}:XD X (.Constant (.int i) j pos) (fC (.int i)):=xd_c qeo λ_ _=>rfl
theorem XN{b j pos}:XD X (.Constant (.bool b) j pos) (fC (.bl b)):=xd_c qfv λ_ _=>rfl
end
theorem bnd{α β:Type}{o:Option α}{f:α->Option β}{r:β}(h:o.bind f=some r):∃a,o=some a/\f a=some r:=Option.bind_eq_some_iff.mp h
theorem mpd{α β:Type}{o:Option α}{f:α->β}{r:β}(h:o.map f=some r):∃a,o=some a/\f a=r:=xf.mp h
noncomputable def YI:FA:=λ_=>some []
noncomputable def Z5(f:FD)(g:FA):FA:=λω=>(f ω).bind λd=>(g ω).map λds=>d::ds
section
variable{X:Cx}{e:vP}{es:List vP}
theorem Z8:XA X [] YI:=⟨⟨_,qW,λG0 H0 G ω σ H ds Q o e k=>by cases e;exact k [] G H (Ext.refl o.gh) rfl⟩,λω ds e=>by cases e;rfl⟩
theorem Z4{f:FD}{g:FA}(h:XD X e f)(hr:XA X es g)(hs:vK (e::es) X.env=(false,eval e X.env)::vK es X.env:=by rfl):XA X (e::es) (Z5 f g):=by
 obtain⟨t,h1,h2⟩:=h;obtain⟨⟨u,h3,h4⟩,h5⟩:=hr;refine⟨⟨_,qM h1 h3 hs,λG0 H0 G ω σ H ds Q o e k=>?_⟩,λω ds e=>?_⟩
 ·obtain⟨d,q,e⟩:=bnd e
  obtain⟨r,q2,e⟩:=mpd e;subst e;refine h2 G0 H0 G ω σ H d _ o q λv G1 H1 x1 y1=>?_;refine h4 G0 H0 G1 ω σ H1 r _ (o.keep x1) q2 λvs G2 H2 x2 y2=>?_;exact k _ G2 H2 (x1.trans x2) (YF.cons (y1.mono x2.gg) y2)
 ·obtain⟨d,q,e⟩:=bnd e
  obtain⟨r,q2,e⟩:=mpd e;subst e;rw[zM,zM,h5 ω r q2]
noncomputable def Wp(g:FA):FD:=λω=>(g ω).map D.tup
noncomputable def Xm(g:FA):FE:=λω=>(g ω).map R.fr
theorem WZ{n:Nat}(h:n<=1000):n<=sizeLine:=yK (Wl h)
theorem Yz{x1 pos}{g:FA}(h:XA X es g)(hl:es.length<=1000:=by decide):XD X (.Tuple es x1 pos) (Wp g):=by
 obtain⟨⟨t,h1,h2⟩,h5⟩:=h;refine⟨_,qfn h1,λG0 H0 G ω σ H d Q o e k=>?_⟩;obtain⟨ds,q,e⟩:=mpd e;subst e;refine h2 G0 H0 G ω σ H ds _ o q λvs G1 H1 x1 y1=>⟨WZ (by rw[<- y1.len,h5 ω ds q];exact hl),λp hp=>?_⟩;have x2:=Ext.lay x1.gh hp (.tup vs);exact k _ _ _ (x1.trans x2) ⟨p,vs,rfl,qe,y1.mono x2.gg⟩
theorem YX{pos}{g:FA}(h:XA X es g)(hl:es.length<=1000:=by decide):XE X (.List es pos) (Xm g):=by
 obtain⟨⟨t,h1,h2⟩,h5⟩:=h;refine⟨_,qan h1,λG0 H0 G ω σ H d Q o e k=>?_⟩;obtain⟨ds,q,e⟩:=mpd e;subst e;refine h2 G0 H0 G ω σ H ds _ o q λvs G1 H1 x1 y1=>⟨WZ (by rw[<- y1.len,h5 ω ds q];exact hl),λp hp=>?_⟩;have x2:=Ext.hide x1.gh hp (.lst vs);exact k _ _ _ (x1.trans x2) ⟨p,vs,rfl,x1.hh.free hp,x1.gh.free hp,qe,y1⟩
inductive O where
 | sh (d:D)|fr (ds:List D)
noncomputable def O.r:O->R
 | .sh d=>.sh d
 | .fr ds=>.fr ds
noncomputable def spD(K:zA)(n:Nat)(m:List D->Option O):Sp:=λvs H Q _=>∃G ds r,m ds=some r/\ds.length=n/\YM G H/\YF K G ds vs/\∀v G' H',Ext G H G' H'->zAH K H G' H' r.r v->Q v H'
noncomputable def YG(m:List D->Option O)(g:FA):FE:=λω=>(g ω).bind λds=>(m ds).map O.r
theorem zAN{CX:CXT}{k:Nat}{f:vG}{fd:vN}{ps:List Str}{m:List D->Option O}{E:XK}{x:Str}{p pos:Pos}{g:FA}(F:FnOk X.prog X.w X.K X.mg X.base CX k f fd ps (spD X.K (e::es).length m))(hr:Room k X.A)(hg:Gl X x)(hm:X.mg x=some (.ref f))(hk:xJ X.K (.ref f)=true)(hb:Binds X.K fd ps [])(hx:Xx CX X E)(ha:XA X (e::es) g)(hdb:(x==("__debug__" : Str))=false:=by decide)(he:vK (e::es) X.env=(false,eval e X.env)::vK es X.env:=by rfl)(hpl:(vm pos (vK es X.env)).any (·.1)=false:=by rfl):
  XE X (.Call (.Name x p) (e::es) [] pos) (YG m g):=by
 obtain⟨⟨t,h1,h2⟩,h5⟩:=ha;refine⟨_,qdl F hr hg hm hk hb .nil hx h1 hdb he hpl,λG0 H0 G ω σ H r Q o e k=>?_⟩;obtain⟨ds,q,e⟩:=bnd e;obtain⟨r',q2,e⟩:=mpd e;subst e;refine h2 G0 H0 G ω σ H ds _ o q λvs G1 H1 x1 y1=>?_;refine⟨G1,ds,r',q2,h5 ω ds q,x1.gh,by rw[z5];exact y1,λv G2 H2 x2 y2=>k v G2 H2 (x1.trans x2) ?_⟩;cases r' with
 | sh d=>exact y2
 | fr ds=>obtain⟨l,vs,e1,e2,e3⟩:=y2;exact⟨l,vs,e1,x1.hh.free e2,e3⟩
end
open PySem.Spec PyProof.Rows PySem.SeqAt PySem.MeetsSeq PySem.MeetsSeq2 PySem.MeetsSeq3 in
theorem q5V{prog:vO}{w:vT}{A:vY}{E:vB->vC->Prop}{s:vC}{t sl:vG}{items:Array vB}{vl vu:vB}{lo hi:Option Int}{Q:vB->vC->Prop}(ht:IsTup s.heap t items)(hs:s.heap.IsSliceOf sl vl vu .none)(pl:u8 vl lo)(pu:u8 vu hi)(hw:HT.sIx items.size 0 lo=0/\HT.sIx items.size items.size hi=items.size)(h:Q (.ref t) s):vL (model prog w) A (um (.ref t) (.ref sl)) Q E s:=by
 obtain⟨os,hos,hcs,hds⟩:=id hs;have hTs:s.TypeIs (.ref sl) "slice" := ⟨os,hos,hcs⟩;unfold um
 try with_reducible refine vc ?_
 first|refine vA (vF ?_)|skip
 refine vA (wpAny_sequenceKey ht.typeIs (by decide) ?_);refine vA (wpAny_callSpecial?_slot (name:=Str.ofString "__getitem__") ht.typeIs PyProof.Rows.slot_tuple_getitem
  (vi PyProof.Rows.slot_tuple_getitem ht.typeIs entry_tuple_getitem ?_ (tV _ _)))
 show vL _ _ (Builtin.Tuple.tupleItemsOf (.ref t) >>= _) _ _ s;refine vA (tupleItemsOf_ ht ?_);refine vA (uX hTs ?_);rw[vH (by decide)];refine vA (HT.q1N hs pl pu ?_);have hy:(((HT.sIx items.size 0 lo:Nat):Int)==0&&(1:Int)==1&&(HT.sIx items.size items.size hi-HT.sIx items.size 0 lo)==items.size)=true:=by
  rw[hw.1,hw.2];simp
 show vL _ _ (if (((HT.sIx items.size 0 lo:Nat):Int)==0&&(1:Int)==1&&(HT.sIx items.size items.size hi-HT.sIx items.size 0 lo)==items.size)=true then _ else _) _ _ s;rw[vH hy];have hb:∀{R:Bool->vC->Prop},R true s->vL (model prog w) A.in1 (Builtin.Tuple.tupleIsExact (.ref t)) R E s:=λr=>by
  unfold Builtin.Tuple.tupleIsExact;refine vA (uX ht.typeIs ?_);exact vF r
 refine vA (hb ?_);rw[vH rfl];refine vA (uI ?_);exact vF ⟨_,rfl,vF h⟩
section
variable{X:Cx}
def rSlW(K:zA):V->Option Int->Option Int->Hp->VK->Prop:=λx lo hi H Q=>∃a xs,x=.ref a/\SqT K H a xs /\
 (HT.sIx xs.length 0 lo=0/\HT.sIx xs.length xs.length hi=xs.length)/\Q (.ref a) H
theorem qbO:SlR X (rSlW X.K):=by
 intro pins s σ H x v vl vu lo hi sl Q I rx hs pl pu h;obtain⟨a,xs,rfl,hx,hw,q⟩:=h;cases rx;obtain⟨its,r,ht,hz⟩:=I.tuple hx;have hlen:its.toArray.size=xs.length:=by rw[zO];exact r.length.symm
 refine⟨"tuple", _,PyProof.Rows.slot_tuple_getitem.lookup,ht.typeIs,?_⟩;exact q5V ht hs pl pu (by rw[hlen];exact hw) ⟨.ref a,H,I,rfl,q⟩
end
theorem Vw.rep{K:zA}{G H:Hp}{d:D}{v:V}(h:Vw K G H d v)(e:YM G H):Rep K H d v:=by
 rcases h with h|⟨ds,l,vs,rfl,rfl,h1,h2⟩
 ·exact h.mono e
 ·exact⟨l,vs,rfl,h1,h2.mono e⟩
theorem Vw.keep{K:zA}{G H G' H':Hp}{d:D}{v:V}(h:Vw K G H d v)(e:Ext G H G' H'):Vw K G' H' d v:=by
 rcases h with h|⟨ds,l,vs,h0,h1,h2,h3⟩
 ·exact .inl (h.mono e.gg)
 ·exact .inr ⟨ds,l,vs,h0,h1,e.hh _ _ h2,h3.mono e.gg⟩
theorem Vw.lst{K:zA}{G H:Hp}{ds:List D}{v:V}(h:Vw K G H (.lst ds) v)(e:YM G H):∃a vs,v=.ref a/\H a=some (.lst vs)/\YF K G ds vs:=by
 rcases h with⟨a,vs,h1,h2,h3⟩|⟨ds',l,vs,h0,h1,h2,h3⟩
 ·exact⟨a,vs,h1,e _ _ h2,h3⟩
 ·cases h0;exact⟨l,vs,h1,h2,h3⟩
theorem Vw.of_ne{K:zA}{G H:Hp}{d:D}{v:V}(h:Vw K G H d v)(n:∀ds,d≠.lst ds):Rep K G d v:=by
 rcases h with h|⟨ds',l,vs,h0,h1,h2,h3⟩
 ·exact h
 ·exact vM h0 (n _)
def VwA(K:zA)(G H:Hp):List D->List V->Prop
 | [],vs=>vs=[]
 | d::ds,vs=>∃v r,vs=v::r/\Vw K G H d v/\VwA K G H ds r
def SimVA(K:zA)(t:TA)(f:FA):Prop:=∀G0 H0 G ω σ H ds(Q:List V->Hp->Prop),Own K G0 H0 G ω σ H->f ω=some ds ->
 (∀vs G' H',Ext G H G' H'->VwA K G' H' ds vs->Q vs H')->t σ H Q
def XVA(X:Cx)(es:List vP)(f:FA):Prop:=∃t,PA X es t/\SimVA X.K t f
section
variable{X:Cx}{e:vP}{es:List vP}
theorem qu:XVA X [] YI:=⟨_,qW,λG0 H0 G ω σ H ds Q o e k=>by cases e;exact k [] G H (Ext.refl o.gh) rfl⟩
theorem ql{f:FD}{g:FA}(h:XV X e f)(hr:XVA X es g)(hs:vK (e::es) X.env=(false,eval e X.env)::vK es X.env:=by rfl):XVA X (e::es) (Z5 f g):=by
 obtain⟨t,h1,h2⟩:=h;obtain⟨u,h3,h4⟩:=hr;refine⟨_,qM h1 h3 hs,λG0 H0 G ω σ H ds Q o e k=>?_⟩;obtain⟨d,q,e⟩:=bnd e;obtain⟨r,q2,e⟩:=mpd e;subst e;refine h2 G0 H0 G ω σ H d _ o q λv G1 H1 x1 y1=>?_;refine h4 G0 H0 G1 ω σ H1 r _ (o.keep x1) q2 λvs G2 H2 x2 y2=>?_;exact k _ G2 H2 (x1.trans x2) ⟨v,vs,rfl,y1.keep x2,y2⟩
noncomputable def YC(op:D->D->Option R)(f g:FD):FE:=λω=>(f ω).bind λx=>(g ω).bind λy=>op x y
def OpV(K:zA)(r:R2)(op:D->D->Option R):Prop:=∀G H x y d v u(Q:VK),YM G H->op x y=some d->Vw K G H x v->Vw K G H y u ->
 (∀w G' H',Ext G H G' H'->zAH K H G' H' d w->Q w H')->r v u H Q
theorem q3O{r:R2}{o:D->D->Option R}{f g:FD}{t u:TE}(hd:OpV X.K r o)(h2:SimV X.K t f)(h4:SimV X.K u g):zAb X.K (tOp r t u) (YC o f g):=by
 intro G0 H0 G ω σ H d Q ow e k;obtain⟨x,q,e⟩:=bnd e;obtain⟨y,q2,e⟩:=bnd e;refine h2 G0 H0 G ω σ H x _ ow q λv G1 H1 x1 y1=>?_;refine h4 G0 H0 G1 ω σ H1 y _ (ow.keep x1) q2 λv2 G2 H2 x2 y2=>?_;refine hd G2 H2 x y d v v2 Q x2.gh e (y1.keep x2) y2 λw G3 H3 x3 z=>k w G3 H3 ((x1.trans x2).trans x3) ?_;cases d with
 | sh d=>exact z
 | fr ds=>obtain⟨l,vs,e1,e2,e3⟩:=z;exact⟨l,vs,e1,(x1.trans x2).hh.free e2,e3⟩
 | vw ds=>exact z
variable{a b:vP}{pos:Pos}{f g:FD}
theorem q2D{op:Operator}{r:R2}{o:D->D->Option R}(ho:OpR X (uJ op) r)(hd:OpV X.K r o)(ha:XV X a f)(hb:XV X b g):XE X (.BinOp a op b pos) (YC o f g):=by
 obtain⟨t,h1,h2⟩:=ha;obtain⟨u,h3,h4⟩:=hb;exact⟨_,qfO ho h1 h3,q3O hd h2 h4⟩
theorem q4A{op:tt}{r:R2}{o:D->D->Option R}(ho:OpR X (uN op) r)(hd:OpV X.K r o)(ha:XV X a f)(hb:XV X b g)(hm:vq op b=false):XE X (.Compare a [op] [b] pos) (YC o f g):=by
 obtain⟨t,h1,h2⟩:=ha;obtain⟨u,h3,h4⟩:=hb;exact⟨_,qe6 ho h1 h3 hm,q3O hd h2 h4⟩
theorem qfJ{r:R2}{o:D->D->Option R}(ho:IxR X r)(hd:OpV X.K r o)(ha:XV X a f)(hb:XV X b g)(hs:Xq b):XE X (.Subscript a b pos) (YC o f g):=by
 obtain⟨t,h1,h2⟩:=ha;obtain⟨u,h3,h4⟩:=hb;exact⟨_,qfz ho h1 h3 hs,q3O hd h2 h4⟩
noncomputable def tOf(f:FE):FT:=λω=>match f ω with
 | ↥(.bl k)=>some k
 | _=>none
theorem qaq{t:TE}{f:FE}(h:zAb X.K t f):Xz X.K (tTest t) (tOf f):=by
 intro G0 H0 G ω σ H b Q o e k;unfold tOf at e;cases q:f ω with
 | none=>rw[q]at e;cases e
 | some r=>
  rw[q]at e;cases r with
  | sh d=>
   cases d with
   | bl c=>
    cases e;refine h G0 H0 G ω σ H _ _ o q λv G' H' x y=>?_;cases (show v=V.bl b from y);exact⟨b,rfl,k G' H' x⟩
   | _=>cases e
  | _=>cases e
theorem q71{op:tt}{r:R2}{o:D->D->Option R}(ho:OpR X (uN op) r)(hd:OpV X.K r o)(ha:XV X a f)(hb:XV X b g)(hm:vq op b=false):XT X (.Compare a [op] [b] pos) (tOf (YC o f g)):=by
 obtain⟨t,h1,h2⟩:=ha;obtain⟨u,h3,h4⟩:=hb;exact⟨_,qei ho h1 h3 hm,qaq (q3O hd h2 h4)⟩
noncomputable def Wm(c:Int->Int->Bool)(g:Int->Int->D):D->D->Option R
 | .int i,.int j=>if c i j=true then ↥(g i j)else none
 | _,_=>none
theorem Vw.int{K:zA}{G H:Hp}{i:Int}{v:V}(h:Vw K G H (.int i) v):v=.int i:=h.of_ne (λ_ z=>by cases z)
theorem Vw.bl{K:zA}{G H:Hp}{i:Bool}{v:V}(h:Vw K G H (.bl i) v):v=.bl i:=h.of_ne (λ_ z=>by cases z)
theorem Vw.str{K:zA}{G H:Hp}{i:Str}{v:V}(h:Vw K G H (.str i) v):v=.str i:=h.of_ne (λ_ z=>by cases z)
theorem Vw.non{K:zA}{G H:Hp}{v:V}(h:Vw K G H .non v):v=.non:=h.of_ne (λ_ z=>by cases z)
theorem Vw.tup{K:zA}{G H:Hp}{ds:List D}{v:V}(h:Vw K G H (.tup ds) v):∃a vs,v=.ref a/\G a=some (.tup vs)/\YF K G ds vs:=h.of_ne (λ_ z=>by cases z)
theorem Vw.scr{K:zA}{G H:Hp}{ns:List Int}{v:V}(h:Vw K G H (.scr ns) v):∃a,v=.ref a/\SqL K G a (ns.map V.int):=h.of_ne (λ_ z=>by cases z)
theorem q3P{K:zA}{C:Int->Int->Prop}{c:Int->Int->Bool}{gV:Int->Int->V}{g:Int->Int->D}(hc:∀i j,c i j=true->C i j)(hg:∀H i j,Rep K H (g i j) (gV i j)):OpV K (rI C gV) (Wm c g):=by
 intro G H x y d v u Q s e hx hy k;cases x with
 | int i=>
  cases y with
  | int j=>
   cases hx.int;cases hy.int;unfold Wm at e
   dsimp only at e
   by_cases z:c i j=true
   ·rw[vH z]at e
    cases e;exact⟨i,j,rfl,rfl,hc i j z,k _ G H (Ext.refl s) (hg _ i j)⟩
   ·rw[vJ z]at e;cases e
  | _=>cases e
 | _=>cases e
theorem q34{K:zA}{gV:Int->Int->V}{g:Int->Int->D}(hg:∀H i j,Rep K H (g i j) (gV i j)):OpV K (rI0 gV) (Wm (λ_ _=>true) g):=by
 intro G H x y d v u Q s e hx hy k;cases x with
 | int i=>
  cases y with
  | int j=>
   cases hx.int;cases hy.int;cases e;exact⟨i,j,rfl,rfl,k _ G H (Ext.refl s) (hg _ i j)⟩
  | _=>cases e
 | _=>cases e
noncomputable def zAI(i j:Int):Bool:=(decide (-(2^64)<i)&&decide (i<2^64)) || (decide (-(2^64)<j)&&decide (j<2^64))
noncomputable def cDiv(_ j:Int):Bool:=decide (0<j)&&decide (j<1073741824)
noncomputable def cMod(_ j:Int):Bool:=decide (0<j)
noncomputable def cPow(i j:Int):Bool:=decide (0<=j)&&decide (j<=1000000)&&decide (i.natAbs<2^64)
noncomputable abbrev W2:D->D->Option R:=Wm (λ_ _=>true) λi j=>.int (i-j)
noncomputable abbrev Xo:D->D->Option R:=Wm zAI λi j=>.int (i*j)
noncomputable abbrev oDiv:D->D->Option R:=Wm cDiv λi j=>.int (i/j)
noncomputable abbrev oMod:D->D->Option R:=Wm cMod λi j=>.int (i%j)
noncomputable abbrev oPow:D->D->Option R:=Wm cPow λi j=>.int (i^j.toNat)
noncomputable abbrev oLt:D->D->Option R:=Wm (λ_ _=>true) λi j=>.bl (decide (i<j))
noncomputable abbrev oGe:D->D->Option R:=Wm (λ_ _=>true) λi j=>.bl (decide (j<=i))
noncomputable def Yk:D->D->Option R
 | .int i,.int j=>↥(.int (i+j))
 | .lst xs,.lst ys=>if xs.length+ys.length<=1000000 then some (.fr (xs++ys))else none
 | .tup [],.tup ys=>↥(.tup ys)
 | .tup (x::xs),.tup ys=>if (x::xs).length+ys.length<=1000000 then ↥(.tup ((x::xs)++ys))else none
 | _,_=>none
theorem q48{n:Nat}(h:n<=1000000):n<=sizeLine:=by rw[vn];omega
noncomputable def rCat0(K:zA):R2:=λx y H Q=>∃a b ys,x=.ref a/\y=.ref b/\SqT K H a []/\SqT K H b ys/\Q (.ref b) H
theorem qdH:OpR X (uJ .Add) (rCat0 X.K):=by
 intro pins s σ H x y v u Q I rx ry h;obtain⟨a,b,ys,rfl,rfl,ha,hb,q⟩:=h;cases rx;cases ry;obtain⟨its,r1,p1,_⟩:=I.tuple ha;obtain⟨its2,r2,p2,_⟩:=I.tuple hb;have e0:its=[]:=r1.nil_iff.mpr rfl;subst e0;obtain⟨⟨cls,dd,data,sl⟩,ho,hc,n,hd⟩:=id p1;obtain⟨⟨cls2,dd2,data2,sl2⟩,ho2,hc2,n2,hd2⟩:=id p2;simp only at hc hd hc2 hd2;subst hc hd hc2 hd2;exact PySem.concat_meets ⟨_,ho,rfl⟩ ⟨_,ho2,rfl⟩ PySem.noFill_tuple_add PySem.seq_tuple_add PySem.F.slot_tuple_add PySem.F.entry_tuple_add (PySem.F.args_tuple_add_2 _ _)
  (PyProof.Rows.tuple_addW0 a b _ its2.toArray n n2 dd dd2 sl sl2 (by simp)) ⟨ho,ho2,⟨.ref b,H,I,rfl,q⟩⟩
noncomputable def WW(K:zA):R2:=λx y H Q=>rI0 (λi j=>.int (i+j)) x y H Q\/rCat x y H Q\/rCatT K x y H Q\/rCat0 K x y H Q
theorem q9F:OpR X (uJ .Add) (WW X.K):=qfa.or (qf6.or (qd3.or qdH))
theorem qd7{K:zA}:OpV K (WW K) Yk:=by
 intro G H x y d v u Q s e hx hy k;cases x with
 | int i=>
  cases y with
  | int j=>
   cases hx.int;cases hy.int;cases e;exact .inl ⟨i,j,rfl,rfl,k _ G H (Ext.refl s) rfl⟩
  | _=>cases e
 | lst xs=>
  cases y with
  | lst ys=>
   unfold Yk at e
   dsimp only at e
   by_cases z:xs.length+ys.length<=1000000
   ·rw[vH z]at e
    cases e;obtain⟨a,vs,rfl,h1,h2⟩:=hx.lst s;obtain⟨b,us,rfl,h3,h4⟩:=hy.lst s;refine .inr (.inl ⟨a,b,vs,us,rfl,rfl,h1,h3,q48 (by rw[<- h2.len,<- h4.len];exact z),λp hp=>?_⟩);exact k _ G _ (Ext.hide s hp _) ⟨p,_,rfl,hp,s.free hp,qe,h2.app h4⟩
   ·rw[vJ z]at e;cases e
  | _=>cases e
 | tup xs=>
  cases y with
  | tup ys=>
   obtain⟨a,vs,rfl,h1,h2⟩:=hx.tup;obtain⟨b,us,rfl,h3,h4⟩:=hy.tup;cases xs with
   | nil=>
    cases e;have ev:vs=[]:=yj h2.len.symm;subst ev;exact .inr (.inr (.inr ⟨a,b,us,rfl,rfl,SqT.of (s _ _ h1),SqT.of (s _ _ h3),k _ G H (Ext.refl s) ⟨b,us,rfl,h3,h4⟩⟩))
   | cons x0 xs=>
    unfold Yk at e
    dsimp only at e
    by_cases z:(x0::xs).length+ys.length<=1000000
    ·rw[vH z]at e
     cases e;refine .inr (.inr (.inl ⟨a,b,vs,us,rfl,rfl,SqT.of (s _ _ h1),SqT.of (s _ _ h3),λw=>?_,q48 (by rw[<- h2.len,<- h4.len];exact z),λw=>?_,λ_ p hp=>?_⟩))
     ·have:=h2.len
      rw[w]at this;cases this
     ·have:=h4.len
      rw[w]at this;have ey:ys=[]:=yj this;subst ey;rw[z5]at k;exact k _ G H (Ext.refl s) ⟨a,vs,rfl,h1,h2⟩
     ·have x2:=Ext.lay s hp (.tup (vs++us))
      exact k _ _ _ x2 ⟨p,_,rfl,qe,(h2.app h4).mono x2.gg⟩
    ·rw[vJ z]at e;cases e
  | _=>cases xs <;> cases e
 | _=>cases e
theorem qq(ha:XV X a f)(hb:XV X b g):XE X (.BinOp a .Add b pos) (YC Yk f g):=q2D q9F qd7 ha hb
theorem q29(ha:XV X a f)(hb:XV X b g):XE X (.BinOp a .Sub b pos) (YC W2 f g):=q2D qel (q34 λ_ _ _=>rfl) ha hb
theorem mulOk{i j:Int}(h:zAI i j=true):CMul i j:=by
 unfold zAI at h;rw[Bool.or_eq_true,zr,zr,decide_eq_true_iff,decide_eq_true_iff,decide_eq_true_iff,decide_eq_true_iff]at h;exact h
theorem divOk{i j:Int}(h:cDiv i j=true):CDiv i j:=by
 unfold cDiv at h;rw[zr,decide_eq_true_iff,decide_eq_true_iff]at h;exact h
theorem powOk{i j:Int}(h:cPow i j=true):CPow i j:=by
 unfold cPow at h;rw[zr,zr,decide_eq_true_iff,decide_eq_true_iff,decide_eq_true_iff]at h;exact⟨h.1.1,h.1.2,h.2⟩
theorem q1j(ha:XV X a f)(hb:XV X b g):XE X (.BinOp a .Mult b pos) (YC Xo f g):=q2D qeA (q3P (λ_ _ h=>mulOk h) λ_ _ _=>rfl) ha hb
theorem qI(ha:XV X a f)(hb:XV X b g):XE X (.BinOp a .FloorDiv b pos) (YC oDiv f g):=q2D qdU (q3P (λ_ _ h=>divOk h) λ_ _ _=>rfl) ha hb
theorem qr(ha:XV X a f)(hb:XV X b g):XE X (.BinOp a .Mod b pos) (YC oMod f g):=q2D qeO (q3P (λ_ _ h=>of_decide_eq_true h) λ_ _ _=>rfl) ha hb
theorem qfj(ha:XV X a f)(hb:XV X b g):XE X (.BinOp a .Pow b pos) (YC oPow f g):=q2D qf9 (q3P (λ_ _ h=>powOk h) λ_ _ _=>rfl) ha hb
noncomputable def oNeg:D->Option R
 | .int i=>↥(.int (-i))
 | _=>none
noncomputable def zAF(f:FD):FE:=λω=>(f ω).bind oNeg
theorem q2Q(ha:XV X a f):XE X (.UnaryOp .USub a pos) (zAF f):=by
 obtain⟨t,h1,h2⟩:=ha;refine⟨_,qfN qf5 h1,λG0 H0 G ω σ H d Q ow e k=>?_⟩;obtain⟨x,q,e⟩:=bnd e;refine h2 G0 H0 G ω σ H x _ ow q λv G1 H1 x1 y1=>?_;cases x with
 | int i=>cases e;cases y1.int;exact⟨i,rfl,k _ G1 H1 x1 rfl⟩
 | _=>cases e
theorem qcr(ha:XV X a f)(hb:XV X b g):XE X (.Compare a [.Lt] [b] pos) (YC oLt f g):=q4A qcS (q34 λ_ _ _=>rfl) ha hb (XU _)
theorem qcv(ha:XV X a f)(hb:XV X b g):XE X (.Compare a [.GtE] [b] pos) (YC oGe f g):=q4A qfF (q34 λ_ _ _=>rfl) ha hb (XU _)
theorem qfI(ha:XV X a f)(hb:XV X b g):XT X (.Compare a [.Lt] [b] pos) (tOf (YC oLt f g)):=q71 qcS (q34 λ_ _ _=>rfl) ha hb (XU _)
end
mutual
noncomputable def D.py:D->PyData
 | .non=>.none
 | .bl b=>.bool b
 | .int i=>.int i
 | .str x=>.str x
 | .lst xs=>.list (D.pys xs)
 | .tup xs=>.tuple (D.pys xs)
 | .scr ns=>.list (ns.map PyData.int)
 | .exc _=>.dict []
 | .dic _ _=>.dict []
noncomputable def D.pys:List D->List PyData
 | []=>[]
 | d::ds=>d.py::D.pys ds
end
section
variable{X:Cx}{pins:List (vG×Obj)}{σ:St}{H:Hp}{s:vC}
theorem XY{h:vZ}:∀{ns:List Int}{us:List vB},YO (ns.map V.int) us->∃as,ReadsAll h us (ns.map PyData.int) as
 | [],_,r=>by cases r;exact⟨_,.nil⟩
 | n::ns,_,r=>by
  rw[zU]at r;cases r with
  | cons r1 r2=>
   obtain⟨t,rfl⟩:=r1;obtain⟨as,q⟩:=XY (h:=h) r2;exact⟨_,.cons (.int n t) q⟩
mutual
theorem Yw(I:Inv X pins σ H s):∀{d:D}{v:V}{u:vB},d.py.canLay0=true->Rep X.K H d v->RelV v u->∃as,Reads s.heap u d.py as
 | .non,_,_,_,h,r=>by cases (show _=V.non from h);cases r;exact⟨_,.none⟩
 | .bl b,_,_,_,h,r=>by cases (show _=V.bl b from h);cases r;exact⟨_,.bool b⟩
 | .int i,_,_,_,h,r=>by cases (show _=V.int i from h);obtain⟨t,rfl⟩:=r;exact⟨_,.int i t⟩
 | .str x,_,_,_,h,r=>by cases (show _=V.str x from h);obtain⟨t,rfl⟩:=r;exact⟨_,.str x t⟩
 | .lst ds,_,_,hc,⟨a,vs,rfl,h2,h3⟩,r=>by
  cases r;obtain⟨its,n,rv,e,_⟩:=I.lst h2;obtain⟨as,q⟩:=XC I (show PyData.canLayAll0 (D.pys ds)=true from hc) h3 rv;exact⟨_,.list e rfl rfl ⇑q⟩
 | .tup ds,_,_,hc,⟨a,vs,rfl,h2,h3⟩,r=>by
  cases r;obtain⟨its,rv,⟨o,e,c,n,dd⟩,_⟩:=I.tuple (SqT.of h2);obtain⟨as,q⟩:=XC I (show PyData.canLayAll0 (D.pys ds)=true from hc) h3 rv;exact⟨_,.tuple e c dd ⇑q⟩
 | .exc _,_,_,hc,_,_=>by cases hc
 | .dic _ _,_,_,hc,_,_=>by cases hc
 | .scr ns,_,_,_,⟨a,rfl,h2⟩,r=>by
  cases r;obtain⟨its,rv,pl,_⟩:=I.list h2;obtain⟨o,e,c,n,dd⟩:=pl.isList;obtain⟨as,q⟩:=XY (h:=s.heap) rv;exact⟨_,.list e c dd ⇑q⟩
theorem XC(I:Inv X pins σ H s):∀{ds:List D}{vs:List V}{us:List vB},PyData.canLayAll0 (D.pys ds)=true->YF X.K H ds vs->YO vs us->∃as,ReadsAll s.heap us (D.pys ds) as
 | [],_,_,_,h,r=>by cases (show _=[]from h);cases r;exact⟨_,.nil⟩
 | d::ds,_,_,hc,⟨v,vr,h1,h2,h3⟩,r=>by
  have hc':=wm.mp (show (d.py.canLay0&&PyData.canLayAll0 (D.pys ds))=true from hc);subst h1;cases r with
  | cons r1 r2=>
   obtain⟨as,q1⟩:=Yw I hc'.1 h2 r1;obtain⟨bs,q2⟩:=XC I hc'.2 h3 r2;exact⟨_,.cons q1 q2⟩
end
end
noncomputable def shp(d:D):Bool:=SeqAt.shaped d.py
noncomputable def eqD(x y:D):Bool:=PyData.eqv x.py y.py
noncomputable def rEqD(K:zA)(neg:Bool):R2:=λx y H Q=>∃d e,Rep K H d x/\Rep K H e y/\shp d=true/\shp e=true/\Q (.bl (if neg then !eqD d e else eqD d e)) H
noncomputable def oEq(neg:Bool):D->D->Option R:=λx y=>if shp x&&shp y then ↥(.bl (if neg then !eqD x y else eqD x y))else none
section
variable{X:Cx}{a b:vP}{pos:Pos}{f g:FD}
theorem zAA(hu:X.A.units+64<ue):OpR X (uN .Eq) (rEqD X.K false):=by
 intro pins s σ H x y v u Q I rx ry h;obtain⟨d,e,h1,h2,h3,h4,q⟩:=h;obtain⟨as,ra⟩:=Yw I (SeqAt.canLay_of_shaped h3) h1 rx;obtain⟨bs,rb⟩:=Yw I (SeqAt.canLay_of_shaped h4) h2 ry;exact SeqAt.compareEq_shaped ra rb h3 h4 hu ⟨.bl _,H,I,rfl,q⟩
theorem op_neD(hu:X.A.units+64<ue):OpR X (uN .NotEq) (rEqD X.K true):=by
 intro pins s σ H x y v u Q I rx ry h;obtain⟨d,e,h1,h2,h3,h4,q⟩:=h;obtain⟨as,ra⟩:=Yw I (SeqAt.canLay_of_shaped h3) h1 rx;obtain⟨bs,rb⟩:=Yw I (SeqAt.canLay_of_shaped h4) h2 ry;exact SeqAt.compareNe_shaped ra rb h3 h4 hu ⟨.bl _,H,I,rfl,q⟩
theorem Wj{K:zA}{neg:Bool}:OpV K (rEqD K neg) (oEq neg):=by
 intro G H x y d v u Q s e hx hy k;unfold oEq at e
 by_cases z:(shp x&&shp y)=true
 ·rw[vH z]at e
  cases e;rw[zr]at z;exact⟨x,y,hx.rep s,hy.rep s,z.1,z.2,k _ G H (Ext.refl s) rfl⟩
 ·rw[vJ z]at e;cases e
theorem xe_eq(hu:X.A.units+64<ue)(ha:XV X a f)(hb:XV X b g):XE X (.Compare a [.Eq] [b] pos) (YC (oEq false) f g):=q4A (zAA hu) Wj ha hb (XU _)
theorem Wi(hu:X.A.units+64<ue)(ha:XV X a f)(hb:XV X b g):XT X (.Compare a [.Eq] [b] pos) (tOf (YC (oEq false) f g)):=q71 (zAA hu) Wj ha hb (XU _)
theorem Xu(hu:X.A.units+64<ue)(ha:XV X a f)(hb:XV X b g):XT X (.Compare a [.NotEq] [b] pos) (tOf (YC (oEq true) f g)):=q71 (op_neD hu) Wj ha hb (XU _)
noncomputable def Yt:D->Bool
 | .non=>true
 | .bl _=>true
 | .int _=>true
 | .str _=>true
 | _=>false
noncomputable def D.v:D->V
 | .bl b=>.bl b
 | .int i=>.int i
 | .str x=>.str x
 | _=>.non
theorem Xd{K:zA}{H:Hp}{d:D}{v:V}(h:Rep K H d v)(f:Yt d=true):v=d.v/\XL v=true:=by
 cases d with
 | non=>cases (show v=V.non from h);exact⟨rfl,rfl⟩
 | bl b=>cases (show v=V.bl b from h);exact⟨rfl,rfl⟩
 | int b=>cases (show v=V.int b from h);exact⟨rfl,rfl⟩
 | str b=>cases (show v=V.str b from h);exact⟨rfl,rfl⟩
 | _=>cases f
theorem Y8{K:zA}{H:Hp}:∀{ds:List D}{vs:List V},YF K H ds vs->ds.all Yt=true->vs=ds.map D.v/\vs.all XL=true
 | [],_,h,_=>by cases (show _=[]from h);exact⟨rfl,rfl⟩
 | d::ds,_,⟨v,r,h1,h2,h3⟩,f=>by
  rw[xG,zr]at f;obtain⟨e1,e2⟩:=Xd h2 f.1;obtain⟨e3,e4⟩:=Y8 h3 f.2;subst h1;refine⟨by rw[zU,<- e1,<- e3],by rw[xG,e2,e4];rfl⟩
noncomputable def inD(x:D)(ds:List D):Bool:=inV x.v (ds.map D.v)
noncomputable def oIn(neg:Bool):D->D->Option R
 | x,.lst ys=>if Yt x&&ys.all Yt then ↥(.bl (if neg then !inD x ys else inD x ys))else none
 | x,.tup ys=>if Yt x&&ys.all Yt then ↥(.bl (if neg then !inD x ys else inD x ys))else none
 | _,_=>none
theorem opv_in{K:zA}{neg:Bool}:OpV K (rIn K neg) (oIn neg):=by
 intro G H x y d v u Q s e hx hy k;cases y with
 | lst ys=>
  unfold oIn at e
  dsimp only at e
  by_cases z:(Yt x&&ys.all Yt)=true
  ·rw[vH z]at e
   cases e;rw[zr]at z;obtain⟨p,vs,rfl,h1,h2⟩:=hy.lst s;obtain⟨e1,e2⟩:=Xd (hx.rep s) z.1;obtain⟨e3,e4⟩:=Y8 h2 z.2;refine⟨p,vs,rfl,.inl (SqL.of h1),e2,e4,?_⟩;rw[e1,e3];exact k _ G H (Ext.refl s) rfl
  ·rw[vJ z]at e;cases e
 | tup ys=>
  unfold oIn at e
  dsimp only at e
  by_cases z:(Yt x&&ys.all Yt)=true
  ·rw[vH z]at e
   cases e;rw[zr]at z;obtain⟨p,vs,rfl,h1,h2⟩:=hy.tup;obtain⟨e1,e2⟩:=Xd (hx.rep s) z.1;obtain⟨e3,e4⟩:=Y8 h2 z.2;refine⟨p,vs,rfl,.inr (SqT.of (s _ _ h1)),e2,e4,?_⟩;rw[e1,e3];exact k _ G H (Ext.refl s) rfl
  ·rw[vJ z]at e;cases e
 | _=>cases x <;> cases e
theorem xe_in(ha:XV X a f)(hb:XV X b g)(hm:vq .In b=false:=by with_unfolding_all rfl):XE X (.Compare a [.In] [b] pos) (YC (oIn false) f g):=q4A qbp opv_in ha hb hm
noncomputable def oIx:D->D->Option R
 | .lst ds,.int i=>(atI ds i).map R.sh
 | .tup ds,.int i=>(atI ds i).map R.sh
 | .scr ns,.int i=>(atI ns i).map λn=>.sh (.int n)
 | _,_=>none
theorem X0{K:zA}{H:Hp}{ds:List D}{vs:List V}{i:Int}{d:D}(h:YF K H ds vs)(e:atI ds i=some d):∃v,atI vs i=some v/\Rep K H d v:=by
 unfold atI at e ⊢;rw[<- h.len];cases q:ixN ds.length i with
 | none=>rw[q]at e;cases e
 | some j=>
  rw[q]at e;obtain⟨v,e1,e2⟩:=h.get e;exact⟨v,e1,e2⟩
theorem Wu{ns:List Int}{i n:Int}(e:atI ns i=some n):atI (ns.map V.int) i=some (.int n):=by
 unfold atI at e ⊢;rw[zB];cases q:ixN ns.length i with
 | none=>rw[q]at e;cases e
 | some j=>
  rw[q]at e;have e':ns[j]?=some n:=e;show (ns.map V.int)[j]?=_;rw[zW,e'];rfl
theorem opv_ix{K:zA}:OpV K (rIx K) oIx:=by
 intro G H x y d v u Q s e hx hy k;cases y with
 | int i=>
  cases hy.int;cases x with
  | lst ds=>
   obtain⟨d',q,e'⟩:=mpd e;subst e';obtain⟨p,vs,rfl,h1,h2⟩:=hx.lst s;obtain⟨w,e1,e2⟩:=X0 h2 q;exact .inl ⟨p,vs,i,w,rfl,rfl,SqL.of h1,e1,k _ G H (Ext.refl s) e2⟩
  | tup ds=>
   obtain⟨d',q,e'⟩:=mpd e;subst e';obtain⟨p,vs,rfl,h1,h2⟩:=hx.tup;obtain⟨w,e1,e2⟩:=X0 h2 q;exact .inr (.inl ⟨p,vs,i,w,rfl,rfl,SqT.of (s _ _ h1),e1,k _ G H (Ext.refl s) e2⟩)
  | scr ns=>
   obtain⟨n,q,e'⟩:=mpd e;subst e';obtain⟨p,rfl,h1⟩:=hx.scr;exact .inl ⟨p,_,i,.int n,rfl,rfl,s.seq h1,Wu q,k _ G H (Ext.refl s) rfl⟩
  | _=>cases e
 | _=>cases x <;> cases e
theorem YD(ha:XV X a f)(hb:XV X b g)(hs:Xq b:=by exact λ_ _=>rfl):XE X (.Subscript a b pos) (YC oIx f g):=qfJ qev opv_ix ha hb hs
noncomputable abbrev FO:=WSt->Option (Option Int)
def SimO(K:zA)(t:TO)(f:FO):Prop:=∀G0 H0 G ω σ H o(Q:Option Int->Hp->Prop),Own K G0 H0 G ω σ H->f ω=some o->(∀G' H',Ext G H G' H'->Q o H')->t σ H Q
def XO(X:Cx)(e:Option vP)(f:FO):Prop:=∃t,PO X e t/\SimO X.K t f
noncomputable def pNo:FO:=λ_=>some none
noncomputable def pAt(f:FD):FO:=λω=>(f ω).bind λd=>match d with|.int i=>some (some i)|_=>none
theorem Yo:XO X none pNo:=⟨_,qdW,λG0 H0 G ω σ H o Q ow e k=>by cases e;exact k G H (Ext.refl ow.gh)⟩
theorem Ya(h:XV X a f):XO X (some a) (pAt f):=by
 obtain⟨t,h1,h2⟩:=h;refine⟨_,qdu h1,λG0 H0 G ω σ H o Q ow e k=>?_⟩;obtain⟨d,q,e⟩:=bnd e;refine h2 G0 H0 G ω σ H d _ ow q λv G1 H1 x1 y1=>?_;cases d with
 | int i=>cases e;cases y1.int;exact⟨i,rfl,k G1 H1 x1⟩
 | _=>cases e
noncomputable def cutD{α:Type}(xs:List α)(lo hi:Option Int):List α:=(xs.drop (HT.sIx xs.length 0 lo)).take (HT.sIx xs.length xs.length hi-HT.sIx xs.length 0 lo)
theorem X3{K:zA}{H:Hp}{ds:List D}{vs:List V}(h:YF K H ds vs)(lo hi:Option Int):YF K H (cutD ds lo hi) (Wh vs lo hi):=by
 unfold cutD Wh;rw[h.len];exact(h.drop _).take _
theorem Wq(ns:List Int)(lo hi:Option Int):Wh (ns.map V.int) lo hi=(cutD ns lo hi).map V.int:=by
 unfold cutD Wh;rw[zB,ZA,ZB]
noncomputable def oSl:D->Option Int->Option Int->Option R
 | .lst ds,lo,hi=>some (.fr (cutD ds lo hi))
 | .scr ns,lo,hi=>some (.fr ((cutD ns lo hi).map D.int))
 | .tup ds,lo,hi=>if HT.sIx ds.length 0 lo=0/\HT.sIx ds.length ds.length hi=ds.length then ↥(.tup ds)else ↥(.tup (cutD ds lo hi))
 | _,_,_=>none
noncomputable def fSl(f:FD)(l h:FO):FE:=λω=>(f ω).bind λd=>(l ω).bind λlo=>(h ω).bind λhi=>oSl d lo hi
theorem YW{lo hi:Option vP}{l h:FO}{p2:Pos}(ha:XV X a f)(hl:XO X lo l)(hh:XO X hi h):XE X (.Subscript a (.Slice lo hi none p2) pos) (fSl f l h):=by
 obtain⟨t,h1,h2⟩:=ha;obtain⟨tl,h3,h4⟩:=hl;obtain⟨th,h5,h6⟩:=hh;refine⟨_,qbB (qds.or (qeK.or qbO)) h1 h3 h5,λG0 H0 G ω σ H r Q ow e k=>?_⟩;obtain⟨d,q,e⟩:=bnd e;obtain⟨lo',q2,e⟩:=bnd e;obtain⟨hi',q3,e⟩:=bnd e;refine h2 G0 H0 G ω σ H d _ ow q λv G1 H1 x1 y1=>?_;refine h4 G0 H0 G1 ω σ H1 lo' _ (ow.keep x1) q2 λG2 H2 x2=>?_;refine h6 G0 H0 G2 ω σ H2 hi' _ ((ow.keep x1).keep x2) q3 λG3 H3 x3=>?_;have y3:=(y1.keep x2).keep x3;have x13:=(x1.trans x2).trans x3;cases d with
 | lst ds=>
  cases e;obtain⟨p,vs,rfl,h1,h2⟩:=y3.lst x3.gh;refine .inl ⟨p,vs,rfl,SqL.of h1,λn hn=>?_⟩;exact k _ G3 _ (x13.trans (Ext.hide x3.gh hn _)) ⟨n,_,rfl,x13.hh.free hn,x3.gh.free hn,qe,X3 h2 _ _⟩
 | scr ns=>
  cases e;obtain⟨p,rfl,h1⟩:=y3.scr;refine .inl ⟨p,_,rfl,x3.gh.seq h1,λn hn=>?_⟩;refine k _ G3 _ (x13.trans (Ext.hide x3.gh hn _)) ⟨n,_,rfl,x13.hh.free hn,x3.gh.free hn,qe,?_⟩;rw[Wq];exact YF.ints _
 | tup ds=>
  unfold oSl at e
  dsimp only at e
  obtain⟨p,vs,rfl,h1,h2⟩:=y3.tup
  by_cases z:HT.sIx ds.length 0 lo'=0/\HT.sIx ds.length ds.length hi'=ds.length
  ·rw[vH z]at e
   cases e;exact .inr (.inr ⟨p,vs,rfl,SqT.of (x3.gh _ _ h1),by rw[<- h2.len];exact z,k _ G3 H3 x13 ⟨p,vs,rfl,h1,h2⟩⟩)
  ·rw[vJ z]at e
   cases e;refine .inr (.inl ⟨p,vs,rfl,SqT.of (x3.gh _ _ h1),by rw[<- h2.len];exact z,λn hn=>?_⟩);have x4:=Ext.lay x3.gh hn (.tup (Wh vs lo' hi'));exact k _ _ _ (x13.trans x4) ⟨n,_,rfl,qe,(X3 h2 _ _).mono x4.gg⟩
 | _=>cases e
end
section
variable{X:Cx}{a b c:vP}{pos:Pos}{rest:List vP}{f g:FT}
noncomputable def Wb(f g:FT):FT:=λω=>(f ω).bind λc=>if c=true then g ω else some false
noncomputable def zAE(f g:FT):FT:=λω=>(f ω).bind λc=>if c=true then some true else g ω
noncomputable def XB(f:FT):FT:=λω=>(f ω).map (!·)
theorem qcn{t u:TT}(h:Xz X.K t f)(h':Xz X.K u g):Xz X.K (tAnd t u) (Wb f g):=by
 intro G0 H0 G ω σ H b Q o e k;obtain⟨c,q,e⟩:=bnd e;refine h G0 H0 G ω σ H c _ o q λG1 H1 x1=>?_;cases c with
 | true=>rw[vH rfl]at e ⊢;exact h' G0 H0 G1 ω σ H1 b Q (o.keep x1) e λG2 H2 x2=>k G2 H2 (x1.trans x2)
 | false=>cases e;exact k G1 H1 x1
theorem qd5{t u:TT}(h:Xz X.K t f)(h':Xz X.K u g):Xz X.K (tOr t u) (zAE f g):=by
 intro G0 H0 G ω σ H b Q o e k;obtain⟨c,q,e⟩:=bnd e;refine h G0 H0 G ω σ H c _ o q λG1 H1 x1=>?_;cases c with
 | true=>cases e;exact k G1 H1 x1
 | false=>exact h' G0 H0 G1 ω σ H1 b Q (o.keep x1) e λG2 H2 x2=>k G2 H2 (x1.trans x2)
theorem q8K(h:XT X a f):XW X (.BoolOp .And [a] pos) f:=let ⟨t,h1,h2⟩:=h;⟨t,qdk h1,h2⟩
theorem q6Q(h:XT X a f):XW X (.BoolOp .Or [a] pos) f:=let ⟨t,h1,h2⟩:=h;⟨t,qeQ h1,h2⟩
theorem qac(h:XT X a f)(h':XW X (.BoolOp .And (b::rest) pos) g):XW X (.BoolOp .And (a::b::rest) pos) (Wb f g):=let ⟨_,h1,h2⟩:=h;let ⟨_,h3,h4⟩:=h';⟨_,qeE h1 h3,qcn h2 h4⟩
theorem q4v(h:XT X a f)(h':XW X (.BoolOp .Or (b::rest) pos) g):XW X (.BoolOp .Or (a::b::rest) pos) (zAE f g):=let ⟨_,h1,h2⟩:=h;let ⟨_,h3,h4⟩:=h';⟨_,qfA h1 h3,qd5 h2 h4⟩
theorem XW.toT(h:XW X a f):XT X a f:=let ⟨t,h1,h2⟩:=h;⟨t,h1.pt,h2⟩
theorem q0J(h:XT X a f):XT X (.UnaryOp .Not a pos) (XB f):=by
 obtain⟨t,h1,h2⟩:=h;refine⟨_,qfl h1,λG0 H0 G ω σ H b Q o e k=>?_⟩;obtain⟨c,q,e⟩:=mpd e;subst e;exact h2 G0 H0 G ω σ H c _ o q k
noncomputable def truD:D->Option Bool
 | .non=>some false
 | .bl b=>some b
 | .int i=>some (i != 0)
 | .lst xs=>some (!xs.isEmpty)
 | .tup xs=>some (!xs.isEmpty)
 | _=>none
noncomputable def Xr(f:FD):FT:=λω=>(f ω).bind truD
theorem q3X{α β:Type}{xs:List α}{ys:List β}(h:xs.length=ys.length):xs.isEmpty=ys.isEmpty:=by
 cases xs <;> cases ys <;> first|rfl|cases h
theorem qV{f:FD}(h:XV X a f)(he:∀whole,t8 a X.env whole=(do let v <- whole;t7 a.pos;holding [v] (truthy v)):=by intro _;rfl):XT X a (Xr f):=by
 obtain⟨t,h1,h2⟩:=h;refine⟨_,qby h1 he,λG0 H0 G ω σ H b Q o e k=>?_⟩;obtain⟨d,q,e⟩:=bnd e;refine h2 G0 H0 G ω σ H d _ o q λv G1 H1 x1 y1=>⟨b,?_,k G1 H1 x1⟩;cases d with
 | non=>cases e;cases y1.non;rfl
 | bl c=>cases e;cases y1.bl;rfl
 | int i=>cases e;cases y1.int;rfl
 | lst xs=>
  cases e;obtain⟨p,vs,rfl,h1,h2⟩:=y1.lst x1.gh;exact .inl ⟨vs,SqL.of h1,by rw[q3X h2.len]⟩
 | tup xs=>
  cases e;obtain⟨p,vs,rfl,h1,h2⟩:=y1.tup;exact .inr (.inl ⟨vs,SqT.of (x1.gh _ _ h1),by rw[q3X h2.len]⟩)
 | _=>cases e
noncomputable def blOf:D->Option Bool
 | .bl b=>some b
 | _=>none
noncomputable def WH(f g:FD):FD:=λω=>(f ω).bind λd=>(blOf d).bind λc=>if c=true then g ω else some (.bl false)
noncomputable def vNot(f:FD):FD:=λω=>(f ω).bind λd=>(blOf d).map λc=>.bl (!c)
noncomputable def fIte(c:FT)(f g:FE):FE:=λω=>(c ω).bind λk=>if k=true then f ω else g ω
variable{fa fb:FD}
theorem q2K{op}(h:XD X a fa):XD X (.BoolOp op [a] pos) fa:=let ⟨t,h1,h2⟩:=h;⟨t,qeD h1,h2⟩
theorem q0u(h:XD X a fa)(h':XD X (.BoolOp .And (b::rest) pos) fb):XD X (.BoolOp .And (a::b::rest) pos) (WH fa fb):=by
 obtain⟨t,h1,h2⟩:=h;obtain⟨u,h3,h4⟩:=h';refine⟨_,qeR h1 h3,λG0 H0 G ω σ H d Q o e k=>?_⟩;obtain⟨x,q,e⟩:=bnd e;obtain⟨c,q2,e2⟩:=bnd e;clear e;refine h2 G0 H0 G ω σ H x _ o q λv G1 H1 x1 y1=>?_;cases x with
 | bl z=>
  cases q2;cases (show v=V.bl c from y1);refine⟨c,rfl,?_⟩;cases c with
  | true=>rw[vH rfl]at e2 ⊢;exact h4 G0 H0 G1 ω σ H1 d Q (o.keep x1) e2 λv G2 H2 x2 y2=>k v G2 H2 (x1.trans x2) y2
  | false=>cases e2;exact k _ G1 H1 x1 rfl
 | _=>cases q2
theorem qfb(h:XD X a fa):XD X (.UnaryOp .Not a pos) (vNot fa):=by
 obtain⟨t,h1,h2⟩:=h;refine⟨_,qeN h1,λG0 H0 G ω σ H d Q o e k=>?_⟩;obtain⟨x,q,e⟩:=bnd e;obtain⟨c,q2,e⟩:=mpd e;subst e;refine h2 G0 H0 G ω σ H x _ o q λv G1 H1 x1 y1=>?_;cases x with
 | bl z=>cases q2;cases (show v=V.bl c from y1);exact⟨c,rfl,k _ G1 H1 x1 rfl⟩
 | _=>cases q2
theorem zAH.after{K:zA}{G H G1 H1 G2 H2:Hp}{r:R}{v:V}(x:Ext G H G1 H1)(y:zAH K H1 G2 H2 r v):zAH K H G2 H2 r v:=by
 cases r with
 | sh d=>exact y
 | fr ds=>obtain⟨l,vs,e1,e2,e3⟩:=y;exact⟨l,vs,e1,x.hh.free e2,e3⟩
 | vw ds=>exact y
theorem q6I{fc:FT}{f g:FE}(hc:XT X c fc)(ha:XE X a f)(hb:XE X b g):XE X (.IfExp c a b pos) (fIte fc f g):=by
 obtain⟨t,h1,h2⟩:=hc;obtain⟨u,h3,h4⟩:=ha;obtain⟨w,h5,h6⟩:=hb;refine⟨_,qbF h1 h3 h5,λG0 H0 G ω σ H r Q o e k=>?_⟩;obtain⟨z,q,e⟩:=bnd e;refine h2 G0 H0 G ω σ H z _ o q λG1 H1 x1=>?_;cases z with
 | true=>rw[vH rfl]at e ⊢;exact h4 G0 H0 G1 ω σ H1 r Q (o.keep x1) e λv G2 H2 x2 y2=>k v G2 H2 (x1.trans x2) (y2.after x1)
 | false=>exact h6 G0 H0 G1 ω σ H1 r Q (o.keep x1) e λv G2 H2 x2 y2=>k v G2 H2 (x1.trans x2) (y2.after x1)
end
def Y4(K:zA)(r:List V->Hp->VK->Prop)(op:List D->Option R):Prop:=∀G H ds vs d(Q:VK),YM G H->op ds=some d->VwA K G H ds vs ->
 (∀w G' H',Ext G H G' H'->zAH K H G' H' d w->Q w H')->r vs H Q
noncomputable def XJ(op:List D->Option R)(g:FA):FE:=λω=>(g ω).bind op
section
variable{X:Cx}{e:vP}{es:List vP}{x:Str}{p pos:Pos}{r:List V->Hp->VK->Prop}{op:List D->Option R}{g:FA}{id T:String}
theorem q51{t:TA}(hd:Y4 X.K r op)(h:SimVA X.K t g):zAb X.K (tCB r t) (XJ op g):=by
 intro G0 H0 G ω σ H d Q o e k;obtain⟨ds,q,e⟩:=bnd e;refine h G0 H0 G ω σ H ds _ o q λvs G1 H1 x1 y1=>?_;exact hd G1 H1 ds vs d Q x1.gh e y1 λw G2 H2 x2 y2=>k w G2 H2 (x1.trans x2) (y2.after x1)
theorem qN(hc:Yq X (.builtin id) r)(hd:Y4 X.K r op)(hg:Gl X x)(hm:X.mg x=none)(hv:vX x=some (.builtin id))(ha:XVA X (e::es) g)(hn:x ≠ "__name__" := by decide)(hdb:(x==("__debug__" : Str))=false:=by decide)(he:vK (e::es) X.env=(false,eval e X.env)::vK es X.env:=by rfl)(hpl:(vm pos (vK es X.env)).any (·.1)=false:=by rfl):XE X (.Call (.Name x p) (e::es) [] pos) (XJ op g):=by
 obtain⟨t,h1,h2⟩:=ha;exact⟨_,q1I hc hg hm hv h1 hn hdb he hpl,q51 hd h2⟩
theorem qfR(hc:Yq X (.type T) r)(hd:Y4 X.K r op)(hg:Gl X x)(hm:X.mg x=none)(hv:vX x=some (.type T))(ha:XVA X (e::es) g)(hn:x ≠ "__name__" := by decide)(hdb:(x==("__debug__" : Str))=false:=by decide)(he:vK (e::es) X.env=(false,eval e X.env)::vK es X.env:=by rfl)(hpl:(vm pos (vK es X.env)).any (·.1)=false:=by rfl):XE X (.Call (.Name x p) (e::es) [] pos) (XJ op g):=by
 obtain⟨t,h1,h2⟩:=ha;exact⟨_,q5w hc hg hm hv h1 hn hdb he hpl,q51 hd h2⟩
theorem VwA.one{K:zA}{G H:Hp}{d:D}{vs:List V}(h:VwA K G H [d] vs):∃v,vs=[v]/\Vw K G H d v:=by
 obtain⟨v,r,h1,h2,h3⟩:=h;cases (show r=[]from h3);exact⟨v,h1,h2⟩
theorem VwA.two{K:zA}{G H:Hp}{d e:D}{vs:List V}(h:VwA K G H [d,e] vs):∃v u,vs=[v,u]/\Vw K G H d v/\Vw K G H e u:=by
 obtain⟨v,r,h1,h2,h3⟩:=h;obtain⟨u,rfl,h4⟩:=VwA.one h3;exact⟨v,u,h1,h2,h4⟩
noncomputable def Wn:List D->Option R
 | [.lst ds]=>↥(.int ds.length)
 | [.tup ds]=>↥(.int ds.length)
 | [.scr ns]=>↥(.int ns.length)
 | _=>none
theorem q2S{K:zA}:Y4 K (λxs H Q=>∃p ys,xs=[.ref p]/\(SqL K H p ys\/SqT K H p ys)/\Q (.int ys.length) H) Wn:=by
 intro G H ds vs d Q s e hv k
 match ds,e with
 | [.lst ds],e=>
  cases e;obtain⟨v,rfl,h⟩:=hv.one;obtain⟨p,us,rfl,h1,h2⟩:=h.lst s;exact⟨p,us,rfl,.inl (SqL.of h1),k _ G H (Ext.refl s) (by show V.int _=V.int _;rw[h2.len])⟩
 | [.tup ds],e=>
  cases e;obtain⟨v,rfl,h⟩:=hv.one;obtain⟨p,us,rfl,h1,h2⟩:=h.tup;exact⟨p,us,rfl,.inr (SqT.of (s _ _ h1)),k _ G H (Ext.refl s) (by show V.int _=V.int _;rw[h2.len])⟩
 | [.scr ns],e=>
  cases e;obtain⟨v,rfl,h⟩:=hv.one;obtain⟨p,rfl,h1⟩:=h.scr;exact⟨p,_,rfl,.inl (s.seq h1),k _ G H (Ext.refl s) (by show V.int _=V.int _;rw[zB])⟩
noncomputable def bAbs:List D->Option R
 | [.int i]=>↥(.int (if i<0 then -i else i))
 | _=>none
theorem qfk{K:zA}:Y4 K (λxs H Q=>∃i,xs=[.int i]/\Q (.int (if i<0 then -i else i)) H) bAbs:=by
 intro G H ds vs d Q s e hv k
 match ds,e with
 | [.int i],e=>
  cases e;obtain⟨v,rfl,h⟩:=hv.one;cases h.int;exact⟨i,rfl,k _ G H (Ext.refl s) rfl⟩
noncomputable def zAW:List D->Option R
 | [.lst ds]=>some (.fr ds)
 | [.tup ds]=>some (.fr ds)
 | _=>none
theorem qdY{K:zA}:Y4 K (λxs H Q=>∃p ys,xs=[.ref p]/\(SqL K H p ys\/SqT K H p ys)/\∀l,H l=none->Q (.ref l) (upd H l (.lst ys))) zAW:=by
 intro G H ds vs d Q s e hv k
 match ds,e with
 | [.lst ds],e=>
  cases e;obtain⟨v,rfl,h⟩:=hv.one;obtain⟨p,us,rfl,h1,h2⟩:=h.lst s;exact⟨p,us,rfl,.inl (SqL.of h1),λl hl=>k _ G _ (Ext.hide s hl _) ⟨l,us,rfl,hl,s.free hl,qe,h2⟩⟩
 | [.tup ds],e=>
  cases e;obtain⟨v,rfl,h⟩:=hv.one;obtain⟨p,us,rfl,h1,h2⟩:=h.tup;exact⟨p,us,rfl,.inr (SqT.of (s _ _ h1)),λl hl=>k _ G _ (Ext.hide s hl _) ⟨l,us,rfl,hl,s.free hl,qe,h2⟩⟩
noncomputable def allB:List D->Option Bool
 | []=>some true
 | .bl b::r=>(allB r).map λc=>b&&c
 | _=>none
noncomputable def bAll:List D->Option R
 | [.lst ds]=>(allB ds).map λb=>.sh (.bl b)
 | _=>none
noncomputable def zAd:List D->Option Int
 | []=>some 0
 | .int i::r=>(zAd r).map λc=>i+c
 | _=>none
noncomputable def bSum:List D->Option R
 | [.lst ds]=>(zAd ds).map λb=>.sh (.int b)
 | _=>none
end
def rAll:List V->Hp->VK->Prop:=λxs H Q=>∃(p:vG) (bs:List Bool),xs=[.ref p]/\H p=some (.lst (bs.map V.bl))/\Q (.bl (bs.all id)) H
def rSum:List V->Hp->VK->Prop:=λxs H Q=>∃(p:vG) (ns:List Int),xs=[.ref p]/\H p=some (.lst (ns.map V.int))/\Q (.int ns.sum) H
section
variable{X:Cx}
theorem q8W:∀{bs:List Bool}{us:List vB},YO (bs.map V.bl) us->us=bs.map Value.bool
 | [],_,r=>by cases r;rfl
 | b::bs,_,r=>by
  rw[zU]at r;cases r with
  | cons r1 r2=>cases r1;rw[q8W r2];rfl
theorem q9K{bs:List Bool}:(yB bs.length).all (λi=>bs.getD i false)=bs.all id:=by
 induction bs with
 | nil=>rfl
 | cons b r ih=>
  rw[zM,wR,xG,wS,xG];have e:((λi=>(b::r).getD i false) ∘ Nat.succ)=λi=>r.getD i false:=by funext i;rfl
  rw[e,ih];rfl
theorem q5R(hc:X.calm=true):Yq X (.builtin "all") rAll:=by
 intro pins s σ H xs us Q I r h;obtain⟨p,bs,rfl,hp,q⟩:=h;obtain⟨u,rfl,rx⟩:=vals1 r;cases rx;obtain⟨its,n,rv,e,hz⟩:=I.lst hp;have ei:=q8W rv;have hlt:p<s.heap.objs.size:=zP e;refine call_all_walk (uV (items:=its.toArray) ⟨_,e,rfl,n,rfl⟩ ?_);refine⟨s.heap.objs.size,_,_,its.toArray.size,_,_,λi=>bs.getD i false,rfl,Walks.list (by first|exact I.ok.hd hc|(show X.A.handled=none;exact I.ok.hd hc)) _ p (zi hlt) its.toArray,⟨⟨_,zS _ rfl,rfl,rfl⟩,⟨_,zD _ e,rfl,n,rfl⟩⟩,λi v s' Q' E' hv hq=>?_,λh' tk hk=>?_⟩
 ·have hv':its[i]?=some v:=by simpa using hv
  rw[ei,zW]at hv';cases eb:bs[i]? with
  | none=>rw[eb]at hv';cases hv'
  | some b=>
   rw[eb]at hv';cases hv';have:bs.getD i false=b:=by rw[zj,eb];rfl
   have hq':Q' b s':=by rw[<- this];exact hq
   exact uC hq'
 ·have hl:its.toArray.size=bs.length:=by rw[zO,ei,zB]
  rw[hl,q9K];exact⟨.bl _,H,I.kept (λb o z=>hk b o (λhm=>by
   have:b=s.heap.objs.size:=by simpa using hm
   subst this;exact vM (zP z) (yt _)) (zD _ z)),rfl,q⟩
theorem q8U:∀{ds:List D}{b:Bool},allB ds=some b->∃bs:List Bool,ds=bs.map D.bl/\bs.all id=b
 | [],_,e=>by cases e;exact⟨[],rfl,rfl⟩
 | .bl c::r,b,e=>by
  obtain⟨k,q,e⟩:=mpd e;obtain⟨bs,h1,h2⟩:=q8U q;exact⟨c::bs,by rw[h1];rfl,by rw[xG,h2];exact e⟩
 | .non::_,_,e=>by cases e
 | .int _::_,_,e=>by cases e
 | .str _::_,_,e=>by cases e
 | .lst _::_,_,e=>by cases e
 | .tup _::_,_,e=>by cases e
 | .scr _::_,_,e=>by cases e
 | .exc _::_,_,e=>by cases e
 | .dic _ _::_,_,e=>by cases e
theorem q81:∀{ds:List D}{b:Int},zAd ds=some b->∃bs:List Int,ds=bs.map D.int/\bs.sum=b
 | [],_,e=>by cases e;exact⟨[],rfl,rfl⟩
 | .int c::r,b,e=>by
  obtain⟨k,q,e⟩:=mpd e;obtain⟨bs,h1,h2⟩:=q81 q;exact⟨c::bs,by rw[h1];rfl,by rw[zk,h2];exact e⟩
 | .non::_,_,e=>by cases e
 | .bl _::_,_,e=>by cases e
 | .str _::_,_,e=>by cases e
 | .lst _::_,_,e=>by cases e
 | .tup _::_,_,e=>by cases e
 | .scr _::_,_,e=>by cases e
 | .exc _::_,_,e=>by cases e
 | .dic _ _::_,_,e=>by cases e
theorem q8E{K:zA}{H:Hp}:∀{bs:List Bool}{vs:List V},YF K H (bs.map D.bl) vs->vs=bs.map V.bl
 | [],_,h=>h
 | n::r,_,⟨v,vs,h1,h2,h3⟩=>by
  have:=q8E h3;have e:v=.bl n:=h2;rw[h1,this,e];rfl
theorem qbg{K:zA}:Y4 K rAll bAll:=by
 intro G H ds vs d Q s e hv k
 match ds,e with
 | [.lst ds],e=>
  obtain⟨b,q,e⟩:=mpd e;subst e;obtain⟨bs,rfl,rfl⟩:=q8U q;obtain⟨v,rfl,h⟩:=hv.one;obtain⟨p,us,rfl,h1,h2⟩:=h.lst s;exact⟨p,bs,rfl,by rw[h1,q8E h2],k _ G H (Ext.refl s) rfl⟩
theorem q4s:∀(ns:List Int)(k:Nat),k<=ns.length->preSum (λi=>ns.getD i 0) k=(ns.take k).sum
 | _,0,_=>rfl
 | ns,k+1,h=>by
  have e:ns.take (k+1)=ns.take k++[ns.getD k 0]:=by
   rw[ZV,zC ∅,zj,zC ∅];rfl
  show preSum (λi=>ns.getD i 0) k+ns.getD k 0=_;rw[q4s ns k ∅,e,yw];simp
theorem q3o(hc:X.calm=true):Yq X (.builtin "sum") rSum:=by
 intro pins s σ H xs us Q I r h;obtain⟨p,ns,rfl,hp,q⟩:=h;obtain⟨u,rfl,rx⟩:=vals1 r;cases rx;obtain⟨its,n,rv,e,hz⟩:=I.lst hp;have ia:=q0H rv;have hlen:its.length=ns.length:=by rw[<- rv.length,zB]
 have hlt:p<s.heap.objs.size:=zP e;refine call_sum_walkAnyS (uV (items:=its.toArray) ⟨_,e,rfl,n,rfl⟩ ?_);refine⟨s.heap.objs.size,_,_,_,its.toArray.size,_,_,λi=>ns.getD i 0,rfl,(Walks.list (by first|exact I.ok.hd hc|(show X.A.handled=none;exact I.ok.hd hc)) _ p (zi hlt) its.toArray).toS,⟨⟨_,zS _ rfl,rfl,rfl⟩,⟨_,zD _ e,rfl,n,rfl⟩⟩,λb hb=>?_,λi v hv=>PyProof.Rows.IntsAre.int_at ia i v ⇑hv,λs' t' hm=>?_⟩
 ·show b<(s.heap.push _).objs.size
  rw[yP];rcases zE.mp hb with rfl|hb
  ·exact yU _
  ·rw[zL.mp hb];exact yD hlt
 ·rw[Moved.eq_with hm]
  have es:preSum (λi=>ns.getD i 0) its.toArray.size=ns.sum:=by
   rw[zO,hlen,q4s ns _ (zN _),xk]
  rw[es];exact⟨.int _,H,I.kept (λb o z=>hm.heap b o (λhmm=>by
   have:b=s.heap.objs.size:=by simpa using hmm
   subst this;exact vM (zP z) (yt _)) (zD _ z)),⟨_,rfl⟩,q⟩
theorem q6O{K:zA}:Y4 K rSum bSum:=by
 intro G H ds vs d Q s e hv k
 match ds,e with
 | [.lst ds],e=>
  obtain⟨b,q,e⟩:=mpd e;subst e;obtain⟨bs,rfl,rfl⟩:=q81 q;obtain⟨v,rfl,h⟩:=hv.one;obtain⟨p,us,rfl,h1,h2⟩:=h.lst s;exact⟨p,bs,rfl,by rw[h1,h2.of_ints],k _ G H (Ext.refl s) rfl⟩
end
inductive Ty where
 | non|bl|int|str|lst|tup|dic
noncomputable def Ty.n:Ty->String
 | .non => "NoneType"
 | .bl => "bool"
 | .int => "int"
 | .str => "str"
 | .lst => "list"
 | .tup => "tuple"
 | .dic => "dict"
noncomputable def tyD:D->Ty
 | .non=>.non
 | .bl _=>.bl
 | .int _=>.int
 | .str _=>.str
 | .lst _=>.lst
 | .tup _=>.tup
 | .scr _=>.lst
 | .exc _=>.non
 | .dic _ _=>.non
noncomputable def WA:Ty->Ty->Bool
 | .non,.non=>true
 | .bl,.bl=>true
 | .bl,.int=>true
 | .int,.int=>true
 | .str,.str=>true
 | .lst,.lst=>true
 | .tup,.tup=>true
 | _,_=>false
noncomputable def zAG(c:Ty)(f:FD):FE:=λω=>(f ω).bind λd=>match d with
 | .scr _=>none
 | .exc _=>none
 | .dic _ _=>none
 | d=>↥(.bl (WA (tyD d) c))
def IsT(K:zA)(c:Ty):Prop:=∀t:Ty,t≠.dic->wk K (.type t.n) (.type c.n)=some (WA t c)
def rIsi(K:zA):List V->Hp->VK->Prop:=λxs H Q=>∃x c T b,xs=[x,.ty c]/\TyOf K H x (.type T)/\wk K (.type T) (.type c)=some b/\Q (.bl b) H
section
variable{X:Cx}{a:vP}{f:FD}
theorem qc1:Yq X (.builtin "isinstance") (rIsi X.K):=by
 intro pins s σ H xs us Q I r h;obtain⟨x,c,T,b,rfl,ty,e,q⟩:=h;obtain⟨u1,u2,rfl,r2,r3⟩:=vals2 r;cases (show u2=Value.type c from r3);exact qaI I r2 ty e λtk=>⟨.bl b,H,I.tok tk,rfl,q⟩
theorem qdr{K:zA}{G H:Hp}{d:D}{v:V}(h:Vw K G H d v)(s:YM G H)(n:∀ns,d≠.scr ns)(n':∀c,d≠.exc c)(n'':∀ks ds,d≠.dic ks ds):TyOf K H v (.type (tyD d).n):=by
 cases d with
 | non=>cases h.non;exact .non
 | bl b=>cases h.bl;exact .bl b
 | int i=>cases h.int;exact .int i
 | str x=>cases h.str;exact .str x
 | lst ds=>obtain⟨p,us,rfl,h1,_⟩:=h.lst s;exact .lst h1
 | tup ds=>obtain⟨p,us,rfl,h1,_⟩:=h.tup;exact .tup (s _ _ h1)
 | scr ns=>exact vM rfl (n ns)
 | exc c=>exact vM rfl (n' c)
 | dic ks ds=>exact vM rfl (n'' ks ds)
theorem qet(d:D):tyD d≠.dic:=by cases d <;> exact λz=>nomatch z
theorem q2I{c:Ty}{x:Str}{p q pos:Pos}(ha:XV X a f)(hk:IsT X.K c)(hg:Gl X "isinstance")(hm:X.mg "isinstance" = none)(hgc:Gl X x)(hmc:X.mg x=none)(hvc:vX x=some (.type c.n))(hnx:x ≠ "__name__" := by decide)(hdx:(x==("__debug__" : Str))=false:=by decide)(he:vK [a,.Name x q] X.env=(false,eval a X.env)::vK [.Name x q] X.env:=by rfl)(he2:vK [.Name x q] X.env=(false,eval (.Name x q) X.env)::vK [] X.env:=by rfl)(hpl:(vm pos (vK [.Name x q] X.env)).any (·.1)=false:=by rfl):
  XE X (.Call (.Name "isinstance" p) [a,.Name x q] [] pos) (zAG c f):=by
 obtain⟨t,h1,h2⟩:=ha;refine⟨_,q1I qc1 hg hm PyProof.Rows.boot_isinstance (qM h1 (qM (qdE hgc hmc hvc (v:=.ty c.n) rfl hnx hdx) qW he2) he) (by decide) (by decide) he hpl,λG0 H0 G ω σ H r Q o e k=>?_⟩;obtain⟨d,q,e⟩:=bnd e;refine h2 G0 H0 G ω σ H d _ o q λv G1 H1 x1 y1=>?_;have n:∀ns,d≠.scr ns:=λns z=>by subst z;cases e
 have n':∀c,d≠.exc c:=λns z=>by subst z;cases e
 have n'':∀ks ds,d≠.dic ks ds:=λks ds z=>by subst z;cases e
 have e':r=.sh (.bl (WA (tyD d) c)):=by
  cases d <;> first|(cases e;rfl)|cases e
 subst e';exact⟨v,c.n,(tyD d).n,WA (tyD d) c,rfl,qdr y1 x1.gh n n' n'',hk _ (qet d),k _ G1 H1 x1 rfl⟩
end
inductive Out where
 | nx|bk|ct|rt (r:O)
noncomputable abbrev FS:=WSt->Option (Out×WSt)
def Post(K:zA)(H0 G':Hp)(E:Ends):Out->St->Hp->Prop
 | .nx,σ,H=>E.nx σ H
 | .bk,σ,H=>E.bk σ H
 | .ct,σ,H=>E.ct σ H
 | .rt r,_,H=>∀v,zAH K H0 G' H r.r v->E.rt v H
def SimS(K:zA)(t:TS)(f:FS):Prop:=∀G0 H0 G ω σ H out ω'(E:Ends),Own K G0 H0 G ω σ H->f ω=some (out,ω') ->
 (∀G' σ' H',Own K G0 H0 G' ω' σ' H'->YM G G'->Post K H0.hp G' E out σ' H')->t E σ H
def XS(X:Cx)(st:vo)(f:FS):Prop:=∃t,PS X st t/\SimS X.K t f
def XSs(X:Cx)(st:List vo)(f:FS):Prop:=∃t,PSs X st t/\SimS X.K t f
noncomputable def Xn:FS:=λω=>some (.nx,ω)
noncomputable def YS(f g:FS):FS:=λω=>(f ω).bind λp=>match p.1 with
 | .nx=>g p.2
 | o=>some (o,p.2)
section
variable{X:Cx}{st:vo}{rest:List vo}{f g:FS}
theorem qF:XSs X [] Xn:=⟨_,qdA,λG0 H0 G ω σ H out ω' E o e k=>by cases e;exact k G σ H o (YM.refl _)⟩
theorem qc(h:XS X st f):XSs X [st] f:=let ⟨t,h1,h2⟩:=h;⟨t,q3M h1,h2⟩
theorem q0(h:XS X st f)(h':XSs X rest g):XSs X (st::rest) (YS f g):=by
 obtain⟨t,h1,h2⟩:=h;obtain⟨u,h3,h4⟩:=h';refine⟨_,q1L h1 h3,λG0 H0 G ω σ H out ω' E o e k=>?_⟩;obtain⟨⟨o1,ω1⟩,q,e⟩:=bnd e;refine h2 G0 H0 G ω σ H o1 ω1 _ o q λG1 σ1 H1 w1 g1=>?_;cases o1 with
 | nx=>exact h4 G0 H0 G1 ω1 σ1 H1 out ω' E w1 e λG2 σ2 H2 w2 g2=>k G2 σ2 H2 w2 (g1.trans g2)
 | bk=>cases e;exact k G1 σ1 H1 w1 g1
 | ct=>cases e;exact k G1 σ1 H1 w1 g1
 | rt r=>cases e;exact k G1 σ1 H1 w1 g1
end
section
variable{K:zA}{G0:Hp}{H0:Fr}{G:Hp}{ω:WSt}{σ:St}{H:Hp}
theorem qd{α:Type}{l:List α}{i j:Nat}{x y:α}(h:(l.set i x)[j]?=some y):(i=j/\i<l.length/\y=x)\/(i≠j/\l[j]?=some y):=by
 rw[List.getElem?_set]at h
 by_cases e:i=j
 ·rw[vH e]at h
  by_cases z:i<l.length
  ·rw[vH z]at h;exact .inl ⟨e,z,(zt h).symm⟩
  ·rw[vJ z]at h;cases h
 ·rw[vJ e]at h;exact .inr ⟨e,h⟩
theorem q1c{α:Type}{l:List α}{i:Nat}{x:α}(h:i<l.length):(l.set i x)[i]?=some x:=yr h
theorem Yp.set{i:Nat}{w:Option W}{v:Option V}(o:Yp K H0 G ω σ H)(hw:∀ds,w≠some (.pw ds))(hv:∀ds,w=some (.ow ds)->∀(j:Nat)es,ω[j]?=some (some (.pw es))->v≠some (.ref (H0.pin j))):Yp K H0 G (ω.set i w) (σ.set i v) H:=by
 intro j ds hj;rcases qd hj with⟨rfl,hl,z⟩|⟨ne,z⟩
 ·exact vM z.symm (hw ds)
 ·obtain⟨vs,h1,h2,h3,h4,h5,h6,h7⟩:=o j ds z
  refine⟨vs,by rw[zT ne];exact h1,h2,h3,h4,h5,λk es hk=>?_,λk es hk sk=>?_⟩
  ·rcases qd hk with⟨rfl,hl',z'⟩|⟨ne',z'⟩
   ·exact vM z'.symm (hw es)
   ·exact h6 k es z'
  ·rcases qd hk with⟨rfl,hl',z'⟩|⟨ne',z'⟩
   ·rcases qd sk with⟨_,_,e⟩|⟨ne2,_⟩
    ·exact hv es z'.symm j ds z e.symm
    ·exact ne2 rfl
   ·rw[zT ne']at sk;exact h7 k es z' sk
theorem Yp.setW{i:Nat}{w:Option W}(o:Yp K H0 G ω σ H)(hw:∀ds,w≠some (.pw ds))(ho:∀ds,w≠some (.ow ds)):Yp K H0 G (ω.set i w) σ H:=by
 intro j ds hj;rcases qd hj with⟨rfl,hl,z⟩|⟨ne,z⟩
 ·exact vM z.symm (hw ds)
 ·obtain⟨vs,h1,h2,h3,h4,h5,h6,h7⟩:=o j ds z
  refine⟨vs,h1,h2,h3,h4,h5,λk es hk=>?_,λk es hk=>?_⟩
  ·rcases qd hk with⟨rfl,hl',z'⟩|⟨ne',z'⟩
   ·exact vM z'.symm (hw es)
   ·exact h6 k es z'
  ·rcases qd hk with⟨rfl,hl',z'⟩|⟨ne',z'⟩
   ·exact vM z'.symm (ho es)
   ·exact h7 k es z'
theorem Yp.upd{p:vG}{ob:HO}(o:Yp K H0 G ω σ H)(hp:∀(j:Nat)es,ω[j]?=some (some (.pw es))->H0.pin j≠p):Yp K H0 G ω σ (upd H p ob):=by
 intro j ds hj;obtain⟨vs,h1,h2,h3⟩:=o j ds hj;exact⟨vs,h1,by rw[qb (hp j ds hj)];exact h2,h3⟩
theorem Yp.grow{p:vG}{ob:HO}(o:Yp K H0 G ω σ H)(g:G p=none)(hp:∀(j:Nat)es,ω[j]?=some (some (.pw es))->H0.pin j≠p):Yp K H0 (L2.upd G p ob) ω σ H:=by
 intro j ds hj;obtain⟨vs,h1,h2,h3,h4,h5,h6⟩:=o j ds hj;exact⟨vs,h1,h2,by rw[qb (hp j ds hj)];exact h3,h4,h5.mono (Yf g _),h6⟩
theorem Yp.ne_ow{i:Nat}{ds:List D}{l:vG}(o:Yp K H0 G ω σ H)(hi:ω[i]?=some (some (.ow ds)))(hσ:σ[i]?=some (some (.ref l))):∀(j:Nat)es,ω[j]?=some (some (.pw es))->H0.pin j≠l:=λj es hj y=>by
 obtain⟨_,_,_,_,_,_,_,h7⟩:=o j es hj;exact h7 i ds hi (by rw[y];exact hσ)
theorem Yp.ne_ob{l:vG}(o:Yp K H0 G ω σ H)(h:∀vs,H l≠some (.lst vs)):∀(j:Nat)es,ω[j]?=some (some (.pw es))->H0.pin j≠l:=λj es hj y=>by
 obtain⟨vs,_,h2,_⟩:=o j es hj;exact h vs (by rw[<- y];exact h2)
theorem Yp.setL{i:Nat}{ds es:List D}(o:Yp K H0 G ω σ H)(hi:ω[i]?=some (some (.ow ds))):Yp K H0 G (ω.set i (some (.ow es))) σ H:=by
 intro j ds' hj;rcases qd hj with⟨rfl,hl,z⟩|⟨ne,z⟩
 ·cases z
 ·obtain⟨vs,h1,h2,h3,h4,h5,h6,h7⟩:=o j ds' z
  refine⟨vs,h1,h2,h3,h4,h5,λk es hk=>?_,λk es hk=>?_⟩
  ·rcases qd hk with⟨rfl,hl',z'⟩|⟨ne',z'⟩
   ·cases z'
   ·exact h6 k es z'
  ·rcases qd hk with⟨rfl,hl',z'⟩|⟨ne',z'⟩
   ·exact h7 i ds hi
   ·exact h7 k es z'
theorem Own.od_set{i:Nat}{w:Option W}{v:Option V}(o:Own K G0 H0 G ω σ H)(h:∀ks ds,w≠some (.od ks ds)):∀(j:Nat)ks ds,(ω.set i w)[j]?=some (some (.od ks ds))->∃p vs,(σ.set i v)[j]?=some (some (.ref p))/\H p=some (.dK (kvsOf ks vs))/\G p=none/\H0 p=none/\ks.length=ds.length/\YF K G ds vs /\
  ∀(k:Nat)ks' es,(ω.set i w)[k]?=some (some (.od ks' es))->(σ.set i v)[k]?=some (some (.ref p))->j=k:=by
 intro j ks ds hj;rcases qd hj with⟨rfl,hl,z⟩|⟨ne,z⟩
 ·exact vM z.symm (h ks ds)
 ·obtain⟨p,vs,h1,h2,h3,h4,h5,h6,h7⟩:=o.od j ks ds z
  refine⟨p,vs,by rw[zT ne];exact h1,h2,h3,h4,h5,h6,λk ks' es hk sk=>?_⟩;rcases qd hk with⟨rfl,hl',z'⟩|⟨ne',z'⟩
  ·exact vM z'.symm (h ks' es)
  ·rw[zT ne']at sk
   exact h7 k ks' es z' sk
theorem Own.setSh{i:Nat}{d:D}{v:V}(o:Own K G0 H0 G ω σ H)(h:Rep K G d v):Own K G0 H0 G (ω.set i ↥d) (σ.set i (some v)) H:=by
 refine⟨o.ext,by rw[yN,yN,o.len],λj e hj=>?_,λj ds hj=>?_,λj k ds es l hj hk sj sk=>?_,o.od_set (λ_ _ z=>by cases z),o.pw.set (λ_ z=>by cases z) (λ_ z=>by cases z)⟩
 ·rcases qd hj with⟨rfl,hl,z⟩|⟨ne,z⟩
  ·cases z;exact⟨v,q1c (by rw[<- o.len];exact hl),h⟩
  ·obtain⟨u,h1,h2⟩:=o.sh j e z
   exact⟨u,by rw[zT ne];exact h1,h2⟩
 ·rcases qd hj with⟨rfl,hl,z⟩|⟨ne,z⟩
  ·cases z
  ·obtain⟨l,vs,h1,h2⟩:=o.ow j ds z
   exact⟨l,vs,by rw[zT ne];exact h1,h2⟩
 ·rcases qd hj with⟨rfl,hl,z⟩|⟨ne,z⟩
  ·cases z
  ·rcases qd hk with⟨rfl,hl',z'⟩|⟨ne',z'⟩
   ·cases z'
   ·rw[zT ne]at sj
    rw[zT ne']at sk;exact o.nd j k ds es l z z' sj sk
theorem Own.setOw{i:Nat}{ds:List D}{l:vG}{vs:List V}(o:Own K G0 H0 G ω σ H)(h1:H l=some (.lst vs))(h2:G l=none)(h3:H0 l=none)(h4:YF K G ds vs)(h5:∀(j:Nat)es,ω[j]?=some (some (.ow es))->σ[j]?≠some (some (.ref l)))(h6:∀(j:Nat)es,ω[j]?=some (some (.pw es))->H0.pin j≠l):Own K G0 H0 G (ω.set i (some (.ow ds))) (σ.set i (some (.ref l))) H:=by
 refine⟨o.ext,by rw[yN,yN,o.len],λj e hj=>?_,λj es hj=>?_,λj k es fs m hj hk sj sk=>?_,o.od_set (λ_ _ z=>by cases z),o.pw.set (λ_ z=>by cases z) (λ_ _ j es hj y=>h6 j es hj (by cases y;rfl))⟩
 ·rcases qd hj with⟨rfl,hl,z⟩|⟨ne,z⟩
  ·cases z
  ·obtain⟨u,q1,q2⟩:=o.sh j e z
   exact⟨u,by rw[zT ne];exact q1,q2⟩
 ·rcases qd hj with⟨rfl,hl,z⟩|⟨ne,z⟩
  ·cases z;exact⟨l,vs,q1c (by rw[<- o.len];exact hl),h1,h2,h3,h4⟩
  ·obtain⟨m,us,q1,q2⟩:=o.ow j es z
   exact⟨m,us,by rw[zT ne];exact q1,q2⟩
 ·rcases qd hj with⟨e1,hl,z⟩|⟨ne,z⟩
  ·rcases qd hk with⟨e2,hl',z'⟩|⟨ne',z'⟩
   ·exact e1.symm.trans e2
   ·rw[zT ne']at sk
    subst e1;rw[q1c (by rw[<- o.len];exact hl)]at sj;cases sj;exact vM sk (h5 k fs z')
  ·rcases qd hk with⟨e2,hl',z'⟩|⟨ne',z'⟩
   ·rw[zT ne]at sj
    subst e2;rw[q1c (by rw[<- o.len];exact hl')]at sk;cases sk;exact vM sj (h5 j es z)
   ·rw[zT ne]at sj
    rw[zT ne']at sk;exact o.nd j k es fs m z z' sj sk
theorem Own.mut{i:Nat}{ds es:List D}{l:vG}{vs us:List V}(o:Own K G0 H0 G ω σ H)(hi:ω[i]?=some (some (.ow ds)))(hσ:σ[i]?=some (some (.ref l)))(h1:H l=some (.lst vs))(h2:G l=none)(h3:H0 l=none)(h4:YF K G es us):
  Own K G0 H0 G (ω.set i (some (.ow es))) σ (upd H l (.lst us)):=by
 have ho:i<ω.length:=(zq.mp hi).1;refine⟨⟨o.ext.gg,YK o.ext.gh h2 _,YK o.ext.hh h3 _,o.ext.new⟩,by rw[yN,o.len],λj e hj=>?_,λj fs hj=>?_,λj k fs gs m hj hk sj sk=>?_,λj ks fs hj=>?_,(o.pw.upd (o.pw.ne_ow hi hσ)).setL hi⟩
 ·rcases qd hj with⟨rfl,hl,z⟩|⟨ne,z⟩
  ·cases z
  ·exact o.sh j e z
 ·rcases qd hj with⟨rfl,hl,z⟩|⟨ne,z⟩
  ·cases z;exact⟨l,us,hσ,qe,h2,h3,h4⟩
  ·obtain⟨m,ws,q1,q2,q3,q4,q5⟩:=o.ow j fs z
   have hm:m≠l:=λy=>ne (o.nd i j ds fs l hi z hσ (by rw[<- y];exact q1));exact⟨m,ws,q1,by rw[qb hm];exact q2,q3,q4,q5⟩
 ·rcases qd hj with⟨e1,hl,z⟩|⟨ne,z⟩
  ·rcases qd hk with⟨e2,hl',z'⟩|⟨ne',z'⟩
   ·exact e1.symm.trans e2
   ·subst e1;exact o.nd i k ds gs m hi z' sj sk
  ·rcases qd hk with⟨e2,hl',z'⟩|⟨ne',z'⟩
   ·subst e2;exact o.nd j i fs ds m z hi sj sk
   ·exact o.nd j k fs gs m z z' sj sk
 ·rcases qd hj with⟨e1,hl,z⟩|⟨ne,z⟩
  ·cases z
  ·obtain⟨p,ws,q1,q2,q3,q4,q5,q6,q7⟩:=o.od j ks fs z
   have hp:p≠l:=λy=>by rw[y,h1]at q2;cases q2
   refine⟨p,ws,q1,by rw[qb hp];exact q2,q3,q4,q5,q6,λk ks' es hk sk=>?_⟩;rcases qd hk with⟨e2,hl',z'⟩|⟨ne',z'⟩
   ·cases z'
   ·exact q7 k ks' es z' sk
theorem Own.setOd{i:Nat}{ks:List Int}{ds:List D}{p:vG}{vs:List V}(o:Own K G0 H0 G ω σ H)(h1:H p=some (.dK (kvsOf ks vs)))(h2:G p=none)(h3:H0 p=none)(h4:ks.length=ds.length)(h5:YF K G ds vs)(h6:∀(j:Nat)ks' es,ω[j]?=some (some (.od ks' es))->σ[j]?≠some (some (.ref p))):Own K G0 H0 G (ω.set i (some (.od ks ds))) (σ.set i (some (.ref p))) H:=by
 refine⟨o.ext,by rw[yN,yN,o.len],λj e hj=>?_,λj es hj=>?_,λj k es fs m hj hk sj sk=>?_,λj ks' es hj=>?_,o.pw.set (λ_ z=>by cases z) (λ_ z=>by cases z)⟩
 ·rcases qd hj with⟨rfl,hl,z⟩|⟨ne,z⟩
  ·cases z
  ·obtain⟨u,q1,q2⟩:=o.sh j e z
   exact⟨u,by rw[zT ne];exact q1,q2⟩
 ·rcases qd hj with⟨rfl,hl,z⟩|⟨ne,z⟩
  ·cases z
  ·obtain⟨m,us,q1,q2⟩:=o.ow j es z
   exact⟨m,us,by rw[zT ne];exact q1,q2⟩
 ·rcases qd hj with⟨e1,hl,z⟩|⟨ne,z⟩
  ·cases z
  ·rcases qd hk with⟨e2,hl',z'⟩|⟨ne',z'⟩
   ·cases z'
   ·rw[zT ne]at sj
    rw[zT ne']at sk;exact o.nd j k es fs m z z' sj sk
 ·rcases qd hj with⟨rfl,hl,z⟩|⟨ne,z⟩
  ·cases z
   refine⟨p,vs,q1c (by rw[<- o.len];exact hl),h1,h2,h3,h4,h5,λk ks'' fs hk sk=>?_⟩;rcases qd hk with⟨e2,hl',z'⟩|⟨ne',z'⟩
   ·exact e2
   ·rw[zT ne']at sk
    exact vM sk (h6 k ks'' fs z')
  ·obtain⟨p',vs',q1,q2,q3,q4,q5,q6,q7⟩:=o.od j ks' es z
   refine⟨p',vs',by rw[zT ne];exact q1,q2,q3,q4,q5,q6,λk ks'' fs hk sk=>?_⟩;rcases qd hk with⟨e2,hl',z'⟩|⟨ne',z'⟩
   ·subst e2
    rw[q1c (by rw[<- o.len];exact hl')]at sk;cases sk;exact vM q1 (h6 j ks' es z)
   ·rw[zT ne']at sk
    exact q7 k ks'' fs z' sk
theorem Own.mutD{i:Nat}{ks ks2:List Int}{ds es:List D}{p:vG}{vs us:List V}(o:Own K G0 H0 G ω σ H)(hi:ω[i]?=some (some (.od ks ds)))(hσ:σ[i]?=some (some (.ref p)))(h1:H p=some (.dK (kvsOf ks vs)))(h2:G p=none)(h3:H0 p=none)(h4:ks2.length=es.length)(h5:YF K G es us):
  Own K G0 H0 G (ω.set i (some (.od ks2 es))) σ (upd H p (.dK (kvsOf ks2 us))):=by
 have ho:i<ω.length:=(zq.mp hi).1;refine⟨⟨o.ext.gg,YK o.ext.gh h2 _,YK o.ext.hh h3 _,o.ext.new⟩,by rw[yN,o.len],λj e hj=>?_,λj fs hj=>?_,λj k fs gs m hj hk sj sk=>?_,λj ks' fs hj=>?_,(o.pw.upd (o.pw.ne_ob λvs z=>by rw[h1]at z;cases z)).setW (λ_ z=>by cases z) (λ_ z=>by cases z)⟩
 ·rcases qd hj with⟨rfl,hl,z⟩|⟨ne,z⟩
  ·cases z
  ·exact o.sh j e z
 ·rcases qd hj with⟨rfl,hl,z⟩|⟨ne,z⟩
  ·cases z
  ·obtain⟨m,ws,q1,q2,q3,q4,q5⟩:=o.ow j fs z
   have hm:m≠p:=λy=>by rw[y,h1]at q2;cases q2
   exact⟨m,ws,q1,by rw[qb hm];exact q2,q3,q4,q5⟩
 ·rcases qd hj with⟨e1,hl,z⟩|⟨ne,z⟩
  ·cases z
  ·rcases qd hk with⟨e2,hl',z'⟩|⟨ne',z'⟩
   ·cases z'
   ·exact o.nd j k fs gs m z z' sj sk
 ·obtain⟨p0,vs0,r1,r2,r3,r4,r5,r6,r7⟩:=o.od i ks ds hi
  rw[hσ]at r1;cases r1;rcases qd hj with⟨rfl,hl,z⟩|⟨ne,z⟩
  ·cases z
   refine⟨p,us,hσ,qe,h2,h3,h4,h5,λk ks'' gs hk sk=>?_⟩;rcases qd hk with⟨e2,hl',z'⟩|⟨ne',z'⟩
   ·exact e2
   ·exact r7 k ks'' gs z' sk
  ·obtain⟨q,ws,q1,q2,q3,q4,q5,q6,q7⟩:=o.od j ks' fs z
   have hp:q≠p:=λy=>ne (r7 j ks' fs z (by rw[<- y];exact q1));refine⟨q,ws,q1,by rw[qb hp];exact q2,q3,q4,q5,q6,λk ks'' gs hk sk=>?_⟩;rcases qd hk with⟨e2,hl',z'⟩|⟨ne',z'⟩
   ·subst e2
    rw[hσ]at sk;cases sk;exact vM rfl hp
   ·exact q7 k ks'' gs z' sk
noncomputable def share(i:Nat)(ω:WSt):WSt:=match ω[i]? with
 | some (some (.ow ds))=>ω.set i ↥(.lst ds)
 | some (some (.od ks ds))=>ω.set i ↥(.dic ks ds)
 | _=>ω
theorem Own.share(i:Nat)(o:Own K G0 H0 G ω σ H):(∃G',YM G G'/\Own K G0 H0 G' (share i ω) σ H)\/∃p kvs,σ[i]?=some (some (.ref p))/\H p=some (.dK kvs)/\∀ob,∃G',YM G G'/\Own K G0 H0 G' (share i ω) σ (upd H p (.frz ob (.dK kvs))):=by
 unfold Hk.share;cases q:ω[i]? with
 | none=>exact .inl ⟨G,YM.refl _,o⟩
 | some w=>
  cases w with
  | none=>exact .inl ⟨G,YM.refl _,o⟩
  | some w=>
   cases w with
   | sh d=>exact .inl ⟨G,YM.refl _,o⟩
   | pw ds=>exact .inl ⟨G,YM.refl _,o⟩
   | ow ds=>
    obtain⟨l,vs,q1,q2,q3,q4,q5⟩:=o.ow i ds q;have s1:YM G (upd G l (.lst vs)):=Yf q3 _;have ho:i<ω.length:=(zq.mp q).1;refine .inl ⟨upd G l (.lst vs),s1,⟨o.ext.gg.trans s1,λb u z=>?_,o.ext.hh,λb z1 z2=>?_⟩,by rw[yN,o.len],λj e hj=>?_,λj fs hj=>?_,λj k fs gs m hj hk sj sk=>?_,λj ks fs hj=>?_,(o.pw.grow q3 (o.pw.ne_ow q q1)).setW (λ_ z=>by cases z) (λ_ z=>by cases z)⟩
    ·by_cases hb:b=l
     ·subst hb;rw[qe]at z;rw[q2];exact z
     ·rw[qb hb]at z;exact o.ext.gh b u z
    ·rw[qb (λhb=>z2 (by rw[hb];exact q4))];exact o.ext.new b z1 z2
    ·rcases qd hj with⟨rfl,hl,z⟩|⟨ne,z⟩
     ·cases z;exact⟨_,q1,l,vs,rfl,qe,q5.mono s1⟩
     ·obtain⟨u,r1,r2⟩:=o.sh j e z
      exact⟨u,r1,r2.mono s1⟩
    ·rcases qd hj with⟨rfl,hl,z⟩|⟨ne,z⟩
     ·cases z
     ·obtain⟨m,ws,r1,r2,r3,r4,r5⟩:=o.ow j fs z
      have hm:m≠l:=λy=>ne (o.nd i j ds fs l q z q1 (by rw[<- y];exact r1));exact⟨m,ws,r1,r2,by rw[qb hm];exact r3,r4,r5.mono s1⟩
    ·rcases qd hj with⟨e1,hl,z⟩|⟨ne,z⟩
     ·cases z
     ·rcases qd hk with⟨e2,hl',z'⟩|⟨ne',z'⟩
      ·cases z'
      ·exact o.nd j k fs gs m z z' sj sk
    ·rcases qd hj with⟨e1,hl,z⟩|⟨ne,z⟩
     ·cases z
     ·obtain⟨m,ws,r1,r2,r3,r4,r5,r6,r7⟩:=o.od j ks fs z
      have hm:m≠l:=λy=>by rw[y,q2]at r2;cases r2
      refine⟨m,ws,r1,r2,by rw[qb hm];exact r3,r4,r5,r6.mono s1,λk ks' es hk sk=>?_⟩;rcases qd hk with⟨e2,hl',z'⟩|⟨ne',z'⟩
      ·cases z'
      ·exact r7 k ks' es z' sk
   | od ks0 ds=>
    obtain⟨l,vs,q1,q2,q3,q4,q6,q5,q7⟩:=o.od i ks0 ds q;refine .inr ⟨l,_,q1,q2,λob=>?_⟩;have s1:YM G (upd G l (.frz ob (.dK (kvsOf ks0 vs)))):=Yf q3 _;have ho:i<ω.length:=(zq.mp q).1;refine⟨upd G l (.frz ob (.dK (kvsOf ks0 vs))),s1,⟨o.ext.gg.trans s1,Xi o.ext.gh _,YK o.ext.hh q4 _,λb z1 z2=>?_⟩,by rw[yN,o.len],λj e hj=>?_,λj fs hj=>?_,λj k fs gs m hj hk sj sk=>?_,λj ks fs hj=>?_,((o.pw.upd (o.pw.ne_ob λvs z=>by rw[q2]at z;cases z)).grow q3 (o.pw.ne_ob λvs z=>by rw[q2]at z;cases z)).setW (λ_ z=>by cases z) (λ_ z=>by cases z)⟩
    ·rw[qb (λhb=>z2 (by rw[hb];exact q4))];exact o.ext.new b z1 z2
    ·rcases qd hj with⟨rfl,hl,z⟩|⟨ne,z⟩
     ·cases z;exact⟨_,q1,l,vs,rfl,⟨ob,qe⟩,q6,q5.mono s1⟩
     ·obtain⟨u,r1,r2⟩:=o.sh j e z
      exact⟨u,r1,r2.mono s1⟩
    ·rcases qd hj with⟨rfl,hl,z⟩|⟨ne,z⟩
     ·cases z
     ·obtain⟨m,ws,r1,r2,r3,r4,r5⟩:=o.ow j fs z
      have hm:m≠l:=λy=>by rw[y,q2]at r2;cases r2
      exact⟨m,ws,r1,by rw[qb hm];exact r2,by rw[qb hm];exact r3,r4,r5.mono s1⟩
    ·rcases qd hj with⟨e1,hl,z⟩|⟨ne,z⟩
     ·cases z
     ·rcases qd hk with⟨e2,hl',z'⟩|⟨ne',z'⟩
      ·cases z'
      ·exact o.nd j k fs gs m z z' sj sk
    ·rcases qd hj with⟨e1,hl,z⟩|⟨ne,z⟩
     ·cases z
     ·obtain⟨m,ws,r1,r2,r3,r4,r5,r6,r7⟩:=o.od j ks fs z
      have hm:m≠l:=λy=>ne (q7 j ks fs z (by rw[<- y];exact r1));refine⟨m,ws,r1,by rw[qb hm];exact r2,by rw[qb hm];exact r3,r4,r5,r6.mono s1,λk ks' es hk sk=>?_⟩;rcases qd hk with⟨e2,hl',z'⟩|⟨ne',z'⟩
      ·cases z'
      ·exact r7 k ks' es z' sk
end
theorem Inv.freeze{X:Cx}{pins:List (vG×Obj)}{σ:St}{H:Hp}{s:vC}{p:vG}{kvs:List (Key×V)}(I:Inv X pins σ H s)(hp:H p=some (.dK kvs)):∃ob,Inv X pins σ (upd H p (.frz ob (.dK kvs))) s:=by
 have ok:=I.hok p _ hp;obtain⟨_,_,_,_,ob,_,_,e,_⟩:=id ok;have stay:∀b u,YQ X.prog X.w H s.heap b u->YQ X.prog X.w (upd H p (.frz ob (.dK kvs))) s.heap b u:=λb u x=>
  x.stay (λ_ _ _ q=>q) (λc q=>by rw[qb (λz=>by rw[z,hp]at q;cases q)];exact q) λc xs q=>by rw[qb (λz=>by rw[z,hp]at q;cases q)];exact q
 refine⟨ob,I.step (H':=upd H p (.frz ob (.dK kvs))) (h':=s.heap) (g':=s.gens) (d':=s.drawn) (t':=s.toks) (ch:=[]) (λ_ z=>nomatch z) (λ_ _ _ _ _ e _=>e) (λ_ o _ _ _ e _=>⟨o.slots,e⟩) (λb o _ _ n=>by rw[qb (λz=>by rw[z,hp]at n;cases n)];exact n) (λ_ o _ e=>⟨o,e⟩)
  (λb xs q=>by rw[qb (λz=>by rw[z,hp]at q;cases q)];exact q) (λb o u q=>by rw[qb (λz=>by rw[z,hp]at q;cases q)];exact q) (λb ps q=>⟨#[],by rw[qb (λz=>by rw[z,hp]at q;cases q),q];simp⟩) (λ_ hm=>hm) (λb u q=>?_) I.bare⟩
 by_cases z:b=p
 ·subst z
  rw[qe]at q;cases q;exact⟨e,stay _ _ ok⟩
 ·rw[qb z]at q
  exact stay b u (I.hok b u q)
theorem q4u{X:Cx}{sts:List vo}{t:TS}(i:Nat)(h:PSs X sts t):PSs X sts (λD σ H=>∃p kvs,σ[i]?=some (some (.ref p))/\H p=some (.dK kvs)/\∀ob,t D σ (upd H p (.frz ob (.dK kvs)))):=by
 intro pins s σ H D I q;obtain⟨p,kvs,_,hp,q⟩:=q;obtain⟨ob,I'⟩:=Inv.freeze I hp;exact h pins s σ _ D I' (q ob)
noncomputable def Yg(i:Nat)(f:FS):FS:=λω=>f (share i ω)
theorem qL{X:Cx}{sts:List vo}{f:FS}(i:Nat)(h:XSs X sts f):XSs X sts (Yg i f):=by
 obtain⟨t,h1,h2⟩:=h;refine⟨λD σ H=>t D σ H\/∃p kvs,σ[i]?=some (some (.ref p))/\H p=some (.dK kvs)/\∀ob,t D σ (upd H p (.frz ob (.dK kvs))),λpins s σ H D I q=>?_,λG0 H0 G ω σ H out ω' E o e k=>?_⟩
 ·rcases q with q|q
  ·exact h1 pins s σ H D I q
  ·exact q4u i h1 pins s σ H D I q
 ·rcases o.share i with⟨G1,g1,o1⟩|⟨p,kvs,z1,z2,z3⟩
  ·exact .inl (h2 G0 H0 G1 _ σ H out ω' E o1 e λG2 σ2 H2 w2 g2=>k G2 σ2 H2 w2 (g1.trans g2))
  ·refine .inr ⟨p,kvs,z1,z2,λob=>?_⟩
   obtain⟨G1,g1,o1⟩:=z3 ob;exact h2 G0 H0 G1 _ σ _ out ω' E o1 e λG2 σ2 H2 w2 g2=>k G2 σ2 H2 w2 (g1.trans g2)
noncomputable def setR(i:Nat)(r:R)(ω:WSt):Option WSt:=match r with
 | .sh d=>some (ω.set i ↥d)
 | .fr ds=>some (ω.set i (some (.ow ds)))
 | .vw _=>none
noncomputable def YZ(i:Nat)(f:FE):FS:=λω=>(f ω).bind λr=>(setR i r ω).map λw=>(.nx,w)
section
variable{X:Cx}{e:vP}{f:FE}{pos pos':Pos}
theorem q8H{i:Nat}{t:TE}(h:zAb X.K t f):SimS X.K (tAsg t (WN i)) (YZ i f):=by
 intro G0 H0 G ω σ H out ω' E o e k;obtain⟨r,q,e⟩:=bnd e;obtain⟨w,q2,e⟩:=mpd e;cases e;refine h G0 H0 G ω σ H r _ o q λv G1 H1 x1 y1=>?_;have o1:=o.keep x1;show E.nx (σ.set i (some v)) H1;cases r with
 | sh d=>cases q2;exact k G1 _ H1 (o1.setSh y1) x1.gg
 | fr ds=>
  cases q2;obtain⟨l,vs,rfl,e2,e3,e4,e5⟩:=y1;refine k G1 _ H1 (o1.setOw e4 e3 (o.ext.hh.free e2) e5 (λj es hj z=>?_) λj es hj y=>?_) x1.gg
  ·obtain⟨m,us,q1,q2,_⟩:=o.ow j es hj
   rw[q1]at z;cases z;rw[e2]at q2;cases q2
  ·obtain⟨us,_,q2,_⟩:=o.pw j es hj
   rw[y,e2]at q2;cases q2
 | vw ds=>cases q2
theorem qi{i:Nat}{x:Str}(hN:X.N.Nodup)(hi:X.N[i]?=some x)(hx:Loc X.env.scope x)(he:XE X e f)(hs:vv e (some (.Name x pos')) pos.line X.env=pure false:=by rfl)(hf:X.fn x=true\/X.env.scope.names.lookup x=some .local:=by first|exact .inl rfl|exact .inr rfl|assumption):
  XS X (.Assign [.Name x pos'] e pos) (YZ i f):=let ⟨_,h1,h2⟩:=he;⟨_,q3y hN hi hx h1 hs hf,q8H h2⟩
noncomputable abbrev FG:=D->WSt->Option WSt
def SimG(K:zA)(g:TG)(fg:FG):Prop:=∀G0 H0 G ω σ H d v ω'(Q:St->Hp->Prop),Own K G0 H0 G ω σ H->fg d ω=some ω'->Rep K G d v->(∀σ',Own K G0 H0 G ω' σ' H->Q σ' H)->g v σ H Q
def XG(X:Cx)(tg:vP)(fg:FG):Prop:=∃g,PG X tg g/\SimG X.K g fg
noncomputable def gN(i:Nat):FG:=λd ω=>some (ω.set i ↥d)
theorem qf{i:Nat}{x:Str}(hN:X.N.Nodup)(hi:X.N[i]?=some x)(hx:Loc X.env.scope x)(hf:X.fn x=true\/X.env.scope.names.lookup x=some .local:=by first|exact .inl rfl|exact .inr rfl|assumption):XG X (.Name x pos) (gN i) :=
 ⟨_,q4N hN hi hx hf,λG0 H0 G ω σ H d v ω' Q o e h k=>by cases e;exact k _ (o.setSh h)⟩
def SimGs(K:zA)(g:TGs)(fg:List D->WSt->Option WSt):Prop:=∀G0 H0 G ω σ H ds vs ω'(Q:St->Hp->Prop),Own K G0 H0 G ω σ H->fg ds ω=some ω'->YF K G ds vs->(∀σ',Own K G0 H0 G ω' σ' H->Q σ' H)->g vs σ H Q
def XGs(X:Cx)(tg:List vP)(fg:List D->WSt->Option WSt):Prop:=∃g,PGs X tg g/\SimGs X.K g fg
noncomputable def Yn:List D->WSt->Option WSt
 | [],ω=>some ω
 | _,_=>none
noncomputable def YH(f:FG)(g:List D->WSt->Option WSt):List D->WSt->Option WSt
 | d::ds,ω=>(f d ω).bind λw=>g ds w
 | [],_=>none
theorem q19:XGs X [] Yn:=⟨_,qdJ,λG0 H0 G ω σ H ds vs ω' Q o e h k=>by
 cases ds with
 | nil=>cases e;cases (show vs=[]from h);exact⟨rfl,k σ o⟩
 | cons d r=>cases e⟩
theorem qt{es:List vP}{fg:FG}{gs:List D->WSt->Option WSt}(h:XG X e fg)(h':XGs X es gs)(hs:(uD (e::es) X.env).map (·.2)=assign e X.env::(uD es X.env).map (·.2):=by rfl):XGs X (e::es) (YH fg gs):=by
 obtain⟨g,h1,h2⟩:=h;obtain⟨u,h3,h4⟩:=h';refine⟨_,qbU h1 h3 hs,λG0 H0 G ω σ H ds vs ω' Q o e h k=>?_⟩;cases ds with
 | nil=>cases e
 | cons d r=>
  obtain⟨w1,q,e1⟩:=bnd e;obtain⟨v,vr,rfl,r1,r2⟩:=h;exact⟨v,vr,rfl,h2 G0 H0 G ω σ H d v w1 _ o q r1 λσ1 o1=>h4 G0 H0 G w1 σ1 H r vr ω' Q o1 e1 r2 k⟩
noncomputable def gT(n:Nat)(g:List D->WSt->Option WSt):FG:=λd ω=>match d with
 | .tup ds=>if ds.length=n then g ds ω else none
 | _=>none
theorem q21{es:List vP}{k n:Nat}{gs:List D->WSt->Option WSt}(hc:X.calm=true)(h:XGs X es gs)(hn:(uD es X.env).length=n:=by rfl)(hst:(uD es X.env).findIdx? (·.1)=none:=by rfl):XG X (.Tuple es k pos) (gT n gs):=by
 obtain⟨g,h1,h2⟩:=h;refine⟨_,qft hc h1 hn hst,λG0 H0 G ω σ H d v ω' Q o e h k=>?_⟩;unfold gT at e;cases d with
 | tup ds=>
  dsimp only at e
  obtain⟨a,vs,rfl,r1,r2⟩:=h
  by_cases z:ds.length=n
  ·rw[vH z]at e
   exact⟨a,vs,rfl,SqT.of (o.gh _ _ r1),by rw[<- r2.len];exact z,h2 G0 H0 G ω σ H ds vs ω' Q o e r2 k⟩
  ·rw[vJ z]at e;cases e
 | _=>cases e
end
noncomputable def sIf(c:FT)(f g:FS):FS:=λω=>(c ω).bind λb=>if b=true then f ω else g ω
noncomputable def Yj(f:FE):FS:=λω=>(f ω).bind λr=>match r with
 | .sh d=>some (.rt (.sh d),ω)
 | .fr ds=>some (.rt (.fr ds),ω)
 | .vw _=>none
noncomputable def Xk(i:Nat):FS:=λω=>match ω[i]? with
 | some ↥d=>some (.rt (.sh d),ω)
 | some (some (.ow ds))=>some (.rt (.fr ds),ω)
 | _=>none
noncomputable def sNo:FS:=λ_=>none
noncomputable def Ww(f:FE):FS:=λω=>(f ω).map λ_=>(.nx,ω)
section
variable{X:Cx}{c e:vP}{a b:List vo}{st:vo}{pos:Pos}{fc:FT}{f g:FS}{fe:FE}
theorem q09(hc:XT X c fc)(ha:XSs X a f)(hb:XSs X b g):XS X (.If c a b pos) (sIf fc f g):=by
 obtain⟨t,h1,h2⟩:=hc;obtain⟨u,h3,h4⟩:=ha;obtain⟨w,h5,h6⟩:=hb;refine⟨_,qfw h1 h3 h5,λG0 H0 G ω σ H out ω' E o e k=>?_⟩;obtain⟨z,q,e⟩:=bnd e;refine h2 G0 H0 G ω σ H z _ o q λG1 H1 x1=>?_;cases z with
 | true=>rw[vH rfl]at e ⊢;exact h4 G0 H0 G1 ω σ H1 out ω' E (o.keep x1) e λG2 σ2 H2 o2 g2=>k G2 σ2 H2 o2 (x1.gg.trans g2)
 | false=>exact h6 G0 H0 G1 ω σ H1 out ω' E (o.keep x1) e λG2 σ2 H2 o2 g2=>k G2 σ2 H2 o2 (x1.gg.trans g2)
theorem qg(he:XE X e fe):XS X (.Return (some e) pos) (Yj fe):=by
 obtain⟨t,h1,h2⟩:=he;refine⟨_,q6a h1,λG0 H0 G ω σ H out ω' E o e k=>?_⟩;obtain⟨r,q,e⟩:=bnd e;refine h2 G0 H0 G ω σ H r _ o q λv G1 H1 x1 y1=>?_;cases r with
 | sh d=>cases e;exact k G1 σ H1 (o.keep x1) x1.gg v y1
 | fr ds=>
  cases e;obtain⟨l,vs,e1,e2,e3⟩:=y1;exact k G1 σ H1 (o.keep x1) x1.gg v ⟨l,vs,e1,o.ext.hh.free e2,e3⟩
 | vw ds=>cases e
theorem q2R{i:Nat}(he:PE X e (Y7 i)):XS X (.Return (some e) pos) (Xk i):=by
 refine⟨_,q6a he,λG0 H0 G ω σ H out ω' E o e k=>?_⟩;unfold Xk at e;cases q:ω[i]? with
 | none=>rw[q]at e;cases e
 | some w=>
  rw[q]at e;cases w with
  | none=>cases e
  | some w=>
   cases w with
   | sh d=>
    cases e;obtain⟨v,q1,q2⟩:=o.sh i d q;exact⟨v,q1,k G σ H o (YM.refl _) v q2⟩
   | ow ds=>
    cases e;obtain⟨l,vs,q1,q2,q3,q4,q5⟩:=o.ow i ds q;exact⟨_,q1,k G σ H o (YM.refl _) _ ⟨l,vs,rfl,q4,q3,q2,q5⟩⟩
   | od ks ds=>cases e
   | pw ds=>cases e
theorem qcx:XS X st sNo:=⟨_,qbG,λG0 H0 G ω σ H out ω' E o e k=>by cases e⟩
theorem q8d(he:XE X e fe)(hs:vv e none pos.line X.env=pure false:=by rfl):XS X (.Expr e pos) (Ww fe):=by
 obtain⟨t,h1,h2⟩:=he;refine⟨_,q2N h1 hs,λG0 H0 G ω σ H out ω' E o e k=>?_⟩;obtain⟨r,q,e⟩:=mpd e;cases e;exact h2 G0 H0 G ω σ H r _ o q λv G1 H1 x1 y1=>k G1 σ H1 (o.keep x1) x1.gg
noncomputable def W0(i:Nat)(f:FD):FS:=λω=>(f ω).bind λd=>match ω[i]? with
 | some (some (.ow ds))=>if ds.length<1000000 then some (.nx,ω.set i (some (.ow (ds++[d]))))else none
 | _=>none
theorem q25{i:Nat}{o e:vP}{fd:FD}{apos cpos:Pos}(ho:PE X o (Y7 i))(he:XD X e fd)(hbase:uT o "append" X.env (eval o X.env)=eval o X.env:=by rfl)(hfew:((vm cpos (vK [e] X.env)).all (λx=>!x.1)&&(uK cpos (vz [] X.env)).all (λx=>x.1.isSome)
   && decide (([e]:List vP).length+([]:List uW).length+(if ([]:List uW).isEmpty then 0 else 1)<30))=true:=by rfl)
  (hline:(apos.endLine==cpos.line)=true:=by rfl) (hs:vK [e] X.env=(false,eval e X.env)::vK [] X.env:=by rfl) (hplain:(vm cpos (vK [] X.env)).any (·.1)=false:=by rfl)
  (hsw:vv (.Call (.Attribute o "append" apos) [e] [] cpos) none pos.line X.env=pure false:=by rfl) :
  XS X (.Expr (.Call (.Attribute o "append" apos) [e] [] cpos) pos) (W0 i fd):=by
 obtain⟨t,h1,h2⟩:=he;refine⟨_,q2N (q67 PySem.F.plainAttrs_list PySem.F.slot_list_append PySem.F.type_list_append q2b ho (qM h1 qW hs) hbase hfew hline hs hplain) hsw,λG0 H0 G ω σ H out ω' E ow e k=>?_⟩;obtain⟨d,q,e⟩:=bnd e;cases q2:ω[i]? with
 | none=>rw[q2]at e;cases e
 | some w=>
  rw[q2]at e;cases w with
  | none=>cases e
  | some w=>
   cases w with
   | sh d=>cases e
   | od ks ds=>cases e
   | pw ds=>cases e
   | ow ds=>
    dsimp only at e
    by_cases z:ds.length<1000000
    ·rw[vH z]at e
     cases e;obtain⟨l,vs,r1,r2,r3,r4,r5⟩:=ow.ow i ds q2;refine⟨.ref l,r1,.inl ⟨rfl,vs,SqL.of r2⟩,h2 G0 H0 G ω σ H d _ ow q λv G1 H1 x1 y1=>?_⟩;have o1:=ow.keep x1;have hz:vs.length<sizeLine:=by rw[<- r5.len,vn];omega
     refine⟨l,vs,v,rfl,rfl,x1.hh _ _ r2,hz,?_⟩;exact k G1 σ _ (o1.mut q2 r1 (x1.hh _ _ r2) (x1.new l r3 (by rw[r2];exact λz=>by cases z)) r4 ((r5.mono x1.gg).app (YF.cons y1 YF.nil))) x1.gg
    ·rw[vJ z]at e;cases e
end
end Hk
namespace PySem
open AutoSeq1 MeetsSeq MeetsSeq2 MeetsSeq3
theorem extTup(l b:vG)(xs ys:Array vB)(n m:Nat)(dd:Option vG)(sl:Array (Option vB))(h1:¬(!xs.isEmpty&&Builtin.List.listTooLong (xs.size+ys.size))=true)(h2:xs.size<=sizeLine)(h3:xs.size+ys.size<=sizeLine+1):
  Meets (Builtin.«list.extend» ⟨[.ref l,.ref b],[]⟩) (λ_ R s=>s.heap.get? l=some { cls:=.type "list", data:=.seq xs n }/\s.heap.get? b=some { cls:=.type "tuple", dict:=dd,data:=.seq ys m,slots:=sl } /\
   R (.ok (.ret Value.none)) { s with heap:=s.heap.update l (Obj.mapSeq λz=>z++ys),toks:=s.toks }) :=
 .of_wp λprog w A R s h=>by
  obtain⟨hp,g,d,tk,os⟩:=s;obtain⟨e1,e2,q⟩:=h;have p1:=idx_int;have p2:=sub_tuple_tuple;have p3:=sub_list_list;have p4:=sub_tuple_list;have p5:=sub_list_tuple;have fit:(xs++ys).size<=sizeLine+1:=by rw[Array.size_append];exact h3
  wp_walk using (uB e1 rfl (hz:=h2) (_hz':=fit)),wpAny_loadPart' e1,wpAny_loadPart' e2
  exact⟨_,rfl,q⟩
end PySem
namespace Hk
open PySem L2
section
variable{X:Cx}{pos:Pos}
def rExtA:V->List V->Hp->VK->Prop:=λx vs H Q=>Wf x vs H Q\/∃l b xs zs,x=.ref l/\vs=[.ref b]/\H l=some (.lst xs)/\H b=some (.tup zs)/\xs.length+zs.length<=sizeLine/\Q .non (upd H l (.lst (xs++zs)))
theorem qe3:MtR X "list.extend" rExtA:=by
 intro pins s σ H x vs v us Q I rx rv h;rcases h with h|h
 ·exact qb2 pins s σ H x vs v us Q I rx rv h
 obtain⟨l,b,xs,zs,rfl,rfl,hH,hB,hz,q⟩:=h;cases rx;obtain⟨u,rfl,ru⟩:=rv.one;cases ru;obtain⟨z,its,n,r,hl,e⟩:=I.lstM hH;obtain⟨its2,r2,⟨o2,e2,c2,n2,d2⟩,z2⟩:=I.tuple (SqT.of hB);have hl2:=r2.length;obtain⟨cls,dd,dt,sl⟩:=o2;cases c2;cases d2;have hsz:its.toArray.size+its2.toArray.size<=sizeLine:=by rw[zO,zO];omega
 have hlong:¬(!its.toArray.isEmpty&&Builtin.List.listTooLong (its.toArray.size+its2.toArray.size))=true:=by
  rw[X4 hsz,xz];exact yG
 refine tW F.slot_list_extend ⟨_,e,rfl⟩ F.entry_list_extend (F.args_list_extend_2 _ _)
  (extTup l b its.toArray its2.toArray n n2 dd sl hlong (by rw[zO];omega) ∅) ⟨e,e2,?_⟩
 refine⟨.non,_,I.lset (its':=its++its2) hH e (by simp) (r.append r2) ?_,rfl,q⟩;rw[zG];omega
noncomputable def itemsOf:D->Option (List D)
 | .lst ds=>some ds
 | .tup ds=>some ds
 | _=>none
noncomputable def sExt(i:Nat)(f:FD):FS:=λω=>(f ω).bind λd=>(itemsOf d).bind λes=>match ω[i]? with
 | some (some (.ow ds))=>if ds.length+es.length<=1000000 then some (.nx,ω.set i (some (.ow (ds++es))))else none
 | _=>none
theorem qej{i:Nat}{o e:vP}{fd:FD}{apos cpos:Pos}(ho:PE X o (Y7 i))(he:XD X e fd)(hbase:uT o "extend" X.env (eval o X.env)=eval o X.env:=by rfl)(hfew:((vm cpos (vK [e] X.env)).all (λx=>!x.1)&&(uK cpos (vz [] X.env)).all (λx=>x.1.isSome)
   && decide (([e]:List vP).length+([]:List uW).length+(if ([]:List uW).isEmpty then 0 else 1)<30))=true:=by rfl)
  (hline:(apos.endLine==cpos.line)=true:=by rfl) (hs:vK [e] X.env=(false,eval e X.env)::vK [] X.env:=by rfl) (hplain:(vm cpos (vK [] X.env)).any (·.1)=false:=by rfl)
  (hsw:vv (.Call (.Attribute o "extend" apos) [e] [] cpos) none pos.line X.env=pure false:=by rfl) :
  XS X (.Expr (.Call (.Attribute o "extend" apos) [e] [] cpos) pos) (sExt i fd):=by
 obtain⟨t,h1,h2⟩:=he;refine⟨_,q2N (q67 PySem.F.plainAttrs_list PySem.F.slot_list_extend PySem.F.type_list_extend qe3 ho (qM h1 qW hs) hbase hfew hline hs hplain) hsw,λG0 H0 G ω σ H out ω' E ow e k=>?_⟩;obtain⟨d,q,e⟩:=bnd e;obtain⟨es,q3,e⟩:=bnd e;cases q2:ω[i]? with
 | none=>rw[q2]at e;cases e
 | some w=>
  rw[q2]at e;cases w with
  | none=>cases e
  | some w=>
   cases w with
   | sh d=>cases e
   | od ks ds=>cases e
   | pw ds=>cases e
   | ow ds=>
    dsimp only at e
    by_cases z:ds.length+es.length<=1000000
    ·rw[vH z]at e
     cases e;obtain⟨l,vs,r1,r2,r3,r4,r5⟩:=ow.ow i ds q2;refine⟨.ref l,r1,.inl ⟨rfl,vs,SqL.of r2⟩,h2 G0 H0 G ω σ H d _ ow q λv G1 H1 x1 y1=>?_⟩;have o1:=ow.keep x1;have fin:∀us:List V,YF X.K G1 es us->vs.length+us.length<=sizeLine/\Post X.K H0 G1 E .nx σ (upd H1 l (.lst (vs++us))):=λus hu=>
      ⟨by rw[<- r5.len,<- hu.len];exact q48 z,k G1 σ _ (o1.mut q2 r1 (x1.hh _ _ r2) (x1.new l r3 (by rw[r2];exact λz=>by cases z)) r4 ((r5.mono x1.gg).app hu)) x1.gg⟩
     cases d with
     | lst ds'=>
      cases q3;obtain⟨b,us,rfl,r6,r7⟩:=y1;obtain⟨f1,f2⟩:=fin us r7;exact .inl ⟨l,b,vs,us,rfl,rfl,x1.hh _ _ r2,x1.gh _ _ r6,f1,f2⟩
     | tup ds'=>
      cases q3;obtain⟨b,us,rfl,r6,r7⟩:=y1;obtain⟨f1,f2⟩:=fin us r7;exact .inr ⟨l,b,vs,us,rfl,rfl,x1.hh _ _ r2,x1.gh _ _ r6,f1,f2⟩
     | _=>cases q3
    ·rw[vJ z]at e;cases e
end
structure IterOf (K:zA) (J:It) (G:Hp) (ds:List D):Prop where
 go:∀H i,YM G H->i<ds.length->J.go i H
 yld:∀G2 H i x H' d,YM G G2->YM G2 H->ds[i]?=some d->J.yld i H x H'->∃G3,Ext G2 H G3 H'/\Rep K G3 d x
 stop:∀H,YM G H->J.stop ds.length H
noncomputable abbrev FI:=WSt->Option (List D)
def SimI(K:zA)(wi:TI)(f:FI):Prop:=∀G0 H0 G ω σ H ds(R:It->Hp->Prop),Own K G0 H0 G ω σ H->f ω=some ds->(∀J G' H',Ext G H G' H'->IterOf K J G' ds->R J H')->wi σ H R
def XI(X:Cx)(tg iter:vP)(f:FI):Prop:=∃wi,PI X tg iter wi/\SimI X.K wi f
section
variable{X:Cx}{tg e:vP}
theorem qca{K:zA}{G:Hp}{a:vG}{ds:List D}{vs:List V}(h1:G a=some (.lst vs))(h2:YF K G ds vs):IterOf K (Itl K a) G ds:=by
 refine⟨λH i s hi=>?_,λG2 H i x H' d s0 s1 hd hy=>?_,λH s=>⟨vs,SqL.of (s _ _ h1),by rw[h2.len];exact zN _⟩⟩
 ·have:i<vs.length:=by rw[<- h2.len];exact hi
  exact⟨vs,vs[i],SqL.of (s _ _ h1),zC this⟩
 ·obtain⟨e,y⟩:=hy
  obtain⟨v,q1,q2⟩:=h2.get hd;have:=y vs (SqL.of (s1 _ _ (s0 _ _ h1)));rw[q1]at this;cases this;subst e;exact⟨G2,Ext.refl s1,q2.mono s0⟩
theorem qbV{K:zA}{G:Hp}{a:vG}{ds:List D}{vs:List V}(h1:G a=some (.tup vs))(h2:YF K G ds vs):IterOf K (Itt K a) G ds:=by
 refine⟨λH i s hi=>?_,λG2 H i x H' d s0 s1 hd hy=>?_,λH s=>⟨vs,SqT.of (s _ _ h1),by rw[h2.len];exact zN _⟩⟩
 ·have:i<vs.length:=by rw[<- h2.len];exact hi
  exact⟨vs,vs[i],SqT.of (s _ _ h1),zC this⟩
 ·obtain⟨e,y⟩:=hy
  obtain⟨v,q1,q2⟩:=h2.get hd;have:=y vs (SqT.of (s1 _ _ (s0 _ _ h1)));rw[q1]at this;cases this;subst e;exact⟨G2,Ext.refl s1,q2.mono s0⟩
noncomputable def Y5(f:FD):FI:=λω=>(f ω).bind itemsOf
theorem qz{f:FD}(h:XD X e f):XI X tg e (Y5 f):=by
 obtain⟨t,h1,h2⟩:=h;refine⟨λσ H R=>iList X.K t σ H R\/iTup X.K t σ H R,λpins s σ H R I q=>?_,λG0 H0 G ω σ H ds R o e k=>?_⟩
 ·rcases q with q|q
  ·exact q4T h1 pins s σ H R I q
  ·exact qes h1 pins s σ H R I q
 ·obtain⟨d,q,e⟩:=bnd e
  cases d with
  | lst es=>
   cases e;refine .inl (h2 G0 H0 G ω σ H _ _ o q λv G1 H1 x1 ⟨a,vs,e1,e2,e3⟩=>⟨a,e1,⟨vs,SqL.of (x1.gh _ _ e2)⟩,k _ G1 H1 x1 (qca e2 e3)⟩)
  | tup es=>
   cases e;refine .inr (h2 G0 H0 G ω σ H _ _ o q λv G1 H1 x1 ⟨a,vs,e1,e2,e3⟩=>⟨a,e1,⟨vs,SqT.of (x1.gh _ _ e2)⟩,k _ G1 H1 x1 (qbV e2 e3)⟩)
  | _=>cases e
noncomputable def upTo(lo:Int)(n:Nat):List D:=(yB n).map λ(i:Nat)=>D.int (lo+(i:Int))
theorem q6i{K:zA}{G:Hp}(lo:Int)(n:Nat):IterOf K (Itr lo n) G (upTo lo n):=by
 have hl:(upTo lo n).length=n:=by unfold upTo;rw[zB,z7]
 refine⟨λH i s hi=>by rw[hl]at hi;exact hi,λG2 H i x H' d s0 s1 hd hy=>?_,λH s=>by rw[hl];exact zN _⟩;obtain⟨e,y⟩:=hy;subst e;refine⟨G2,Ext.refl s1,?_⟩;unfold upTo at hd;rw[zW]at hd;have hi:i<n:=by
  rcases zu i n with z|z
  ·exact z
  ·rw[zo (by rw[z7];exact z)]at hd;cases hd
 rw[yo hi]at hd;cases hd;exact y
noncomputable def iRg1(g:FA):FI:=λω=>(g ω).bind λds=>match ds with
 | [.int j]=>if -(2^62)<=j/\j<2^62 then some (upTo 0 j.toNat)else none
 | _=>none
noncomputable def iRg2(g:FA):FI:=λω=>(g ω).bind λds=>match ds with
 | [.int i,.int j]=>if (-(2^62)<=i/\i<2^62)/\-(2^62)<=j/\j<2^62 then some (upTo i (j-i).toNat)else none
 | _=>none
theorem qaj{a:vP}{g:FA}{p pos:Pos}(hg:Gl X "range")(hm:X.mg "range" = none)(ha:XVA X [a] g)(hs:vK [a] X.env=[(false,eval a X.env)]:=by rfl):XI X tg (.Call (.Name "range" p) [a] [] pos) (iRg1 g):=by
 obtain⟨t,h1,h2⟩:=ha;refine⟨_,qaF hg hm h1 hs,λG0 H0 G ω σ H ds R o e k=>?_⟩;obtain⟨vs,q,e⟩:=bnd e;refine h2 G0 H0 G ω σ H vs _ o q λus G1 H1 x1 y1=>?_
 match vs,e with
 | [.int j],e=>
  dsimp only at e
  by_cases z:-(2^62)<=j/\j<2^62
  ·rw[vH z]at e
   cases e;obtain⟨v,rfl,y2⟩:=y1.one;cases y2.int;exact⟨j,rfl,z.1,z.2,k _ G1 H1 x1 (q6i _ _)⟩
  ·rw[vJ z]at e;cases e
theorem qb4{a b:vP}{g:FA}{p pos:Pos}(hg:Gl X "range")(hm:X.mg "range" = none)(ha:XVA X [a,b] g)(hs:vK [a,b] X.env=[(false,eval a X.env),(false,eval b X.env)]:=by rfl)(hs2:vK [b] X.env=[(false,eval b X.env)]:=by rfl):XI X tg (.Call (.Name "range" p) [a,b] [] pos) (iRg2 g):=by
 obtain⟨t,h1,h2⟩:=ha;refine⟨_,q9W hg hm h1 hs hs2,λG0 H0 G ω σ H ds R o e k=>?_⟩;obtain⟨vs,q,e⟩:=bnd e;refine h2 G0 H0 G ω σ H vs _ o q λus G1 H1 x1 y1=>?_
 match vs,e with
 | [.int i,.int j],e=>
  dsimp only at e
  by_cases z:(-(2^62)<=i/\i<2^62)/\-(2^62)<=j/\j<2^62
  ·rw[vH z]at e
   cases e;obtain⟨v,u,rfl,y2,y3⟩:=y1.two;cases y2.int;cases y3.int;exact⟨i,j,rfl,⟨z.1.1,z.1.2,z.2.1,z.2.2⟩,k _ G1 H1 x1 (q6i _ _)⟩
  ·rw[vJ z]at e;cases e
end
noncomputable def WM(g:FG)(b:FS):List D->FS
 | [],ω=>some (.nx,ω)
 | d::ds,ω=>(g d ω).bind λw=>(b w).bind λp=>match p.1 with
  | .nx=>WM g b ds p.2
  | .ct=>WM g b ds p.2
  | .bk=>some (.nx,p.2)
  | .rt r=>some (.rt r,p.2)
noncomputable def Xv(fi:FI)(g:FG)(b:FS):FS:=λω=>(fi ω).bind λds=>WM g b ds ω
section
variable{X:Cx}{tg iter:vP}{body:List vo}{pos:Pos}{fi:FI}{fg:FG}{fb:FS}
theorem q05(hp:tO (model X.prog X.w) X.A X.env X.xe)(hc:X.calm=true)(hi:XI X tg iter fi)(hg:XG X tg fg)(hb:XSs X body fb)(hs:∀x,vt iter X.env x=pure x:=by intro _;rfl):XS X (.For tg iter body [] pos) (Xv fi fg fb):=by
 obtain⟨wi,h1,h2⟩:=hi;obtain⟨g,h3,h4⟩:=hg;obtain⟨tb,h5,h6⟩:=hb;refine⟨_,q6d hp hc h1 h3 h5 hs,λG0 H0 G ω σ H out ω' E o e k=>?_⟩;obtain⟨ds,q,e⟩:=bnd e;refine h2 G0 H0 G ω σ H ds _ o q λJ G1 H1 x1 it=>?_;refine⟨λi m σ2 H2=>∃G2 ω2,Own X.K G0 H0 G2 ω2 σ2 H2/\YM G1 G2/\WM fg fb (ds.drop i) ω2=some (out,ω')/\i<=ds.length/\m=ds.length-i,⟨_,G1,ω,o.keep x1,YM.refl _,e,yL _,rfl⟩,?_⟩;rintro i m σ2 H2 ⟨G2,ω2,o2,s2,f2,hi2,rfl⟩
 by_cases hlt:i<ds.length
 ·refine .inr ⟨it.go H2 i (s2.trans o2.gh) hlt,λσ3 H3=>∃G3 ω3,Own X.K G0 H0 G3 ω3 σ3 H3/\YM G1 G3/\WM fg fb (ds.drop (i+1)) ω3=some (out,ω'),λσ3 H3 ⟨G3,ω3,a1,a2,a3⟩=>⟨ds.length-(i+1),∅,G3,ω3,a1,a2,a3,hlt,rfl⟩,λx H3 hy=>?_⟩
  have hd:ds[i]?=some ds[i]:=zC hlt;obtain⟨G4,x4,rx⟩:=it.yld G2 H2 i x H3 ds[i] s2 o2.gh hd hy;have o2:=o2.keep x4;have s2:=s2.trans x4.gg;rw[xR hlt]at f2;obtain⟨w,q1,f2⟩:=bnd f2;obtain⟨⟨o3,ω3⟩,q2,f2⟩:=bnd f2;refine h4 G0 H0 G4 ω2 σ2 H3 ds[i] x w _ o2 q1 rx λσ4 o4=>?_;refine h6 G0 H0 G4 w σ4 H3 o3 ω3 _ o4 q2 λG5 σ5 H5 o5 s5=>?_;cases o3 with
  | nx=>exact⟨G5,ω3,o5,s2.trans s5,f2⟩
  | ct=>exact⟨G5,ω3,o5,s2.trans s5,f2⟩
  | bk=>cases f2;exact k G5 σ5 H5 o5 (x1.gg.trans (s2.trans s5))
  | rt r=>cases f2;exact k G5 σ5 H5 o5 (x1.gg.trans (s2.trans s5))
 ·have ei:i=ds.length:=∅
  subst ei;rw[Zh]at f2;cases f2;exact .inl ⟨it.stop H2 (s2.trans o2.gh),k G2 σ2 H2 o2 (x1.gg.trans s2)⟩
end
noncomputable def Yl(g:FG)(c:FT)(f:FD):List D->WSt->Option (List D)
 | [],_=>some []
 | d::ds,ω=>(g d ω).bind λw=>(c w).bind λb=>if b=true then (f w).bind λx=>(Yl g c f ds w).map λr=>x::r else Yl g c f ds w
noncomputable def Xp:Option (Option W)->Option W
 | some ↥d=>↥d
 | _=>none
noncomputable def inW(M:Nat)(frees:List Nat)(ω:WSt):WSt:=xx M none++frees.map λj=>Xp ω[j]?
noncomputable def Yc(M:Nat)(frees:List Nat)(fi:FI)(g:FG)(c:FT)(f:FD):FE:=λω=>(fi ω).bind λds=>if ds.length<=1000000 then (Yl g c f ds (inW M frees ω)).map R.fr else none
def XTs(X:Cx)(ifs:List vP)(f:FT):Prop:=∃t,PTs X ifs t/\Xz X.K t f
noncomputable def YU:FT:=λ_=>some true
theorem qP{X:Cx}:XTs X [] YU:=⟨_,qdO,λG0 H0 G ω σ H b Q o e k=>by cases e;exact k G H (Ext.refl o.gh)⟩
theorem q4Z{X:Cx}{c:vP}{f:FT}(h:XT X c f):XTs X [c] f:=let ⟨t,h1,h2⟩:=h;⟨t,qd9 h1,h2⟩
section
variable{X:Cx}{N:List Str}{M:Nat}{frees:List Nat}{scope:ud}{tg iter elt:vP}{ifs:List vP}{pos:Pos}{fi:FI}{fg:FG}{fc:FT}{fe:FD}
def Y1(ω:WSt):Prop:=∀(i:Nat)w,ω[i]?=some (some w)->∃d,w=.sh d
theorem Y1.ow{ω:WSt}(h:Y1 ω)(i:Nat)(ds:List D):ω[i]?≠some (some (.ow ds)):=λz=>by obtain⟨d,e⟩:=h i _ z;cases e
theorem Y1.od{ω:WSt}(h:Y1 ω)(i:Nat)(ks:List Int)(ds:List D):ω[i]?≠some (some (.od ks ds)):=λz=>by obtain⟨d,e⟩:=h i _ z;cases e
theorem Y1.pw{ω:WSt}(h:Y1 ω)(i:Nat)(ds:List D):ω[i]?≠some (some (.pw ds)):=λz=>by obtain⟨d,e⟩:=h i _ z;cases e
theorem q6X{wi:TI}{g:TG}{tc:TT}{te:TE}(h2:SimI X.K wi fi)(h4:SimG X.K g fg)(h6:Xz X.K tc fc)(h8:zAa X.K te fe)(hg:∀d ω ω',Y1 ω->fg d ω=some ω'->Y1 ω'):zAb X.K (zAQ M frees wi g tc te) (Yc M frees fi fg fc fe):=by
 intro G0 H0 G ω σ H r Q o e k;obtain⟨ds,q,e⟩:=bnd e
 by_cases hz:ds.length<=1000000
 ·rw[vH hz]at e
  obtain⟨rs,q2,e⟩:=mpd e;subst e;refine h2 G0 H0 G ω σ H ds _ o q λJ G1 H1 x1 it=>?_;intro A hA;have ow0:Y1 (inW M frees ω):=by
   intro i es z;unfold inW at z;rcases zu i M with y|y
   ·rw[zZ ⇑y,yZ,vH y]at z;cases z
   ·rw[zV ⇑y,yd,zW]at z
    cases e1:frees[i-M]? with
    | none=>rw[e1]at z;cases z
    | some j=>
     rw[e1]at z;have z':Xp ω[j]?=some es:=zt z;generalize ω[j]?=u at z';unfold Xp at z'
     split at z'
     ·cases z';exact⟨_,rfl⟩
     ·cases z'
  have own0:∀G2 H2,YM G1 G2->YM G2 H2->Own X.K G2 (fr H2) G2 (inW M frees ω) (Wo M frees σ) H2:=λG2 H2 s1 s2=>by
   have o1:=o.keep x1;refine⟨Ext.refl s2,by unfold inW Wo;simp,λi d hi=>?_,λi ds' hi=>vM hi (ow0.ow i ds'),λi j ds' es l hi=>vM hi (ow0.ow i ds'),λi ks ds' hi=>vM hi (ow0.od i ks ds'),Yp.no ow0.pw⟩;unfold inW at hi;unfold Wo;rcases zu i M with y|y
   ·rw[zZ ⇑y,yZ,vH y]at hi;cases hi
   ·rw[zV ⇑y,yd,zW]at hi ⊢
    cases e1:frees[i-M]? with
    | none=>rw[e1]at hi;cases hi
    | some j=>
     rw[e1]at hi;have hi':Xp ω[j]?=↥d:=zt hi;cases e2:ω[j]? with
     | none=>rw[e2]at hi';cases hi'
     | some w=>
      rw[e2]at hi';cases w with
      | none=>cases hi'
      | some w=>
       cases w with
       | ow _=>cases hi'
       | od _ _=>cases hi'
       | pw _=>cases hi'
       | sh d'=>
        cases hi';obtain⟨v,q3,q4⟩:=o1.sh j _ e2;exact⟨v,by rw[yn,q3];rfl,q4.mono s1⟩
  refine⟨λi m σ2 H2=>∃G2 ω2 accd accv,Own X.K G2 (fr H2) G2 ω2 σ2 H2/\Y1 ω2/\Ext G1 H1 G2 H2/\G2 A=none/\H2 A=some (.lst accv)/\YF X.K G2 accd accv/\accd.length<=i/\i<=ds.length/\m=ds.length-i /\
   ∃rest,Yl fg fc fe (ds.drop i) ω2=some rest/\accd++rest=rs,⟨_,G1,inW M frees ω,[],[],own0 _ _ (YM.refl _) (YK x1.gh (x1.gh.free hA) _),ow0,Ext.hide x1.gh hA _,x1.gh.free hA,qe,YF.nil,zN _,yL _,rfl,rs,q2,rfl⟩,?_⟩
  rintro i m σ2 H2 ⟨G2,ω2,accd,accv,o2,no2,x2,gA,hA2,ra,la,li,rfl,rest,cd,er⟩
  by_cases hlt:i<ds.length
  ·refine .inr ⟨it.go H2 i (x2.gg.trans x2.gh) hlt,λx H3 hy=>?_⟩
   have hd:ds[i]?=some ds[i]:=zC hlt;obtain⟨G4,x4,rx⟩:=it.yld G2 H2 i x H3 ds[i] x2.gg x2.gh hd hy;have o2':=o2.keep x4;have o2:Own X.K G4 (fr H3) G4 ω2 σ2 H3:=⟨Ext.refl x4.gh,o2'.len,o2'.sh,λi ds' hi=>vM hi (no2.ow i ds'),λi j ds' es l hi=>vM hi (no2.ow i ds'),λi ks ds' hi=>vM hi (no2.od i ks ds'),Yp.no no2.pw⟩;have gA:G4 A=none:=x4.new A gA (by rw[hA2];exact λz=>by cases z);have hA2:H3 A=some (.lst accv):=x4.hh _ _ hA2;have x2:=x2.trans x4;have ra:=ra.mono x4.gg;rw[xR hlt]at cd;obtain⟨w,q1,cd⟩:=bnd cd;obtain⟨b,q3,cd⟩:=bnd cd;have now:=hg _ _ _ no2 q1;refine h4 G4 (fr H3) G4 ω2 σ2 H3 ds[i] x w _ o2 q1 rx λσ4 o4=>?_;refine h6 G4 (fr H3) G4 w σ4 H3 b _ o4 q3 λG5 H5 x5=>?_;have o5:=o4.keep x5;have gA5:G5 A=none:=x5.new A gA (by rw[hA2];exact λz=>by cases z);have hA5:H5 A=some (.lst accv):=x5.hh _ _ hA2;cases b with
   | false=>
    rw[vJ yG];rw[vJ yG]at cd;have o6:Own X.K G5 (fr H5) G5 w σ4 H5:=⟨Ext.refl x5.gh,o5.len,o5.sh,λi ds' hi=>vM hi (now.ow i ds'),λi j ds' es l hi=>vM hi (now.ow i ds'),λi ks ds' hi=>vM hi (now.od i ks ds'),Yp.no now.pw⟩;exact⟨ds.length-(i+1),∅,G5,w,accd,accv,o6,now,x2.trans x5,gA5,hA5,ra.mono x5.gg,∅,hlt,rfl,rest,cd,er⟩
   | true=>
    rw[vH rfl]at cd ⊢;obtain⟨d,q4,cd⟩:=bnd cd;obtain⟨rest',q5,cd⟩:=mpd cd;subst cd;refine h8 G4 (fr H3) G5 w σ4 H5 d _ o5 q4 λv G6 H6 x6 y6=>?_;have gA6:G6 A=none:=x6.new A gA5 (by rw[hA5];exact λz=>by cases z);have hA6:H6 A=some (.lst accv):=x6.hh _ _ hA5;have x26:=(x2.trans x5).trans x6;have raa:=ra.mono (x5.gg.trans x6.gg);have hl:accv.length<sizeLine:=by rw[<- raa.len,vn];omega
    refine⟨accv,hA6,hl,ds.length-(i+1),∅,G6,w,accd++[d],accv++[v],?_,now,⟨x26.gg,YK x26.gh gA6 _,YK x26.hh hA _,x26.new⟩,gA6,qe,raa.app (YF.cons y6 YF.nil),by rw[zG,zx];omega,hlt,rfl,rest',q5,by rw[yE];exact er⟩;have o6:=o5.keep x6;exact⟨Ext.refl (YK x6.gh gA6 _),o6.len,o6.sh,λi ds' hi=>vM hi (now.ow i ds'),λi j ds' es l hi=>vM hi (now.ow i ds'),λi ks ds' hi=>vM hi (now.od i ks ds'),Yp.no now.pw⟩
  ·have ei:i=ds.length:=∅
   subst ei;rw[Zh]at cd;cases cd;rw[z5]at er;subst er;refine .inl ⟨it.stop H2 (x2.gg.trans x2.gh),k _ G2 H2 (x1.trans x2) ⟨A,accv,rfl,x1.hh.free hA,gA,hA2,ra⟩⟩
 ·rw[vJ hz]at e;cases e
theorem qbu{ω:WSt}{i:Nat}{d:D}(h:Y1 ω):Y1 (ω.set i ↥d):=by
 intro j ds z;rcases qd z with⟨_,_,y⟩|⟨_,y⟩
 ·cases y;exact⟨d,rfl⟩
 ·exact h j ds y
def Tame(fg:FG):Prop:=∀d ω ω',Y1 ω->fg d ω=some ω'->Y1 ω'
def W5(gs:List D->WSt->Option WSt):Prop:=∀ds ω ω',Y1 ω->gs ds ω=some ω'->Y1 ω'
theorem qw(i:Nat):Tame (gN i):=λd ω ω' h e=>by cases e;exact qbu h
theorem q1o:W5 Yn:=λds ω ω' h e=>by
 cases ds with
 | nil=>cases e;exact h
 | cons _ _=>cases e
theorem qA{fg:FG}{gs:List D->WSt->Option WSt}(h:Tame fg)(h':W5 gs):W5 (YH fg gs):=λds ω ω' n e=>by
 cases ds with
 | nil=>cases e
 | cons d r=>obtain⟨w,q,e⟩:=bnd e;exact h' _ _ _ (h _ _ _ n q) e
theorem q3r{n:Nat}{gs:List D->WSt->Option WSt}(h:W5 gs):Tame (gT n gs):=λd ω ω' no e=>by
 unfold gT at e;cases d with
 | tup ds=>
  dsimp only at e
  by_cases z:ds.length=n
  ·rw[vH z]at e;exact h _ _ _ no e
  ·rw[vJ z]at e;cases e
 | _=>cases e
noncomputable def canD(K:zA)(f:FD):TE:=λσ H Q=>∃G0 H0 G ω d,Own K G0 H0 G ω σ H/\f ω=some d/\∀v G' H',Ext G H G' H'->Rep K G' d v->Q v H'
noncomputable def canT(K:zA)(f:FT):TT:=λσ H Q=>∃G0 H0 G ω b,Own K G0 H0 G ω σ H/\f ω=some b/\∀G' H',Ext G H G' H'->Q b H'
noncomputable def canG(K:zA)(f:FG):TG:=λv σ H Q=>∃G0 H0 G ω d ω',Own K G0 H0 G ω σ H/\f d ω=some ω'/\Rep K G d v/\∀σ',Own K G0 H0 G ω' σ' H->Q σ' H
theorem XD.can{X:Cx}{e:vP}{f:FD}(h:XD X e f):PE X e (canD X.K f):=λpins s σ H Q I ⟨G0,H0,G,ω,d,o,e,k⟩=>let ⟨_,h1,h2⟩:=h;h1 pins s σ H Q I (h2 G0 H0 G ω σ H d Q o e k)
theorem XTs.can{X:Cx}{e:List vP}{f:FT}(h:XTs X e f):PTs X e (canT X.K f):=λpins s σ H Q I ⟨G0,H0,G,ω,d,o,e,k⟩=>let ⟨_,h1,h2⟩:=h;h1 pins s σ H Q I (h2 G0 H0 G ω σ H d Q o e k)
theorem XG.can{X:Cx}{e:vP}{f:FG}(h:XG X e f):PG X e (canG X.K f):=λpins s σ H v u Q I r ⟨G0,H0,G,ω,d,ω',o,e,y,k⟩=>let ⟨_,h1,h2⟩:=h;h1 pins s σ H v u Q I r (h2 G0 H0 G ω σ H d v ω' Q o e y k)
theorem q7e{K:zA}{f:FD}:zAa K (canD K f) f:=λG0 H0 G ω σ H d Q o e k=>⟨G0,H0,G,ω,d,o,e,k⟩
theorem q6J{K:zA}{f:FT}:Xz K (canT K f) f:=λG0 H0 G ω σ H d Q o e k=>⟨G0,H0,G,ω,d,o,e,k⟩
theorem q6c{K:zA}{f:FG}:SimG K (canG K f) f:=λG0 H0 G ω σ H d v ω' Q o e y k=>⟨G0,H0,G,ω,d,ω',o,e,y,k⟩
theorem q0D(hc:X.calm=true)(B:BlkOk X N M frees scope)(hi:XI X tg iter fi)(ht:Tame fg)(hb:∀C s H fp,XG (Yr X N scope C s H fp) tg fg/\XTs (Yr X N scope C s H fp) ifs fc/\XD (Yr X N scope C s H fp) elt fe)(hs:∀x,vt iter X.env x=pure x:=by intro _;rfl):XE X (.ListComp elt [⟨tg,iter,ifs,0⟩] scope pos) (Yc M frees fi fg fc fe):=by
 obtain⟨wi,h1,h2⟩:=hi;have b4:∀C s H fp,PG (Yr X N scope C s H fp) tg (canG X.K fg)/\PTs (Yr X N scope C s H fp) ifs (canT X.K fc)/\PE (Yr X N scope C s H fp) elt (canD X.K fe):=λC s H fp=>⟨(hb C s H fp).1.can,(hb C s H fp).2.1.can,(hb C s H fp).2.2.can⟩;exact⟨_,qdR hc B h1 b4 hs,q6X h2 q6c q6J q7e ht⟩
theorem q0Z{i:Nat}{x:Str}{pos' spos:Pos}(hc:X.calm=true)(hN:X.N.Nodup)(hi':X.N[i]?=some x)(hx:X.env.scope.names.lookup x=some .local)(B:BlkOk X N M frees scope)(hi:XI X tg iter fi)(ht:Tame fg)(hb:∀C s H fp,XG (Yr X N scope C s H fp) tg fg/\XTs (Yr X N scope C s H fp) ifs fc/\XD (Yr X N scope C s H fp) elt fe)(hsw:vv (.ListComp elt [⟨tg,iter,ifs,0⟩] scope pos) (some (.Name x pos')) spos.line X.env=pure true:=by rfl)(hs:∀x,vt iter X.env x=pure x:=by intro _;rfl):XS X (.Assign [.Name x pos'] (.ListComp elt [⟨tg,iter,ifs,0⟩] scope pos) spos) (YZ i (Yc M frees fi fg fc fe)):=by
 obtain⟨wi,h1,h2⟩:=hi;have b4:∀C s H fp,PG (Yr X N scope C s H fp) tg (canG X.K fg)/\PTs (Yr X N scope C s H fp) ifs (canT X.K fc)/\PE (Yr X N scope C s H fp) elt (canD X.K fe):=λC s H fp=>⟨(hb C s H fp).1.can,(hb C s H fp).2.1.can,(hb C s H fp).2.2.can⟩;exact⟨_,qdp hc hN hi' hx B h1 b4 hsw hs,q8H (q6X h2 q6c q6J q7e ht)⟩
def Xc(X:Cx)(scope:ud):List Str->List Nat->Prop
 | [],[]=>True
 | x::xs,j::js=>(X.N[j]?=some x/\(X.env.kindOf x=some .cell\/X.env.kindOf x=some .free)/\scope.names.lookup x=some .free)/\Xc X scope xs js
 | _,_=>False
theorem q4q{X:Cx}{scope:ud}:∀{xs:List Str}{js:List Nat},Xc X scope xs js->∀(k:Nat)(x:Str),xs[k]?=some x->∃j,js[k]?=some j/\X.N[j]?=some x/\(X.env.kindOf x=some .cell\/X.env.kindOf x=some .free)/\scope.names.lookup x=some .free
 | [],_,_,_,_,e=>by simp at e
 | _::_,[],h,_,_,_=>h.elim
 | y::ys,i::is,⟨h1,h2⟩,0,x,e=>by
  have:y=x:=by simpa using e
  subst this;exact⟨i,rfl,h1⟩
 | y::ys,i::is,⟨h1,h2⟩,k+1,x,e=>by
  obtain⟨j,q⟩:=q4q h2 k x ⇑e;exact⟨j,by simpa using q.1,q.2⟩
theorem q3Y{X:Cx}{scope:ud}:∀{xs:List Str}{js:List Nat},Xc X scope xs js->xs.length=js.length
 | [],[],_=>rfl
 | [],_::_,h=>h.elim
 | _::_,[],h=>h.elim
 | _::ys,_::is,⟨_,h2⟩=>by rw[zM,zM,q3Y h2]
theorem blk{X:Cx}{scope:ud}(own free:List Str)(frees:List Nat)(h1:scope.kind=.function)(h2:∀y∈scope.names,y.2≠.cell)(h3:∀y∈scope.names,y.2=.local->scope.names.lookup y.1=some .local)(h4:(scope.names.all λp=>p.2 != .free || (X.env.cells.lookup p.1).isSome)=true)(h5:Xc X scope free frees):BlkOk X (own++free) own.length frees scope:=by
 refine⟨h1,h2,h3,λp hp hf=>?_,λk x e=>?_,by rw[zG,q3Y h5]⟩
 ·have:=yu.mp h4 p hp
  rw[hf]at this;simpa using this
 ·rw[zV (Nat.le_add_right _ _),wM]at e
  exact q4q h5 k x e
end
noncomputable def entry(n:Nat)(ds:List D):WSt:=ds.map (λd=>↥d)++xx (n-ds.length) none
noncomputable def mir(n:Nat)(body:FS)(ds:List D):Option O:=match body (entry n ds)with
 | some (.rt r,_)=>some r
 | some (.nx,_)=>some (.sh .non)
 | _=>none
theorem q9c{K:zA}{H:Hp}{N:List Str}{ds:List D}{vs:List V}(h:YF K H ds vs)(i:Nat)(d:D)(e:(entry N.length ds)[i]?=some ↥d):∃v,(L2.start N vs)[i]?=some (some v)/\Rep K H d v:=by
 unfold entry at e;unfold L2.start;have hl:=h.len;rcases zu i ds.length with y|y
 ·rw[zZ ⇑y,zW]at e
  have e1:ds[i]?=some d:=by
   cases q:ds[i]? with
   | none=>rw[q]at e;cases e
   | some d'=>rw[q]at e;cases e;rfl
  obtain⟨v,q1,q2⟩:=h.get e1;refine⟨v,?_,q2⟩;rw[zZ ⇑((∅:i<vs.length)),zW,q1];rfl
 ·rw[zV ⇑y,yZ]at e
  split at e <;> cases e
theorem q1A{n:Nat}{ds:List D}:Y1 (entry n ds):=by
 intro i es z;unfold entry at z;rcases zu i ds.length with y|y
 ·rw[zZ ⇑y,zW]at z
  cases q:ds[i]? with
  | none=>rw[q]at z;cases z
  | some d=>rw[q]at z;cases z;exact⟨d,rfl⟩
 ·rw[zV ⇑y,yZ]at z
  split at z <;> cases z
theorem fnD{P:vO}{w:vT}{K:zA}{mg:Str->Option vB}{base:vZ}{x qual:Str}{st:vo}{f:vG}{fd:vN}{N ps:List Str}{k:Nat}{body:FS}(F:Fun K x qual st f fd)(S:FnScope N ps (Z9 st))(hb:∀(cdv:vB)(A:vY)(outer:List Env)(s:vC)(H:Hp)(E:XK),Room k (A.deeper (PyProof.Rows.envOfC qual (Z9 st) s.heap.objs.size f cdv))->XSs (zAM CX0 P w K mg base N qual (Z9 st) f cdv A outer s H E).nox (Yd st) body):
  FnOk P w K mg base CX0 (k+1) f fd ps (spD K ps.length (mir N.length body)):=by
 refine F.ok S (λvs H Q E h=>?_) (λcdv A outer s H vs Q E hr h=>?_)
 ·obtain⟨G,ds,r,_,h2,_,h4,_⟩:=h
  rw[<- h4.len];exact h2
 ·obtain⟨G,ds,r,h1,h2,h3,h4,h5⟩:=h
  obtain⟨t,p1,p2⟩:=hb cdv A outer s H E hr;refine⟨t,p1,?_⟩;unfold mir at h1;have hl:=h4.len;have hpl:ps.length<=N.length:=by have:=vf yi S.pre;rw[zb]at this;omega
  have o0:Own K G (fr H) G (entry N.length ds) (L2.start N vs) H:=by
   refine⟨Ext.refl h3,?_,λi d e=>q9c h4 i d e,λi es e=>vM e (q1A.ow i es),λi j es fs l e=>vM e (q1A.ow i es),λi ks es e=>vM e (q1A.od i ks es),Yp.no q1A.pw⟩;unfold entry L2.start;simp only[zG,zB,yd];omega
  cases q:body (entry N.length ds)with
  | none=>rw[q]at h1;cases h1
  | some p=>
   obtain⟨out,ω'⟩:=p;rw[q]at h1;refine p2 G (fr H) G _ _ H out ω' _ o0 q λG' σ' H' o' s'=>?_;cases out with
   | nx=>cases h1;exact h5 _ G' H' o'.ext rfl
   | bk=>cases h1
   | ct=>cases h1
   | rt r'=>cases h1;exact λv y=>h5 v G' H' o'.ext y
theorem q2F:vX "len" = some (.builtin "len"):=⋯
theorem qbm:vX "all" = some (.builtin "all"):=⋯
theorem q6K:vX "sum" = some (.builtin "sum"):=⋯
theorem qaU:vX "min" = some (.builtin "min"):=⋯
theorem qeL:vX "max" = some (.builtin "max"):=⋯
theorem qeH:vX "abs" = some (.builtin "abs"):=⋯
theorem q2c:vX "sorted" = some (.builtin "sorted"):=⋯
theorem qeJ:vX "int" = some (.type "int"):=⋯
theorem qeh:vX "bool" = some (.type "bool"):=⋯
theorem q3H:vX "list" = some (.type "list"):=⋯
theorem q75:vX "tuple" = some (.type "tuple"):=⋯
theorem qew:vX "set" = some (.type "set"):=⋯
theorem qeu:vX "zip" = some (.type "zip"):=⋯
noncomputable def zAL(o:Option (Out×WSt))(g:FS):Option (Out×WSt):=o.bind λp=>match p.1 with
 | .nx=>g p.2
 | o=>some (o,p.2)
noncomputable def setS(i:Nat)(ω:WSt)(o:Option R):Option (Out×WSt):=o.bind λr=>(setR i r ω).map λw=>(.nx,w)
noncomputable def ifS(c:Option Bool)(f g:FS)(ω:WSt):Option (Out×WSt):=c.bind λb=>if b=true then f ω else g ω
noncomputable def retS(ω:WSt)(o:Option R):Option (Out×WSt):=o.bind λr=>match r with
 | .sh d=>some (.rt (.sh d),ω)
 | .fr ds=>some (.rt (.fr ds),ω)
 | .vw _=>none
noncomputable def retV(ω:WSt)(o:Option (Option W)):Option (Out×WSt):=match o with
 | some ↥d=>some (.rt (.sh d),ω)
 | some (some (.ow ds))=>some (.rt (.fr ds),ω)
 | _=>none
noncomputable def appS(i:Nat)(ω:WSt)(o:Option D)(l:Option (Option W)):Option (Out×WSt):=o.bind λd=>match l with
 | some (some (.ow ds))=>if ds.length<1000000 then some (.nx,ω.set i (some (.ow (ds++[d]))))else none
 | _=>none
noncomputable def extS(i:Nat)(ω:WSt)(o:Option D)(l:Option (Option W)):Option (Out×WSt):=o.bind λd=>(itemsOf d).bind λes=>match l with
 | some (some (.ow ds))=>if ds.length+es.length<=1000000 then some (.nx,ω.set i (some (.ow (ds++es))))else none
 | _=>none
noncomputable def shrS(i:Nat)(ω:WSt)(o:Option (Option W)):WSt:=match o with
 | some (some (.ow ds))=>ω.set i ↥(.lst ds)
 | some (some (.od ks ds))=>ω.set i ↥(.dic ks ds)
 | _=>ω
noncomputable def forS(o:Option (List D))(g:FG)(b:FS)(ω:WSt):Option (Out×WSt):=o.bind λds=>WM g b ds ω
noncomputable def varR(o:Option (Option W)):Option R:=match o with
 | some ↥d=>↥d
 | some (some (.ow ds))=>some (.vw ds)
 | some (some (.pw ds))=>some (.vw ds)
 | _=>none
noncomputable def eD(o:Option D):Option R:=o.map R.sh
noncomputable def dR(o:Option R):Option D:=match o with
 | ↥d=>some d
 | some (.fr ds)=>some (.lst ds)
 | _=>none
noncomputable def vR(o:Option R):Option D:=o.map R.d
noncomputable def op2(op:D->D->Option R)(x y:Option D):Option R:=x.bind λx=>y.bind λy=>op x y
noncomputable def callR(m:List D->Option O)(o:Option (List D)):Option R:=o.bind λds=>(m ds).map O.r
noncomputable def consA(o:Option D)(r:Option (List D)):Option (List D):=o.bind λd=>r.map λds=>d::ds
noncomputable def bltR(op:List D->Option R)(o:Option (List D)):Option R:=o.bind op
noncomputable def slR(o:Option D)(l h:Option (Option Int)):Option R:=o.bind λd=>l.bind λlo=>h.bind λhi=>oSl d lo hi
noncomputable def atP(o:Option D):Option (Option Int):=o.bind λd=>match d with|.int i=>some (some i)|_=>none
noncomputable def iteR(c:Option Bool)(f g:FE)(ω:WSt):Option R:=c.bind λk=>if k=true then f ω else g ω
noncomputable def zAR(c:Ty)(o:Option D):Option R:=o.bind λd=>match d with
 | .scr _=>none
 | .exc _=>none
 | .dic _ _=>none
 | d=>↥(.bl (WA (tyD d) c))
noncomputable def tR(o:Option R):Option Bool:=match o with
 | ↥(.bl k)=>some k
 | _=>none
noncomputable def andT(o:Option Bool)(g:FT)(ω:WSt):Option Bool:=o.bind λc=>if c=true then g ω else some false
noncomputable def orT(o:Option Bool)(g:FT)(ω:WSt):Option Bool:=o.bind λc=>if c=true then some true else g ω
noncomputable def notT(o:Option Bool):Option Bool:=o.map (!·)
noncomputable def truT(o:Option D):Option Bool:=o.bind truD
noncomputable def andV(o:Option D)(g:FD)(ω:WSt):Option D:=o.bind λd=>(blOf d).bind λc=>if c=true then g ω else some (.bl false)
noncomputable def seqI(o:Option D):Option (List D):=o.bind itemsOf
noncomputable def rg1I(o:Option (List D)):Option (List D):=o.bind λds=>match ds with
 | [.int j]=>if -(2^62)<=j/\j<2^62 then some (upTo 0 j.toNat)else none
 | _=>none
noncomputable def rg2I(o:Option (List D)):Option (List D):=o.bind λds=>match ds with
 | [.int i,.int j]=>if (-(2^62)<=i/\i<2^62)/\-(2^62)<=j/\j<2^62 then some (upTo i (j-i).toNat)else none
 | _=>none
noncomputable def compR(M:Nat)(fr:List Nat)(o:Option (List D))(g:FG)(c:FT)(f:FD)(ω:WSt):Option R:=o.bind λds=>if ds.length<=1000000 then (Yl g c f ds (inW M fr ω)).map R.fr else none
noncomputable def outM(o:Option (Out×WSt)):Option O:=match o with
 | some (.rt r,_)=>some r
 | some (.nx,_)=>some (.sh .non)
 | _=>none
section
variable{f g:FS}{ω w:WSt}{i:Nat}{fe fe':FE}{fd fd':FD}{ft ft':FT}{r:O}{d d':D}{ds ds':List D}{a b:Int}{p q:Bool}{fa:FA}{fg:FG}{fi:FI}{n:Nat}
theorem qcJ:mir n f ds=outM (f (entry n ds)):=rfl
theorem q7K:outM (some (.rt r,w))=some r:=rfl
theorem q8Q:outM (some (.nx,w))=some (.sh .non):=rfl
theorem q0R:YS f g ω=zAL (f ω) g:=rfl
theorem q87:zAL (some (.nx,w)) g=g w:=rfl
theorem q8m:zAL (some (.rt r,w)) g=some (.rt r,w):=rfl
theorem qcH:Xn ω=some (.nx,ω):=rfl
theorem qcK:YZ i fe ω=setS i ω (fe ω):=rfl
theorem q8c:setS i ω ↥d=some (.nx,ω.set i ↥d):=rfl
theorem q84:setS i ω (some (.fr ds))=some (.nx,ω.set i (some (.ow ds))):=rfl
theorem e_if:sIf ft f g ω=ifS (ft ω) f g ω:=rfl
theorem qab:ifS (some true) f g ω=f ω:=rfl
theorem qb3:ifS (some false) f g ω=g ω:=rfl
theorem qcG:Yj fe ω=retS ω (fe ω):=rfl
theorem q8v:retS ω ↥d=some (.rt (.sh d),ω):=rfl
theorem q8J:retS ω (some (.fr ds))=some (.rt (.fr ds),ω):=rfl
theorem qbc:Xk i ω=retV ω ω[i]?:=rfl
theorem q8R:retV ω (some (some (.ow ds)))=some (.rt (.fr ds),ω):=rfl
theorem qcI:W0 i fd ω=appS i ω (fd ω) ω[i]?:=rfl
theorem W1(h:ds.length<1000000):appS i ω (some d) (some (some (.ow ds)))=some (.nx,ω.set i (some (.ow (ds++[d])))):=vH h
theorem qcZ:sExt i fd ω=extS i ω (fd ω) ω[i]?:=rfl
theorem q6W(h:ds.length+ds'.length<=1000000):extS i ω (some (.tup ds')) (some (some (.ow ds)))=some (.nx,ω.set i (some (.ow (ds++ds')))):=vH h
theorem q89:Yg i f ω=f (shrS i ω ω[i]?):=rfl
theorem q8C:shrS i ω (some (some (.ow ds)))=ω.set i ↥(.lst ds):=rfl
theorem qcw:Xv fi fg f ω=forS (fi ω) fg f ω:=rfl
theorem e_fs:forS (some ds) fg f ω=WM fg f ds ω:=rfl
theorem qcy:Z6 i ω=varR ω[i]?:=rfl
theorem q8o:varR (some ↥d)=↥d:=rfl
theorem q93:varR (some (some (.ow ds)))=some (.vw ds):=rfl
theorem e_c:fC d ω=some d:=rfl
theorem e_e:eOf fd ω=eD (fd ω):=rfl
theorem e_ed:eD (some d)=↥d:=rfl
theorem e_d:dOf fe ω=dR (fe ω):=rfl
theorem q8k:dR ↥d=some d:=rfl
theorem q8r:dR (some (.fr ds))=some (.lst ds):=rfl
theorem e_v:vOf fe ω=vR (fe ω):=rfl
theorem q7U:vR ↥d=some d:=rfl
theorem q85:vR (some (.fr ds))=some (.lst ds):=rfl
theorem q7W:vR (some (.vw ds))=some (.lst ds):=rfl
theorem e_op{op}:YC op fd fd' ω=op2 op (fd ω) (fd' ω):=rfl
theorem e_o2{op}:op2 op (some d) (some d')=op d d':=rfl
theorem qb7{m}:YG m fa ω=callR m (fa ω):=rfl
theorem e_cl{m}:callR m (some ds)=(m ds).map O.r:=rfl
theorem q8Y:(O.sh d).r=.sh d:=rfl
theorem q8i:(O.fr ds).r=.fr ds:=rfl
theorem e_ac:Z5 fd fa ω=consA (fd ω) (fa ω):=rfl
theorem e_ca:consA (some d) (some ds)=some (d::ds):=rfl
theorem e_an:YI ω=some []:=rfl
theorem qcE:Xm fa ω=(fa ω).map R.fr:=rfl
theorem qcL:Wp fa ω=(fa ω).map D.tup:=rfl
theorem qcq{op}:XJ op fa ω=bltR op (fa ω):=rfl
theorem e_bl{op}:bltR op (some ds)=op ds:=rfl
theorem qd1{l h:FO}:fSl fd l h ω=slR (fd ω) (l ω) (h ω):=rfl
theorem e_sl{lo hi:Option Int}:slR (some d) (some lo) (some hi)=oSl d lo hi:=rfl
theorem e_po:pNo ω=some none:=rfl
theorem e_pa:pAt fd ω=atP (fd ω):=rfl
theorem e_ap:atP (some (.int a))=some (some a):=rfl
theorem qcA:fIte ft fe fe' ω=iteR (ft ω) fe fe' ω:=rfl
theorem qaX:iteR (some true) fe fe' ω=fe ω:=rfl
theorem qbq:iteR (some false) fe fe' ω=fe' ω:=rfl
theorem qct{c}:zAG c fd ω=zAR c (fd ω):=rfl
theorem q5p{c}:zAR c (some (.int a))=↥(.bl (WA .int c)):=rfl
theorem q6x{c}:zAR c (some (.bl p))=↥(.bl (WA .bl c)):=rfl
theorem q5x{c}:zAR c (some .non)=↥(.bl (WA .non c)):=rfl
theorem q5G{c x}:zAR c (some (.str x))=↥(.bl (WA .str c)):=rfl
theorem q5B{c}:zAR c (some (.lst ds))=↥(.bl (WA .lst c)):=rfl
theorem q5y{c}:zAR c (some (.tup ds))=↥(.bl (WA .tup c)):=rfl
theorem e_t:tOf fe ω=tR (fe ω):=rfl
theorem e_tr:tR ↥(.bl p)=some p:=rfl
theorem qbh:Wb ft ft' ω=andT (ft ω) ft' ω:=rfl
theorem e_ta:andT (some p) ft ω=if p=true then ft ω else some false:=rfl
theorem qcz:(if p=true then some q else some false)=some (p&&q):=by cases p <;> rfl
theorem qcT:zAE ft ft' ω=orT (ft ω) ft' ω:=rfl
theorem e_to:orT (some p) ft ω=if p=true then some true else ft ω:=rfl
theorem qcu:(if p=true then some true else some q)=some (p || q):=by cases p <;> rfl
theorem qal:XB ft ω=notT (ft ω):=rfl
theorem e_tn:notT (some p)=some (!p):=rfl
theorem qb6:Xr fd ω=truT (fd ω):=rfl
theorem q8P:truT (some (.bl p))=some p:=rfl
theorem q6y:truT (some (.lst ds))=some (!ds.isEmpty):=rfl
theorem qaH:WH fd fd' ω=andV (fd ω) fd' ω:=rfl
theorem e_va:andV (some (.bl p)) fd ω=if p=true then fd ω else some (.bl false):=rfl
theorem qcP:(if p=true then some (D.bl q)else some (D.bl false))=some (.bl (p&&q)):=by cases p <;> rfl
theorem qao:Y5 fd ω=seqI (fd ω):=rfl
theorem q9G:seqI (some (.lst ds))=some ds:=rfl
theorem qcp:iRg1 fa ω=rg1I (fa ω):=rfl
theorem qd2:iRg2 fa ω=rg2I (fa ω):=rfl
theorem qfH(h:-(2^62)<=a/\a<2^62)(h':-(2^62)<=b/\b<2^62):rg2I (some [.int a,.int b])=some (upTo a (b-a).toNat):=vH ⟨h,h'⟩
theorem qax{M fr}:Yc M fr fi fg ft fd ω=compR M fr (fi ω) fg ft fd ω:=rfl
theorem Xg{M fr}(h:ds.length<=1000000):compR M fr (some ds) fg ft fd ω=(Yl fg ft fd ds (inW M fr ω)).map R.fr:=vH h
theorem qcR:zAF fd ω=(fd ω).bind oNeg:=rfl
theorem e_ng:oNeg (.int a)=↥(.int (-a)):=rfl
theorem q86:Wn [.lst ds]=↥(.int ds.length):=rfl
theorem q8B:Wn [.tup ds]=↥(.int ds.length):=rfl
theorem q8A{ns}:Wn [.scr ns]=↥(.int ns.length):=rfl
theorem qb9:oEq false (.int a) (.int b)=↥(.bl (a==b)):=rfl
theorem q72:oEq true (.int a) (.int b)=↥(.bl (!(a==b))):=rfl
theorem q7Q:W2 (.int a) (.int b)=↥(.int (a-b)):=rfl
theorem qbn:oLt (.int a) (.int b)=↥(.bl (decide (a<b))):=rfl
theorem q6g:oGe (.int a) (.int b)=↥(.bl (decide (b<=a))):=rfl
theorem q8z:Yk (.int a) (.int b)=↥(.int (a+b)):=rfl
theorem qcX:oIx (.lst ds) (.int a)=(atI ds a).map R.sh:=rfl
theorem qcQ:oIx (.tup ds) (.int a)=(atI ds a).map R.sh:=rfl
theorem qcV{ns:List Int}:oIx (.scr ns) (.int a)=(atI ns a).map λn=>.sh (.int n):=rfl
theorem q1m{α:Type}{xs:List α}{i:Int}(h0:0<=i)(h1:i<xs.length):atI xs i=some (xs[i.toNat]'∅):=by
 unfold atI ixN;rw[vH h0,vH h1];show xs[i.toNat]?=_;rw[zC ∅]
theorem at0{α:Type}{x:α}{xs:List α}:atI (x::xs) 0=some x:=by
 rw[q1m (by decide) (by rw[zM];omega)];rfl
theorem at1{α:Type}{x y:α}{xs:List α}:atI (x::y::xs) 1=some y:=by
 rw[q1m (by decide) (by rw[zM,zM];omega)];rfl
theorem at2{α:Type}{x y z:α}{xs:List α}:atI (x::y::z::xs) 2=some z:=by
 rw[q1m (by decide) (by rw[zM,zM,zM];omega)];rfl
theorem qdM{i j:Int}(h0:0<j)(h1:j<1073741824):cDiv i j=true:=by unfold cDiv;rw[vU h0,vU h1];rfl
theorem qe7{i j:Int}(h0:0<j):cMod i j=true:=by unfold cMod;rw[vU h0]
theorem qbZ{i j:Int}(h0:-(2^64)<j)(h1:j<2^64):zAI i j=true:=by unfold zAI;rw[vU h0,vU h1];simp
theorem qbw{i j:Int}(h0:-(2^64)<i)(h1:i<2^64):zAI i j=true:=by unfold zAI;rw[vU h0,vU h1];simp
theorem q0k(h:0<b):oMod (.int a) (.int b)=↥(.int (a%b)):=vH (qe7 h)
theorem q7Z(h:0<b)(h':b<1073741824):oDiv (.int a) (.int b)=↥(.int (a/b)):=vH (qdM h h')
theorem q45(h:-(2^64)<b)(h':b<2^64):Xo (.int a) (.int b)=↥(.int (a*b)):=vH (qbZ h h')
theorem q7i(h:-(2^64)<a)(h':a<2^64):Xo (.int a) (.int b)=↥(.int (a*b)):=vH (qbw h h')
end
def Xw(o:Option (Out×WSt))(P:WSt->Prop):Prop:=match o with
 | some (.nx,ω)=>P ω
 | some (.ct,ω)=>P ω
 | _=>False
theorem q52{ω:WSt}{P:WSt->Prop}:Xw (some (.nx,ω)) P=P ω:=rfl
theorem qJ{α:Type}{g:FG}{b:FS}(F:α->D)(xs:List α)(I:List α->WSt->Prop)(turn:∀pre x post ω,xs=pre++x::post->I pre ω->∃w,g (F x) ω=some w/\Xw (b w) (I (pre++[x]))){ω:WSt}(h0:I [] ω):∃ω',WM g b (xs.map F) ω=some (.nx,ω')/\I xs ω':=by
 have key:∀(post pre:List α)(ω:WSt),xs=pre++post->I pre ω->∃ω',WM g b (post.map F) ω=some (.nx,ω')/\I xs ω':=by
  intro post
  induction post with
  | nil=>intro pre ω e h;exact⟨ω,rfl,by rw[e,z5];exact h⟩
  | cons d post ih=>
   intro pre ω e h;obtain⟨w,h1,h2⟩:=turn pre d post ω e h;rw[zU,WM,h1,ya]
   match hb:b w,h2 with
   | some (.nx,ω2),h2=>exact ih (pre++[d]) ω2 (by rw[e,yE];rfl) h2
   | some (.ct,ω2),h2=>exact ih (pre++[d]) ω2 (by rw[e,yE];rfl) h2
 exact key xs [] ω rfl h0
theorem qaP{g:FG}{b:FS}(lo:Int)(n:Nat)(I:Nat->WSt->Prop)(turn:∀i ω,i<n->I i ω->∃w,g (.int (lo+i)) ω=some w/\Xw (b w) (I (i+1))){ω:WSt}(h0:I 0 ω):∃ω',WM g b (Hk.upTo lo n) ω=some (.nx,ω')/\I n ω':=by
 unfold Hk.upTo;obtain⟨ω',e,h⟩:=qJ (g:=g) (b:=b) (λ(i:Nat)=>D.int (lo+(i:Int))) (yB n) (λpre ω=>I pre.length ω) (λpre x post ω e h=>by
  have hx:x=pre.length:=by
   have:=vf (λl=>l[pre.length]?) e;rw[zV (zN _),wT]at this;rcases zu pre.length n with z|z
   ·rw[yo z]at this;simpa using this.symm
   ·rw[zo (by rw[z7];exact z)]at this;cases this
  have hlt:pre.length<n:=by
   have:=vf yi e;rw[z7,zG,zM]at this;omega
  subst hx;obtain⟨w,h1,h2⟩:=turn pre.length ω hlt h;refine⟨w,h1,?_⟩;rw[zG];exact h2) h0
 rw[z7]at h;exact⟨ω',e,h⟩
theorem q5L{g:FG}{c:FT}{f:FD}(P:WSt->Prop)(q:D->Bool)(F:D->D):∀(ds:List D){ω:WSt},P ω ->
  (∀d∈ds,∀ω,P ω->∃w,g d ω=some w/\P w/\c w=some (q d)/\(q d=true->f w=some (F d)))->Yl g c f ds ω=some ((ds.filter q).map F)
 | [],_,_,_=>rfl
 | d::ds,ω,h,t=>by
  obtain⟨w,h1,h2,h3,h4⟩:=t d zI ω h;have ih:=q5L P q F ds h2 (λe he=>t e (zJ _ he));rw[Yl,h1,ya,h3,ya];cases hq:q d with
  | true=>rw[vH rfl,h4 hq,ya,ih,wN hq];rfl
  | false=>rw[vJ (by decide),ih,wO (by rw[hq];decide)]
theorem q5k{i:Nat}{f:FD}(F:D->D)(ds:List D){ω:WSt}(h:∀d∈ds,f (ω.set i ↥d)=some (F d)):Yl (gN i) YU f ds ω=some (ds.map F):=by
 have:=q5L (g:=gN i) (c:=YU) (f:=f) (λw=>∀x,w.set i x=ω.set i x) (λ_=>true) F ds (ω:=ω) (λx=>rfl) λd hd w hw=>
  ⟨w.set i ↥d,rfl,λx=>by rw[List.set_set,hw],rfl,λ_=>by rw[hw];exact h d hd⟩
 rw[this,yq.mpr (λ_ _=>rfl)]
theorem qcB{ds:List D}{lo hi:Option Int}:oSl (.lst ds) lo hi=some (.fr (cutD ds lo hi)):=rfl
theorem qfx{ns:List Int}{lo hi:Option Int}:oSl (.scr ns) lo hi=some (.fr ((cutD ns lo hi).map D.int)):=rfl
theorem q4W{xs ys:List D}(h:xs.length+ys.length<=1000000):Yk (.lst xs) (.lst ys)=some (.fr (xs++ys)):=vH h
theorem q6t(a:Int):∀(ns:List Int),inD (.int a) (ns.map D.int)=decide (a∈ns)
 | []=>rfl
 | n::r=>by
  have ih:=q6t a r;unfold inD inV at ih ⊢;rw[zU,zU,xU,ih];have e:eqV (D.int n).v (D.int a).v=decide (a=n):=by
   show (n==a)=_
   by_cases h:a=n
   ·subst h;simp
   ·rw[vW h];simpa using λz=>h z.symm
  rw[e]
  by_cases h:a=n
  ·simp[h]
  ·by_cases h':a∈r <;> simp[h,h']
noncomputable def X7(x:Int):List Int->List Int
 | []=>[x]
 | y::r=>if x<y then x::y::r else if x=y then y::r else y::X7 x r
noncomputable def YL(ns:List Int):List Int:=ns.foldr X7 []
theorem q4g{x y:Int}:∀{l:List Int},y∈X7 x l↔y=x\/y∈l
 | []=>by simp[X7]
 | z::r=>by
  unfold X7
  split
  ·simp
  ·split
   ·rename_i h;subst h;simp
   ·simp only[zE,q4g (l:=r)]
    constructor
    ·rintro(h|h|h) <;> simp[h]
    ·rintro(h|h|h) <;> simp[h]
theorem q5r{x:Int}:∀{l:List Int},l.Pairwise (· < ·)->(X7 x l).Pairwise (· < ·)
 | [],_=>by simp[X7]
 | z::r,h=>by
  obtain⟨h1,h2⟩:=zc.mp h;unfold X7
  split
  ·rename_i hx
   refine zc.mpr ⟨λy hy=>?_,h⟩;rcases zE.mp hy with rfl|hy
   ·exact hx
   ·exact Int.lt_trans hx (h1 y hy)
  ·split
   ·exact h
   ·refine zc.mpr ⟨λy hy=>?_,q5r h2⟩
    rcases q4g.mp hy with rfl|hy
    ·omega
    ·exact h1 y hy
theorem q1k{y:Int}:∀{ns:List Int},y∈YL ns↔y∈ns
 | []=>by simp[YL]
 | x::r=>by
  show y∈X7 x (YL r)↔_;rw[q4g,q1k (ns:=r),zE]
theorem q0i:∀{ns:List Int},(YL ns).Pairwise (· < ·)
 | []=>xY
 | x::r=>q5r (q0i (ns:=r))
theorem q6h{x:Int}:∀(l:List Int),(X7 x l).length<=l.length+1
 | []=>by simp[X7]
 | z::r=>by
  have:=q6h (x:=x) r;unfold X7
  split
  ·simp
  ·split
   ·simp
   ·rw[zM,zM];omega
theorem q0B:∀(l:List Int),(YL l).length<=l.length
 | []=>zN _
 | x::r=>by
  have h1:=q6h (x:=x) (YL r);have h2:=q0B r;show (X7 x (YL r)).length<=_;rw[zM];omega
theorem q8T:∀{l m:List Int},l.Pairwise (· < ·)->m.Pairwise (· < ·)->(∀x,x∈l↔x∈m)->l=m
 | [],[],_,_,_=>rfl
 | [],y::r,_,_,h=>vM ((h y).mpr zI) (by simp)
 | x::r,[],_,_,h=>vM ((h x).mp zI) (by simp)
 | x::r,y::q,hl,hm,h=>by
  obtain⟨a1,a2⟩:=zc.mp hl;obtain⟨b1,b2⟩:=zc.mp hm;have e:x=y:=by
   rcases zE.mp ((h x).mp zI)with e|e
   ·exact e
   ·rcases zE.mp ((h y).mpr zI)with f|f
    ·exact f.symm
    ·have:=b1 x e;have:=a1 y f;omega
  subst e;rw[q8T a2 b2 λz=>?_]
  constructor
  ·intro hz
   rcases zE.mp ((h z).mp (zJ _ hz))with f|f
   ·have:=a1 z hz;omega
   ·exact f
  ·intro hz
   rcases zE.mp ((h z).mpr (zJ _ hz))with f|f
   ·have:=b1 z hz;omega
   ·exact f
theorem q7w{l:List Int}(h:l.Pairwise (· <= ·))(n:l.Nodup):l.Pairwise (· < ·):=by
 induction l with
 | nil=>exact xY
 | cons x r ih=>
  obtain⟨h1,h2⟩:=zc.mp h;obtain⟨n1,n2⟩:=yO.mp n;refine zc.mpr ⟨λy hy=>?_,ih h2 n2⟩;have:=h1 y hy;have:x≠y:=λe=>n1 (e▸hy);omega
def setP(w:vT)(S:vG)(ns:List Int):vZ->Prop:=λh=>W3 h S (Ye w) (λi=>ns.getD i 0) ns.length
def rSet(w:vT):List V->Hp->VK->Prop:=λxs H Q=>∃p ns,xs=[.ref p]/\H p=some (.lst (ns.map V.int))/\ns.length+1<4096/\∀S,H S=none->Q (.ref S) (upd H S (.ext (setP w S ns)))
def fewS(ns:List Int):Prop:=(YL ns).length<64/\ns.length<4000
noncomputable instance (ns:List Int):Decidable (fewS ns):=inferInstanceAs (Decidable (_/\_))
theorem qf3{ns:List Int}(h:ns.length<64):fewS ns:=⟨wA (q0B ns) h,∅⟩
def rSortS(w:vT):List V->Hp->VK->Prop:=λxs H Q=>∃S ns,xs=[.ref S]/\H S=some (.ext (setP w S ns))/\fewS ns/\∀l,H l=none->Q (.ref l) (upd H l (.lst ((YL ns).map V.int)))
section
variable{X:Cx}
theorem q9J{pins:List (vG×Obj)}{σ:St}{H:Hp}{s:vC}(I:L2.Inv X pins σ H s)(d:Drawn):L2.Inv X pins σ H { s with drawn:=d } :=
 ⟨I.ok,I.os,I.bare,I.base,I.loc,I.cell,I.free,I.freeC,I.pin,I.hok,I.len⟩
theorem qbC(hc:X.calm=true):Yq X (.type "set") (rSet X.w):=by
 intro pins s σ H xs us Q I r h;obtain⟨p,ns,rfl,hp,hz,q⟩:=h;obtain⟨u,rfl,rx⟩:=vals1 r;cases rx;obtain⟨its,n,rv,e,_⟩:=I.lst hp;have ia:=q0H rv;have hlen:its.length=ns.length:=by rw[<- rv.length,zB]
 refine q7v (items:=its.toArray) (ns:=ns) (I.ok.hd hc) ⟨_,e,rfl,n,rfl⟩ ⇑ia (by rw[zO,hlen];exact hz) λh' tk sv kp=>?_;have hsz:its.toArray.size=ns.length:=by rw[zO,hlen]
 rw[hsz]at sv;refine⟨.ref s.heap.objs.size,_,I.laid (t':=tk) (λb o e=>kp b o (zP e) e) (zN _) (show YQ X.prog X.w _ h' _ (.ext (setP X.w s.heap.objs.size ns))from ⟨sv,?_,λh1 h2 a1 a2=>a1.at a2⟩),rfl,q _ (I.hok.fresh (zN _))⟩;obtain⟨_,⟨o,_,_,_,e,_⟩,_⟩:=sv;exact⟨o,e⟩
theorem q9r(hc:X.calm=true):Yq X (.builtin "sorted") (rSortS X.w):=by
 intro pins s σ H xs us Q I r h;obtain⟨S,ns,rfl,hp,hz,q⟩:=h;obtain⟨u,rfl,rx⟩:=vals1 r;cases rx;obtain⟨⟨zs,SI,hl,hm⟩,_⟩:=I.hok S _ hp;obtain⟨o,es,ep,t,go,gx,gd,T,gl,gb,gg,gv,gn⟩:=id SI;have mz:∀x,x∈zs↔x∈YL ns:=λx=>by
  rw[hm,q1k]
  constructor
  ·rintro⟨i,hi,rfl⟩
   dsimp only
   rw[zj,zC hi];exact ze hi
  ·intro hx
   obtain⟨i,hi,e⟩:=zm.mp hx;exact⟨i,hi,by dsimp only;rw[zj,zC hi];exact e⟩
 have zl:=((yA gn ((q0i (ns:=ns)).imp λh=>∅)).mpr mz).length_eq;refine q9g (I.ok.hd hc) SI (by rw[zl];exact hz.1) λD h' tk d vs ys n kp hD hg ia pm pw=>?_;have ey:ys=YL ns:=q8T (q7w pw (pm.nodup_iff.mpr gn)) q0i λx=>by rw[pm.mem_iff,mz]
 subst ey;have hvl:vs.length=(YL ns).length:=PyProof.Rows.IntsAre.length ia;have hsl:(YL ns).length<=sizeLine:=by
  have:=pm.length_eq;exact z6 (show (YL ns).length<=64 from yK hz.1) (by decide)
 have I2:=q9J (I.laid (a:=D) (o:=.lst ((YL ns).map V.int)) (t':=tk) kp hD (show YQ X.prog X.w _ h' _ (.lst _)from ⟨by rw[zB];exact hsl,vs,n,q1n ia,hg⟩)) d;exact⟨.ref D,_,I2,rfl,q _ (I.hok.fresh hD)⟩
noncomputable def intsOf:List D->Option (List Int)
 | []=>some []
 | .int i::r=>(intsOf r).map λl=>i::l
 | _=>none
theorem q0C:∀{ds:List D}{ns:List Int},intsOf ds=some ns->ds=ns.map D.int
 | [],_,e=>by cases e;rfl
 | .int c::r,b,e=>by
  obtain⟨k,q,e⟩:=mpd e;subst e;rw[q0C q];rfl
 | .non::_,_,e=>by cases e
 | .bl _::_,_,e=>by cases e
 | .str _::_,_,e=>by cases e
 | .lst _::_,_,e=>by cases e
 | .tup _::_,_,e=>by cases e
 | .scr _::_,_,e=>by cases e
 | .exc _::_,_,e=>by cases e
 | .dic _ _::_,_,e=>by cases e
theorem q0j:∀(ns:List Int),intsOf (ns.map D.int)=some ns
 | []=>rfl
 | n::r=>by show (intsOf (r.map D.int)).map _=_;rw[q0j r];rfl
noncomputable def X5:D->Option R
 | .lst ds=>(intsOf ds).bind λns=>if fewS ns then some (.fr ((YL ns).map D.int))else none
 | _=>none
noncomputable def Xe(f:FD):FE:=λω=>(f ω).bind X5
theorem q9n{a:vP}{f:FD}{p1 p2 q1 q2:Pos}(hg1:Gl X "sorted")(hm1:X.mg "sorted" = none)(hg2:Gl X "set")(hm2:X.mg "set" = none)(ha:XV X a f)(hc:X.calm=true:=by rfl)(he1:vK [a] X.env=(false,eval a X.env)::vK [] X.env:=by rfl)(hpl1:(vm q2 (vK [] X.env)).any (·.1)=false:=by rfl)(he2:vK [.Call (.Name "set" p2) [a] [] q2] X.env=(false,eval (.Call (.Name "set" p2) [a] [] q2) X.env)::vK [] X.env:=by rfl)(hpl2:(vm q1 (vK [] X.env)).any (·.1)=false:=by rfl):
  XE X (.Call (.Name "sorted" p1) [.Call (.Name "set" p2) [a] [] q2] [] q1) (Xe f):=by
 obtain⟨t,h1,h2⟩:=ha;refine⟨_,q1I (q9r hc) hg1 hm1 q2c (qM (q5w (qbC hc) hg2 hm2 qew (qM h1 qW he1) (by decide) (by decide) he1 hpl1) qW he2) (by decide) (by decide) he2 hpl2,λG0 H0 G ω σ H r Q o e k=>?_⟩;obtain⟨d,q,e⟩:=bnd e;refine h2 G0 H0 G ω σ H d _ o q λv G1 H1 x1 y1=>?_;cases d with
 | lst ds=>
  obtain⟨ns,e1,e2⟩:=bnd (show (intsOf ds).bind _=some r from e);have hds:=q0C e1;subst hds
  by_cases hz:fewS ns
  ·rw[vH hz]at e2
   cases e2;obtain⟨p,vs,rfl,g1,g2⟩:=y1.lst x1.gh;have hv:=g2.of_ints;subst hv;refine⟨p,ns,rfl,g1,by have:=hz.2;omega,λS hS=>?_⟩;refine⟨S,ns,rfl,qe,hz,λl hl=>?_⟩;have x2:=Ext.hide x1.gh hS (.ext (setP X.w S ns));have x3:=Ext.hide x2.gh hl (.lst ((YL ns).map V.int));exact k _ G1 _ ((x1.trans x2).trans x3) ⟨l,_,rfl,(x1.trans x2).hh.free hl,x2.gh.free hl,qe,YF.ints _⟩
  ·rw[vJ hz]at e2;cases e2
 | _=>cases e
end
end Hk
namespace PySem.F
theorem noLenZip:u9 (.type "zip") "__len__" = pure none:=by rw[uM,v3];kernel_rfl
theorem noHintZip:u9 (.type "zip") "__length_hint__" = pure none:=by rw[uM,v3];kernel_rfl
end PySem.F
namespace Hk
open PySem PySem.Spec PyProof.Rows
section
variable{prog:vO}{w:vT}{A:vY}{E:vB->vC->Prop}{s:vC}
abbrev Xl(h:vZ)(z TI TO:vG)(f0 f1:vB):Prop:=h.get? z=some { cls:=.type "zip", dict:=none,data:=.fields #[f0,f1,.bool false,.ref TI,.ref TO],slots:=#[] }
theorem qce{a:vG}{Q:Option Obj->vC->Prop}(h:Q (s.heap.get? a) s):vL (model prog w) A (loadIfAlive a) Q E s:=λ_ _ _=>h
theorem q91{z TI TO t:vG}{ot:Obj}{f1:vB}{Q:Bool->vC->Prop}(hz:Xl s.heap z TI TO (uH t) f1)(ht:s.heap.get? t=some ot)(k:∀h' f1',Xl h' z TI TO (uH t) f1'->yy z s.heap h'->Q false { s with heap:=h' }):vL (model prog w) A (Builtin.SmallTypes.ownedTupleIsFree (.ref z)) Q E s:=by
 unfold Builtin.SmallTypes.ownedTupleIsFree;refine vA (uG hz rfl (x:=uH t) rfl ?_);show vL _ _ (loadIfAlive ((t:Int)).toNat >>= _) _ _ _;rw[yk];refine vA (qce ?_);rw[ht];show vL _ _ (field (.ref z) 1 >>= _) _ _ _;refine vA (uG hz rfl (x:=f1) rfl ?_);refine vg (λ_=>?_) (λ_=>?_)
 ·refine vA (v4 hz (by simp) λh1 e1 sb=>vF (k h1 (.bool true) e1 sb))
 ·exact vF (k s.heap f1 hz (ZU z s.heap))
theorem q9M{z TI TO i1 i2 l1 l2 t:vG}{ot:Obj}{f1:vB}{k1 k2:Nat}{xs ys:Array vB}{x y:vB}{Q:Option vB->vC->Prop}(D:uh z TI TO i1 i2 l1 l2)(hz:Xl s.heap z TI TO (uH t) f1)(ht:s.heap.get? t=some ot)(hTI:uZ s.heap TI (.ref i1) (.ref i2))(h1:s.heap.IsListIter i1 l1 k1)(h2:s.heap.IsListIter i2 l2 k2)(hl1:s.heap.IsList l1 xs)(hl2:s.heap.IsList l2 ys)(hx:xs[k1]?=some x)(hy:ys[k2]?=some y)(hQ:∀h' f1',Xl h' z TI TO (uH t) f1'->h'.IsListIter i1 l1 (k1+1)->h'.IsListIter i2 l2 (k2+1)->uZ h' s.heap.objs.size x y ->
   (∀c o,c≠z->c≠i1->c≠i2->s.heap.get? c=some o->h'.get? c=some o)->Q (some (.ref s.heap.objs.size)) { s with heap:=h' }) :
  vL (model prog w) A (uF (.ref z)) Q E s:=by
 have hT:s.TypeIs (.ref z) "zip" := ⟨_,hz,rfl⟩;unfold uF;refine vA (uO (wpAny_callSpecial?_slot (name:=Str.ofString "__next__") hT PySem.F.slot_zip_next (vi PySem.F.slot_zip_next hT PySem.F.entry_zip_next ?_ (PySem.F.args_zip_next_1 _))));show vL _ _ (field (.ref z) 2 >>= _) _ _ _;refine vA (uG hz rfl (x:=.bool false) rfl ?_);show vL _ _ (field (.ref z) 3 >>= _) _ _ _;refine vA (uG hz rfl (x:=.ref TI) rfl ?_);refine vA (uY hTI rfl ?_);show vL _ _ (Builtin.SmallTypes.ownedTupleIsFree (.ref z) >>= _) _ _ _;refine vA (q91 hz ht λh' f1' hz1 sb1=>?_);simp only[zy,if_false];have a1:=h1.extBut sb1.extBut D.i1z;have a2:=h2.extBut sb1.extBut D.i2z;have b1:=hl1.extBut sb1.extBut D.l1z;have b2:=hl2.extBut sb1.extBut D.l2z;rw[<- ZJ];simp only[wd,Zs];refine vA (vA (vA (vc ?_)));show vL _ _ (Builtin.SmallTypes.nextOf (.ref i1) >>= _) _ _ _;refine vA (ua a1 b1 hx λh₂ c1 sb2=>vF ?_);refine vF ?_;refine vA (vA (vc ?_));show vL _ _ (Builtin.SmallTypes.nextOf (.ref i2) >>= _) _ _ _;refine vA (ua (a2.extBut sb2.extBut D.i12.symm) (b2.extBut sb2.extBut D.l2i1) hy λh₃ c2 sb3=>vF ?_);refine vF (vF ?_);show vL _ _ (newTuple [x,y] >>= _) _ _ _;refine vA (tI ?_);have hsz:h₃.objs.size=s.heap.objs.size:=by rw[sb3.1,sb2.1,sb1.1]
 refine vF ⟨_,rfl,vF ?_⟩
 dsimp only
 rw[hsz];refine hQ _ f1' ?_ ?_ ?_ ?_ ?_
 ·exact zD _ (sb3.extBut _ _ D.i2z.symm (sb2.extBut _ _ D.i1z.symm hz1))
 ·exact(c1.extBut sb3.extBut D.i12).at λo e=>zD _ e
 ·exact c2.at λo e=>zD _ e
 ·have:=zS h₃ (o:={ cls:=.type "tuple", data:=.seq [x,y].toArray }) rfl
  rw[hsz]at this;exact this
 ·exact λc o n1 n2 n3 e=>zD _ (sb3.extBut _ _ n3 (sb2.extBut _ _ n2 (sb1.extBut _ _ n1 e)))
theorem qci{z TI TO i1 i2 l1 l2 t:vG}{ot:Obj}{f1:vB}{k1 k2:Nat}{xs ys:Array vB}{Q:Option vB->vC->Prop}(hh:A.handled=none)(D:uh z TI TO i1 i2 l1 l2)(hz:Xl s.heap z TI TO (uH t) f1)(ht:s.heap.get? t=some ot)(hTI:uZ s.heap TI (.ref i1) (.ref i2))(h1:s.heap.IsListIter i1 l1 k1)(h2:s.heap.IsListIter i2 l2 k2)(hl1:s.heap.IsList l1 xs)(hl2:s.heap.IsList l2 ys)(hend:xs[k1]?=none\/ys[k2]?=none)(hQ:∀h',(∀c o,c≠z->c≠i1->c≠i2->s.heap.get? c=some o->h'.get? c=some o)->Q none { s with heap:=h' }):
  vL (model prog w) A (uF (.ref z)) Q E s:=by
 have hT:s.TypeIs (.ref z) "zip" := ⟨_,hz,rfl⟩;unfold uF;refine vA (uO (wpAny_callSpecial?_slot (name:=Str.ofString "__next__") hT PySem.F.slot_zip_next (vi PySem.F.slot_zip_next hT PySem.F.entry_zip_next ?_ (PySem.F.args_zip_next_1 _))));show vL _ _ (field (.ref z) 2 >>= _) _ _ _;refine vA (uG hz rfl (x:=.bool false) rfl ?_);show vL _ _ (field (.ref z) 3 >>= _) _ _ _;refine vA (uG hz rfl (x:=.ref TI) rfl ?_);refine vA (uY hTI rfl ?_);show vL _ _ (Builtin.SmallTypes.ownedTupleIsFree (.ref z) >>= _) _ _ _;refine vA (q91 hz ht λh' f1' hz1 sb1=>?_);simp only[zy,if_false];have a1:=h1.extBut sb1.extBut D.i1z;have a2:=h2.extBut sb1.extBut D.i2z;have b1:=hl1.extBut sb1.extBut D.l1z;have b2:=hl2.extBut sb1.extBut D.l2z;rw[<- ZJ];simp only[wd,Zs];refine vA (vA (vA (vc ?_)));show vL _ _ (Builtin.SmallTypes.nextOf (.ref i1) >>= _) _ _ _;cases hx:xs[k1]? with
 | none=>
  refine vA (tF hh a1 b1 hx λh₂ e sb2 he=>?_);obtain⟨o,ho,hc⟩:=he;refine vA (uS (T := "StopIteration") (b:=true) ⟨o,ho,hc⟩ uv ?_);exact vF (hQ _ λc o n1 n2 n3 e=>sb2 _ _ n2 (sb1.extBut _ _ n1 e))
 | some x=>
  have hy:ys[k2]?=none:=by rcases hend with h|h;rw[hx]at h;cases h;exact h
  refine vA (ua a1 b1 hx λh₂ c1 sb2=>vF ?_);refine vF ?_;refine vA (vA (vc ?_));show vL _ _ (Builtin.SmallTypes.nextOf (.ref i2) >>= _) _ _ _;refine vA (tF hh (a2.extBut sb2.extBut D.i12.symm) (b2.extBut sb2.extBut D.l2i1) hy λh₃ e sb3 he=>?_);obtain⟨o,ho,hc⟩:=he;refine vA (uS (T := "StopIteration") (b:=true) ⟨o,ho,hc⟩ uv ?_);exact vF (hQ _ λc o n1 n2 n3 e=>sb3 _ _ n3 (sb2.extBut _ _ n2 (sb1.extBut _ _ n1 e)))
structure ZSt (h0:vZ) (S z TI TO i1 i2 l1 l2:vG) (xs ys:Array vB) (ts:List vG) (h:vZ):Prop where
 zip:(ts=[]/\Xl h z TI TO .none (.bool false))\/∃t f1,t∈ts/\Xl h z TI TO (uH t) f1
 pTI:uZ h TI (.ref i1) (.ref i2)
 pTO:∃a b,uZ h TO a b
 it1:h.IsListIter i1 l1 ts.length
 it2:h.IsListIter i2 l2 ts.length
 hl1:h.IsList l1 xs
 hl2:h.IsList l2 ys
 tups:∀(j:Nat)t,ts[j]?=some t->∃x y,xs[j]?=some x/\ys[j]?=some y/\uZ h t x y
 old:∀t∈ts,t≠S/\t≠z/\t≠TO/\t≠i1/\t≠i2
 nd:ts.Nodup
 new:∀t∈ts,h0.objs.size<=t
 keep:∀b o,b≠S->h0.get? b=some o->h.get? b=some o
theorem qcj{h0:vZ}{S z TI TO i1 i2 l1 l2:vG}{xs ys:Array vB}{ts:List vG}{Q:Option vB->vC->Prop}(D:uh z TI TO i1 i2 l1 l2)(hf:∀b∈[z,TO,i1,i2],h0.get? b=none)(hS:S∉[z,TI,TO,i1,i2,l1,l2])(Z:ZSt h0 S z TI TO i1 i2 l1 l2 xs ys ts s.heap)(hSo:∃o,s.heap.get? S=some o)(hsz:h0.objs.size<=s.heap.objs.size)(hlt:ts.length<min xs.size ys.size)(k:∀h' t,ZSt h0 S z TI TO i1 i2 l1 l2 xs ys (ts++[t]) h'->(∀o,s.heap.get? S=some o->h'.get? S=some o)->s.heap.objs.size<=h'.objs.size->Q (some (.ref t)) { s with heap:=h' }):
  vL (model prog w) A (uF (.ref z)) Q E s:=by
 have hix:ts.length<xs.size:=zn hlt (we ..);have hiy:ts.length<ys.size:=zn hlt (Ze ..);obtain⟨a,b,hTO⟩:=Z.pTO;obtain⟨oS,hoS⟩:=hSo;have gx:=zw hix;have gy:=zw hiy;simp only[zE,zY,or_false,not_or]at hS;have nz:∀b o,h0.get? b=some o->b≠z/\b≠TO/\b≠i1/\b≠i2:=λb o e=>
  ⟨λq=>(by have:=hf z (by simp);rw[q,this]at e;cases e),λq=>(by have:=hf TO (by simp);rw[q,this]at e;cases e),λq=>(by have:=hf i1 (by simp);rw[q,this]at e;cases e),λq=>(by have:=hf i2 (by simp);rw[q,this]at e;cases e)⟩
 have fin:∀(h':vZ)(f1:vB)(u:vG),u∈ts++[s.heap.objs.size]->Xl h' z TI TO (uH u) f1->(∃a b,uZ h' TO a b)->h'.IsListIter i1 l1 (ts.length+1)->h'.IsListIter i2 l2 (ts.length+1)->uZ h' s.heap.objs.size xs[ts.length] ys[ts.length] ->
   (∀c o,c≠z->c≠TO->c≠i1->c≠i2->s.heap.get? c=some o->h'.get? c=some o)->Q (some (.ref s.heap.objs.size)) { s with heap:=h' }:=λh' f1 u hu g1 g2 g3 g4 g5 g6=>by
  refine k h' _ ⟨.inr ⟨u,f1,hu,g1⟩,g6 _ _ D.TIz D.TITO D.TIi1 D.TIi2 Z.pTI,g2,by rw[zG];exact g3,by rw[zG];exact g4,Z.hl1.at λo e=>g6 _ o D.l1z D.l1TO D.l1i1 D.l1i2 e,Z.hl2.at λo e=>g6 _ o D.l2z D.l2TO D.l2i1 D.l2i2 e,λj t ht=>?_,λt ht=>?_,?_,λt ht=>?_,λb o hb e=>?_⟩ (λo e=>?_) (yK (zP g5))
  ·rcases zu j ts.length with y|y
   ·rw[zZ y]at ht
    obtain⟨p,q,r1,r2,r3⟩:=Z.tups j t ht;have ho:=Z.old t (z9 ht);exact⟨p,q,r1,r2,g6 _ _ ho.2.1 ho.2.2.1 ho.2.2.2.1 ho.2.2.2.2 r3⟩
   ·rw[zV y]at ht
    have hj:j=ts.length:=by
     rcases zu (j-ts.length) 1 with c|c
     ·omega
     ·rw[zo ⇑c]at ht;cases ht
    subst hj;rw[wT]at ht;cases ht;exact⟨_,_,gx,gy,g5⟩
  ·rcases zK.mp ht with ht|ht
   ·exact Z.old t ht
   ·rw[zL.mp ht]
    have lt:∀{c o},s.heap.get? c=some o->s.heap.objs.size≠c:=λe=>xO (zP e);refine⟨lt hoS,?_,lt hTO,?_,?_⟩
    ·rcases Z.zip with⟨_,e⟩|⟨_,_,_,e⟩ <;> exact lt e
    ·obtain⟨_,e,_⟩:=Z.it1;exact lt e
    ·obtain⟨_,e,_⟩:=Z.it2;exact lt e
  ·refine yR.mpr ⟨Z.nd,by simp,λa ha b hb=>?_⟩
   rw[zL.mp hb];intro e;obtain⟨j,hj,ej⟩:=zm.mp ha;obtain⟨_,_,_,_,et⟩:=Z.tups j a (by rw[zC hj,ej]);exact vM (zP et) (by rw[e];exact yt _)
  ·rcases zK.mp ht with ht|ht
   ·exact Z.new t ht
   ·rw[zL.mp ht];exact hsz
  ·obtain⟨n1,n2,n3,n4⟩:=nz b o e
   exact g6 b o n1 n2 n3 n4 (Z.keep b o hb e)
  ·exact g6 S o hS.1 hS.2.2.1 hS.2.2.2.1 hS.2.2.2.2.1 e
 rcases Z.zip with⟨_,hz⟩|⟨t,f1,ht,hz⟩
 ·exact tG D hz Z.pTI hTO Z.it1 Z.it2 Z.hl1 Z.hl2 gx gy λh' a1 a2 a3 a4 a5 a6 a7=>fin h' _ _ (by simp) a1 ⟨_,_,a2⟩ a3 a4 a5 a7
 ·obtain⟨j,hj,ej⟩:=zm.mp ht
  obtain⟨_,_,_,_,et⟩:=Z.tups j t (by rw[zC hj,ej]);refine q9M D hz et Z.pTI Z.it1 Z.it2 Z.hl1 Z.hl2 gx gy λh' f1' a1 a3 a4 a5 a7=>fin h' f1' t (zH _ ht) a1 ⟨a,b,?_⟩ a3 a4 a5 λc o n1 _ n3 n4 e=>a7 c o n1 n3 n4 e;exact a7 _ _ D.TOz D.TOi1 D.TOi2 hTO
theorem qd6{h0:vZ}{S z TI TO i1 i2 l1 l2:vG}{xs ys:Array vB}{ts:List vG}{Q:Option vB->vC->Prop}(hh:A.handled=none)(D:uh z TI TO i1 i2 l1 l2)(Z:ZSt h0 S z TI TO i1 i2 l1 l2 xs ys ts s.heap)(hlt:ts.length=min xs.size ys.size)(k:∀h',(∀c o,c≠z->c≠TO->c≠i1->c≠i2->s.heap.get? c=some o->h'.get? c=some o)->Q none { s with heap:=h' }):
  vL (model prog w) A (uF (.ref z)) Q E s:=by
 obtain⟨a,b,hTO⟩:=Z.pTO;have hend:xs[ts.length]?=none\/ys[ts.length]?=none:=by
  rcases Nat.le_total xs.size ys.size with h|h
  ·left;exact yb ∅
  ·right;exact yb ∅
 rcases Z.zip with⟨_,hz⟩|⟨t,f1,ht,hz⟩
 ·exact tJ hh D hz Z.pTI hTO Z.it1 Z.it2 Z.hl1 Z.hl2 hend λh' g=>k h' g
 ·obtain⟨j,hj,ej⟩:=zm.mp ht
  obtain⟨_,_,_,_,et⟩:=Z.tups j t (by rw[zC hj,ej]);exact qci hh D hz et Z.pTI Z.it1 Z.it2 Z.hl1 Z.hl2 hend λh' g=>k h' λc o n1 _ n3 n4 e=>g c o n1 n3 n4 e
end
end Hk
namespace Hk
open PySem PySem.Spec PySem.W PyProof.Rows
section
variable{prog:vO}{w:vT}{A:vY}{E:vB->vC->Prop}{R:tq->vC->Prop}{s:vC}
abbrev WD(h:vZ)(S:vG)(acc:Array vB)(c:Nat):Prop:=h.get? S=some { cls:=.type "list", dict:=none,data:=.seq acc c,slots:=#[] }
theorem q5n{h0 h h':vZ}{S z TI TO i1 i2 l1 l2:vG}{xs ys:Array vB}{ts:List vG}(hS:S∉[z,TI,TO,i1,i2,l1,l2])(Z:ZSt h0 S z TI TO i1 i2 l1 l2 xs ys ts h)(k:∀b o,b≠S->h.get? b=some o->h'.get? b=some o):
  ZSt h0 S z TI TO i1 i2 l1 l2 xs ys ts h':=by
 simp only[zE,zY,or_false,not_or]at hS;obtain⟨s1,s2,s3,s4,s5,s6,s7⟩:=hS;refine⟨?_,k _ _ (Ne.symm s2) Z.pTI,?_,Z.it1.at λo e=>k _ o (Ne.symm s4) e,Z.it2.at λo e=>k _ o (Ne.symm s5) e,Z.hl1.at λo e=>k _ o (Ne.symm s6) e,Z.hl2.at λo e=>k _ o (Ne.symm s7) e,λj t ht=>?_,Z.old,Z.nd,Z.new,λb o hb e=>k b o hb (Z.keep b o hb e)⟩
 ·rcases Z.zip with⟨e1,e2⟩|⟨t,f1,e1,e2⟩
  ·exact .inl ⟨e1,k _ _ (Ne.symm s1) e2⟩
  ·exact .inr ⟨t,f1,e1,k _ _ (Ne.symm s1) e2⟩
 ·obtain⟨a,b,e⟩:=Z.pTO
  exact⟨a,b,k _ _ (Ne.symm s3) e⟩
 ·obtain⟨x,y,a1,a2,a3⟩:=Z.tups j t ht
  exact⟨x,y,a1,a2,k _ _ (Z.old t (z9 ht)).1 a3⟩
theorem qcd{h0:vZ}{S z TI TO i1 i2 l1 l2:vG}{xs ys:Array vB}{res:vB}(hh:A.handled=none)(D:uh z TI TO i1 i2 l1 l2)(hf:∀b∈[z,TO,i1,i2],h0.get? b=none)(hS:S∉[z,TI,TO,i1,i2,l1,l2])(hn:min xs.size ys.size<=sizeLine)(g0:Array tX)(d0:Drawn)(o0)(hR:∀(h':vZ)(tk:Nat)(ts:List vG)(c:Nat),ts.length=min xs.size ys.size->ts.Nodup->(∀t∈ts,t≠S/\h0.objs.size<=t)->WD h' S (ts.map Value.ref).toArray c->(∀b o,b≠S->h0.get? b=some o->h'.get? b=some o)->(∀(j:Nat)t,ts[j]?=some t->∃x y,xs[j]?=some x/\ys[j]?=some y/\uZ h' t x y)->R (.ok (.ret res)) ⟨h',g0,d0,tk,o0⟩):
  ∀(k:Nat)(h:vZ)(tk:Nat)(ts:List vG)(c:Nat),min xs.size ys.size-ts.length=k->ts.length<=min xs.size ys.size->ZSt h0 S z TI TO i1 i2 l1 l2 xs ys ts h->WD h S (ts.map Value.ref).toArray c->h0.objs.size<=h.objs.size ->
   uP (model prog w) A (.builtin "list.extend.loop" ⟨[.ref S,.ref z,res],[]⟩) R ⟨h,g0,d0,tk,o0⟩:=by
 have hS':=hS;simp only[zE,zY,or_false,not_or]at hS';have nz:∀b o,h0.get? b=some o->b≠z/\b≠TO/\b≠i1/\b≠i2:=λb o e=>
  ⟨λq=>(by have:=hf z (by simp);rw[q,this]at e;cases e),λq=>(by have:=hf TO (by simp);rw[q,this]at e;cases e),λq=>(by have:=hf i1 (by simp);rw[q,this]at e;cases e),λq=>(by have:=hf i2 (by simp);rw[q,this]at e;cases e)⟩
 intro k
 induction k with
 | zero=>
  intro h tk ts c hk hi Z hl hsz;have hin:ts.length=min xs.size ys.size:=∅
  refine v6 PySem.F.entry_extend_loop ?_;rw[Around.under_plainId PySem.F.plain_extend_loop _];show vL _ A.in1 (uF (.ref z) >>= _) _ _ _;refine vA (qd6 (A:=A.in1) hh D Z hin λh' g=>?_);refine vF (hR h' tk ts c hin Z.nd (λt ht=>⟨(Z.old t ht).1,Z.new t ht⟩) (g _ _ hS'.1 hS'.2.2.1 hS'.2.2.2.1 hS'.2.2.2.2.1 hl) (λb o hb e=>?_) λj t ht=>?_)
  ·obtain⟨n1,n2,n3,n4⟩:=nz b o e
   exact g b o n1 n2 n3 n4 (Z.keep b o hb e)
  ·obtain⟨x,y,a1,a2,a3⟩:=Z.tups j t ht
   have ho:=Z.old t (z9 ht);exact⟨x,y,a1,a2,g _ _ ho.2.1 ho.2.2.1 ho.2.2.2.1 ho.2.2.2.2 a3⟩
 | succ k ih=>
  intro h tk ts c hk hi Z hl hsz;have hlt:ts.length<min xs.size ys.size:=∅
  refine v6 PySem.F.entry_extend_loop ?_;rw[Around.under_plainId PySem.F.plain_extend_loop _];show vL _ A.in1 (uF (.ref z) >>= _) _ _ _;refine vA (qcj (A:=A.in1) D hf hS Z ⟨_,hl⟩ hsz hlt λh' t Z' hk' hsz'=>?_);have hl':=hk' _ hl;show vL _ A.in1 (u6 S (·.push (.ref t)) >>= _) _ _ _;refine vA ?_;have sz:(ts.map Value.ref).toArray.size=ts.length:=by simp
  have e:=get?_update_seq hl' (·.push (Value.ref t));have e2:(ts.map Value.ref).toArray.push (.ref t)=((ts++[t]).map Value.ref).toArray:=by simp
  rw[e2]at e;refine uB hl' rfl (vF ⟨uE PySem.F.plain_extend_loop _,ih _ _ (ts++[t]) _ (by rw[zG,zx];omega) (by rw[zG,zx];omega) (q5n hS Z' λb o hb e=>?_) e (by rw[xE];exact z6 hsz hsz')⟩)
   (by rw[sz];omega) (by show ((ts.map Value.ref).toArray.push (.ref t)).size<=sizeLine+1;rw[wc,sz];omega)
  exact(zh _ _ (Ne.symm hb)).trans e
theorem q9b{h0:vZ}{S z TI TO i1 i2 l1 l2:vG}{xs ys:Array vB}{res:vB}{c₀:Nat}(hh:A.handled=none)(D:uh z TI TO i1 i2 l1 l2)(hf:∀b∈[z,TO,i1,i2],h0.get? b=none)(hS:S∉[z,TI,TO,i1,i2,l1,l2])(hn:min xs.size ys.size<=sizeLine)(Z:ZSt h0 S z TI TO i1 i2 l1 l2 xs ys [] s.heap)(hl:WD s.heap S #[] c₀)(hsz:h0.objs.size<=s.heap.objs.size)(hR:∀(h':vZ)(tk:Nat)(ts:List vG)(c:Nat),ts.length=min xs.size ys.size->ts.Nodup->(∀t∈ts,t≠S/\h0.objs.size<=t)->WD h' S (ts.map Value.ref).toArray c->(∀b o,b≠S->h0.get? b=some o->h'.get? b=some o)->(∀(j:Nat)t,ts[j]?=some t->∃x y,xs[j]?=some x/\ys[j]?=some y/\uZ h' t x y)->R (.ok (.ret res)) { s with heap:=h',toks:=tk }):
  vL (model prog w) A.in1 (Builtin.List.listExtendWith (.ref S) (.ref z) res)
   (λfin s'=>match fin with|.done f=>R (.ok f) s'|.again c'=>c'.quiet=true/\uP (model prog w) A c' R s') (λe s'=>R (.error e) s') s:=by
 obtain⟨hp,g,d,tk,os⟩:=s;have hS':=hS;simp only[zE,zY,or_false,not_or]at hS';obtain⟨_,hz⟩|⟨t,_,ht,_⟩:=Z.zip
 rotate_left
 ·cases ht
 have hT:Shared.TypeIs ⟨hp,g,d,tk,os⟩ (.ref z) "zip" := ⟨_,hz,rfl⟩;unfold Builtin.List.listExtendWith;refine vA (uX (T := "zip") hT ?_);have h1:Builtin.List.listSameRef (.ref S) (.ref z)=false:=by simp[Builtin.List.listSameRef,hS'.1]
 have h2:(Value.type "zip" == Value.type "list")=false:=by decide
 have h3:(Value.type "zip" == Value.type "tuple")=false:=by decide
 simp only[h1,h2,h3,xo,zy,if_false];refine vA (u7 hz ?_);refine vA (vc ?_);unfold Builtin.List.listLengthHint;refine vA (uk hT PySem.F.noLenZip ?_);show vL _ A.in1 (specialOf (Value.ref z) (Str.ofString "__length_hint__") >>= _) _ _ _;refine vA (uk hT PySem.F.noHintZip ?_);refine vF ?_;have key:∀(h:vZ)(c₁:Nat),ZSt h0 S z TI TO i1 i2 l1 l2 xs ys [] h->WD h S #[] c₁->h0.objs.size<=h.objs.size->uP (model prog w) A (.builtin "list.extend.loop" ⟨[.ref S,.ref z,res],[]⟩) R ⟨h,g,d,tk,os⟩ :=
  λh c₁ Z' hl' z'=>qcd hh D hf hS hn g d os (λh' tk' ts c a1 a2 a3 a4 a5 a6=>hR h' tk' ts c a1 a2 a3 a4 a5 a6) _ h tk [] c₁ rfl (yL _) Z' hl' z'
 refine vg (λ_=>?_) (λ_=>vF ⟨uE PySem.F.plain_extend_loop _,key _ c₀ Z hl hsz⟩);refine vA (uI ?_);refine vA ?_;show vL _ _ (u6 S (·.push .none) >>= λ_=>u6 S (·.pop)) _ _ _;refine vA (uB hl rfl ?_);have hS₂:=ye (Obj.mapSeq (·.push Value.none)) hl rfl;refine uB (hz:=by seq_fits) hS₂ rfl ?_;have hS₃:=ye (Obj.mapSeq (·.pop)) hS₂ rfl;refine vF ⟨uE PySem.F.plain_extend_loop _,key _ _ (q5n hS Z λb o hb e=>?_) hS₃ (by rw[xE,xE];exact hsz)⟩;exact(zh _ _ (Ne.symm hb)).trans ((zh _ _ (Ne.symm hb)).trans e)
theorem qc0{l1 l2:vG}{xs ys:Array vB}{Q:vB->vC->Prop}{s0:vC}(hh:A.handled=none)(hl1:s0.heap.IsList l1 xs)(hl2:s0.heap.IsList l2 ys)(hn:min xs.size ys.size<=sizeLine)(hz:IsZip s.heap (s0.heap.objs.size+4) (s0.heap.objs.size+2) (s0.heap.objs.size+3) .none)(hp1:uZ s.heap (s0.heap.objs.size+2) (.ref s0.heap.objs.size) (.ref (s0.heap.objs.size+1)))(hp2:uZ s.heap (s0.heap.objs.size+3) .none .none)(hi1:s.heap.IsListIter s0.heap.objs.size l1 0)(hi2:s.heap.IsListIter (s0.heap.objs.size+1) l2 0)(hs:s.heap.objs.size=s0.heap.objs.size+5)(hk:∀c o,s0.heap.get? c=some o->s.heap.get? c=some o)(hQ:∀(h':vZ)(tk:Nat)(S:vG)(ts:List vG)(c:Nat),s0.heap.objs.size<=S->ts.length=min xs.size ys.size->ts.Nodup->(∀t∈ts,t≠S/\s0.heap.objs.size<=t)->WD h' S (ts.map Value.ref).toArray c->(∀b o,s0.heap.get? b=some o->h'.get? b=some o) ->
   (∀(j:Nat)t,ts[j]?=some t->∃x y,xs[j]?=some x/\ys[j]?=some y/\uZ h' t x y)->Q (.ref S) { s with heap:=h',toks:=tk }) :
  vL (model prog w) A (call (.type "list") [.ref (s0.heap.objs.size+4)]) Q E s:=by
 refine callType_codes (Q₁:=λobj s₁=>obj=.ref s.heap.objs.size/\s₁={ s with heap:=s.heap.push { cls:=.type "list", data:=.seq #[] } }) PySem.F.called_list (PySem.F.typeCall_list_1 _) PySem.F.entry_list_init
  (code_list_new _ ⟨rfl,rfl⟩) λobj s₁ h₁=>?_
 obtain⟨rfl,rfl⟩:=h₁;have hS:(s.heap.push { cls:=.type "list", data:=.seq #[] }).get? s.heap.objs.size=some { cls:=.type "list", data:=.seq #[] }:=zS _ rfl;refine⟨⟨_,hS,rfl⟩,PySem.F.args_list_init_2 _ _,?_⟩;generalize hn0:s0.heap.objs.size=n at *;have e1:l1<n:=by obtain⟨_,e,_⟩:=hl1;rw[<- hn0];exact zP e
 have e2:l2<n:=by obtain⟨_,e,_⟩:=hl2;rw[<- hn0];exact zP e
 generalize hS0:s.heap.objs.size=S at *;have D:uh (n+4) (n+2) (n+3) n (n+1) l1 l2:=by
  constructor <;> (intro q;simp only[vG]at *;omega)
 have hSn:S∉[n+4,n+2,n+3,n,n+1,l1,l2]:=by
  simp only[zE,zY,or_false,not_or];refine⟨?_,?_,?_,?_,?_,?_,?_⟩ <;> (intro q;simp only[vG]at *;omega)
 have hf:∀b∈[n+4,n+3,n,n+1],s0.heap.get? b=none:=λb hb=>by
  cases q:s0.heap.get? b with
  | none=>rfl
  | some o=>
   have:=zP q;rw[hn0]at this;simp only[zE,zY,or_false]at hb;simp only[vG]at *;omega
 show vL _ _ (do let old <- Builtin.List.listItems (.ref S);Builtin.List.listUpdate (.ref S) (λ_=>#[]);letGo old.toList.reverse;Builtin.List.listExtendWith (.ref S) (.ref (n+4)) .none) _ _ _;refine vA ?_;unfold Builtin.List.listItems;refine vA (uY hS rfl (vF ?_));show vL _ _ (u6 S (λ_=>#[]) >>= λ_=>letGo (#[]:Array vB).toList.reverse >>= λ_=>Builtin.List.listExtendWith (.ref S) (.ref (n+4)) .none) _ _ _;refine vA (uB hS rfl ?_);have hS₂:=get?_update_seq hS (λ_=>(#[]:Array vB));have oth:∀b o,b≠S->s.heap.get? b=some o->((s.heap.push { cls:=.type "list", data:=.seq #[] }).update S (Obj.mapSeq (λ_=>(#[]:Array vB)))).get? b=some o :=
  λb o hb e=>(zh _ _ (Ne.symm hb)).trans (zD _ e)
 refine vA (wpAny_letGo ?_);have hSn':=hSn;simp only[zE,zY,or_false,not_or]at hSn';refine q9b (A:=A.in1) (h0:=s0.heap) hh D hf hSn hn ⟨.inl ⟨rfl,oth _ _ (Ne.symm hSn'.1) hz⟩,oth _ _ (Ne.symm hSn'.2.1) hp1,⟨_,_,oth _ _ (Ne.symm hSn'.2.2.1) hp2⟩,hi1.at λo e=>oth _ o (Ne.symm hSn'.2.2.2.1) e,hi2.at λo e=>oth _ o (Ne.symm hSn'.2.2.2.2.1) e,
  hl1.at λo e=>oth _ o (Ne.symm hSn'.2.2.2.2.2.1) (hk _ o e),hl2.at λo e=>oth _ o (Ne.symm hSn'.2.2.2.2.2.2) (hk _ o e),λj t ht=>(by simp at ht),λt ht=>(by simp at ht),xb,λt ht=>(by simp at ht),λb o hb e=>oth b o hb (hk b o e)⟩ hS₂ (by rw[xE,yP,hn0,hS0];simp only[vG]at *;omega) λh' tk ts c a1 a2 a3 a4 a5 a6=>?_
 rw[hn0]at a3;exact⟨rfl,hQ h' tk S ts c (by simp only[vG]at *;omega) a1 a2 a3 a4 (λb o e=>a5 b o (λq=>by
  have:=zP e;rw[hn0,q]at this;simp only[vG]at *;omega) e) a6⟩
end
end Hk
namespace Hk
open PySem L2
section
variable{X:Cx}{pins:List (vG×Obj)}{σ:St}{H H':Hp}{s:vC}
theorem qbR{h':vZ}{t':Nat}(I:L2.Inv X pins σ H s)(k:∀b u,s.heap.get? b=some u->h'.get? b=some u)(hs:YM H H')(hn:∀b,H b=none->H' b≠none->s.heap.objs.size<=b)(new:∀b u,H b=none->H' b=some u->YQ X.prog X.w H' h' b u):L2.Inv X pins σ H' { s with heap:=h',toks:=t' }:=by
 refine I.un ⟨λb o q _ _ _=>k b o q,λb o q _ _ _=>⟨o.slots,k b o q⟩,λb o q n _=>?_,λb o q _=>⟨o,k b o q⟩,λb xs q=>hs _ _ q,λb o u q=>hs _ _ q,λb ps q=>⟨#[],by rw[hs _ _ q];simp⟩⟩ λb u e=>?_
 ·cases e:H' b with
  | none=>rfl
  | some u=>exact vM (zP q) (Zr.mpr (hn b n (by rw[e];exact λz=>by cases z)))
 ·cases q:H b with
  | none=>exact new b u q e
  | some u'=>
   have:=hs _ _ q;rw[e]at this;cases this;exact(I.hok b u q).stay (λc v _ z=>k c v z) (λc z=>hs _ _ z) λc xs z=>hs _ _ z
noncomputable def WJ(H:Hp):List vG->List V->List V->Hp
 | t::ts,x::xs,y::ys=>upd (WJ H ts xs ys) t (.tup [x,y])
 | _,_,_=>H
theorem q1U{b:vG}:∀{ts:List vG}{xs ys:List V},b∉ts->WJ H ts xs ys b=H b
 | [],_,_,_=>rfl
 | _::_,[],_,_=>rfl
 | _::_,_::_,[],_=>rfl
 | t::ts,x::xs,y::ys,h=>by
  rw[zE,not_or]at h;show upd _ t _ b=_;rw[qb h.1];exact q1U h.2
theorem q5a:∀{ts:List vG}{xs ys:List V}{j:Nat}{t:vG}{x y:V},ts.Nodup->ts[j]?=some t->xs[j]?=some x->ys[j]?=some y->WJ H ts xs ys t=some (.tup [x,y])
 | [],_,_,_,_,_,_,_,h,_,_=>by simp at h
 | _::_,[],_,_,_,_,_,_,_,h,_=>by simp at h
 | _::_,_::_,[],_,_,_,_,_,_,_,h=>by simp at h
 | u::ts,a::xs,b::ys,0,t,x,y,n,h1,h2,h3=>by
  simp at h1 h2 h3;subst h1;subst h2;subst h3;exact qe
 | u::ts,a::xs,b::ys,j+1,t,x,y,n,h1,h2,h3=>by
  simp only[ym]at h1 h2 h3;obtain⟨n1,n2⟩:=yO.mp n;show upd _ u _ t=_;rw[qb (λe=>n1 (by rw[<- e];exact z9 h1))];exact q5a n2 h1 h2 h3
def rLZ:List V->Hp->VK->Prop:=λvs H2 Q=>∃p q xs ys,vs=[.ref p,.ref q]/\H2 p=some (.lst xs)/\H2 q=some (.lst ys) /\
 ∀(S:vG)(ts:List vG),H2 S=none->(∀t∈ts,H2 t=none/\t≠S)->ts.Nodup->ts.length=min xs.length ys.length->Q (.ref S) (upd (WJ H2 ts xs ys) S (.lst (ts.map V.ref)))
theorem q4i:∀{xs:List V}{us:List vB},YO xs us->∀{j:Nat}{u:vB},us[j]?=some u->∃x,xs[j]?=some x/\RelV x u
 | _,_,.nil,j,u,h=>by simp at h
 | _,_,.cons r1 r2,0,u,h=>by simp at h;subst h;exact⟨_,rfl,r1⟩
 | _,_,.cons r1 r2,j+1,u,h=>by
  simp only[ym]at h ⊢;exact q4i r2 h
theorem q5l:∀(ts:List vG),YO (ts.map V.ref) (ts.map Value.ref)
 | []=>.nil
 | t::r=>.cons rfl (q5l r)
theorem q9w{a b:vP}{t:TA}{p1 p2 q1 q2:Pos}(hg1:Gl X "list")(hm1:X.mg "list" = none)(hg2:Gl X "zip")(hm2:X.mg "zip" = none)(ha:PA X [a,b] t)(hc:X.calm=true)(he1:vK [a,b] X.env=(false,eval a X.env)::vK [b] X.env)(hpl1:(vm q2 (vK [b] X.env)).any (·.1)=false)(he2:vK [.Call (.Name "zip" p2) [a,b] [] q2] X.env=(false,eval (.Call (.Name "zip" p2) [a,b] [] q2) X.env)::vK [] X.env)(hpl2:(vm q1 (vK [] X.env)).any (·.1)=false):
  PE X (.Call (.Name "list" p1) [.Call (.Name "zip" p2) [a,b] [] q2] [] q1) (tCB rLZ t):=by
 intro pins s σ H Q I h;refine v9 (q0s I hg1 hm1 q3H ?_ (by decide) (by decide));refine PyProof.Rows.callWith_type1 ?_ he2 hpl2;rw[he2];show vL _ _ (spliced ((false,eval _ X.env)::vm q1 (vK [] X.env))) _ _ s;refine Calls.spliced_cons ?_;refine v9 (q0s I hg2 hm2 qeu ?_ (by decide) (by decide));refine PyProof.Rows.callWith_type1 (thn (ha q2 pins s σ H _ I h) λus s1 ⟨vs,H1,I1,r1,q1⟩=>?_) he1 hpl1
 ·obtain⟨p,q,xs,ys,rfl,hp,hq,k⟩:=q1
  obtain⟨u1,u2,rfl,e1,e2⟩:=vals2 r1;cases e1;cases e2;obtain⟨its1,n1,rv1,g1,z1⟩:=I1.lst hp;obtain⟨its2,n2,rv2,g2,z2⟩:=I1.lst hq;have il1:s1.heap.IsList p its1.toArray:=⟨_,g1,rfl,n1,rfl⟩;have il2:s1.heap.IsList q its2.toArray:=⟨_,g2,rfl,n2,rfl⟩;refine call_zip_2 il1 il2 λh' a1 a2 a3 a4 a5 a6 a7=>?_;refine Calls.spliced_nil ?_;have len1:its1.toArray.size=xs.length:=by rw[zO,rv1.length]
  have len2:its2.toArray.size=ys.length:=by rw[zO,rv2.length]
  refine qc0 (s0:=s1) (I1.ok.hd hc) il1 il2 (by rw[len1];exact z6 (we _ _) z1) a1 a2 a3 a4 a5 a6 a7 λh2 tk S ts c b1 b2 b3 b4 b5 b6 b7=>?_;rw[len1,len2]at b2;have fS:H1 S=none:=I1.hok.fresh b1;have ft:∀t∈ts,H1 t=none:=λt ht=>I1.hok.fresh (b4 t ht).2;have hsame:YM H1 (upd (WJ H1 ts xs ys) S (.lst (ts.map V.ref))):=λb u e=>by
   have nS:b≠S:=λz=>by rw[z,fS]at e;cases e
   have nt:b∉ts:=λz=>by rw[ft b z]at e;cases e
   rw[qb nS,q1U nt];exact e
  have tup:∀(j:Nat)t,ts[j]?=some t->∃x y,xs[j]?=some x/\ys[j]?=some y/\WJ H1 ts xs ys t=some (.tup [x,y])/\YQ X.prog X.w (upd (WJ H1 ts xs ys) S (.lst (ts.map V.ref))) h2 t (.tup [x,y]):=λj t ht=>by
   obtain⟨x',y',c1,c2,c3⟩:=b7 j t ht;obtain⟨x,d1,d2⟩:=q4i rv1 (j:=j) (u:=x') ⇑c1;obtain⟨y,d3,d4⟩:=q4i rv2 (j:=j) (u:=y') ⇑c2;exact⟨x,y,d1,d3,q5a b3 ht d1 d3,⟨by show 2<=sizeLine;decide,[x',y'],.cons d2 (.cons d4 .nil),⟨_,c3,rfl,_,rfl⟩⟩⟩
  refine⟨.ref S,_,qbR (s:=s1) (t':=tk) I1 b6 hsame (λb n1 n2=>?_) (λb u n1 n2=>?_),rfl,k S ts fS (λt ht=>⟨ft t ht,(b4 t ht).1⟩) b3 b2⟩
  ·by_cases e:b=S
   ·rw[e];exact b1
   ·by_cases e':b∈ts
    ·exact(b4 b e').2
    ·rw[qb e,q1U e']at n2;exact vM n1 n2
  ·by_cases e:b=S
   ·subst e
    rw[qe]at n2;cases n2;refine⟨?_,ts.map Value.ref,c,q5l ts,b5⟩;rw[zB,b2];exact z6 (we _ _) z1
   ·by_cases e':b∈ts
    ·obtain⟨j,hj,ej⟩:=zm.mp e'
     obtain⟨x,y,_,_,m1,m2⟩:=tup j b (by rw[zC hj,ej]);rw[qb e,m1]at n2;cases n2;exact m2
    ·rw[qb e,q1U e',n1]at n2;cases n2
noncomputable def pairD(x y:D):D:=.tup [x,y]
noncomputable def Y3:List D->Option R
 | [.lst xs,.lst ys]=>some (.fr (wU pairD xs ys))
 | _=>none
theorem q3q{K:zA}{G:Hp}:∀{ds:List D}{ts:List vG},ds.length=ts.length->(∀(j:Nat)d t,ds[j]?=some d->ts[j]?=some t->Rep K G d (.ref t))->YF K G ds (ts.map V.ref)
 | [],[],_,_=>rfl
 | [],_::_,h,_=>by simp at h
 | _::_,[],h,_=>by simp at h
 | d::ds,t::ts,h,f=>⟨.ref t,_,rfl,f 0 d t rfl rfl,q3q ⇑h λj e u h1 h2=>f (j+1) e u ⇑h1 ⇑h2⟩
theorem q9t{K:zA}:Y4 K rLZ Y3:=by
 intro G H ds vs d Q s e hv k
 match ds,e with
 | [.lst xs,.lst ys],e=>
  cases e;obtain⟨v,u,rfl,h,h'⟩:=hv.two;obtain⟨p,us,rfl,h1,h2⟩:=h.lst s;obtain⟨q,ws,rfl,h3,h4⟩:=h'.lst s;refine⟨p,q,us,ws,rfl,h1,h3,λS ts hS ht nd hl=>?_⟩
  let G':Hp:=λb=>if b∈ts then WJ H ts us ws b else G b
  have hout:∀b,b∉ts->G' b=G b:=λb z=>vJ z;have hin:∀b,b∈ts->G' b=WJ H ts us ws b:=λb z=>vH z;have gg:YM G G':=λb o z=>by
   have n:b∉ts:=λy=>by rw[s.free (ht b y).1]at z;cases z
   rw[hout b n];exact z
  have hh:YM H (upd (WJ H ts us ws) S (.lst (ts.map V.ref))):=λb o z=>by
   have nS:b≠S:=λy=>by rw[y,hS]at z;cases z
   have n:b∉ts:=λy=>by rw[(ht b y).1]at z;cases z
   rw[qb nS,q1U n];exact z
  have gh:YM G' (upd (WJ H ts us ws) S (.lst (ts.map V.ref))):=λb o z=>by
   by_cases y:b∈ts
   ·rw[hin b y]at z
    rw[qb (ht b y).2];exact z
   ·rw[hout b y]at z
    exact hh b o (s _ _ z)
  have x:Ext G H G' (upd (WJ H ts us ws) S (.lst (ts.map V.ref))):=⟨gg,gh,hh,λb z1 z2=>by
   have n:b∉ts:=λy=>z2 (ht b y).1;rw[hout b n];exact z1⟩
  have nS:S∉ts:=λy=>(ht S y).2 rfl;refine k _ G' _ x ⟨S,_,rfl,hS,by rw[hout S nS];exact s.free hS,qe,q3q ?_ λj d t e1 e2=>?_⟩
  ·rw[List.length_zipWith,hl,h2.len,h4.len]
  ·rw[List.getElem?_zipWith]at e1
   cases q1:xs[j]? with
   | none=>rw[q1]at e1;cases e1
   | some a=>
    cases q2:ys[j]? with
    | none=>rw[q1,q2]at e1;cases e1
    | some b=>
     rw[q1,q2]at e1;cases e1;obtain⟨va,y1,y2⟩:=h2.get q1;obtain⟨vb,y3,y4⟩:=h4.get q2;refine⟨t,[va,vb],rfl,?_,YF.cons (y2.mono gg) (YF.cons (y4.mono gg) YF.nil)⟩;rw[hin t (z9 e2)];exact q5a nd e2 y1 y3
theorem q9x{a b:vP}{g:FA}{p1 p2 q1 q2:Pos}(hg1:Gl X "list")(hm1:X.mg "list" = none)(hg2:Gl X "zip")(hm2:X.mg "zip" = none)(ha:XVA X [a,b] g)(hc:X.calm=true:=by rfl)(he1:vK [a,b] X.env=(false,eval a X.env)::vK [b] X.env:=by rfl)(hpl1:(vm q2 (vK [b] X.env)).any (·.1)=false:=by rfl)(he2:vK [.Call (.Name "zip" p2) [a,b] [] q2] X.env=(false,eval (.Call (.Name "zip" p2) [a,b] [] q2) X.env)::vK [] X.env:=by rfl)(hpl2:(vm q1 (vK [] X.env)).any (·.1)=false:=by rfl):
  XE X (.Call (.Name "list" p1) [.Call (.Name "zip" p2) [a,b] [] q2] [] q1) (XJ Y3 g):=by
 obtain⟨t,h1,h2⟩:=ha;exact⟨_,q9w hg1 hm1 hg2 hm2 h1 hc he1 hpl1 he2 hpl2,q51 q9t h2⟩
end
noncomputable def WE:List Int->Int
 | []=>0
 | [x]=>x
 | x::y::r=>if x<=WE (y::r)then WE (y::r)else x
noncomputable def XH:List Int->Int
 | []=>0
 | [x]=>x
 | x::y::r=>if XH (y::r)<=x then XH (y::r)else x
theorem q2L:∀{ns:List Int},ns≠[]->WE ns∈ns/\∀a∈ns,a<=WE ns
 | [x],_=>⟨by simp[WE],λa h=>by simp at h;subst h;exact yM _⟩
 | x::y::r,_=>by
  obtain⟨h1,h2⟩:=q2L (ns:=y::r) (by simp);unfold WE
  split
  ·rename_i h
   refine⟨zJ _ h1,λa ha=>?_⟩;rcases zE.mp ha with rfl|ha
   ·exact h
   ·exact h2 a ha
  ·rename_i h
   refine⟨zI,λa ha=>?_⟩;rcases zE.mp ha with rfl|ha
   ·exact yM _
   ·have:=h2 a ha;omega
theorem q1C:∀{ns:List Int},ns≠[]->XH ns∈ns/\∀a∈ns,XH ns<=a
 | [x],_=>⟨by simp[XH],λa h=>by simp at h;subst h;exact yM _⟩
 | x::y::r,_=>by
  obtain⟨h1,h2⟩:=q1C (ns:=y::r) (by simp);unfold XH
  split
  ·rename_i h
   refine⟨zJ _ h1,λa ha=>?_⟩;rcases zE.mp ha with rfl|ha
   ·exact h
   ·exact h2 a ha
  ·rename_i h
   refine⟨zI,λa ha=>?_⟩;rcases zE.mp ha with rfl|ha
   ·exact yM _
   ·have:=h2 a ha;omega
def rMax:List V->Hp->VK->Prop:=λxs H Q=>∃(p:vG) (ns:List Int),xs=[.ref p]/\H p=some (.lst (ns.map V.int))/\ns≠[]/\Q (.int (WE ns)) H
def rMin:List V->Hp->VK->Prop:=λxs H Q=>∃(p:vG) (ns:List Int),xs=[.ref p]/\H p=some (.lst (ns.map V.int))/\ns≠[]/\Q (.int (XH ns)) H
section
variable{X:Cx}
open PyProof.Rows PySem.Spec in
theorem q9Z(hc:X.calm=true):Yq X (.builtin "max") rMax:=by
 intro pins s σ H xs us Q I r h;obtain⟨p,ns,rfl,hp,hne,q⟩:=h;obtain⟨u,rfl,rx⟩:=vals1 r;cases rx;obtain⟨its,n,rv,e,hz⟩:=I.lst hp;have hi:=q0H rv;obtain⟨ys,ey⟩:=hi.allInts.items;have hns:ns=ys.toList.map (·.1):=by rw[<- hi.numsOf,<- nums_intItems,<- ey]
 have hl:s.heap.IsList p its.toArray:=⟨_,e,rfl,n,rfl⟩;rw[ey]at hl;have hsz:0<ys.size:=by
  have h3:=wu.mpr hne;rw[hns,zB,zQ]at h3;exact h3
 refine max_intList (I.ok.hd hc) hl hsz λv h' tk hv hk=>?_;obtain⟨t,rfl⟩:=intItems_at hv;obtain⟨h1,h2⟩:=argBest_gt (numAt ys) (ys.size-1);have em:numAt ys (argBest (λi j=>decide (numAt ys i>numAt ys j)) (ys.size-1))=WE ns:=by
  obtain⟨m1,m2⟩:=q2L hne;apply Zk
  ·apply m2
   rw[hns,sC];exact getD_mem (by rw[zB,zQ];omega)
  ·rw[hns]at m1
   obtain⟨j,hj,ej⟩:=mem_getD m1;rw[zB,zQ]at hj;rw[<- hns]at ej;rw[<- ej,hns,<- sC];exact h2 j ∅
 rw[em];exact⟨.int _,H,I.kept (t':=tk) hk,⟨_,rfl⟩,q⟩
open PyProof.Rows PySem.Spec in
theorem q5O(hc:X.calm=true):Yq X (.builtin "min") rMin:=by
 intro pins s σ H xs us Q I r h;obtain⟨p,ns,rfl,hp,hne,q⟩:=h;obtain⟨u,rfl,rx⟩:=vals1 r;cases rx;obtain⟨its,n,rv,e,hz⟩:=I.lst hp;have hi:=q0H rv;obtain⟨ys,ey⟩:=hi.allInts.items;have hns:ns=ys.toList.map (·.1):=by rw[<- hi.numsOf,<- nums_intItems,<- ey]
 have hl:s.heap.IsList p its.toArray:=⟨_,e,rfl,n,rfl⟩;rw[ey]at hl;have hsz:0<ys.size:=by
  have h3:=wu.mpr hne;rw[hns,zB,zQ]at h3;exact h3
 refine min_intList (I.ok.hd hc) hl hsz λv h' tk hv hk=>?_;obtain⟨t,rfl⟩:=intItems_at hv;obtain⟨h1,h2⟩:=argBest_lt (numAt ys) (ys.size-1);have em:numAt ys (argBest (λi j=>decide (numAt ys i<numAt ys j)) (ys.size-1))=XH ns:=by
  obtain⟨m1,m2⟩:=q1C hne;apply Zk
  ·rw[hns]at m1
   obtain⟨j,hj,ej⟩:=mem_getD m1;rw[zB,zQ]at hj;rw[<- hns]at ej;rw[<- ej,hns,<- sC];exact h2 j ∅
  ·apply m2
   rw[hns,sC];exact getD_mem (by rw[zB,zQ];omega)
 rw[em];exact⟨.int _,H,I.kept (t':=tk) hk,⟨_,rfl⟩,q⟩
noncomputable def bMax:List D->Option R
 | [.lst ds]=>(intsOf ds).bind λns=>if ns=[]then none else ↥(.int (WE ns))
 | _=>none
noncomputable def bMin:List D->Option R
 | [.lst ds]=>(intsOf ds).bind λns=>if ns=[]then none else ↥(.int (XH ns))
 | _=>none
theorem qfd{K:zA}:Y4 K rMax bMax:=by
 intro G H ds vs d Q s e hv k
 match ds,e with
 | [.lst ds],e=>
  obtain⟨ns,e1,e2⟩:=bnd (show (intsOf ds).bind _=some d from e);have hds:=q0C e1;subst hds
  by_cases hz:ns=[]
  ·rw[vH hz]at e2;cases e2
  ·rw[vJ hz]at e2
   cases e2;obtain⟨v,rfl,h⟩:=hv.one;obtain⟨p,us,rfl,h1,h2⟩:=h.lst s;exact⟨p,ns,rfl,by rw[h1,h2.of_ints],hz,k _ G H (Ext.refl s) rfl⟩
theorem qaA{K:zA}:Y4 K rMin bMin:=by
 intro G H ds vs d Q s e hv k
 match ds,e with
 | [.lst ds],e=>
  obtain⟨ns,e1,e2⟩:=bnd (show (intsOf ds).bind _=some d from e);have hds:=q0C e1;subst hds
  by_cases hz:ns=[]
  ·rw[vH hz]at e2;cases e2
  ·rw[vJ hz]at e2
   cases e2;obtain⟨v,rfl,h⟩:=hv.one;obtain⟨p,us,rfl,h1,h2⟩:=h.lst s;exact⟨p,ns,rfl,by rw[h1,h2.of_ints],hz,k _ G H (Ext.refl s) rfl⟩
theorem qf4{ns:List Int}(h:ns≠[]):bMax [.lst (ns.map D.int)]=↥(.int (WE ns)):=by
 show (intsOf (ns.map D.int)).bind _=_;rw[q0j];exact vJ h
theorem qaK{ns:List Int}(h:ns≠[]):bMin [.lst (ns.map D.int)]=↥(.int (XH ns)):=by
 show (intsOf (ns.map D.int)).bind _=_;rw[q0j];exact vJ h
end
noncomputable def whD(c:FT)(b:FS):Nat->FS
 | 0=>λ_=>none
 | n+1=>λω=>(c ω).bind λk=>if k=true then (b ω).bind (λp=>match p.1 with
   | .nx=>whD c b n p.2
   | .ct=>whD c b n p.2
   | .bk=>some (.nx,p.2)
   | .rt r=>some (.rt r,p.2))else some (.nx,ω)
noncomputable def sWh(n:Nat)(c:FT)(b:FS):FS:=whD c b n
section
variable{X:Cx}{c:vP}{body:List vo}{fc:FT}{fb:FS}{pos:Pos}{n:Nat}
theorem qa0{K:zA}{t:TT}{u:TS}(h2:Xz K t fc)(h4:SimS K u fb):SimS K (W7 t u) (sWh n fc fb):=by
 intro G0 H0 G ω σ H out ω' E o e k;refine⟨λm σ1 H1=>∃G1 ω1,Own K G0 H0 G1 ω1 σ1 H1/\YM G G1/\whD fc fb m ω1=some (out,ω'),⟨n,G,ω,o,YM.refl _,e⟩,λm σ1 H1 ⟨G1,ω1,o1,g1,e1⟩=>?_⟩;cases m with
 | zero=>cases e1
 | succ m=>
  obtain⟨b,q,e1⟩:=bnd e1;refine h2 G0 H0 G1 ω1 σ1 H1 b _ o1 q λG2 H2 x2=>?_;cases b with
  | false=>cases e1;exact k G2 σ1 H2 (o1.keep x2) (g1.trans x2.gg)
  | true=>
   rw[vH rfl];rw[vH rfl]at e1;obtain⟨⟨o3,ω3⟩,q3,e1⟩:=bnd e1;refine⟨λσ' H'=>∃G1 ω1,Own K G0 H0 G1 ω1 σ' H'/\YM G G1/\whD fc fb m ω1=some (out,ω'),λσ' H' z=>⟨m,yU m,z⟩,?_⟩;refine h4 G0 H0 G2 ω1 σ1 H2 o3 ω3 _ (o1.keep x2) q3 λG4 σ4 H4 o4 g4=>?_;have gg:=(g1.trans x2.gg).trans g4;cases o3 with
   | nx=>exact⟨G4,ω3,o4,gg,e1⟩
   | ct=>exact⟨G4,ω3,o4,gg,e1⟩
   | bk=>cases e1;exact k G4 σ4 H4 o4 gg
   | rt r=>cases e1;exact k G4 σ4 H4 o4 gg
theorem qbS(hp:tO (model X.prog X.w) X.A X.env X.xe)(hc:XT X c fc)(hb:XSs X body fb):XS X (.While c body [] pos) (sWh n fc fb):=by
 obtain⟨t,h1,h2⟩:=hc;obtain⟨u,h3,h4⟩:=hb;exact⟨_,qbM hp h1 h3,qa0 h2 h4⟩
end
section
variable{fc:FT}{fb:FS}
def stepW(I:WSt->Prop)(μ:WSt->Nat)(m:Nat)(J:WSt->Prop)(o:Option (Out×WSt)):Prop:=match o with
 | some (.nx,w)=>I w/\μ w<m
 | some (.ct,w)=>I w/\μ w<m
 | some (.bk,w)=>J w
 | _=>False
theorem q7h(I:WSt->Prop)(μ:WSt->Nat)(J:WSt->Prop)(stop:∀ω,I ω->fc ω=some false->J ω)(turn:∀ω,I ω->∃k,fc ω=some k/\(k=true->stepW I μ (μ ω) J (fb ω))):
  ∀(n:Nat)(ω:WSt),I ω->μ ω<n->∃ω',whD fc fb n ω=some (.nx,ω')/\J ω'
 | 0,_,_,z=>vM z (xt _)
 | n+1,ω,h,z=>by
  obtain⟨k,e,t⟩:=turn ω h;show ∃ω',((fc ω).bind _)=_/\_;rw[e];cases k with
  | false=>exact⟨ω,rfl,stop ω h e⟩
  | true=>
   have t:=t rfl;rw[show ∀(f:Bool->Option (Out×WSt)),(some true).bind f=f true from λ_=>rfl,vH rfl];cases q:fb ω with
   | none=>rw[q]at t;exact t.elim
   | some p=>
    rw[q]at t;obtain⟨o,w⟩:=p;cases o with
    | nx=>exact q7h I μ J stop turn n w t.1 (by have:=t.2;omega)
    | ct=>exact q7h I μ J stop turn n w t.1 (by have:=t.2;omega)
    | bk=>exact⟨w,rfl,t⟩
    | rt r=>exact t.elim
theorem qf2{n:Nat}(I:WSt->Prop)(μ:WSt->Nat)(J:WSt->Prop)(stop:∀ω,I ω->fc ω=some false->J ω)(turn:∀ω,I ω->∃k,fc ω=some k/\(k=true->stepW I μ (μ ω) J (fb ω))){ω:WSt}(h:I ω)(z:μ ω<n):∃ω',sWh n fc fb ω=some (.nx,ω')/\J ω':=q7h I μ J stop turn n ω h z
end
section
variable{X:Cx}{pos:Pos}{o:vP}{apos cpos:Pos}{i:Nat}
end
noncomputable abbrev FM:=WSt->Option (D×WSt)
def SimM(K:zA)(t:TE)(f:FM):Prop:=∀G0 H0 G ω σ H d ω'(Q:VK),Own K G0 H0 G ω σ H->f ω=some (d,ω') ->
 (∀v G' H',Own K G0 H0 G' ω' σ H'->YM G G'->Rep K G' d v->Q v H')->t σ H Q
def XM(X:Cx)(e:vP)(f:FM):Prop:=∃t,PE X e t/\SimM X.K t f
section
variable{X:Cx}{pos:Pos}{o e:vP}{apos cpos pos':Pos}{i:Nat}{fd:FD}{f:FM}
noncomputable def W4(i:Nat)(f:FM):FS:=λω=>(f ω).map λp=>(.nx,p.2.set i (some (.sh p.1)))
theorem qd8{x:Str}(hN:X.N.Nodup)(hi:X.N[i]?=some x)(hx:Loc X.env.scope x)(he:XM X e f)(hs:vv e (some (.Name x pos')) pos.line X.env=pure false:=by rfl)(hf:X.fn x=true\/X.env.scope.names.lookup x=some .local:=by first|exact .inl rfl|exact .inr rfl|assumption):
  XS X (.Assign [.Name x pos'] e pos) (W4 i f):=by
 obtain⟨t,h1,h2⟩:=he;refine⟨_,q3y hN hi hx h1 hs hf,λG0 H0 G ω σ H out ω' E o e k=>?_⟩;unfold W4 at e;cases q:f ω with
 | none=>rw[q]at e;cases e
 | some p=>
  obtain⟨d,ω1⟩:=p;rw[q]at e;cases e;exact h2 G0 H0 G ω σ H d ω1 _ o q λv G1 H1 o1 g1 r1=>k G1 _ H1 (o1.setSh r1) g1
end
section
variable{X:Cx}{a b c:vP}{pos:Pos}{fa fb fc:FD}{op op':tt}{p p':Int->Int->Bool}
end
noncomputable def zAc(x:Int):List Int->List Int
 | []=>[x]
 | y::r=>if x<=y then x::y::r else y::zAc x r
noncomputable def YR(ns:List Int):List Int:=ns.foldr zAc []
theorem q3A{x:Int}:∀{l:List Int},(zAc x l).Perm (x::l)
 | []=>.refl _
 | y::r=>by
  unfold zAc
  by_cases h:x<=y
  ·rw[vH h]
  ·rw[vJ h];exact(q3A.cons y).trans (.swap x y r)
theorem qE:∀{l:List Int},(YR l).Perm l
 | []=>.refl _
 | y::r=>q3A.trans ((qE (l:=r)).cons y)
theorem q8D{x:Int}:∀{l:List Int},l.Pairwise (· <= ·)->(zAc x l).Pairwise (· <= ·)
 | [],_=>wP _ _
 | y::r,h=>by
  obtain⟨h1,h2⟩:=zc.mp h;unfold zAc
  by_cases z:x<=y
  ·rw[vH z]
   refine zc.mpr ⟨λa ha=>?_,h⟩;cases ha with
   | head=>exact z
   | tail _ ha=>exact xP z (h1 a ha)
  ·rw[vJ z]
   refine zc.mpr ⟨λa ha=>?_,q8D h2⟩;cases (q3A.mem_iff.mp ha:a∈x::r)with
   | head=>omega
   | tail _ ha=>exact h1 a ha
theorem q1V:∀{l:List Int},(YR l).Pairwise (· <= ·)
 | []=>.nil
 | y::r=>q8D (q1V (l:=r))
theorem q31:∀{l m:List Int},l.Pairwise (· <= ·)->m.Pairwise (· <= ·)->l.Perm m->l=m
 | [],m,_,_,p=>(List.Perm.nil_eq p)
 | a::l,m,h,h',p=>by
  cases m with
  | nil=>exact vM p.length_eq (by simp)
  | cons b m=>
   obtain⟨h1,h2⟩:=zc.mp h;obtain⟨h3,h4⟩:=zc.mp h';have hab:a=b:=by
    have x1:a∈b::m:=p.mem_iff.mp (.head _);have x2:b∈a::l:=p.mem_iff.mpr (.head _);cases x1 with
    | head=>rfl
    | tail _ x1=>
     cases x2 with
     | head=>rfl
     | tail _ x2=>have:=h3 a x1;have:=h1 b x2;omega
   subst hab;rw[q31 h2 h4 p.cons_inv]
theorem q5A(l:List Int):(YR l).length=l.length:=qE.length_eq
def rSortL:List V->Hp->VK->Prop:=λxs H Q=>∃p ns,xs=[.ref p]/\H p=some (.lst (ns.map V.int))/\ns.length<64/\∀l,H l=none->Q (.ref l) (upd H l (.lst ((YR ns).map V.int)))
noncomputable def zAD:D->Option R
 | .lst ds=>(intsOf ds).bind λns=>if ns.length<64 then some (.fr ((YR ns).map D.int))else none
 | _=>none
noncomputable def WX(f:FD):FE:=λω=>(f ω).bind zAD
section
variable{X:Cx}
theorem q9s:Yq X (.builtin "sorted") rSortL:=by
 intro pins s σ H xs us Q I r h;obtain⟨p,ns,rfl,hp,hz,q⟩:=h;obtain⟨u,rfl,rx⟩:=vals1 r;cases rx;obtain⟨its,n,rv,e,_⟩:=I.lst hp;have hlen:its.length=ns.length:=by rw[<- rv.length,zB]
 refine PyProof.Rows.sorted_ints ⟨_,e,rfl,n,rfl⟩ (q0H rv) ∅ λout ns' a1 a2 a3=>?_;obtain⟨m,hm⟩:=PyProof.Rows.sortedAll_at s.heap its out;have en:ns'=YR ns:=q31 a3 q1V (a2.trans qE.symm);subst en;have hsl:(YR ns).length<=sizeLine:=by rw[q5A];exact z6 (yK hz) (by decide)
 have I2:=I.laid (a:=s.heap.objs.size+1) (o:=.lst ((YR ns).map V.int)) (t':=s.toks) (λb o e=>PyProof.Rows.sortedAll_old e) (y8 _)
  (show YQ X.prog X.w _ (PyProof.Rows.sortedAll s.heap its out) _ (.lst _)from ⟨by rw[zB];exact hsl,out.toList,m,q1n a1,by rw[xM];exact hm⟩)
 exact⟨.ref _,_,I2,rfl,q _ (I.hok.fresh (y8 _))⟩
theorem qdo{a:vP}{f:FD}{p q:Pos}(hg:Gl X "sorted")(hm:X.mg "sorted" = none)(ha:XV X a f)(he:vK [a] X.env=(false,eval a X.env)::vK [] X.env:=by rfl)(hpl:(vm q (vK [] X.env)).any (·.1)=false:=by rfl):XE X (.Call (.Name "sorted" p) [a] [] q) (WX f):=by
 obtain⟨t,h1,h2⟩:=ha;refine⟨_,q1I q9s hg hm q2c (qM h1 qW he) (by decide) (by decide) he hpl,λG0 H0 G ω σ H r Q o e k=>?_⟩;obtain⟨d,z,e⟩:=bnd e;refine h2 G0 H0 G ω σ H d _ o z λv G1 H1 x1 y1=>?_;cases d with
 | lst ds=>
  obtain⟨ns,e1,e2⟩:=bnd (show (intsOf ds).bind _=some r from e);have hds:=q0C e1;subst hds
  by_cases hz:ns.length<64
  ·rw[vH hz]at e2
   cases e2;obtain⟨p,vs,rfl,g1,g2⟩:=y1.lst x1.gh;have hv:=g2.of_ints;subst hv;refine⟨p,ns,rfl,g1,hz,λl hl=>?_⟩;have x2:=Ext.hide x1.gh hl (.lst ((YR ns).map V.int));exact k _ G1 _ (x1.trans x2) ⟨l,_,rfl,x1.hh.free hl,x1.gh.free hl,qe,YF.ints _⟩
  ·rw[vJ hz]at e2;cases e2
 | _=>cases e
end
end Hk
namespace Hk
open PySem PySem.Spec PyProof.Rows
section
variable{prog:vO}{w:vT}{A:vY}{E:vB->vC->Prop}{s:vC}
end
open L2
section
variable{X:Cx}
end
end Hk
namespace L2
open PySem PySem.Spec PyProof.Rows
theorem Inv.turnedL{X:Cx}{pins:List (vG×Obj)}{σ:List (Option V)}{H:Hp}{s:vC}{h':vZ}{t':Nat}{fp:List vG}(I:Inv X pins σ H s)(k:∀b o,b∉fp->s.heap.get? b=some o->h'.get? b=some o)(hf:∀b∈fp,Y2 X pins H b):
  Inv X pins σ H { s with heap:=h',toks:=t' }:=by
 have nit:∀b u,H b=some u->b∉fp:=λb u e z=>by have:=(hf b z).1;rw[e]at this;cases this
 refine I.step (g':=s.gens) (d':=s.drawn) (ch:=fp) (λb hb=>?_) (λb o _ _ hc e _=>k b o hc e) (λb o _ _ hc e _=>⟨o.slots,k b o hc e⟩) (λ_ _ _ _ n=>n)
  (λb o hc e=>⟨o,k b o hc e⟩) (λ_ _ e=>e) (λ_ _ _ e=>e) (λb ps e=>⟨#[],by rw[e];simp⟩) (λm hm=>?_) (λb u e=>?_) I.bare
 ·obtain⟨f0,f1,f2,f3,f4,f5⟩:=hf b hb
  exact⟨f3,f1,f4,f5⟩
 ·obtain⟨o,es,ep,ho,r⟩:=hm
  exact⟨o,es,ep,k _ o (λz=>(hf _ z).2.1 rfl) ho,r⟩
 ·refine(I.hok b u e).stay (λc v hc q=>k c v ?_ q) (λ_ q=>q) λ_ _ q=>q
  rcases hc with z|z
  ·rw[z];exact nit b u e
  ·exact nit c _ z
noncomputable def Itz(K:zA)(a b:vG):It :=
 ⟨λi H=>∃xs ys x y,SqL K H a xs/\SqL K H b ys/\xs[i]?=some x/\ys[i]?=some y,
  λi H x H'=>∃t x1 y1,H t=none/\x=.ref t/\H'=upd H t (.tup [x1,y1])/\∀xs ys,SqL K H a xs->SqL K H b ys->xs[i]?=some x1/\ys[i]?=some y1,
  λi H=>∃xs ys,SqL K H a xs/\SqL K H b ys/\(xs[i]?=none\/ys[i]?=none)⟩
theorem qch{P:vO}{w:vT}{K:zA}{elts:List vP}{kx}{tpos:Pos}(a b z TI TO i1 i2:vG)(D:uh z TI TO i1 i2 a b):
  Turn P w K (.Tuple elts kx tpos) (Itz K a b) [z,TI,TO,i1,i2] z (λi h=>IsZip h z TI TO .none/\uZ h TI (.ref i1) (.ref i2)/\(∃x y,uZ h TO x y)/\h.IsListIter i1 a i/\h.IsListIter i2 b i) where
 mem:=by simp
 obj:=λi h st c hc=>by
  obtain⟨s1,s2,⟨_,_,s3⟩,⟨o4,e4,c4,d4⟩,⟨o5,e5,c5,d5⟩⟩:=st;simp only[zE,zY,or_false]at hc;rcases hc with rfl|rfl|rfl|rfl|rfl
  ·exact⟨_,s1,λv y=>by cases (show Data.fields _=Data.cell v from y)⟩
  ·exact⟨_,s2,λv y=>by cases (show Data.seq _ _=Data.cell v from y)⟩
  ·exact⟨_,s3,λv y=>by cases (show Data.seq _ _=Data.cell v from y)⟩
  ·exact⟨_,e4,λv y=>by rw[d4]at y;cases y⟩
  ·exact⟨_,e5,λv y=>by rw[d5]at y;cases y⟩
 keep:=λi h h' st k=>by
  obtain⟨s1,s2,⟨x,y,s3⟩,s4,s5⟩:=st;exact⟨k _ (by simp) _ s1,k _ (by simp) _ s2,⟨x,y,k _ (by simp) _ s3⟩,s4.at λo e=>k _ (by simp) o e,s5.at λo e=>k _ (by simp) o e⟩
 item:=by
  intro X hP hw hK hc i pins s σ H E I hf st hg;subst hP hw hK;obtain⟨xs,ys,x,y,hq1,hq2,hx,hy⟩:=hg;obtain⟨its1,rv1,p1,hz1⟩:=I.list hq1;obtain⟨its2,rv2,p2,hz2⟩:=I.list hq2;obtain⟨u1,hu1,ru1⟩:=rv1.get hx;obtain⟨u2,hu2,ru2⟩:=rv2.get hy;obtain⟨s1,s2,⟨_,_,s3⟩,s4,s5⟩:=st;have ex:∀c∈[z,TI,TO,i1,i2],∃o,s.heap.get? c=some o:=λc hc=>by
   simp only[zE,zY,or_false]at hc;rcases hc with rfl|rfl|rfl|rfl|rfl
   ·exact⟨_,s1⟩
   ·exact⟨_,s2⟩
   ·exact⟨_,s3⟩
   ·obtain⟨o,e,_⟩:=s4;exact⟨o,e⟩
   ·obtain⟨o,e,_⟩:=s5;exact⟨o,e⟩
  have nt:∀c∈[z,TI,TO,i1,i2],c≠s.heap.objs.size:=λc hc=>by
   obtain⟨o,e⟩:=ex c hc;exact zi (zP e)
  refine tG D s1 s2 s3 s4 s5 p1.isList p2.isList (x:=u1) (y:=u2) (by simpa using hu1) (by simpa using hu2) λh' a1 a2 a3 a4 a5 a6 hk=>?_;have hn:H s.heap.objs.size=none:=I.hok.fresh (zN _);have I1:Inv X pins σ (upd H s.heap.objs.size (.tup [x,y])) { s with heap:=s.heap.push { cls:=.type "tuple", data:=.seq #[u1,u2] },toks:=s.toks } :=
   I.laid (λb o e=>zD _ e) (zN _) (show YQ X.prog X.w _ _ _ (.tup [x,y])from ⟨by show 2<=sizeLine;decide,[u1,u2],.cons ru1 (.cons ru2 .nil),⟨_,zS _ rfl,rfl,_,rfl⟩⟩)
  have hf':∀c∈[z,TI,TO,i1,i2],Y2 X pins (upd H s.heap.objs.size (.tup [x,y])) c:=λc hc=>by
   obtain⟨f0,f⟩:=hf c hc;exact⟨by rw[qb (nt c hc)];exact f0,f⟩
  have I2:Inv X pins σ (upd H s.heap.objs.size (.tup [x,y])) { s with heap:=h',toks:=s.toks }:=I1.turnedL (λb o hb e=>by
   simp only[zE,zY,or_false,not_or]at hb
   by_cases q:b=s.heap.objs.size
   ·subst q
    rw[zS _ rfl]at e;cases e;exact a5
   ·have e':s.heap.get? b=some o:=by
     rcases zu b s.heap.objs.size with l|l
     ·obtain⟨z1,z2⟩:=xW.mp e
      refine xW.mpr ⟨?_,z2⟩;rw[<- z1];show s.heap.objs[b]?=(s.heap.objs.push _)[b]?;rw[ww,vJ q]
     ·have:=zP e
      rw[yP]at this;exact vM (by simp only[vG]at *;omega) q
    exact hk b o hb.1 hb.2.2.1 hb.2.2.2.1 hb.2.2.2.2 e') hf'
  refine⟨_,rfl,wpAny_letOwnedTupleGo_zip a1 λh2 b1 sb=>?_⟩;have I3:Inv X pins σ (upd H s.heap.objs.size (.tup [x,y])) { s with heap:=h2,toks:=s.toks }:=I2.turnedL (λb o hb e=>(sb.2 b (λq=>hb (by simp[q]))).trans e) hf';refine⟨.ref s.heap.objs.size,_,I3,rfl,⟨_,x,y,hn,rfl,rfl,λxs' ys' q1 q2=>⟨by rw[I.list_inj q1 hq1];exact hx,by rw[I.list_inj q2 hq2];exact hy⟩⟩,⟨b1,?_,⟨u1,u2,sb.extBut _ _ D.TOz a2⟩,a3.extBut sb.extBut D.i1z,a4.extBut sb.extBut D.i2z⟩,λc hc=>(hf' c hc).1⟩;exact sb.extBut _ _ D.TIz (hk _ _ D.TIz D.TITO D.TIi1 D.TIi2 s2)
 done:=by
  intro X hP hw hK hc i pins s σ H E I hf st hg;subst hP hw hK;obtain⟨xs,ys,hq1,hq2,hx⟩:=hg;obtain⟨its1,rv1,p1,hz1⟩:=I.list hq1;obtain⟨its2,rv2,p2,hz2⟩:=I.list hq2;obtain⟨s1,s2,⟨_,_,s3⟩,s4,s5⟩:=st;have l1:=rv1.length;have l2:=rv2.length;refine tJ (I.ok.hd hc) D s1 s2 s3 s4 s5 p1.isList p2.isList ?_ λh' hk=>⟨rfl,I.turnedL (t':=s.toks) (λb o hb e=>?_) hf⟩
  ·rcases hx with hx|hx
   ·exact .inl (by rw[xS]at hx;simp;omega)
   ·exact .inr (by rw[xS]at hx;simp;omega)
  ·simp only[zE,zY,or_false,not_or]at hb
   exact hk b o hb.1 hb.2.2.1 hb.2.2.2.1 hb.2.2.2.2 e
 self:=λ_ _ _ _ _ st h=>u7 st.1 h
noncomputable def iZip(K:zA)(ta:TA):TI:=λσ H R=>ta σ H λvs H1=>∃a b xs ys,vs=[.ref a,.ref b]/\SqL K H1 a xs/\SqL K H1 b ys/\R (Itz K a b) H1
theorem qeT{X:Cx}{a b:vP}{ta:TA}{p pos tpos:Pos}{elts:List vP}{kx}(hg:Gl X "zip")(hm:X.mg "zip" = none)(ha:PA X [a,b] ta)(hs:vK [a,b] X.env=[(false,eval a X.env),(false,eval b X.env)]:=by rfl)(hs2:vK [b] X.env=[(false,eval b X.env)]:=by rfl):
  PI X (.Tuple elts kx tpos) (.Call (.Name "zip" p) [a,b] [] pos) (iZip X.K ta):=by
 intro pins s σ H R I h;refine Call_ (q0s I hg hm PyProof.Rows.boot_zip (PyProof.Rows.callWith_type1 (thn (ha pos pins s σ H _ I h) λus s1 ⟨vs,H1,I1,r1,q1⟩=>?_) (by rw[hs,hs2]) (by rw[hs2];rfl)));obtain⟨l1,l2,xs,ys,e,hq1,hq2,q⟩:=q1;subst e;cases r1 with
 | cons r rr=>
  cases rr with
  | cons r' rr=>
   cases rr;cases r;cases r';obtain⟨its1,rv1,p1,hz1⟩:=I1.list hq1;obtain⟨its2,rv2,p2,hz2⟩:=I1.list hq2;have e1:l1<s1.heap.objs.size:=by obtain⟨_,_,e,_⟩:=p1;exact zP e
   have e2:l2<s1.heap.objs.size:=by obtain⟨_,_,e,_⟩:=p2;exact zP e
   refine call_zip_2 p1.isList p2.isList λh' a1 a2 a3 a4 a5 a6 hk=>?_;refine u7 a1 ?_;have D:uh (s1.heap.objs.size+4) (s1.heap.objs.size+2) (s1.heap.objs.size+3) s1.heap.objs.size (s1.heap.objs.size+1) l1 l2:=by
    generalize s1.heap.objs.size=n at *
    constructor <;> (intro q;simp only[vG]at *;omega)
   refine⟨s1.heap.objs.size+4,[s1.heap.objs.size+4,s1.heap.objs.size+2,s1.heap.objs.size+3,s1.heap.objs.size,s1.heap.objs.size+1],_,_,H1,rfl,I1.kept (t':=s1.toks) hk,qch l1 l2 _ _ _ _ _ D,⟨a1,a2,⟨_,_,a3⟩,a4,a5⟩,λc hc=>?_,q⟩;have hle:s1.heap.objs.size<=c:=by
    simp only[zE,zY,or_false]at hc;simp only[vG]at *;omega
   have I2:=I1.kept (t':=s1.toks) hk;exact I1.fpOk hle (I1.hok.fresh hle)
end L2
namespace Hk
open PySem L2
noncomputable def WG:List D->List D->List D
 | a::as,b::bs=>.tup [a,b]::WG as bs
 | _,_=>[]
theorem q4n:∀(as bs:List D),(WG as bs).length=min as.length bs.length
 | a::as,b::bs=>by show (WG as bs).length+1=_;rw[q4n as bs,zM,zM];omega
 | [],bs=>by cases bs <;> simp[WG]
 | a::as,[]=>by simp[WG]
theorem q6N:∀(as bs:List D)(i:Nat)(d:D),(WG as bs)[i]?=some d->∃a b,as[i]?=some a/\bs[i]?=some b/\d=.tup [a,b]
 | a::as,b::bs,0,d,h=>by cases h;exact⟨a,b,rfl,rfl,rfl⟩
 | a::as,b::bs,i+1,d,h=>q6N as bs i d h
 | [],bs,i,d,h=>by cases bs <;> cases h
 | a::as,[],i,d,h=>by cases h
theorem qbs{K:zA}{G:Hp}{a b:vG}{ds es:List D}{vs us:List V}(h1:G a=some (.lst vs))(h2:YF K G ds vs)(h3:G b=some (.lst us))(h4:YF K G es us):IterOf K (Itz K a b) G (WG ds es):=by
 have l1:=h2.len;have l2:=h4.len;refine⟨λH i s hi=>?_,λG2 H i x H' d s0 s1 hd hy=>?_,λH s=>⟨vs,us,SqL.of (s _ _ h1),SqL.of (s _ _ h3),?_⟩⟩
 ·rw[q4n]at hi
  exact⟨vs,us,vs[i]'∅,us[i]'∅,SqL.of (s _ _ h1),SqL.of (s _ _ h3),zC _,zC _⟩
 ·obtain⟨t,x1,y1,ht,rfl,rfl,y⟩:=hy
  obtain⟨e1,e2⟩:=y vs us (SqL.of (s1 _ _ (s0 _ _ h1))) (SqL.of (s1 _ _ (s0 _ _ h3)));obtain⟨p,q,f1,f2,rfl⟩:=q6N ds es i d hd;obtain⟨v,q1,q2⟩:=h2.get f1;obtain⟨u,q3,q4⟩:=h4.get f2;rw[e1]at q1;cases q1;rw[e2]at q3;cases q3;have x2:=Ext.lay s1 ht (.tup [x1,y1]);exact⟨_,x2,⟨t,_,rfl,qe,YF.cons (q2.mono (s0.trans x2.gg)) (YF.cons (q4.mono (s0.trans x2.gg)) YF.nil)⟩⟩
 ·rw[q4n]
  rcases Nat.le_total ds.length es.length with h|h
  ·exact .inl (zo ∅)
  ·exact .inr (zo ∅)
noncomputable def iZp(g:FA):FI:=λω=>(g ω).bind λds=>match ds with
 | [.lst a,.lst b]=>some (WG a b)
 | _=>none
theorem qb1{X:Cx}{a b:vP}{g:FA}{p pos tpos:Pos}{elts:List vP}{kx}(hg:Gl X "zip")(hm:X.mg "zip" = none)(ha:XA X [a,b] g)(hs:vK [a,b] X.env=[(false,eval a X.env),(false,eval b X.env)]:=by rfl)(hs2:vK [b] X.env=[(false,eval b X.env)]:=by rfl):
  XI X (.Tuple elts kx tpos) (.Call (.Name "zip" p) [a,b] [] pos) (iZp g):=by
 obtain⟨⟨t,h1,h2⟩,_⟩:=ha;refine⟨_,qeT hg hm h1 hs hs2,λG0 H0 G ω σ H ds R o e k=>?_⟩;obtain⟨vs,q,e⟩:=bnd e;refine h2 G0 H0 G ω σ H vs _ o q λus G1 H1 x1 y1=>?_
 match vs,e with
 | [.lst as,.lst bs],e=>
  cases e;obtain⟨v1,r1,rfl,z1,z2⟩:=y1;obtain⟨v2,r2,rfl,z3,z4⟩:=z2;cases (show r2=[]from z4);obtain⟨a1,ws1,rfl,f1,f2⟩:=z1;obtain⟨a2,ws2,rfl,f3,f4⟩:=z3;exact⟨a1,a2,ws1,ws2,rfl,SqL.of (x1.gh _ _ f1),SqL.of (x1.gh _ _ f3),k _ G1 H1 x1 (qbs f1 f2 f3 f4)⟩
section
open PySem.Spec PyProof.Rows
variable{X:Cx}
end
end Hk
namespace Hk
open PySem L2 PyProof.Rows
section
variable{X:Cx}{pos:Pos}{o e:vP}{apos cpos:Pos}{i:Nat}{fd:FD}
end
end Hk
namespace Hk
open PySem L2
section
variable{X:Cx}{o c:vP}{body:List vo}{pos ipos npos:Pos}{i j:Nat}{fc:FT}{fb:FS}
end
noncomputable def dropW(o:Option R)(ω:WSt):Option (Out×WSt):=o.map λ_=>(.nx,ω)
noncomputable def zipI(o:Option (List D)):Option (List D):=o.bind λds=>match ds with
 | [.lst a,.lst b]=>some (WG a b)
 | _=>none
noncomputable def sortR(o:Option D):Option R:=o.bind zAD
section
variable{ω:WSt}{fe:FE}{fd:FD}{fa:FA}{r:R}{ds as bs:List D}{i j:Nat}{f:FS}{ft:FT}{m:List D->List D}
theorem q7T:Ww fe ω=dropW (fe ω) ω:=rfl
theorem e_wd:dropW (some r) ω=some (.nx,ω):=rfl
theorem qaD:iZp fa ω=zipI (fa ω):=rfl
theorem e_wz:zipI (some [.lst as,.lst bs])=some (WG as bs):=rfl
theorem q8S:WX fd ω=sortR (fd ω):=rfl
end
theorem qdD{ns:List Int}(h:ns.length<64):sortR (some (.lst (ns.map D.int)))=some (.fr ((YR ns).map D.int)):=by
 show (intsOf (ns.map D.int)).bind _=_;rw[q0j];exact vH h
end Hk
namespace L2
open PySem PySem.Spec PyProof.Rows
section
variable{κ:Type}[DecidableEq κ]
noncomputable def X6(kvs:List (κ×V))(k:κ):Option V:=(kvs.find? λkv=>decide (kv.1=k)).map (·.2)
noncomputable def putK(kvs:List (κ×V))(k:κ)(v:V):List (κ×V) :=
 if (kvs.any λkv=>decide (kv.1=k))=true then kvs.map (λkv=>if kv.1=k then (kv.1,v)else kv)else kvs++[(k,v)]
theorem q2V{p:κ×V}{r:List (κ×V)}{k:κ}(e:p.1=k):X6 (p::r) k=some p.2:=by simp[X6,xF,e]
theorem q2U{p:κ×V}{r:List (κ×V)}{k:κ}(e:¬p.1=k):X6 (p::r) k=X6 r k:=by simp[X6,xF,e]
theorem q7d(k:κ):∀kvs:List (κ×V),(kvs.any λkv=>decide (kv.1=k))=(X6 kvs k).isSome
 | []=>rfl
 | p::r=>by
  rw[xU]
  by_cases e:p.1=k
  ·simp only[q2V e,vU e,ZW,Option.isSome_some]
  ·rw[q2U e,vW e,ZC];exact q7d k r
theorem q2y(kvs:List (κ×V))(k:κ)(v:V):(putK kvs k v).length<=kvs.length+1:=by
 unfold putK
 split
 ·rw[zB];omega
 ·rw[zG,zM,xu];omega
theorem Wa.isSome_eq{o:Option V}{u:Option vB}(r:Wa o u):o.isSome=u.isSome:=by
 cases o with
 | none=>cases u with
  | none=>rfl
  | some _=>exact(show False from r).elim
 | some _=>cases u with
  | none=>exact(show False from r).elim
  | some _=>rfl
theorem KV.val{kvs:List (κ×V)}{vs:List (κ×vB)}(r:KV kvs vs)(k:κ):Wa (X6 kvs k) (tQ vs k):=by
 unfold KV at r
 induction r with
 | nil=>exact True.intro
 | @cons p q ps qs h t ih=>
  obtain⟨h1,h2⟩:=h
  by_cases e:p.1=k
  ·have e':q.1=k:=h1.symm.trans e
   have b:tQ (q::qs) k=some q.2:=by simp[tQ,xF,e']
   rw[q2V e,b];exact h2
  ·have e':¬q.1=k:=λz=>e (h1.trans z)
   have b:tQ (q::qs) k=tQ qs k:=by simp[tQ,xF,e']
   rw[q2U e,b];exact ih
theorem KV.any{kvs:List (κ×V)}{vs:List (κ×vB)}(r:KV kvs vs)(k:κ):(kvs.any λkv=>decide (kv.1=k))=vs.any λkv=>decide (kv.1=k):=by
 unfold KV at r
 induction r with
 | nil=>rfl
 | cons h t ih=>rw[xU,xU,ih,h.1]
theorem KV.repl{kvs:List (κ×V)}{vs:List (κ×vB)}(r:KV kvs vs)(k:κ){y:V}{u:vB}(ry:RelV y u):
  KV (kvs.map λkv=>if kv.1=k then (kv.1,y)else kv) (vs.map λkv=>if kv.1=k then (kv.1,u)else kv):=by
 unfold KV at r ⊢
 induction r with
 | nil=>exact .nil
 | @cons p q ps qs h t ih=>
  rw[zU,zU];refine .cons ?_ ih;obtain⟨h1,h2⟩:=h
  by_cases e:p.1=k
  ·rw[vH e,vH (h1.symm.trans e)];exact⟨h1,ry⟩
  ·rw[vJ e,vJ (λz=>e (h1.trans z))];exact⟨h1,h2⟩
theorem KV.put{kvs:List (κ×V)}{vs:List (κ×vB)}(r:KV kvs vs)(k:κ){y:V}{u:vB}(ry:RelV y u):KV (putK kvs k y) (stored vs k u):=by
 unfold putK stored;rw[r.any k]
 by_cases e:(vs.any λkv=>decide (kv.1=k))=true
 ·rw[vH e,vH e];exact r.repl k ry
 ·rw[vJ e,vJ e];exact Paired.snoc r ⟨rfl,ry⟩
theorem KV.keys{kvs:List (κ×V)}{vs:List (κ×vB)}(r:KV kvs vs):kvs.map (·.1)=vs.map (·.1):=by
 unfold KV at r
 induction r with
 | nil=>rfl
 | cons h t ih=>rw[zU,zU,ih,h.1]
theorem KV.length{kvs:List (κ×V)}{vs:List (κ×vB)}(r:KV kvs vs):kvs.length=vs.length:=Paired.length r
end
theorem q4x{P:vO}{w:vT}{k:Key}{u:vB}(r:RelV (kV k) u):(YN P w).is k u=true:=by
 cases k with
 | inl i=>obtain⟨t,e⟩:=(show ∃t,u=Value.int i t from r);subst e;exact q7s P w i t
 | inr x=>obtain⟨t,e⟩:=(show ∃t,u=Value.str x t from r);subst e;exact q7r P w x t
theorem q5D{P:vO}{w:vT}:∀{ks:List Key}{us:List vB},YO (ks.map kV) us->ItemsAre (YN P w) ks us
 | [],_,r=>by rw[yX]at r;cases r;exact .nil
 | k::ks,_,r=>by
  rw[zU]at r;cases r with
  | cons h t=>exact .cons (q4x h) (q5D t)
abbrev KT(H:Hp):List (List Key×V)->List (List Key×vG×vB)->Prop:=tm λp q=>p.1=q.1/\H q.2.1=some (.tup (p.1.map kV))/\RelV p.2 q.2.2
theorem KT.val{H:Hp}{kvs:List (List Key×V)}{xs:List (List Key×vG×vB)}(r:KT H kvs xs)(k:List Key):Wa (X6 kvs k) ((t5 xs k).map (·.2)):=by
 induction r with
 | nil=>exact True.intro
 | @cons p q ps qs h t ih=>
  obtain⟨h1,_,h2⟩:=h
  by_cases e:p.1=k
  ·have e':q.1=k:=h1.symm.trans e
   have b:t5 (q::qs) k=some q.2:=by simp[t5,xF,e']
   rw[q2V e,b];exact h2
  ·have e':¬q.1=k:=λz=>e (h1.trans z)
   have b:t5 (q::qs) k=t5 qs k:=by simp[t5,xF,e']
   rw[q2U e,b];exact ih
theorem KT.repl{H:Hp}{kvs:List (List Key×V)}{xs:List (List Key×vG×vB)}(r:KT H kvs xs)(k:List Key){y:V}{u:vB}(ry:RelV y u):
  KT H (kvs.map λkv=>if kv.1=k then (kv.1,y)else kv) (xs.map (putAt k u)):=by
 induction r with
 | nil=>exact .nil
 | @cons p q ps qs h t ih=>
  rw[zU,zU];refine .cons ?_ ih;obtain⟨h1,h2,h3⟩:=h;unfold putAt
  by_cases e:p.1=k
  ·rw[vH e,vH (h1.symm.trans e)];exact⟨h1,h2,ry⟩
  ·rw[vJ e,vJ (λz=>e (h1.trans z))];exact⟨h1,h2,h3⟩
theorem KT.put{H:Hp}{kvs:List (List Key×V)}{xs:List (List Key×vG×vB)}(r:KT H kvs xs)(k:List Key){b:vG}{y:V}{u:vB}(hb:H b=some (.tup (k.map kV)))(ry:RelV y u):
  KT H (putK kvs k y) (storedH xs k b u):=by
 have e:(kvs.any λkv=>decide (kv.1=k))=(t5 xs k).isSome:=by
  rw[q7d,(r.val k).isSome_eq,ZX]
 unfold putK storedH;rw[e]
 by_cases q:(t5 xs k).isSome=true
 ·rw[vH q,vH q];exact r.repl k ry
 ·rw[vJ q,vJ q];exact Paired.snoc r ⟨rfl,hb,ry⟩
theorem KT.keeps{H H':Hp}{kvs:List (List Key×V)}{xs:List (List Key×vG×vB)}(r:KT H kvs xs)(ht:∀b ys,H b=some (.tup ys)->H' b=some (.tup ys)):KT H' kvs xs :=
 Paired.mapP r λ_ _ z=>⟨z.1,ht _ _ z.2.1,z.2.2⟩
section
variable{P:vO}{w:vT}{H:Hp}{h:vZ}{a:vG}
theorem qcs{u:HO}(ok:HOk P w H h)(e:Rd H a u):YQ P w H h a u:=e.ok ok
theorem q4K{kvs:List (Key×V)}(ok:HOk P w H h)(e:Rd H a (.dK kvs)):kvs.length<=sizeLine/\(a==v8)=false/\∃vs,KV kvs vs/\h.DictOf (YN P w) a vs :=
 show YQ P w H h a (.dK kvs)from qcs ok e
theorem qcO{kvs:List (Key×V)}(ok:HOk P w H h)(e:H a=some (.dK kvs)):kvs.length<=sizeLine/\(a==v8)=false/\∃vs,KV kvs vs/\h.DictOf (YN P w) a vs:=q4K ok (.inl e)
theorem q4p{ks:List Key}(ok:HOk P w H h)(e:H a=some (.tup (ks.map kV))):(tN (YN P w)).is h ks a:=by
 obtain⟨_,its,r,o,h1,h2,n,h3⟩:=(show YQ P w H h a (.tup (ks.map kV))from ok a _ e);exact⟨o,its.toArray,n,h1,h2,h3,by simpa using q5D r⟩
theorem q65{kvs:List (List Key×V)}(ok:HOk P w H h)(e:Rd H a (.dT kvs)):kvs.length<=sizeLine/\(a==v8)=false /\
  ∃xs,KT H kvs xs/\h.DictOfH (tN (YN P w)) a xs:=by
 obtain⟨z,y,xs,r,o,es,ep,h1,h2,h3,h4,h5⟩:=(show YQ P w H h a (.dT kvs)from qcs ok e);refine⟨z,y,xs,r,o,es,ep,h1,h2,h3,h4,λx hx=>?_,h5⟩;have all:∀{l:List (List Key×V)}{m:List (List Key×vG×vB)},KT H l m->∀x∈m,(tN (YN P w)).is h x.1 x.2.1:=by
  intro l m q
  induction q with
  | nil=>intro x hx;exact nomatch hx
  | @cons p q ps qs hq t ih=>
   intro x hx;rcases zE.mp hx with e|hx
   ·subst e
    exact q4p ok (by rw[<- hq.1];exact hq.2.1)
   ·exact ih x hx
 exact all r x hx
theorem qfL{kvs:List (List Key×V)}(ok:HOk P w H h)(e:H a=some (.dT kvs)):kvs.length<=sizeLine/\(a==v8)=false /\
  ∃xs,KT H kvs xs/\h.DictOfH (tN (YN P w)) a xs:=q65 ok (.inl e)
end
def WL(H:Hp)(a:vG)(y:V)(r:Option V):Prop :=
 (∃kvs k,Rd H a (.dK kvs)/\y=kV k/\r=X6 kvs k)\/∃kvs k b,Rd H a (.dT kvs)/\y=.ref b/\H b=some (.tup (k.map kV))/\r=X6 kvs k
def zAY(H:Hp)(a:vG)(y v:V)(H':Hp):Prop :=
 (∃kvs k,H a=some (.dK kvs)/\y=kV k/\kvs.length<sizeLine/\H'=upd H a (.dK (putK kvs k v))) \/
 ∃kvs k b,H a=some (.dT kvs)/\y=.ref b/\H b=some (.tup (k.map kV))/\kvs.length<sizeLine/\H'=upd H a (.dT (putK kvs k v))
theorem WL.k{H:Hp}{a:vG}{kvs:List (Key×V)}{k:Key}(e:H a=some (.dK kvs)):WL H a (kV k) (X6 kvs k):=.inl ⟨kvs,k,.inl e,rfl,rfl⟩
theorem zAY.k{H:Hp}{a:vG}{kvs:List (Key×V)}{k:Key}{v:V}(e:H a=some (.dK kvs))(hl:kvs.length<sizeLine):zAY H a (kV k) v (upd H a (.dK (putK kvs k v))):=.inl ⟨kvs,k,e,rfl,hl,rfl⟩
section
variable{X:Cx}{pins:List (vG×Obj)}{σ:St}{H:Hp}{s:vC}{a:vG}{y v:V}{u r:vB}{o:Option V}{A:vY}{E:vB->vC->Prop}
theorem Inv.big(I:Inv X pins σ H s):v8<s.heap.objs.size:=by
 have h:vQ<s.heap.objs.size:=(I.mod.glob.keeps I.bk).lt;exact ZS (by decide) h
theorem qa3{Q:vB->vC->Prop}(hu:A.units+1<ue)(I:Inv X pins σ H s)(g:WL H a y (some v))(ry:RelV y u)(h:∀w' s',Inv X pins σ H s'->RelV v w'->Q w' s'):
  vL (model X.prog X.w) A (um (.ref a) u) Q E s:=by
 rcases g with⟨kvs,k,e,ey,l⟩|⟨kvs,k,b,e,ey,eb,l⟩
 ·subst ey
  obtain⟨z,hd,vs,rel,dd⟩:=q4K I.hok e;obtain⟨w',hw,rw'⟩:=Wa.some_of (v:=v) (o:=tQ vs k) (by rw[l];exact rel.val k);exact wpAny_getItem_of (q4x ry) dd.mapOf hw (h w' _ (I.tok _) rw')
 ·subst ey
  cases (show u=Value.ref b from ry);obtain⟨z,hd,xs,rel,dd⟩:=q65 I.hok e;obtain⟨w',hw,rw'⟩:=Wa.some_of (v:=v) (o:=(t5 xs k).map (·.2)) (by rw[l];exact rel.val k);obtain⟨p,hp,hp2⟩:=xf.mp hw;refine wpAny_getItem_heap (uw hu) (q4p I.hok eb) dd hp ?_;rw[hp2];exact h w' _ (I.tok _) rw'
theorem qe9{Q:vB->vC->Prop}(hu:A.units+1<ue)(I:Inv X pins σ H s)(g:WL H a y o)(ry:RelV y u)(h:∀s',Inv X pins σ H s'->Q (.bool (!o.isSome)) s'):
  vL (model X.prog X.w) A (uN .NotIn u (.ref a)) Q E s:=by
 rcases g with⟨kvs,k,e,ey,l⟩|⟨kvs,k,b,e,ey,eb,l⟩
 ·subst ey
  obtain⟨z,hd,vs,rel,dd⟩:=q4K I.hok e;refine wpAny_notIn_of (q4x ry) hd dd.mapOf ?_;rw[<- (rel.val k).isSome_eq,<- l];exact h _ (I.tok _)
 ·subst ey
  cases (show u=Value.ref b from ry);obtain⟨z,hd,xs,rel,dd⟩:=q65 I.hok e;refine wpAny_notIn_heap (uw hu) (q4p I.hok eb) hd dd ?_;have q:=(rel.val k).isSome_eq;rw[ZX]at q;rw[<- q,<- l];exact h _ (I.tok _)
theorem q4M{h':vZ}{t':Nat}{ob:HO}(I:Inv X pins σ H s)(mu:Mut (H a))(hs:yy a s.heap h')(he:∃q,h'.get? a=some q)(new:YQ X.prog X.w (upd H a ob) h' a ob):
  Inv X pins σ (upd H a ob) { s with heap:=h',toks:=t' } :=
 I.write (x:=a) (e:=a) mu (.inl rfl) (λb q hb z=>(hs.2 b hb).trans z) he new
theorem q9E{P:vO}{w:vT}{H':Hp}{h':vZ}{kvs:List (Key×V)}{vs:List (Key×vB)}(z:kvs.length<=sizeLine)(hd:(a==v8)=false)(rel:KV kvs vs)(dd:h'.DictOf (YN P w) a vs):
  YQ P w H' h' a (.dK kvs):=⟨z,hd,vs,rel,dd⟩
theorem q9Y{H':Hp}{Q:Unit->vC->Prop}(hu:A.units+1<ue)(I:Inv X pins σ H s)(g:zAY H a y v H')(ry:RelV y u)(rv:RelV v r)(h:∀s',Inv X pins σ H' s'->Q () s'):
  vL (model X.prog X.w) A (setItem (.ref a) u r) Q E s:=by
 rcases g with⟨kvs,k,e,ey,l,eH⟩|⟨kvs,k,b,e,ey,eb,l,eH⟩
 ·subst ey eH
  obtain⟨z,hd,vs,rel,dd⟩:=qcO I.hok e;have hz:vs.length<=sizeLine:=by rw[<- rel.length];exact z
  have hl:(putK kvs k v).length<=sizeLine:=by have:=q2y kvs k v;omega
  refine wpAny_setItem_pairs (hsz:=hz) (q4x ry) dd λh' dd' hs=>h _ ?_;have he:∃q,h'.get? a=some q:=let ⟨q,_,_,hq,_⟩:=dd';⟨q,hq⟩
  exact q4M I (by rw[e];exact True.intro) hs he (q9E hl hd (rel.put k rv) dd')
 ·subst ey eH
  cases (show u=Value.ref b from ry);obtain⟨z,hd,xs,rel,dd⟩:=qfL I.hok e;have hz:xs.length<=sizeLine:=by rw[<- Paired.length rel];exact z
  have hl:(putK kvs k v).length<=sizeLine:=by have:=q2y kvs k v;omega
  refine wpAny_setItem_heap (hsz:=hz) (uw hu) (q4p I.hok eb) dd λh' dd' hs=>h _ ?_;obtain⟨q,es,ep,hq,h2,h3,h4,_,h5⟩:=dd';refine q4M I (by rw[e];exact True.intro) hs ⟨q,hq⟩ ⟨hl,hd,_,(rel.put k eb rv).keeps λc ys ec=>?_,q,es,ep,hq,h2,h3,h4,h5⟩;rw[qb (qfP ec e (λz=>nomatch z))];exact ec
end
section
variable{X:Cx}{pins:List (vG×Obj)}{σ:St}{H:Hp}{s:vC}{a:vG}{kvs:List (Key×V)}{k:Key}{u:vB}{A:vY}{E:vB->vC->Prop}
end
def NoSl(i:vP):Prop:=∀ov iv,subscripted i false ov iv=operate [ov,iv] (um ov iv)
theorem qdf{prog:vO}{w:vT}{A:vY}{E:vB->vC->Prop}{s:vC}{env:Env}{value slice:vP}{pos:Pos}{T id:String}{Q:vB->vC->Prop}(hl:u9 (.type T) "__getitem__" = pure (some (.builtin id)))(hs:NoSl slice)(h:vL (model prog w) A (eval value env) (λo s₁=>vL (model prog w) A (eval slice env) (λi s₂=>s₂.TypeIs o T/\vL (model prog w) A (um o i) Q E s₂) E s₁) E s):
  vL (model prog w) A (eval (.Subscript value slice pos) env) Q E s:=by
 refine Subscript_ (vh h (λo s₁ h₁=>vh h₁ (λi s₂ h₂=>?_) λ_ _ x=>x) λ_ _ x=>x);obtain⟨hT,h₂⟩:=h₂;unfold tS;refine vA ?_;rw[getitemInPython_of_ne hT.not_modules];refine vA (uk hT hl ?_);have fin:vL (model prog w) A (subscripted slice false o i) (λr s₃=>vL (model prog w) A (letTemporaryGo value o r >>= λ_=>pure r) Q E s₃) E s₂:=by
  rw[hs o i];exact wpAny_operating (vh h₂ (λr s₃ h₃=>vA (wpAny_letTemporaryGo (vF h₃))) λ_ _ x=>x)
 first
  | exact vF (vA fin)
  | exact vA (vF (vA fin))
  | exact vA fin
theorem q7u{X:Cx}{pins:List (vG×Obj)}{σ:St}{H:Hp}{s:vC}{a:vG}{y:V}{o:Option V}(I:Inv X pins σ H s)(g:WL H a y o):s.TypeIs (.ref a) "dict" := by
 rcases g with⟨kvs,k,e,_,_⟩|⟨kvs,k,b,e,_,_,_⟩
 ·obtain⟨_,_,vs,_,dd⟩:=q4K I.hok e
  exact dd.typeIs
 ·obtain⟨_,_,xs,_,dd⟩:=q65 I.hok e
  exact dd.typeIs
noncomputable def tDGet(td ty:TE):TE:=λσ H Q=>td σ H λx H1=>ty σ H1 λy H2=>∃a v,x=.ref a/\WL H2 a y (some v)/\Q v H2
noncomputable def tDIn(ty td:TE):TE:=λσ H Q=>ty σ H λy H1=>td σ H1 λx H2=>∃a o,x=.ref a/\WL H2 a y o/\Q (.bl o.isSome) H2
noncomputable def Wg(ty td:TE):TE:=λσ H Q=>ty σ H λy H1=>td σ H1 λx H2=>∃a o,x=.ref a/\WL H2 a y o/\Q (.bl (!o.isSome)) H2
noncomputable def sDPut(td ty tv:TE):TS:=λD σ H=>tv σ H λv H1=>td σ H1 λx H2=>ty σ H2 λy H3=>∃a H4,x=.ref a/\zAY H3 a y v H4/\D.nx σ H4
section
variable{X:Cx}{o i e value:vP}{pos pos' tpos:Pos}{td ty tv:TE}
theorem q4Y(hu:X.A.units+1<ue)(ho:PE X o td)(hi:PE X i ty)(hs:NoSl i):PE X (.Subscript o i pos) (tDGet td ty):=by
 intro pins s σ H Q I h;refine qdf PySem.F.slot_dict_getitem.lookup hs (thn (ho pins s σ H _ I h) λu s1 ⟨x,H1,I1,rx,q1⟩=>thn (hi pins s1 σ H1 _ I1 q1) λiv s2 ⟨y,H2,I2,ry,a,v,ex,g,q2⟩=>?_);subst ex;obtain rfl:u=Value.ref a:=rx;exact⟨q7u I2 g,qa3 hu I2 g ry λw' s3 I3 rw'=>⟨v,H2,I3,rw',q2⟩⟩
theorem q9H(hu:X.A.units+1<ue)(hi:PE X i ty)(ho:PE X o td):PC X .NotIn i o (Wg ty td):=by
 intro pins s σ H Q I h;refine thn (hi pins s σ H _ I h) λiv s1 ⟨y,H1,I1,ry,q1⟩=>thn (ho pins s1 σ H1 _ I1 q1) λu s2 ⟨x,H2,I2,rx,a,ov,ex,g,q2⟩=>?_;subst ex;obtain rfl:u=Value.ref a:=rx;exact qe9 hu I2 g ry λs3 I3=>⟨.bl (!ov.isSome),H2,I3,rfl,q2⟩
theorem q8x(hu:X.A.units+1<ue)(ho:PE X o td)(hi:PE X i ty)(hv:PE X value tv)(hs:vv value (some (.Subscript o i pos')) pos.line X.env=pure false):
  PS X (.Assign [.Subscript o i pos'] value pos) (sDPut td ty tv):=by
 intro pins s σ H D I h;refine wpAny_Assign_Subscript (thn (hv pins s σ H _ I h) λr s1 ⟨v,H1,I1,rv,q1⟩=>thn (ho pins s1 σ H1 _ I1 q1) λu s2 ⟨x,H2,I2,rx,q2⟩=>thn (hi pins s2 σ H2 _ I2 q2) λiv s3 ⟨y,H3,I3,ry,a,H4,ex,g,q3⟩=>?_) hs;subst ex;obtain rfl:u=Value.ref a:=rx;exact q9Y hu I3 g ry rv λs4 I4=>⟨σ,H4,I4,q3⟩
end
theorem q6e{P:vO}{w:vT}{H:Hp}(h:vZ)(hb:v8<h.objs.size):YQ P w H (h.push { cls:=.type "dict", data:=.dict #[] }) h.objs.size (.dK []) :=
 ⟨yL _,beq_eq_false_iff_ne.mpr (Ne.symm (zi hb)),[],.nil,Heap.DictOf.new h⟩
noncomputable def tDNewK:TE:=λ_ H Q=>∀p,H p=none->Q (.ref p) (upd H p (.dK []))
section
variable{X:Cx}{pos:Pos}
theorem q6k:PE X (.Dict [] [] pos) tDNewK:=λpins s σ H Q I h=>
 wpAny_Dict_empty ⟨.ref s.heap.objs.size,_,I.laid (a:=s.heap.objs.size) (o:=.dK []) (t':=s.toks) (λ_ _ q=>zD _ q) (zN _) (q6e s.heap I.big),rfl,h _ (I.hok.fresh (zN _))⟩
end
def WT:List (TE×TE)->St->Hp->(List (V×V)->Hp->Prop)->Prop
 | [],_,H,Q=>Q [] H
 | (tk,tv)::r,σ,H,Q=>tk σ H λx H1=>tv σ H1 λy H2=>WT r σ H2 λps H3=>Q ((x,y)::ps) H3
abbrev VV:List (V×V)->List (vB×vB)->Prop:=tm λp q=>RelV p.1 q.1/\RelV p.2 q.2
def PPs(X:Cx)(pos:Pos)(keys:List (Option vP))(values:List vP)(trs:List (TE×TE)):Prop :=
 ∀(pins:List (vG×Obj))(s:vC)(σ:St)(H:Hp)(Q:List (V×V)->Hp->Prop),Inv X pins σ H s->WT trs σ H Q ->
  vL (model X.prog X.w) X.A (evalPairs (pairTrees keys values X.env pos)) (λvs s'=>∃ps H',Inv X pins σ H' s'/\VV ps vs/\Q ps H') X.xe s
theorem qdQ{X:Cx}{pos:Pos}:PPs X pos [] [] []:=λpins s σ H Q I h=>pairTrees_nil_walk ⟨[],H,I,.nil,h⟩
theorem qbJ{X:Cx}{pos:Pos}{k v:vP}{ks:List (Option vP)}{vs:List vP}{tk tv:TE}{trs:List (TE×TE)}(hk:PE X k tk)(hv:PE X v tv)(hr:PPs X pos ks vs trs):
  PPs X pos (some k::ks) (v::vs) ((tk,tv)::trs):=λpins s σ H Q I h=>
 pairTrees_cons_walk (thn (hk pins s σ H _ I h) λu s1 ⟨x,H1,I1,rx,q1⟩=>thn (hv pins s1 σ H1 _ I1 q1) λw2 s2 ⟨y,H2,I2,ry,q2⟩=>
  thn (hr pins s2 σ H2 _ I2 q2) λws s3 ⟨ps,H3,I3,rel,q3⟩=>⟨(x,y)::ps,H3,I3,.cons ⟨rx,ry⟩ rel,q3⟩)
noncomputable def Xa(kvs more:List (Key×V)):List (Key×V):=more.foldl (λacc kv=>putK acc kv.1 kv.2) kvs
theorem KV.merge:∀{more:List (Key×V)}{rs:List (Key×vB)}{kvs:List (Key×V)}{vs:List (Key×vB)},KV more rs->KV kvs vs->KV (Xa kvs more) (merged vs rs):=by
 intro more rs kvs vs r;unfold KV at r
 induction r generalizing kvs vs with
 | nil=>intro q;exact q
 | @cons p q ps qs h t ih=>
  intro r0;have e:KV (putK kvs p.1 p.2) (stored vs q.1 q.2):=by
   have:=r0.put p.1 h.2;rw[<- h.1];exact this
  exact ih e
theorem q3a:∀(more kvs:List (Key×V)),(Xa kvs more).length<=kvs.length+more.length
 | [],kvs=>by show kvs.length<=kvs.length+0;omega
 | p::r,kvs=>by
  have h1:=q3a r (putK kvs p.1 p.2);have h2:=q2y kvs p.1 p.2;show (Xa (putK kvs p.1 p.2) r).length<=_;rw[zM];omega
theorem q4D{P:vO}{w:vT}:∀{kvs:List (Key×V)}{ws:List (vB×vB)},VV (kvs.map λkv=>(kV kv.1,kv.2)) ws->∃rs,Carries (YN P w) ws rs/\KV kvs rs
 | [],_,r=>by rw[yX]at r;cases r;exact⟨[],True.intro,.nil⟩
 | p::kvs,_,r=>by
  rw[zU]at r;cases r with
  | @cons a b as bs h t=>
   obtain⟨rs,c,q⟩:=q4D (P:=P) (w:=w) t;obtain⟨b1,b2⟩:=b;exact⟨(p.1,b2)::rs,⟨q4x h.1,rfl,c⟩,.cons ⟨rfl,h.2⟩ q⟩
noncomputable def tDisp(trs:List (TE×TE)):TE:=λσ H Q=>∀p,H p=none->WT trs σ (upd H p (.dK [])) λps H2=>H2 p=some (.dK [])/\∃kvs:List (Key×V),ps=kvs.map (λkv=>(kV kv.1,kv.2))/\kvs.length<=15/\Q (.ref p) (upd H2 p (.dK (Xa [] kvs)))
theorem qdI{X:Cx}{pos:Pos}{keys:List (Option vP)}{values:List vP}{trs:List (TE×TE)}(h:PPs X pos keys values trs)(hall:keys.all (·.isSome)=true)(hl:keys.length=values.length)(h0:keys≠[])(h15:keys.length<=15):PE X (.Dict keys values pos) (tDisp trs):=by
 intro pins s σ H Q I q;have hn:=I.hok.fresh (zN s.heap.objs.size);have I1:=I.laid (a:=s.heap.objs.size) (o:=.dK []) (h':=s.heap.push { cls:=.type "dict", data:=.dict #[] }) (t':=s.toks) (λ_ _ q=>zD _ q) (zN _) (q6e s.heap I.big);refine wpAny_Dict_walk (knd:=YN X.prog X.w) hall hl h0 h15 (thn (h pins _ σ _ _ I1 (q _ hn)) λws s2 ⟨ps,H2,I2,rel,e,kvs,ep,lk,q2⟩=>?_);subst ep;obtain⟨rs,c,rk⟩:=q4D (P:=X.prog) (w:=X.w) rel;obtain⟨z,hd,vs0,r0,dd⟩:=qcO I2.hok e;cases r0;refine⟨rs,c,dd,λh' dd' hs=>⟨.ref s.heap.objs.size,_,?_,rfl,q2⟩⟩;have hz:(Xa [] kvs).length<=sizeLine:=by
  have h1:=q3a kvs [];rw[xu]at h1;rw[vn];omega
 have he:∃q,h'.get? s.heap.objs.size=some q:=let ⟨q,_,_,hq,_⟩:=dd';⟨q,hq⟩
 exact q4M I2 (by rw[e];exact True.intro) hs he (q9E hz hd (rk.merge .nil) dd')
section
variable{X:Cx}{pins:List (vG×Obj)}{σ:St}{H:Hp}{s:vC}{a:vG}{y d:V}{u r:vB}{o:Option V}{A:vY}{E:vB->vC->Prop}
end
section
variable{X:Cx}{o e f:vP}{apos cpos:Pos}{td ty tx:TE}
end
section
variable{X:Cx}{pins:List (vG×Obj)}{σ:St}{H:Hp}{s:vC}{a:vG}{kvs:List (Key×V)}{A:vY}{E:vB->vC->Prop}
end
section
variable{X:Cx}{pins:List (vG×Obj)}{σ:St}{H:Hp}{s:vC}{a:vG}{y:V}{u:vB}{A:vY}{E:vB->vC->Prop}
end
end L2
namespace Hk
open PySem L2
noncomputable def YT{α:Type}:List Int->List α->Int->Option α
 | k'::ks,x::xs,k=>if k'=k then some x else YT ks xs k
 | _,_,_=>none
noncomputable def repA{α:Type}:List Int->List α->Int->α->List α
 | k'::ks,x::xs,k,y=>(if k'=k then y else x)::repA ks xs k y
 | _,xs,_,_=>xs
noncomputable def Y0(ks:List Int)(k:Int):List Int:=if k∈ks then ks else ks++[k]
noncomputable def putA{α:Type}(ks:List Int)(xs:List α)(k:Int)(y:α):List α:=if k∈ks then repA ks xs k y else xs++[y]
theorem q6v{α:Type}:∀(ks:List Int)(xs:List α)(k:Int)(y:α),(repA ks xs k y).length=xs.length
 | [],xs,_,_=>rfl
 | _::_,[],_,_=>rfl
 | k'::ks,x::xs,k,y=>by show (repA ks xs k y).length+1=xs.length+1;rw[q6v ks xs k y]
theorem qdc{α:Type}{ks:List Int}{xs:List α}(k:Int)(y:α)(h:ks.length=xs.length):(Y0 ks k).length=(putA ks xs k y).length:=by
 unfold Y0 putA
 by_cases z:k∈ks
 ·rw[vH z,vH z,q6v];exact h
 ·rw[vJ z,vJ z,zG,zG,h];rfl
theorem q2g:∀{ks:List Int}{vs:List V},ks.length=vs.length->∀k,X6 (kvsOf ks vs) (Sum.inl k)=YT ks vs k
 | [],[],_,k=>rfl
 | [],_::_,h,_=>by simp at h
 | _::_,[],h,_=>by simp at h
 | k'::ks,v::vs,h,k=>by
  show X6 ((Sum.inl k',v)::kvsOf ks vs) (Sum.inl k)=if k'=k then some v else YT ks vs k
  by_cases z:k'=k
  ·rw[vH z,q2V (p:=((Sum.inl k':Key),v)) (by rw[z])]
  ·rw[vJ z,q2U (p:=((Sum.inl k':Key),v)) (λe=>z (Sum.inl.inj e))]
   exact q2g ⇑h k
theorem q2d:∀{ks:List Int}{vs:List V},ks.length=vs.length->(kvsOf ks vs).length=ks.length
 | [],[],_=>rfl
 | [],_::_,h=>by simp at h
 | _::_,[],h=>by simp at h
 | k'::ks,v::vs,h=>by show (kvsOf ks vs).length+1=_;rw[q2d ⇑h];rfl
theorem q4L:∀{ks:List Int}{vs:List V},ks.length=vs.length->(kvsOf ks vs).map (·.1)=ks.map (Sum.inl:Int->Key)
 | [],[],_=>rfl
 | [],_::_,h=>by simp at h
 | _::_,[],h=>by simp at h
 | k'::ks,v::vs,h=>by show (Sum.inl k':Key)::(kvsOf ks vs).map (·.1)=_;rw[q4L ⇑h];rfl
theorem q5m:∀{ks:List Int}{vs:List V},ks.length=vs.length->∀k,(kvsOf ks vs).any (λkv=>decide (kv.1=(Sum.inl k:Key)))=decide (k∈ks)
 | [],[],_,_=>rfl
 | [],_::_,h,_=>by simp at h
 | _::_,[],h,_=>by simp at h
 | k'::ks,v::vs,h,k=>by
  show (decide ((Sum.inl k':Key)=Sum.inl k) || (kvsOf ks vs).any _)=_;rw[q5m ⇑h k];have e:decide ((Sum.inl k':Key)=Sum.inl k)=decide (k'=k):=by
   by_cases z:k'=k
   ·rw[z];simp
   ·rw[vW z,vW (λe=>z (Sum.inl.inj e))]
  rw[e];simp only[zE]
  by_cases z:k'=k
  ·simp[z]
  ·have:¬k=k':=λy=>z y.symm
   simp[z,this]
theorem q5Q:∀{ks:List Int}{vs:List V},ks.length=vs.length->∀(k:Int)(v:V),(kvsOf ks vs).map (λkv=>if kv.1=(Sum.inl k:Key)then (kv.1,v)else kv)=kvsOf ks (repA ks vs k v)
 | [],[],_,_,_=>rfl
 | [],_::_,h,_,_=>by simp at h
 | _::_,[],h,_,_=>by simp at h
 | k'::ks,u::vs,h,k,v=>by
  show (if (Sum.inl k':Key)=Sum.inl k then ((Sum.inl k':Key),v)else (Sum.inl k',u))::(kvsOf ks vs).map _=(Sum.inl k',if k'=k then v else u)::kvsOf ks (repA ks vs k v);rw[q5Q ⇑h k v]
  by_cases z:k'=k
  ·rw[vH (by rw[z]),vH z]
  ·rw[vJ (λe=>z (Sum.inl.inj e)),vJ z]
theorem q4y:∀{ks:List Int}{vs:List V},ks.length=vs.length->∀(k:Int)(v:V),kvsOf ks vs++[(Sum.inl k,v)]=kvsOf (ks++[k]) (vs++[v])
 | [],[],_,_,_=>rfl
 | [],_::_,h,_,_=>by simp at h
 | _::_,[],h,_,_=>by simp at h
 | k'::ks,u::vs,h,k,v=>by show _::(kvsOf ks vs++[(Sum.inl k,v)])=_;rw[q4y ⇑h k v];rfl
theorem q5u{ks:List Int}{vs:List V}(h:ks.length=vs.length)(k:Int)(v:V):putK (kvsOf ks vs) (Sum.inl k) v=kvsOf (Y0 ks k) (putA ks vs k v):=by
 unfold putK Y0 putA;rw[q5m h]
 by_cases z:k∈ks
 ·rw[vH (vU z),vH z,vH z];exact q5Q h k v
 ·rw[vJ (by rw[vW z];decide),vJ z,vJ z];exact q4y h k v
section
variable{K:zA}{G:Hp}
theorem YF.val:∀{ks:List Int}{ds:List D}{vs:List V}{k:Int}{d:D},YF K G ds vs->YT ks ds k=some d->∃v,YT ks vs k=some v/\Rep K G d v
 | [],_,_,_,_,_,e=>by cases e
 | _::_,[],_,_,_,_,e=>by cases e
 | k'::ks,d'::ds,_,k,d,⟨v,r,h1,h2,h3⟩,e=>by
  subst h1;have e:(if k'=k then some d' else YT ks ds k)=some d:=e;show ∃u,(if k'=k then some v else YT ks r k)=some u/\_
  by_cases z:k'=k
  ·rw[vH z]at e ⊢;cases e;exact⟨v,rfl,h2⟩
  ·rw[vJ z]at e ⊢;exact YF.val h3 e
theorem YF.isVal:∀{ks:List Int}{ds:List D}{vs:List V}(k:Int),YF K G ds vs->(YT ks vs k).isSome=(YT ks ds k).isSome
 | [],_,_,_,_=>rfl
 | _::_,[],_,_,h=>by cases (show _=[]from h);rfl
 | k'::ks,d'::ds,_,k,⟨v,r,h1,h2,h3⟩=>by
  subst h1;show (if k'=k then some v else YT ks r k).isSome=(if k'=k then some d' else YT ks ds k).isSome
  by_cases z:k'=k
  ·rw[vH z,vH z];rfl
  ·rw[vJ z,vJ z];exact YF.isVal k h3
theorem YF.repA:∀{ks:List Int}{ds:List D}{vs:List V}(k:Int){d:D}{v:V},YF K G ds vs->Rep K G d v->YF K G (Hk.repA ks ds k d) (Hk.repA ks vs k v)
 | [],_,_,_,_,_,h,_=>h
 | _::_,[],_,_,_,_,h,_=>by cases (show _=[]from h);rfl
 | k'::ks,d'::ds,_,k,d,v,⟨u,r,h1,h2,h3⟩,hv=>by
  subst h1;refine⟨_,_,rfl,?_,YF.repA k h3 hv⟩
  by_cases z:k'=k
  ·rw[vH z,vH z];exact hv
  ·rw[vJ z,vJ z];exact h2
theorem YF.putA{ks:List Int}{ds:List D}{vs:List V}(k:Int){d:D}{v:V}(h:YF K G ds vs)(hv:Rep K G d v):YF K G (Hk.putA ks ds k d) (Hk.putA ks vs k v):=by
 unfold Hk.putA
 by_cases z:k∈ks
 ·rw[vH z,vH z];exact h.repA k hv
 ·rw[vJ z,vJ z];exact h.app (YF.cons hv YF.nil)
end
noncomputable def XR:Option (Option W)->Option (List Int×List D)
 | some (some (.od ks ds))=>some (ks,ds)
 | some ↥(.dic ks ds)=>some (ks,ds)
 | _=>none
theorem q7S{H H':Hp}{p:vG}{u:HO}(e:YM H H')(h:Rd H p u):Rd H' p u:=by
 rcases h with h|⟨o,h⟩
 ·exact .inl (e _ _ h)
 ·exact .inr ⟨o,e _ _ h⟩
theorem q8N{H:Hp}{a:vG}{kvs:List (Key×V)}{k:Key}(e:Rd H a (.dK kvs)):WL H a (kV k) (X6 kvs k):=.inl ⟨kvs,k,e,rfl,rfl⟩
theorem Own.dic{K:zA}{G0:Hp}{H0:Fr}{G:Hp}{ω:WSt}{σ:St}{H:Hp}{i:Nat}{ks:List Int}{ds:List D}(o:Own K G0 H0 G ω σ H)(h:XR ω[i]?=some (ks,ds)):
  ∃p vs,σ[i]?=some (some (.ref p))/\Rd H p (.dK (kvsOf ks vs))/\ks.length=ds.length/\YF K G ds vs:=by
 unfold XR at h
 split at h
 ·rename_i q
  cases h;obtain⟨p,vs,h1,h2,_,_,h5,h6,_⟩:=o.od i _ _ q;exact⟨p,vs,h1,.inl h2,h5,h6⟩
 ·rename_i q
  cases h;obtain⟨v,h1,p,vs,rfl,⟨ob,h2⟩,h3,h4⟩:=o.sh i _ q;exact⟨p,vs,h1,.inr ⟨ob,o.gh _ _ h2⟩,h3,h4⟩
 ·cases h
section
variable{X:Cx}{o k e:vP}{pos pos' dpos:Pos}{i:Nat}{fk fv:FD}
theorem hu1(hu:X.A.units+64<ue):X.A.units+1<ue:=∅
noncomputable def WU(i:Nat):FS:=λω=>some (.nx,ω.set i (some (.od [] [])))
theorem q5f{x:Str}(hN:X.N.Nodup)(hi:X.N[i]?=some x)(hx:Loc X.env.scope x)(hs:vv (.Dict [] [] dpos) (some (.Name x pos')) pos.line X.env=pure false:=by rfl)(hf:X.fn x=true\/X.env.scope.names.lookup x=some .local:=by first|exact .inl rfl|exact .inr rfl|assumption):
  XS X (.Assign [.Name x pos'] (.Dict [] [] dpos) pos) (WU i):=by
 refine⟨_,q3y hN hi hx q6k hs hf,λG0 H0 G ω σ H out ω' E ow e k=>?_⟩;cases e;intro p hp;have o1:=ow.keep (Ext.hide ow.gh hp (.dK []));refine k G _ _ (o1.setOd (ks:=[]) (ds:=[]) (vs:=[]) qe (ow.gh.free hp) (ow.ext.hh.free hp) rfl YF.nil λj ks' es hj z=>?_) (YM.refl _);obtain⟨q,us,h1,h2,_⟩:=ow.od j ks' es hj;rw[h1]at z;cases z;rw[hp]at h2;cases h2
noncomputable def WB(i:Nat)(fk fv:FD):FS:=λω=>(fv ω).bind λd=>(fk ω).bind λc=>match c,ω[i]? with
 | .int k,some (some (.od ks ds))=>if ks.length<1000000 then some (.nx,ω.set i (some (.od (Y0 ks k) (putA ks ds k d))))else none
 | _,_=>none
theorem q3F(hu:X.A.units+64<ue)(ho:PE X o (Y7 i))(hk:XD X k fk)(hv:XD X e fv)(hs:vv e (some (.Subscript o k pos')) pos.line X.env=pure false:=by rfl):XS X (.Assign [.Subscript o k pos'] e pos) (WB i fk fv):=by
 obtain⟨tk,h1,h2⟩:=hk;obtain⟨tv,h3,h4⟩:=hv;refine⟨_,q8x (hu1 hu) ho h1 h3 hs,λG0 H0 G ω σ H out ω' E ow e kk=>?_⟩;obtain⟨d,q1,e⟩:=bnd e;obtain⟨c,q2,e⟩:=bnd e;refine h4 G0 H0 G ω σ H d _ ow q1 λv G1 H1 x1 y1=>?_;cases c with
 | int k=>
  split at e
  ·rename_i _ _ _ k' ks ds ek q3
   cases ek
   by_cases z:ks.length<1000000
   ·rw[vH z]at e
    cases e;have o1:=ow.keep x1;obtain⟨p,vs,r1,r2,r3,r4,r5,r6,r7⟩:=o1.od i ks ds q3;refine⟨.ref p,r1,h2 G0 H0 G1 ω σ H1 _ _ o1 q2 λu G2 H2 x2 y2=>?_⟩;cases (show u=.int k from y2);have o2:=o1.keep x2;have hl:ks.length=vs.length:=by rw[r5];exact r6.len
    refine⟨p,_,rfl,zAY.k (k:=Sum.inl k) (x2.hh _ _ r2) (by rw[q2d hl,vn];omega),?_⟩;rw[q5u hl];exact kk G2 σ _ (o2.mutD q3 r1 (x2.hh _ _ r2) (x2.new p r3 (by rw[r2];exact λz=>by cases z)) r4 (qdc k d r5) ((r6.mono x2.gg).putA k (y1.mono x2.gg))) (x1.gg.trans x2.gg)
   ·rw[vJ z]at e;cases e
  ·cases e
 | _=>cases e
noncomputable def Xt(i:Nat)(fk:FD):FE:=λω=>(XR ω[i]?).bind λp=>(fk ω).bind λc=>match c with
 | .int k=>(YT p.1 p.2 k).map R.sh
 | _=>none
theorem q2M(hu:X.A.units+64<ue)(ho:PE X o (Y7 i))(hk:XD X k fk)(hs:NoSl k:=by intro _ _;rfl):XE X (.Subscript o k pos) (Xt i fk):=by
 obtain⟨tk,h1,h2⟩:=hk;refine⟨_,q4Y (hu1 hu) ho h1 hs,λG0 H0 G ω σ H r Q ow e kk=>?_⟩;obtain⟨⟨ks,ds⟩,q1,e⟩:=bnd e;obtain⟨c,q2,e⟩:=bnd e;obtain⟨p,vs,r1,r2,r3,r4⟩:=ow.dic q1;refine⟨.ref p,r1,h2 G0 H0 G ω σ H c _ ow q2 λu G1 H1 x1 y1=>?_⟩;cases c with
 | int k=>
  cases (show u=.int k from y1);obtain⟨d,q3,e⟩:=mpd e;subst e;obtain⟨v,z1,z2⟩:=r4.val q3;have hl:ks.length=vs.length:=by rw[r3];exact r4.len
  have g:=q8N (k:=(Sum.inl k:Key)) (q7S x1.hh r2);rw[q2g hl,z1]at g;exact⟨p,v,rfl,g,kk v G1 H1 x1 (z2.mono x1.gg)⟩
 | _=>cases e
noncomputable def We(neg:Bool)(i:Nat)(fk:FD):FT:=λω=>(fk ω).bind λc=>(XR ω[i]?).bind λp=>match c with
 | .int k=>some (if neg then !(YT p.1 p.2 k).isSome else (YT p.1 p.2 k).isSome)
 | _=>none
theorem qd4{tk:TE}{neg:Bool}(h2:zAa X.K tk fk):Xz X.K (tB (if neg then Wg tk (Y7 i)else L2.tDIn tk (Y7 i))) (We neg i fk):=by
 intro G0 H0 G ω σ H b Q ow e kk;obtain⟨c,q2,e⟩:=bnd e;obtain⟨⟨ks,ds⟩,q1,e⟩:=bnd e;cases c with
 | int k=>
  have fin:∀(u:V)G1 H1,Ext G H G1 H1->u=.int k->∃p vs,σ[i]?=some (some (.ref p))/\WL H1 p u (YT ks vs k)/\(YT ks vs k).isSome=(YT ks ds k).isSome:=λu G1 H1 x1 hu=>by
   subst hu;obtain⟨p,vs,r1,r2,r3,r4⟩:=ow.dic q1;have hl:ks.length=vs.length:=by rw[r3];exact r4.len
   have g:=q8N (k:=(Sum.inl k:Key)) (q7S x1.hh r2);rw[q2g hl]at g;exact⟨p,vs,r1,g,YF.isVal k r4⟩
  cases neg with
  | true=>
   refine h2 G0 H0 G ω σ H _ _ ow q2 λu G1 H1 x1 y1=>?_;obtain⟨p,vs,r1,g,hs⟩:=fin u G1 H1 x1 y1;refine⟨.ref p,r1,p,_,rfl,g,_,rfl,?_⟩;cases e;rw[hs];exact kk G1 H1 x1
  | false=>
   refine h2 G0 H0 G ω σ H _ _ ow q2 λu G1 H1 x1 y1=>?_;obtain⟨p,vs,r1,g,hs⟩:=fin u G1 H1 x1 y1;refine⟨.ref p,r1,p,_,rfl,g,_,rfl,?_⟩;cases e;rw[hs];exact kk G1 H1 x1
 | _=>cases e
theorem q5o(hu:X.A.units+64<ue)(hk:XD X k fk)(ho:PE X o (Y7 i))(hb:vq .NotIn o=false:=by rfl):XT X (.Compare k [.NotIn] [o] pos) (We true i fk):=by
 obtain⟨tk,h1,h2⟩:=hk;exact⟨_,qeV (q9H (hu1 hu) h1 ho) hb,qd4 (neg:=true) h2⟩
end
section
variable{X:Cx}{o k e:vP}{pos pos' dpos:Pos}{i:Nat}{fk fv:FD}
noncomputable def Wc(i:Nat)(fk fv:FD):FS:=λω=>(fk ω).bind λc=>(fv ω).bind λd=>match c with
 | .int k=>some (.nx,ω.set i (some (.od [k] [d])))
 | _=>none
theorem qcf{x:Str}(hN:X.N.Nodup)(hi:X.N[i]?=some x)(hx:Loc X.env.scope x)(hk:XD X k fk)(hv:XD X e fv)(hs:vv (.Dict [some k] [e] dpos) (some (.Name x pos')) pos.line X.env=pure false:=by rfl)(hf:X.fn x=true\/X.env.scope.names.lookup x=some .local:=by first|exact .inl rfl|exact .inr rfl|assumption):
  XS X (.Assign [.Name x pos'] (.Dict [some k] [e] dpos) pos) (Wc i fk fv):=by
 obtain⟨tk,h1,h2⟩:=hk;obtain⟨tv,h3,h4⟩:=hv;refine⟨_,q3y hN hi hx (qdI (qbJ h1 h3 qdQ) rfl rfl (by simp) (by show 1<=15;decide)) hs hf,λG0 H0 G ω σ H out ω' E ow e kk=>?_⟩;obtain⟨c,q1,e⟩:=bnd e;obtain⟨d,q2,e⟩:=bnd e;cases c with
 | int k=>
  cases e;intro p hp;have x0:=Ext.hide ow.gh hp (.dK []);have o1:=ow.keep x0;refine h2 G0 H0 G ω σ _ _ _ o1 q1 λu G1 H1 x1 y1=>?_;cases (show u=.int k from y1);have o2:=o1.keep x1;refine h4 G0 H0 G1 ω σ H1 d _ o2 q2 λv G2 H2 x2 y2=>?_;have o3:=o2.keep x2;have hp2:H2 p=some (.dK []):=x2.hh _ _ (x1.hh _ _ qe);have gp1:G1 p=none:=x1.new p (ow.gh.free hp) (by rw[qe];exact λz=>by cases z);have gp2:G2 p=none:=x2.new p gp1 (by rw[x1.hh _ _ qe];exact λz=>by cases z);have h0p:H0 p=none:=ow.ext.hh.free hp;refine⟨hp2,[(Sum.inl k,v)],rfl,by show 1<=15;decide,?_⟩;have em:Xa [] [((Sum.inl k:Key),v)]=kvsOf [k] [v]:=by
   show putK [] (Sum.inl k:Key) v=_;unfold putK;rw[vJ (by simp)];rfl
  rw[em];have ext4:Ext G0 H0.hp G2 (upd H2 p (.dK (kvsOf [k] [v]))):=⟨o3.ext.gg,YK o3.ext.gh gp2 _,YK o3.ext.hh h0p _,o3.ext.new⟩;have np:∀(j:Nat)ds',ω[j]?=some (some (.ow ds'))->∀l vs,σ[j]?=some (some (.ref l))->H2 l=some (.lst vs)->l≠p:=λj ds' hj l vs _ h z=>by rw[z,hp2]at h;cases h
  have npd:∀(j:Nat)ks' es,ω[j]?=some (some (.od ks' es))->σ[j]?≠some (some (.ref p)):=λj ks' es hj z=>by
   obtain⟨q,us,w1,w2,_⟩:=ow.od j ks' es hj;rw[w1]at z;cases z;rw[hp]at w2;cases w2
  have o4:Own X.K G0 H0 G2 ω σ (upd H2 p (.dK (kvsOf [k] [v]))):=by
   refine⟨ext4,o3.len,o3.sh,λj ds' hj=>?_,o3.nd,λj ks' es hj=>?_,o3.pw.upd (o3.pw.ne_ob λvs z=>by rw[hp2]at z;cases z)⟩
   ·obtain⟨l,vs,w1,w2,w3,w4,w5⟩:=o3.ow j ds' hj
    exact⟨l,vs,w1,by rw[qb (np j ds' hj l vs w1 w2)];exact w2,w3,w4,w5⟩
   ·obtain⟨q,us,w1,w2,w3,w4,w5,w6,w7⟩:=o3.od j ks' es hj
    have nq:q≠p:=λz=>npd j ks' es hj (by rw[<- z];exact w1);exact⟨q,us,w1,by rw[qb nq];exact w2,w3,w4,w5,w6,w7⟩
  exact kk G2 _ _ (o4.setOd (ks:=[k]) (ds:=[d]) (vs:=[v]) qe gp2 h0p rfl (YF.cons y2 YF.nil) npd) (x1.gg.trans x2.gg)
 | _=>cases e
end
section
open PySem.Spec PyProof.Rows PySem.W
theorem q7X:∀(vs:List vB)(ns:List Int),vs.length=ns.length->(∀(j:Nat)v n,vs[j]?=some v->ns[j]?=some n->∃t,v=.int n t)->v5 vs ns
 | [],[],_,_=>.nil
 | [],_::_,h,_=>by simp at h
 | _::_,[],h,_=>by simp at h
 | v::vs,n::ns,h,f=>by
  obtain⟨t,rfl⟩:=f 0 v n rfl rfl;exact .cons _ _ (q7X vs ns ⇑h λj a b e1 e2=>f (j+1) a b ⇑e1 ⇑e2)
variable{prog:vO}{w:vT}{A:vY}{E:vB->vC->Prop}{s:vC}
theorem q7x{a:vG}{kvs:List (Key×vB)}{ns:List Int}{Q:vB->vC->Prop}(hh:A.handled=none)(lo:(a==v8)=false)(dd:s.heap.DictOf (YN prog w) a kvs)(hk:kvs.map (·.1)=ns.map (Sum.inl:Int->Key))(h64:ns.length<64)(h:∀(h1 h':vZ)(tk:Nat)(vs:List vB)(ys:List Int)(n:Nat),(∀b o,s.heap.get? b=some o->h1.get? b=some o)->(∀b o,h1.get? b=some o->h'.get? b=some o)->h'.get? h1.objs.size=some (vp "list" vs.toArray n)->v5 vs ys->ys.Perm ns->ys.Pairwise (· <= ·)->Q (.ref h1.objs.size) { s with heap:=h',toks:=tk }):
  vL (model prog w) A (call (.builtin "sorted") [.ref a]) Q E s:=by
 obtain⟨ep,hat⟩:=dd.dictAt;have hkl:kvs.length=ns.length:=by have:=vf yi hk;simpa using this
 refine Calls.call_function_entry t4 tf tj (args_sorted1 _) ?_;unfold Builtin.«sorted»;refine vA (m:=checkCount "sorted" 1 1 _) (vF ?_);refine vA (kdu_collect (A:=A.in1) (kdl_dict (knd:=YN prog w) (kvs:=kvs) (ep:=ep) lo) hh hat (by rw[hkl];exact z6 (yK h64) (by decide)) λh1 tk acc hk1 hacc=>?_);have y1:v5 acc.toList ns:=by
  refine q7X _ _ (by rw[zQ,hacc.1,hkl]) λj v n e1 e2=>?_;obtain⟨k,x,hx,hi⟩:=hacc.2 j v (by rw[<- zX];exact e1);have e3:(kvs.map (·.1))[j]?=some k:=by rw[zW,hx];rfl
  rw[hk,zW,e2]at e3;cases e3;rcases qy (k:=(Sum.inl n:Key)) hi with⟨i,t,e4,rfl⟩|⟨x,t,e4,_⟩
  ·cases e4;exact⟨t,rfl⟩
  ·cases e4
 have hlen:acc.toList.length=ns.length:=IntsAre.length y1;refine vA (u0 ?_ (z6 (by rw[hlen];exact yK h64) (by decide)));generalize acc.toList=vs at y1 hlen;have hoL:(h1.push (vp "list" vs.toArray 0)).get? h1.objs.size=some (vp "list" vs.toArray 0):=zS _ rfl;refine vA (vc (vi slot_list_sort ⟨_,hoL,rfl⟩ entry_list_sort (list_sort_tree hoL y1 (by rw[hlen];exact h64) λout ns' a1 a2 a3=>⟨_,rfl,?_⟩) (args_list_sort _)));obtain⟨n,hn⟩:=sortedHeap_at (vs:=vs) (out:=out) hoL;refine vF ⟨_,rfl,h h1 _ tk out.toList ns' n hk1 (λb o e1=>?_) ?_ a1 a2 a3⟩
 ·rw[sortedHeap_old (zi (zP e1)) (by rw[yP];exact yD (zP e1))]
  exact zD _ e1
 ·rw[xM];exact hn
end
def rSortD:List V->Hp->VK->Prop:=λxs H Q=>∃p kvs ns,xs=[.ref p]/\Rd H p (.dK kvs)/\kvs.map (·.1)=ns.map (Sum.inl:Int->Key)/\ns.length<64/\∀l,H l=none->Q (.ref l) (upd H l (.lst ((YR ns).map V.int)))
section
variable{X:Cx}{o:vP}{i:Nat}
theorem q9l(hc:X.calm=true):Yq X (.builtin "sorted") rSortD:=by
 intro pins s σ H xs us Q I r h;obtain⟨p,kvs,ns,rfl,hp,hk,hz,q⟩:=h;obtain⟨u,rfl,rx⟩:=vals1 r;cases rx;obtain⟨_,lo,vs,rel,dd⟩:=q4K I.hok hp;refine q7x (I.ok.hd hc) lo dd (by rw[<- rel.keys];exact hk) hz λh1 h' tk us ys n k1 k2 g1 a1 a2 a3=>?_;have en:ys=YR ns:=q31 a3 q1V (a2.trans qE.symm);subst en;have I1:Inv X pins σ H { s with heap:=h1,toks:=tk }:=I.kept k1;have hsl:(YR ns).length<=sizeLine:=by rw[q5A];exact z6 (yK hz) (by decide)
 have I2:=I1.laid (a:=h1.objs.size) (o:=.lst ((YR ns).map V.int)) (t':=tk) (h':=h') k2 (zN _)
  (show YQ X.prog X.w _ h' _ (.lst _)from ⟨by rw[zB];exact hsl,us,n,q1n a1,g1⟩)
 exact⟨.ref _,_,I2,rfl,q _ (I1.hok.fresh (zN _))⟩
noncomputable def Wd(i:Nat):FE:=λω=>(XR ω[i]?).bind λp=>if p.1.length<64 then some (.fr ((YR p.1).map D.int))else none
theorem qbz{p q:Pos}(hc:X.calm=true)(hg:Gl X "sorted")(hm:X.mg "sorted" = none)(ho:PE X o (Y7 i))(he:vK [o] X.env=(false,eval o X.env)::vK [] X.env:=by rfl)(hpl:(vm q (vK [] X.env)).any (·.1)=false:=by rfl):XE X (.Call (.Name "sorted" p) [o] [] q) (Wd i):=by
 refine⟨_,q1I (q9l hc) hg hm q2c (qM ho qW he) (by decide) (by decide) he hpl,λG0 H0 G ω σ H r Q ow e k=>?_⟩;obtain⟨⟨ks,ds⟩,q1,e⟩:=bnd e;obtain⟨p,vs,r1,r2,r3,r4⟩:=ow.dic q1
 by_cases hz:ks.length<64
 ·have e:(if ks.length<64 then some (R.fr ((YR ks).map D.int))else none)=some r:=e
  rw[vH hz]at e;cases e;refine⟨.ref p,r1,p,_,ks,rfl,r2,q4L (by rw[r3];exact r4.len),hz,λl hl=>?_⟩;have x2:=Ext.hide ow.gh hl (.lst ((YR ks).map V.int));exact k _ G _ x2 ⟨l,_,rfl,hl,ow.gh.free hl,qe,YF.ints _⟩
 ·have e:(if ks.length<64 then some (R.fr ((YR ks).map D.int))else none)=some r:=e
  rw[vJ hz]at e;cases e
noncomputable def Wz(i:Nat):FM:=λω=>match ω[i]? with
 | some (some (.ow ds))=>(ds[ds.length-1]?).map λd=>(d,ω.set i (some (.ow ds.dropLast)))
 | _=>none
theorem YF.dropLast{K:zA}{H:Hp}{ds:List D}{vs:List V}(h:YF K H ds vs):YF K H ds.dropLast vs.dropLast:=by
 rw[wf,wf,h.len];exact h.take _
theorem qe0{apos cpos:Pos}(ho:PE X o (Y7 i))(hbase:uT o "pop" X.env (eval o X.env)=eval o X.env:=by rfl)(hline:(apos.endLine==cpos.line)=true:=by rfl):
  XM X (.Call (.Attribute o "pop" apos) [] [] cpos) (Wz i):=by
 refine⟨_,qeS PySem.F.plainAttrs_list PySem.F.slot_list_pop PySem.F.type_list_pop qfs ho hbase hline,λG0 H0 G ω σ H d ω' Q ow e k=>?_⟩;unfold Wz at e
 split at e
 ·rename_i ds q2
  obtain⟨d1,hd,e⟩:=mpd e;cases e;obtain⟨l,vs,r1,r2,r3,r4,r5⟩:=ow.ow i ds q2;obtain⟨y,hy,ry⟩:=r5.get hd;refine⟨.ref l,r1,.inl ⟨rfl,vs,SqL.of r2⟩,l,vs,y,rfl,rfl,r2,by rw[<- r5.len];exact hy,k y G _ (ow.mut q2 r1 r2 r3 r4 r5.dropLast) (YM.refl _) ry⟩
 ·cases e
end
noncomputable def WK:List Int->List (List Int)->Int->Int->List (List Int)
 | k::ks,x::xs,a,b=>if k=a then (x++[b])::xs else x::WK ks xs a b
 | _,xs,_,_=>xs
structure Tab (G H0 H:Hp) (p:vG) (ks:List Int) (ls:List vG) (xss:List (List Int)):Prop where
 dict:H p=some (.dK (kvsOf ks (ls.map V.ref)))
 gp:G p=none
 hp:H0 p=none
 len:ks.length=ls.length
 len2:ls.length=xss.length
 lst:∀(j:Nat)l xs,ls[j]?=some l->xss[j]?=some xs->H l=some (.lst (xs.map V.int))
 gl:∀l∈ls,G l=none/\H0 l=none
 nd:ls.Nodup
theorem Tab.inn{G H0 H:Hp}{p:vG}{ks:List Int}{ls:List vG}{xss:List (List Int)}(T:Tab G H0 H p ks ls xss){l:vG}(h:l∈ls):∃xs:List Int,H l=some (.lst (xs.map V.int)):=by
 obtain⟨j,hj,rfl⟩:=zm.mp h;have hj2:j<xss.length:=by rw[<- T.len2];exact hj
 exact⟨xss[j],T.lst j _ _ (zC hj) (zC hj2)⟩
theorem Tab.pl{G H0 H:Hp}{p:vG}{ks:List Int}{ls:List vG}{xss:List (List Int)}(T:Tab G H0 H p ks ls xss):p∉ls:=λh=>by
 obtain⟨xs,e⟩:=T.inn h;rw[T.dict]at e;cases e
theorem Tab.keep{G G' H0 H H':Hp}{p:vG}{ks:List Int}{ls:List vG}{xss:List (List Int)}(T:Tab G H0 H p ks ls xss)(x:Ext G H G' H'):Tab G' H0 H' p ks ls xss :=
 ⟨x.hh _ _ T.dict,x.new p T.gp (by rw[T.dict];exact λz=>by cases z),T.hp,T.len,T.len2,λj l xs h1 h2=>x.hh _ _ (T.lst j l xs h1 h2),λl h=>by
  obtain⟨xs,e⟩:=T.inn h;exact⟨x.new l (T.gl l h).1 (by rw[e];exact λz=>by cases z),(T.gl l h).2⟩,T.nd⟩
theorem qaE:∀{ks:List Int}{ls:List vG}{a:Int},ks.length=ls.length->a∈ks->∃(j:Nat) (l:vG),ks[j]?=some a/\ls[j]?=some l/\YT ks (ls.map V.ref) a=some (.ref l)/\∀(xss:List (List Int))(b:Int),xss.length=ls.length->∃xs,xss[j]?=some xs/\WK ks xss a b=xss.set j (xs++[b])
 | [],_,_,_,h=>by simp at h
 | _::_,[],_,h,_=>by simp at h
 | k::ks,l::ls,a,h,ha=>by
  by_cases z:k=a
  ·refine⟨0,l,by rw[z];rfl,rfl,vH z,λxss b hx=>?_⟩
   cases xss with
   | nil=>simp at hx
   | cons x xs=>exact⟨x,rfl,vH z⟩
  ·have ha':a∈ks:=(zE.mp ha).resolve_left λe=>z e.symm
   obtain⟨j,l',e1,e2,e3,e4⟩:=qaE (ks:=ks) (ls:=ls) ⇑h ha';refine⟨j+1,l',e1,e2,?_,λxss b hx=>?_⟩
   ·show (if k=a then _ else _)=_
    rw[vJ z];exact e3
   ·cases xss with
    | nil=>simp at hx
    | cons x xs=>
     obtain⟨y,h1,h2⟩:=e4 xs b ⇑hx;refine⟨y,h1,?_⟩;show (if k=a then _ else x::WK ks xs a b)=_;rw[vJ z,h2];rfl
theorem Tab.app{G H0 H:Hp}{p:vG}{ks:List Int}{ls:List vG}{xss:List (List Int)}(T:Tab G H0 H p ks ls xss){a:Int}(b:Int)(ha:a∈ks):
  ∃(l:vG) (xs:List Int),l∈ls/\xs∈xss/\YT ks (ls.map V.ref) a=some (.ref l)/\WL H p (.int a) (some (.ref l))/\H l=some (.lst (xs.map V.int))/\Tab G H0 (upd H l (.lst ((xs++[b]).map V.int))) p ks ls (WK ks xss a b):=by
 obtain⟨j,l,e1,e2,e3,e4⟩:=qaE T.len ha;obtain⟨xs,e5,e6⟩:=e4 xss b T.len2.symm;have hl:l∈ls:=z9 e2;have hlp:p≠l:=λz=>T.pl (z▸hl);have g:=WL.k (k:=(Sum.inl a:Key)) T.dict;rw[q2g (by rw[zB];exact T.len),e3]at g;refine⟨l,xs,hl,z9 e5,e3,g,T.lst j l xs e2 e5,?_⟩;rw[e6];refine⟨by rw[qb hlp];exact T.dict,T.gp,T.hp,T.len,by rw[yN];exact T.len2,λi m ys h1 h2=>?_,T.gl,T.nd⟩;rcases qd h2 with⟨rfl,_,rfl⟩|⟨ne,h3⟩
 ·rw[e2]at h1
  cases h1;exact qe
 ·have hm:m≠l:=λz=>by
   subst z;obtain⟨i1,i2⟩:=zq.mp h1;obtain⟨j1,j2⟩:=zq.mp e2;exact ne ((wL T.nd).mp (j2.trans i2.symm))
  rw[qb hm];exact T.lst i m ys h1 h3
theorem Own.free{K:zA}{G0:Hp}{H0:Fr}{G:Hp}{ω:WSt}{σ:St}{H:Hp}{q:vG}{ob:HO}(o:Own K G0 H0 G ω σ H)(no:Y1 ω)(hG:G q=none)(h0:H0 q=none):Own K G0 H0 G ω σ (upd H q ob) :=
 ⟨⟨o.ext.gg,YK o.ext.gh hG _,YK o.ext.hh h0 _,o.ext.new⟩,o.len,o.sh,λi ds h=>vM h (no.ow i ds),o.nd,λi ks ds h=>vM h (no.od i ks ds),Yp.no no.pw⟩
theorem Tab.put{G H0 H:Hp}{p:vG}{ks:List Int}{ls:List vG}{xss:List (List Int)}(T:Tab G H0 H p ks ls xss){k:Int}{l:vG}(hk:k∉ks)(hl:H l=none)(sg:YM G H)(s0:YM H0 H)(hz:ks.length<1000000):
  ∃H4,zAY (upd H l (.lst [])) p (.int k) (.ref l) H4/\H4=upd (upd H l (.lst [])) p (.dK (kvsOf (ks++[k]) ((ls++[l]).map V.ref)))/\Tab G H0 H4 p (ks++[k]) (ls++[l]) (xss++[[]]):=by
 have hpl:p≠l:=λz=>by rw[<- z,T.dict]at hl;cases hl
 have hlen:ks.length=(ls.map V.ref).length:=by rw[zB];exact T.len
 have e:putK (kvsOf ks (ls.map V.ref)) (Sum.inl k) (.ref l)=kvsOf (ks++[k]) ((ls++[l]).map V.ref):=by
  rw[q5u hlen];unfold Y0 putA;rw[vJ hk,vJ hk,za];rfl
 have d:=zAY.k (H:=upd H l (.lst [])) (a:=p) (kvs:=kvsOf ks (ls.map V.ref)) (k:=(Sum.inl k:Key)) (v:=.ref l) (by rw[qb hpl];exact T.dict) (by rw[q2d hlen,vn];omega);rw[e]at d;refine⟨_,d,rfl,qe,T.gp,T.hp,by rw[zG,zG,T.len];rfl,by rw[zG,zG,T.len2];rfl,λj m xs h1 h2=>?_,λm hm=>?_,?_⟩
 ·rcases zu j ls.length with z|z
  ·rw[zZ z]at h1
   rw[zZ (by rw[<- T.len2];exact z)]at h2;have e1:=T.lst j m xs h1 h2;have n1:m≠p:=λy=>T.pl (y▸z9 h1);have n2:m≠l:=λy=>by rw[y,hl]at e1;cases e1
   rw[qb n1,qb n2];exact e1
  ·rw[zV z]at h1
   rw[zV (by rw[<- T.len2];exact z),<- T.len2]at h2;cases hj:j-ls.length with
   | zero=>
    rw[hj]at h1 h2;cases h1;cases h2;rw[qb (Ne.symm hpl)];exact qe
   | succ n=>rw[hj]at h1;cases h1
 ·rcases zK.mp hm with h|h
  ·exact T.gl m h
  ·cases zL.mp h;exact⟨sg.free hl,s0.free hl⟩
 ·rw[yR]
  refine⟨T.nd,by simp,λa ha b hb z=>?_⟩;cases zL.mp hb;obtain⟨xs,e1⟩:=T.inn ha;rw[z,hl]at e1;cases e1
noncomputable def pairsOf:List D->Option (List (Int×Int))
 | []=>some []
 | .tup [.int a,.int b]::r=>(pairsOf r).map λl=>(a,b)::l
 | _=>none
noncomputable def YE(e:Int×Int):D:=.tup [.int e.1,.int e.2]
theorem q4w:∀{ds:List D}{es:List (Int×Int)},pairsOf ds=some es->ds=es.map YE
 | [],_,h=>by cases h;rfl
 | d::r,es,h=>by
  unfold pairsOf at h
  split at h
  ·rename_i e;cases e
  ·rename_i e
   cases e;obtain⟨l,h1,h2⟩:=mpd h;subst h2;rw[q4w h1];rfl
  ·cases h
theorem q3W:∀es:List (Int×Int),pairsOf (es.map YE)=some es
 | []=>rfl
 | e::r=>by show (pairsOf (r.map YE)).map _=_;rw[q3W r];rfl
noncomputable def Yu(ks:List Int)(xss:List (List Int))(e:Int×Int):List (List Int):=WK ks (WK ks xss e.1 e.2) e.2 e.1
noncomputable def nbT(ts:List Int)(es:List (Int×Int)):List (List Int):=es.foldl (Yu ts) (ts.map λ_=>[])
noncomputable def nbM(a b:List D):Option D:=(intsOf a).bind λts=>(pairsOf b).bind λes=>if ts.Nodup/\(∀e∈es,e.1∈ts/\e.2∈ts)/\ts.length<=1000/\es.length<=1000 then some (.dic ts ((nbT ts es).map λxs=>.lst (xs.map D.int)))else none
noncomputable def sNb:FS:=λω=>match ω with
 | [↥(.lst a),↥(.lst b),none,none,none]=>(nbM a b).map λd=>(.rt (.sh d),ω)
 | _=>none
theorem zAU{a b:D}{x:Option D}:Y1 [↥a,↥b,none,none,x.map W.sh]:=by
 intro i w e
 match i,e with
 | 0,e=>cases e;exact⟨_,rfl⟩
 | 1,e=>cases e;exact⟨_,rfl⟩
 | 2,e=>cases e
 | 3,e=>cases e
 | 4,e=>
  cases x with
  | none=>cases e
  | some d=>cases e;exact⟨d,rfl⟩
 | i+5,e=>simp at e
theorem Own.other{K:zA}{G0:Hp}{H0:Fr}{G:Hp}{ω:WSt}{σ:St}{H:Hp}{i:Nat}{v:Option V}(o:Own K G0 H0 G ω σ H)(no:Y1 ω)(hi:∀w,ω[i]?≠some (some w)):Own K G0 H0 G ω (σ.set i v) H :=
 ⟨o.ext,by rw[yN];exact o.len,λj d h=>by
  obtain⟨u,h1,h2⟩:=o.sh j d h;exact⟨u,by rw[zT (λz=>hi _ (z▸h))];exact h1,h2⟩,λi ds h=>vM h (no.ow i ds),λi j ds es l h=>vM h (no.ow i ds),λi ks ds h=>vM h (no.od i ks ds),Yp.no no.pw⟩
theorem q5b(n:Nat):∀(ks:List Int)(xss:List (List Int))(a b:Int),(∀x∈xss,x.length<=n)->∀x∈WK ks xss a b,x.length<=n+1
 | [],xss,_,_,h,x,hx=>wH (h x hx)
 | _::_,[],_,_,h,x,hx=>by cases hx
 | k::ks,y::xss,a,b,h,x,hx=>by
  unfold WK at hx
  by_cases z:k=a
  ·rw[vH z]at hx
   rcases zE.mp hx with rfl|hx
   ·have:=h y zI
    rw[zG,zx];omega
   ·exact wH (h x (zJ _ hx))
  ·rw[vJ z]at hx
   rcases zE.mp hx with rfl|hx
   ·exact wH (h _ zI)
   ·exact q5b n ks xss a b (λx h'=>h x (zJ _ h')) x hx
theorem Tab.told{K:zA}{G0 G:Hp}{H0:Fr}{H:Hp}{ω:WSt}{σ:St}{p:vG}{ks:List Int}{ls:List vG}{xss:List (List Int)}(T:Tab G H0 H p ks ls xss)(o:Own K G0 H0 G ω σ H)(no:Y1 ω)(ob:Obj):
  ∃G',YM G G'/\Own K G0 H0 G' ω σ (upd H p (.frz ob (.dK (kvsOf ks (ls.map V.ref)))))/\Rep K G' (.dic ks (xss.map λxs=>.lst (xs.map D.int))) (.ref p):=by
 obtain⟨H',hH⟩:∃H':Hp,H'=upd H p (.frz ob (.dK (kvsOf ks (ls.map V.ref)))):=⟨_,rfl⟩;rw[<- hH];have hp':H' p=some (.frz ob (.dK (kvsOf ks (ls.map V.ref)))):=by rw[hH];exact qe
 have hn':∀b,b≠p->H' b=H b:=λb h=>by rw[hH];exact qb h
 let G':Hp:=λb=>if b=p\/b∈ls then H' b else G b
 have hin:∀b,(b=p\/b∈ls)->G' b=H' b:=λb h=>vH h;have hout:∀b,¬(b=p\/b∈ls)->G' b=G b:=λb h=>vJ h;have gn:∀b,(b=p\/b∈ls)->G b=none/\H0 b=none:=λb h=>by
  rcases h with rfl|h
  ·exact⟨T.gp,T.hp⟩
  ·exact T.gl b h
 have gg:YM G G':=λb u z=>by
  by_cases y:b=p\/b∈ls
  ·rw[(gn b y).1]at z;cases z
  ·rw[hout b y];exact z
 have gh:YM G' H':=λb u z=>by
  by_cases y:b=p\/b∈ls
  ·rw[hin b y]at z;exact z
  ·rw[hout b y]at z;rw[hn' b λw=>y (.inl w)];exact o.gh b u z
 have hh:YM H0.hp H':=λb u z=>by
  rw[hn' b λw=>by rw[w,T.hp]at z;cases z];exact o.ext.hh b u z
 refine⟨G',gg,⟨⟨o.ext.gg.trans gg,gh,hh,λb z1 z2=>?_⟩,o.len,λi d h=>?_,λi ds h=>vM h (no.ow i ds),o.nd,λi ks ds h=>vM h (no.od i ks ds),Yp.no no.pw⟩,p,ls.map V.ref,rfl,⟨ob,by rw[hin p (.inl rfl)];exact hp'⟩,by rw[zB,<- T.len2];exact T.len,?_⟩
 ·by_cases y:b=p\/b∈ls
  ·exact vM (gn b y).2 z2
  ·rw[hout b y];exact o.ext.new b z1 z2
 ·obtain⟨v,h1,h2⟩:=o.sh i d h
  exact⟨v,h1,h2.mono gg⟩
 ·refine q3q (by rw[zB];exact T.len2.symm) λj d t h1 h2=>?_
  rw[zW]at h1;cases q:xss[j]? with
  | none=>rw[q]at h1;cases h1
  | some xs=>
   rw[q]at h1;cases h1;have hl:=T.lst j t xs h2 q;exact⟨t,_,rfl,by rw[hin t (.inr (z9 h2)),hn' t λw=>by rw[w,T.dict]at hl;cases hl];exact hl,YF.ints xs⟩
theorem qb5{K:zA}{ta tb:TE}{g0 g1:FD}(k2:zAa K ta g0)(k4:zAa K tb g1){G0:Hp}{H0:Fr}{G:Hp}{ω:WSt}{σ:St}{H:Hp}{p:vG}{ks:List Int}{ls:List vG}{xss:List (List Int)}{a b:Int}{Q:VK}(o:Own K G0 H0 G ω σ H)(no:Y1 ω)(hσ:σ[2]?=some (some (.ref p)))(T:Tab G H0 H p ks ls xss)(h0:g0 ω=some (.int a))(h1:g1 ω=some (.int b))(ha:a∈ks)(hz:∀xs∈xss,xs.length<1000000)(h:∀G' H',Own K G0 H0 G' ω σ H'->YM G G'->Tab G' H0 H' p ks ls (WK ks xss a b)->Q .non H'):tBM K "list" WQ (tDGet (Y7 2) ta) (zAX tb tNil) σ H Q:=by
 refine⟨.ref p,hσ,k2 G0 H0 G ω σ H _ _ o h0 λu G1 H1 x1 y1=>?_⟩;cases (show u=.int a from y1);have o1:=o.keep x1;have T1:=T.keep x1;obtain⟨l,xs,m1,m2,m3,m4,m5,_⟩:=T1.app b ha;refine⟨p,.ref l,rfl,m4,.inl ⟨rfl,_,SqL.of m5⟩,k4 G0 H0 G1 ω σ H1 _ _ o1 h1 λu G2 H2 x2 y2=>?_⟩;cases (show u=.int b from y2);have o2:=o1.keep x2;have T2:=T1.keep x2;obtain⟨l',xs',n1,n2,n3,n4,n5,n6⟩:=T2.app b ha;rw[m3]at n3;cases n3;refine⟨l,_,.int b,rfl,rfl,n5,by rw[zB,vn];have:=hz xs' n2;omega,?_⟩;rw[show xs'.map V.int++[V.int b]=(xs'++[b]).map V.int by rw[za];rfl];exact h G2 _ (o2.free no (T2.gl l n1).1 (T2.gl l n1).2) (x1.gg.trans x2.gg) n6
theorem qbk{a b:vP}{p:Pos}{n:Str}{env:Env}(m:Sem vB):uT (.Subscript a b p) n env m=m:=rfl
section
variable{X:Cx}
theorem qek{x2 x3 x4:Str}{o0 o1 o2 o3 o4 o4b e0 e1 e0b e1b e0':vP}{q1 q2 q3 q4 q5 q6 q7 q8 q9 q10 q11 q12 q13 q14 q15 a1 a2 c1 c2:Pos}{g0 g1:FD}(hu:X.A.units+64<ue)(hp:tO (model X.prog X.w) X.A X.env X.xe)(hc:X.calm=true)(hN:X.N.Nodup)(i2:X.N[2]?=some x2)(i3:X.N[3]?=some x3)(i4:X.N[4]?=some x4)(l2:Loc X.env.scope x2)(l3:Loc X.env.scope x3)(l4:Loc X.env.scope x4)(f2:X.fn x2=true\/X.env.scope.names.lookup x2=some .local)(f3:X.fn x3=true\/X.env.scope.names.lookup x3=some .local)(f4:X.fn x4=true\/X.env.scope.names.lookup x4=some .local)(h0:PE X o0 (Y7 0))(h1:PE X o1 (Y7 1))(h2:PE X o2 (Y7 2))(h2':PE X o4 (Y7 2))(h2b:PE X o4b (Y7 2))(h3:PE X o3 (Y7 3))(h5:PE X e0' (Y7 2))(ha:XD X e0 g0)(hb:XD X e1 g1)(hab:XD X e0b g0)(hbb:XD X e1b g1)(hg0:∀(ω:WSt)e,ω[4]?=some (some (.sh (YE e)))->g0 ω=some (.int e.1))(hg1:∀(ω:WSt)e,ω[4]?=some (some (.sh (YE e)))->g1 ω=some (.int e.2))(s1:vv (.Dict [] [] q1) (some (.Name x2 q2)) q3.line X.env=pure false:=by rfl)(s2:vv (.List [] q4) (some (.Subscript o2 o3 q5)) q6.line X.env=pure false:=by rfl)(n0:NoSl e0:=by intro _ _;rfl)(n1:NoSl e1b:=by intro _ _;rfl)(w1:((vm c1 (vK [e1] X.env)).all (λx=>!x.1)&&(uK c1 (vz [] X.env)).all (λx=>x.1.isSome)&&decide (([e1]:List vP).length+([]:List uW).length+(if ([]:List uW).isEmpty then 0 else 1)<30))=true:=by rfl)(w2:((vm c2 (vK [e0b] X.env)).all (λx=>!x.1)&&(uK c2 (vz [] X.env)).all (λx=>x.1.isSome)&&decide (([e0b]:List vP).length+([]:List uW).length+(if ([]:List uW).isEmpty then 0 else 1)<30))=true:=by rfl)(z1:(a1.endLine==c1.line)=true:=by rfl)(z2:(a2.endLine==c2.line)=true:=by rfl)(t1:vK [e1] X.env=(false,eval e1 X.env)::vK [] X.env:=by rfl)(t2:vK [e0b] X.env=(false,eval e0b X.env)::vK [] X.env:=by rfl)(p1:(vm c1 (vK [] X.env)).any (·.1)=false:=by rfl)(p2:(vm c2 (vK [] X.env)).any (·.1)=false:=by rfl)(v1:vv (.Call (.Attribute (.Subscript o4 e0 q7) "append" a1) [e1] [] c1) none q9.line X.env=pure false:=by rfl)(v2:vv (.Call (.Attribute (.Subscript o4b e1b q8) "append" a2) [e0b] [] c2) none q10.line X.env=pure false:=by rfl)(y1:∀x,vt o0 X.env x=pure x:=by intro _;rfl)(y2:∀x,vt o1 X.env x=pure x:=by intro _;rfl):
  XSs X [.Assign [.Name x2 q2] (.Dict [] [] q1) q3,.For (.Name x3 q11) o0 [.Assign [.Subscript o2 o3 q5] (.List [] q4) q6] [] q12,
   .For (.Name x4 q13) o1 [.Expr (.Call (.Attribute (.Subscript o4 e0 q7) "append" a1) [e1] [] c1) q9,.Expr (.Call (.Attribute (.Subscript o4b e1b q8) "append" a2) [e0b] [] c2) q10] [] q14,.Return (some e0') q15] sNb:=by
 obtain⟨ta,k1,k2⟩:=ha;obtain⟨tb,k3,k4⟩:=hb;obtain⟨ta',k1',k2'⟩:=hab;obtain⟨tb',k3',k4'⟩:=hbb;have hu:=hu1 hu;refine⟨_,q1L (q3y hN i2 l2 q6k s1 f2) (q1L (q6d hp hc (q4T h0) (q4N hN i3 l3 f3) (q3M (q8x hu h2 h3 (qan qW) s2)) y1)
  (q1L (q6d hp hc (q4T h1) (q4N hN i4 l4 f4) (q1L (q2N (q67 PySem.F.plainAttrs_list PySem.F.slot_list_append PySem.F.type_list_append q2b (q4Y hu h2' k1 n0) (qM k3 qW t1) (qbk _) w1 z1 t1 p1) v1)
   (q3M (q2N (q67 PySem.F.plainAttrs_list PySem.F.slot_list_append PySem.F.type_list_append q2b (q4Y hu h2b k3' n1) (qM k1' qW t2) (qbk _) w2 z2 t2 p2) v2))) y2) (q4u 2 (q3M (q6a h5))))),λG0 H0 G ω σ H out ω' E ow e kk=>?_⟩
 unfold sNb at e
 split at e
 case h_2=>cases e
 case h_1 _ a b=>
 obtain⟨d,e2,e3⟩:=mpd e;clear e;cases e3;obtain⟨ts,e4,e5⟩:=bnd e2;obtain⟨es,e6,e7⟩:=bnd e5;clear e2 e5
 by_cases cond:ts.Nodup/\(∀e∈es,e.1∈ts/\e.2∈ts)/\ts.length<=1000/\es.length<=1000
 case neg=>rw[vJ cond]at e7;cases e7
 rw[vH cond]at e7;cases e7;obtain⟨cd1,cd2,cd3,cd4⟩:=cond;have ha':=q0C e4;have hb':=q4w e6;subst ha' hb';clear e4 e6;have no:Y1 [some (W.sh (.lst (ts.map D.int))),↥(.lst (es.map YE)),none,none,none]:=zAU (x:=none);have hlen:σ.length=5:=ow.len.symm;obtain⟨v0,r0,A0,vs0,rfl,r1,r2⟩:=ow.sh 0 _ rfl;obtain⟨v1,r3,A1,vs1,rfl,r4,r5⟩:=ow.sh 1 _ rfl;have hvs0:=r2.of_ints;subst hvs0;intro p hpn;have o1:Own X.K G0 H0 G [some (W.sh (.lst (ts.map D.int))),↥(.lst (es.map YE)),none,none,none] (σ.set 2 (some (.ref p))) (upd H p (.dK [])):=(ow.free no (ow.gh.free hpn) (ow.ext.hh.free hpn)).other no λw z=>by cases z
 have T0:Tab G H0 (upd H p (.dK [])) p (ts.take 0) [] ((ts.take 0).map λ_=>[]):=⟨qe,ow.gh.free hpn,ow.ext.hh.free hpn,rfl,rfl,λj l xs h=>(by simp at h),λl h=>(by cases h),xb⟩;refine⟨.ref A0,by rw[zT (by decide)];exact r0,A0,rfl,⟨_,SqL.of (o1.gh _ _ r1)⟩,λn m σ2 H2=>∃ls,Own X.K G0 H0 G [some (W.sh (.lst (ts.map D.int))),↥(.lst (es.map YE)),none,none,none] σ2 H2/\σ2[2]?=some (some (.ref p))/\Tab G H0 H2 p (ts.take n) ls ((ts.take n).map λ_=>[])/\n<=ts.length/\m=ts.length-n,
  ⟨_,[],o1,yr (by rw[hlen];decide),T0,yL _,rfl⟩,?_⟩
 rintro n m σ2 H2 ⟨ls,o2,s22,T2,hn,rfl⟩
 by_cases hlt:n<ts.length
 ·have hq:=o2.gh _ _ r1
  refine .inr ⟨⟨_,.int ts[n],SqL.of hq,by rw[zW,zC hlt];rfl⟩,λσ3 H3=>∃ls,Own X.K G0 H0 G [some (W.sh (.lst (ts.map D.int))),↥(.lst (es.map YE)),none,none,none] σ3 H3/\σ3[2]?=some (some (.ref p))/\Tab G H0 H3 p (ts.take (n+1)) ls ((ts.take (n+1)).map λ_=>[]),
   λσ3 H3 ⟨ls,b1,b2,b3⟩=>⟨ts.length-(n+1),∅,ls,b1,b2,b3,hlt,rfl⟩,λy H3 hy=>?_⟩
  obtain⟨rfl,hy⟩:=hy;have hy:=hy _ (SqL.of hq);rw[zW,zC hlt]at hy;cases hy;have hl2:σ2.length=5:=o2.len.symm;refine⟨by show 0<=sizeLine;exact yL _,λl hl=>?_⟩;refine⟨.ref p,by rw[zT (by decide)];exact s22,.int ts[n],yr (by rw[hl2];decide),?_⟩;have nk:ts[n]∉ts.take n:=λz=>by
   obtain⟨j,hj,ej⟩:=zm.mp z;rw[ZR]at ej;have hj':j<n:=by rw[zb]at hj;omega
   have:=(wL cd1).mp ej;omega
  obtain⟨H4,d1,d2,T4⟩:=T2.put nk hl o2.gh o2.ext.hh (by rw[zb];omega);refine⟨p,H4,rfl,d1,ls++[l],?_,by rw[zT (by decide)];exact s22,?_⟩
  ·subst d2
   exact((o2.free no (o2.gh.free hl) (o2.ext.hh.free hl)).free no T2.gp T2.hp).other no λw z=>by cases z
  ·rw[(wK hlt).symm,za]
   exact T4
 ·have en:n=ts.length:=∅
  subst en;rw[xk]at T2;refine .inl ⟨⟨_,SqL.of (o2.gh _ _ r1),by rw[zB];exact zN _⟩,?_⟩;obtain⟨v1',r3',A1',vs1',rfl,r4',r5'⟩:=o2.sh 1 _ rfl;have hl5:es.length=vs1'.length:=by have:=r5'.len;rw[zB]at this;exact this
  refine⟨.ref A1',r3',A1',rfl,⟨_,SqL.of (o2.gh _ _ r4')⟩,λn m σ3 H3=>∃G3 x4,Own X.K G0 H0 G3 [some (W.sh (.lst (ts.map D.int))),↥(.lst (es.map YE)),none,none,x4.map W.sh] σ3 H3/\YM G G3/\σ3[2]?=some (some (.ref p))/\Tab G3 H0 H3 p ts ls ((es.take n).foldl (Yu ts) (ts.map λ_=>[])) /\
   (∀xs∈(es.take n).foldl (Yu ts) (ts.map λ_=>[]),xs.length<=2*n)/\n<=es.length/\m=es.length-n,
   ⟨_,G,none,o2,YM.refl _,s22,T2,λxs hx=>by obtain⟨_,_,rfl⟩:=zR.mp hx;exact zN _,yL _,rfl⟩,?_⟩
  rintro n m σ3 H3 ⟨G3,x4,o3,g3,s32,T3,b3,hn3,rfl⟩
  by_cases hlt3:n<es.length
  ·have hq3:=o3.gh _ _ (g3 _ _ r4')
   have hlv:n<vs1'.length:=by rw[<- hl5];exact hlt3
   refine .inr ⟨⟨_,vs1'[n],SqL.of hq3,zC hlv⟩,λσ4 H4=>∃G4 x4,Own X.K G0 H0 G4 [some (W.sh (.lst (ts.map D.int))),↥(.lst (es.map YE)),none,none,x4.map W.sh] σ4 H4/\YM G G4/\σ4[2]?=some (some (.ref p))/\Tab G4 H0 H4 p ts ls ((es.take (n+1)).foldl (Yu ts) (ts.map λ_=>[])) /\
    (∀xs∈(es.take (n+1)).foldl (Yu ts) (ts.map λ_=>[]),xs.length<=2*(n+1)),
    λσ4 H4 ⟨G4,x4,b1,b2,b4,b5,b6⟩=>⟨es.length-(n+1),∅,G4,x4,b1,b2,b4,b5,b6,hlt3,rfl⟩,λy H4 hy=>?_⟩
   obtain⟨rfl,hy⟩:=hy;have hy:=hy _ (SqL.of hq3);rw[zC hlv]at hy;cases hy;have hd:(es.map YE)[n]?=some (YE es[n]):=by rw[zW,zC hlt3];rfl
   obtain⟨v,hv1,hv2⟩:=r5'.get hd;rw[zC hlv]at hv1;cases hv1;have hl3:σ3.length=5:=o3.len.symm;have o4:Own X.K G0 H0 G3 [some (W.sh (.lst (ts.map D.int))),↥(.lst (es.map YE)),none,none,↥(YE es[n])] (σ3.set 4 (some vs1'[n])) H4:=o3.setSh (i:=4) (hv2.mono g3);have no4:Y1 [some (W.sh (.lst (ts.map D.int))),↥(.lst (es.map YE)),none,none,↥(YE es[n])]:=zAU (x:=some (YE es[n]));have s42:(σ3.set 4 (some vs1'[n]))[2]?=some (some (.ref p)):=by rw[zT (by decide)];exact s32
   obtain⟨in1,in2⟩:=cd2 es[n] (ze hlt3);refine qb5 k2 k4 o4 no4 s42 T3 (hg0 _ es[n] rfl) (hg1 _ es[n] rfl) in1 (λxs hx=>by have:=b3 xs hx;omega) λG5 H5 o5 g5 T5=>?_;have b5:=q5b (2*n) ts _ es[n].1 es[n].2 b3;refine qb5 k4' k2' o5 no4 s42 T5 (hg1 _ es[n] rfl) (hg0 _ es[n] rfl) in2 (λxs hx=>by have:=b5 xs hx;omega) λG6 H6 o6 g6 T6=>?_;have b6:=q5b (2*n+1) ts _ es[n].2 es[n].1 b5;have et:es.take (n+1)=es.take n++[es[n]]:=(wK hlt3).symm;refine⟨G6,some (YE es[n]),o6,(g3.trans g5).trans g6,s42,?_,?_⟩
   ·rw[et,wI];exact T6
   ·rw[et,wI]
    intro xs hx;have:=b6 xs hx;omega
  ·have en3:n=es.length:=∅
   subst en3;rw[xk]at T3;refine .inl ⟨⟨_,SqL.of (o3.gh _ _ (g3 _ _ r4')),by rw[hl5];exact zN _⟩,?_⟩;have no3:Y1 [some (W.sh (.lst (ts.map D.int))),↥(.lst (es.map YE)),none,none,x4.map W.sh]:=zAU;refine⟨p,_,s32,T3.dict,λob=>?_⟩;obtain⟨G',g',o',rp⟩:=T3.told o3 no3 ob;generalize upd H3 p (.frz ob _)=H4 at o' ⊢;refine⟨.ref p,s32,?_⟩;have oF:Own X.K G0 H0 G' [some (W.sh (.lst (ts.map D.int))),↥(.lst (es.map YE)),none,none,none] σ3 H4:=by
    refine⟨o'.ext,o'.len,λi d h=>?_,λi ds h=>vM h (no.ow i ds),λi j ds es l h=>vM h (no.ow i ds),λi ks ds h=>vM h (no.od i ks ds),Yp.no no.pw⟩
    match i,h with
    | 0,h=>exact o'.sh 0 d h
    | 1,h=>exact o'.sh 1 d h
    | 2,h=>cases h
    | 3,h=>cases h
    | 4,h=>cases h
    | i+5,h=>simp at h
   exact kk G' σ3 H4 oF (g3.trans g') (.ref p) rp
end
theorem qfu{ω:WSt}{e:Int×Int}(h:ω[4]?=some ↥(YE e)):dOf (YC oIx (vOf (Z6 4)) (fC (.int 0))) ω=some (.int e.1):=by
 unfold dOf YC vOf Z6 fC;rw[h];rfl
theorem qex{ω:WSt}{e:Int×Int}(h:ω[4]?=some ↥(YE e)):dOf (YC oIx (vOf (Z6 4)) (fC (.int 1))) ω=some (.int e.2):=by
 unfold dOf YC vOf Z6 fC;rw[h];rfl
noncomputable def zAC(i:Nat)(ω:WSt)(c d:Option D):Option (Out×WSt):=c.bind λc=>d.bind λd=>match c with
 | .int k=>some (.nx,ω.set i (some (.od [k] [d])))
 | _=>none
noncomputable def dsetS(i:Nat)(ω:WSt)(v c:Option D)(w:Option (Option W)):Option (Out×WSt):=v.bind λd=>c.bind λc=>match c,w with
 | .int k,some (some (.od ks ds))=>if ks.length<1000000 then some (.nx,ω.set i (some (.od (Y0 ks k) (putA ks ds k d))))else none
 | _,_=>none
noncomputable def dgetR(o:Option (List Int×List D))(c:Option D):Option R:=o.bind λp=>c.bind λc=>match c with
 | .int k=>(YT p.1 p.2 k).map R.sh
 | _=>none
noncomputable def dhasT(neg:Bool)(c:Option D)(o:Option (List Int×List D)):Option Bool:=c.bind λc=>o.bind λp=>match c with
 | .int k=>some (if neg then !(YT p.1 p.2 k).isSome else (YT p.1 p.2 k).isSome)
 | _=>none
noncomputable def zAB(o:Option (List Int×List D)):Option R:=o.bind λp=>if p.1.length<64 then some (.fr ((YR p.1).map D.int))else none
noncomputable def pop0(i:Nat)(ω:WSt)(w:Option (Option W)):Option (D×WSt):=match w with
 | some (some (.ow ds))=>(ds[ds.length-1]?).map λd=>(d,ω.set i (some (.ow ds.dropLast)))
 | _=>none
noncomputable def zAS(j i:Nat)(ω:WSt)(w:Option (Option W)):Option (Out×WSt):=(pop0 i ω w).map λp=>(.nx,p.2.set j (some (.sh p.1)))
section
variable{ω:WSt}{fk fv:FD}{i j:Nat}{ks:List Int}{ds:List D}{k:Int}{d:D}{neg:Bool}
theorem q9R:WU i ω=some (.nx,ω.set i (some (.od [] []))):=rfl
theorem q88:Wc i fk fv ω=zAC i ω (fk ω) (fv ω):=rfl
theorem qcY:zAC i ω (some (.int k)) (some d)=some (.nx,ω.set i (some (.od [k] [d]))):=rfl
theorem qa8:WB i fk fv ω=dsetS i ω (fv ω) (fk ω) ω[i]?:=rfl
theorem qaJ:Xt i fk ω=dgetR (XR ω[i]?) (fk ω):=rfl
theorem qcC:dgetR (some (ks,ds)) (some (.int k))=(YT ks ds k).map R.sh:=rfl
theorem qd0:XR (some (some (.od ks ds)))=some (ks,ds):=rfl
theorem qcD:XR (some ↥(.dic ks ds))=some (ks,ds):=rfl
theorem qbj:We neg i fk ω=dhasT neg (fk ω) (XR ω[i]?):=rfl
theorem qcN:dhasT true (some (.int k)) (some (ks,ds))=some (!(YT ks ds k).isSome):=rfl
theorem q7O:Wd i ω=zAB (XR ω[i]?):=rfl
theorem q8Z:W4 j (Wz i) ω=zAS j i ω ω[i]?:=rfl
theorem qcU:shrS i ω (some (some (.od ks ds)))=ω.set i ↥(.dic ks ds):=rfl
end
theorem q2E{i:Nat}{ω:WSt}{ks:List Int}{ds:List D}{k:Int}{d:D}(h:ks.length<1000000):dsetS i ω (some d) (some (.int k)) (some (some (.od ks ds)))=some (.nx,ω.set i (some (.od (Y0 ks k) (putA ks ds k d)))):=vH h
theorem qc6{ks:List Int}{ds:List D}(h:ks.length<64):zAB (some (ks,ds))=some (.fr ((YR ks).map D.int)):=vH h
theorem qdF{j i:Nat}{ω:WSt}{ds:List D}{d:D}:zAS j i ω (some (some (.ow (ds++[d]))))=some (.nx,(ω.set i (some (.ow ds))).set j ↥d):=by
 unfold zAS pop0;have e1:(ds++[d])[(ds++[d]).length-1]?=some d:=by
  rw[zG,zx,ZK,zV (zN _),wT];rfl
 have e2:(ds++[d]).dropLast=ds:=by simp
 show Option.map _ (((ds++[d])[(ds++[d]).length-1]?).map _)=_;rw[e1,e2];rfl
section
variable{X:Cx}{o k e:vP}{pos pos':Pos}{i:Nat}{fk fv:FD}
noncomputable def zAV(i:Nat)(fk fv:FD):FS:=λω=>(fv ω).bind λd=>(fk ω).bind λc=>match c,ω[i]? with
 | .int k,some (some (.ow ds))=>(ixN ds.length k).map λj=>(.nx,ω.set i (some (.ow (ds.set j d))))
 | _,_=>none
theorem YF.set{K:zA}{H:Hp}:∀{ds:List D}{vs:List V}(n:Nat){d:D}{v:V},YF K H ds vs->Rep K H d v->YF K H (ds.set n d) (vs.set n v)
 | [],_,_,_,_,h,_=>by cases (show _=_ from h);rfl
 | _::_,_,0,_,_,⟨v,r,h1,h2,h3⟩,hv=>by rw[h1];exact⟨_,_,rfl,hv,h3⟩
 | _::_,_,n+1,_,_,⟨v,r,h1,h2,h3⟩,hv=>by rw[h1];exact⟨v,_,rfl,h2,YF.set n h3 hv⟩
theorem qe1(ho:PE X o (Y7 i))(hk:XD X k fk)(hv:XD X e fv)(hs:swapsWithSole [.Subscript o k pos'] e pos.line X.env=pure false:=by rfl)(hw:swappedStores [.Subscript o k pos'] e X.env=pure none:=by rfl)(h1':(uD [.Subscript o k pos'] X.env).map (·.2)=[assign (.Subscript o k pos') X.env]:=by rfl)(ha:∀v,assign (.Subscript o k pos') X.env v=(do
   let ov <- holding [v] (eval o X.env)
   let iv <- holding [v,ov] (eval k X.env)
   t7 pos'
   holding [v,ov,iv] (setItem ov iv v)
   release [v,ov,iv] []):=by intro _;rfl):XS X (.Assign [.Subscript o k pos'] e pos) (zAV i fk fv):=by
 obtain⟨tk,h1,h2⟩:=hk;obtain⟨tv,h3,h4⟩:=hv;refine⟨_,qen h3 (qf0 ho h1 qbP ha) hs hw h1',λG0 H0 G ω σ H out ω' E ow e kk=>?_⟩;obtain⟨d,q1,e⟩:=bnd e;obtain⟨c,q2,e⟩:=bnd e;refine h4 G0 H0 G ω σ H d _ ow q1 λv G1 H1 x1 y1=>?_;cases c with
 | int m=>
  split at e
  ·rename_i _ _ _ m' ds ek q3
   cases ek;obtain⟨j,hj,e⟩:=mpd e;cases e;have o1:=ow.keep x1;obtain⟨l,vs,r1,r2,r3,r4,r5⟩:=o1.ow i ds q3;refine⟨.ref l,r1,h2 G0 H0 G1 ω σ H1 _ _ o1 q2 λu G2 H2 x2 y2=>?_⟩;cases (show u=.int m from y2);have o2:=o1.keep x2;refine⟨l,vs,m,j,rfl,rfl,x2.hh _ _ r2,by rw[<- r5.len];exact hj,?_⟩;exact kk G2 σ _ (o2.mut q3 r1 (x2.hh _ _ r2) (x2.new l r3 (by rw[r2];exact λz=>by cases z)) r4 ((r5.mono x2.gg).set j (y1.mono x2.gg))) (x1.gg.trans x2.gg)
  ·cases e
 | _=>cases e
end
section
variable{X:Cx}{e:vP}{pos pos':Pos}{i:Nat}{fe:FD}
end
section
open PySem.Spec PyProof.Rows
variable{X:Cx}
end
end Hk
namespace L2
open PySem PySem.Spec PyProof.Rows
end L2
namespace Hk
open PySem L2
noncomputable def lsetS(i:Nat)(ω:WSt)(v c:Option D)(w:Option (Option W)):Option (Out×WSt):=v.bind λd=>c.bind λc=>match c,w with
 | .int k,some (some (.ow ds))=>(ixN ds.length k).map λj=>(.nx,ω.set i (some (.ow (ds.set j d))))
 | _,_=>none
section
variable{ω:WSt}{fk fv:FD}{fa:FA}{i j:Nat}{ds:List D}{a b c:Int}{d:D}{g:Int->Int->Int}
theorem qaf:zAV i fk fv ω=lsetS i ω (fv ω) (fk ω) ω[i]?:=rfl
end
theorem qea{i:Nat}{ω:WSt}{ds:List D}{d:D}{k:Int}(h0:0<=k)(h1:k<ds.length):lsetS i ω (some d) (some (.int k)) (some (some (.ow ds)))=some (.nx,ω.set i (some (.ow (ds.set k.toNat d)))):=by
 show (ixN ds.length k).map _=_;have e:ixN ds.length k=some k.toNat:=by unfold ixN;rw[vH h0,vH h1]
 rw[e];rfl
end Hk
namespace L2
open PySem PySem.Spec PyProof.Rows
noncomputable def Ite(K:zA)(a:vG):It :=
 ⟨λi H=>∃xs x,SqL K H a xs/\xs[i]?=some x,
  λi H x H'=>∃t x1,H t=none/\x=.ref t/\H'=upd H t (.tup [.int i,x1])/\∀xs,SqL K H a xs->xs[i]?=some x1,
  λi H=>∃xs,SqL K H a xs/\xs[i]?=none⟩
theorem qaN{P:vO}{w:vT}{K:zA}{elts:List vP}{kx}{tpos:Pos}(a e it:vG)(hne:e≠it)(hae:a≠e)(hai:a≠it):
  Turn P w K (.Tuple elts kx tpos) (Ite K a) [e,it] e (λi h=>(∃old,IsEnum h e it (i:Int) old)/\h.IsListIter it a i) where
 mem:=by simp
 obj:=λi h st c hc=>by
  obtain⟨⟨old,s1⟩,⟨o4,e4,c4,d4⟩⟩:=st;simp only[zE,zY,or_false]at hc;rcases hc with rfl|rfl
  ·exact⟨_,s1,λv y=>by cases (show Data.fields _=Data.cell v from y)⟩
  ·exact⟨_,e4,λv y=>by rw[d4]at y;cases y⟩
 keep:=λi h h' st k=>by
  obtain⟨⟨old,s1⟩,s4⟩:=st;exact⟨⟨old,k _ (by simp) _ s1⟩,s4.at λo e=>k _ (by simp) o e⟩
 item:=by
  intro X hP hw hK hc i pins s σ H E I hf st hg;subst hP hw hK;obtain⟨xs,x,hq,hx⟩:=hg;obtain⟨its,rv,p,hz⟩:=I.list hq;obtain⟨u,hu,ru⟩:=rv.get hx;obtain⟨⟨old,s1⟩,s4⟩:=st;have ex:∀c∈[e,it],∃o,s.heap.get? c=some o:=λc hc=>by
   simp only[zE,zY,or_false]at hc;rcases hc with rfl|rfl
   ·exact⟨_,s1⟩
   ·obtain⟨o,e,_⟩:=s4;exact⟨o,e⟩
  have nt:∀c∈[e,it],c≠s.heap.objs.size:=λc hc=>by
   obtain⟨o,e⟩:=ex c hc;exact zi (zP e)
  refine wpAny_pyNext_enum_item s1 s4 p.isList (x:=u) (by simpa using hu) hne λh' a1 a2 a3 a4 hk=>?_;have hn:H s.heap.objs.size=none:=I.hok.fresh (zN _);have I1:Inv X pins σ (upd H s.heap.objs.size (.tup [.int i,x])) { s with heap:=s.heap.push { cls:=.type "tuple", data:=.seq #[.int i s.toks,u] },toks:=s.toks+1 } :=
   I.laid (λb o e=>zD _ e) (zN _) (show YQ X.prog X.w _ _ _ (.tup [.int i,x])from ⟨by show 2<=sizeLine;decide,[.int i s.toks,u],.cons ⟨_,rfl⟩ (.cons ru .nil),⟨_,zS _ rfl,rfl,_,rfl⟩⟩)
  have hf':∀c∈[e,it],Y2 X pins (upd H s.heap.objs.size (.tup [.int i,x])) c:=λc hc=>by
   obtain⟨f0,f⟩:=hf c hc;exact⟨by rw[qb (nt c hc)];exact f0,f⟩
  have I2:Inv X pins σ (upd H s.heap.objs.size (.tup [.int i,x])) { s with heap:=h',toks:=s.toks+1 }:=I1.turnedL (λb o hb e=>by
   simp only[zE,zY,or_false,not_or]at hb
   by_cases q:b=s.heap.objs.size
   ·subst q
    rw[zS _ rfl]at e;cases e;exact a3
   ·have e':s.heap.get? b=some o:=by
     rcases zu b s.heap.objs.size with l|l
     ·obtain⟨z1,z2⟩:=xW.mp e
      refine xW.mpr ⟨?_,z2⟩;rw[<- z1];show s.heap.objs[b]?=(s.heap.objs.push _)[b]?;rw[ww,vJ q]
     ·have:=zP e
      rw[yP]at this;exact vM (by simp only[vG]at *;omega) q
    exact hk b o hb.1 hb.2 e') hf'
  refine⟨_,rfl,wpAny_letOwnedTupleGo_enum a1 λh2 b1 sb=>?_⟩;have I3:Inv X pins σ (upd H s.heap.objs.size (.tup [.int i,x])) { s with heap:=h2,toks:=s.toks+1 }:=I2.turnedL (λb o hb e=>(sb.2 b (λq=>hb (by simp[q]))).trans e) hf';have hi:((i+1:Nat):Int)=(i:Int)+1:=by push_cast;rfl
  refine⟨.ref s.heap.objs.size,_,I3,rfl,⟨_,x,hn,rfl,rfl,λxs' q1=>by rw[I.list_inj q1 hq];exact hx⟩,⟨⟨u,by rw[hi];exact b1⟩,a2.extBut sb.extBut (Ne.symm hne)⟩,λc hc=>(hf' c hc).1⟩
 done:=by
  intro X hP hw hK hc i pins s σ H E I hf st hg;subst hP hw hK;obtain⟨xs,hq,hx⟩:=hg;obtain⟨its,rv,p,hz⟩:=I.list hq;obtain⟨⟨old,s1⟩,s4⟩:=st;have l1:=rv.length;refine wpAny_pyNext_enum_end (I.ok.hd hc) s1 s4 p.isList ?_ λh' hk=>⟨rfl,I.turnedL (t':=s.toks) (λb o hb e=>?_) hf⟩
  ·rw[xS]at hx;simp;omega
  ·simp only[zE,zY,or_false,not_or]at hb
   exact hk b o hb.2 e
 self:=λ_ _ _ _ _ st h=>by
  obtain⟨⟨old,s1⟩,s4⟩:=st;exact wpAny_pyIter_enum s1 h
noncomputable def iEnum(K:zA)(ta:TA):TI:=λσ H R=>ta σ H λvs H1=>∃a xs,vs=[.ref a]/\SqL K H1 a xs/\R (Ite K a) H1
theorem qdx{X:Cx}{a:vP}{ta:TA}{p pos tpos:Pos}{elts:List vP}{kx}(hg:Gl X "enumerate")(hm:X.mg "enumerate" = none)(ha:PA X [a] ta)(hs:vK [a] X.env=[(false,eval a X.env)]:=by rfl):
  PI X (.Tuple elts kx tpos) (.Call (.Name "enumerate" p) [a] [] pos) (iEnum X.K ta):=by
 intro pins s σ H R I h;refine Call_ (q0s I hg hm PyProof.Rows.boot_enumerate (PyProof.Rows.callWith_type1 (thn (ha pos pins s σ H _ I h) λus s1 ⟨vs,H1,I1,r1,q1⟩=>?_) hs rfl));obtain⟨l,xs,e,hq,q⟩:=q1;subst e;cases r1 with
 | cons r rr=>
  cases rr;cases r;obtain⟨its,rv,p1,hz⟩:=I1.list hq;have hlt:l<s1.heap.objs.size:=by obtain⟨_,_,e,_⟩:=p1;exact zP e
  refine call_enumerate_list p1.isList λh' a1 a2 a3 hk=>?_;refine wpAny_pyIter_enum a1 ?_;refine⟨s1.heap.objs.size+1,[s1.heap.objs.size+1,s1.heap.objs.size],_,_,H1,rfl,I1.kept (t':=s1.toks) hk,qaN l _ _ (Nat.succ_ne_self _) (zi (yD hlt)) (zi hlt),⟨⟨_,a1⟩,a2⟩,λc hc=>?_,q⟩;have hle:s1.heap.objs.size<=c:=by
   simp only[zE,zY,or_false]at hc;simp only[vG]at *;omega
  exact I1.fpOk hle (I1.hok.fresh hle)
end L2
namespace Hk
open PySem L2
noncomputable def XQ:Nat->List D->List D
 | i,a::as=>.tup [.int i,a]::XQ (i+1) as
 | _,[]=>[]
theorem q3h:∀(i:Nat)(as:List D),(XQ i as).length=as.length
 | i,a::as=>by show (XQ (i+1) as).length+1=_;rw[q3h];rfl
 | i,[]=>rfl
theorem q5t:∀(k:Nat)(as:List D)(i:Nat)(d:D),(XQ k as)[i]?=some d->∃a,as[i]?=some a/\d=.tup [.int ((k+i:Nat):Int),a]
 | k,a::as,0,d,h=>by cases h;exact⟨a,rfl,rfl⟩
 | k,a::as,i+1,d,h=>by
  obtain⟨b,h1,h2⟩:=q5t (k+1) as i d h;exact⟨b,h1,by rw[h2];congr 4;omega⟩
 | k,[],i,d,h=>by cases h
theorem qaV{K:zA}{G:Hp}{a:vG}{ds:List D}{vs:List V}(h1:G a=some (.lst vs))(h2:YF K G ds vs):IterOf K (Ite K a) G (XQ 0 ds):=by
 have l1:=h2.len;refine⟨λH i s hi=>?_,λG2 H i x H' d s0 s1 hd hy=>?_,λH s=>⟨vs,SqL.of (s _ _ h1),?_⟩⟩
 ·rw[q3h]at hi
  exact⟨vs,vs[i]'∅,SqL.of (s _ _ h1),zC _⟩
 ·obtain⟨t,x1,ht,rfl,rfl,y⟩:=hy
  have e1:=y vs (SqL.of (s1 _ _ (s0 _ _ h1)));obtain⟨p,f1,rfl⟩:=q5t 0 ds i d hd;obtain⟨v,q1,q2⟩:=h2.get f1;rw[e1]at q1;cases q1;have x2:=Ext.lay s1 ht (.tup [.int i,x1]);exact⟨_,x2,⟨t,_,rfl,qe,YF.cons (by show (.int i:V)=.int ((0+i:Nat):Int);rw[xg]) (YF.cons (q2.mono (s0.trans x2.gg)) YF.nil)⟩⟩
 ·rw[q3h];exact zo ∅
noncomputable def iEn(g:FA):FI:=λω=>(g ω).bind λds=>match ds with
 | [.lst a]=>some (XQ 0 a)
 | _=>none
theorem qdm{X:Cx}{a:vP}{g:FA}{p pos tpos:Pos}{elts:List vP}{kx}(hg:Gl X "enumerate")(hm:X.mg "enumerate" = none)(ha:XA X [a] g)(hs:vK [a] X.env=[(false,eval a X.env)]:=by rfl):
  XI X (.Tuple elts kx tpos) (.Call (.Name "enumerate" p) [a] [] pos) (iEn g):=by
 obtain⟨⟨t,h1,h2⟩,_⟩:=ha;refine⟨_,qdx hg hm h1 hs,λG0 H0 G ω σ H ds R o e k=>?_⟩;obtain⟨vs,q,e⟩:=bnd e;refine h2 G0 H0 G ω σ H vs _ o q λus G1 H1 x1 y1=>?_
 match vs,e with
 | [.lst as],e=>
  cases e;obtain⟨v1,r1,rfl,z1,z2⟩:=y1;cases (show r1=[]from z2);obtain⟨a1,ws1,rfl,f1,f2⟩:=z1;exact⟨a1,ws1,rfl,SqL.of (x1.gh _ _ f1),k _ G1 H1 x1 (qaV f1 f2)⟩
noncomputable def enI(o:Option (List D)):Option (List D):=o.bind λds=>match ds with
 | [.lst a]=>some (XQ 0 a)
 | _=>none
theorem qcM{fa:FA}{ω:WSt}:iEn fa ω=enI (fa ω):=rfl
theorem qcW{ds:List D}:enI (some [.lst ds])=some (XQ 0 ds):=rfl
section
open PyProof.Rows PySem.Spec
variable{prog:vO}{w:vT}{A:vY}{E:vB->vC->Prop}{s:vC}{l:vG}{xs:Array (Int×Tok)}
end
section
variable{X:Cx}
open PyProof.Rows PySem.Spec
end
end Hk
namespace Hk
open PySem PySem.Spec PyProof.Rows L2
section
variable{prog:vO}{w:vT}{A:vY}{E:vB->vC->Prop}{s:vC}
end
end Hk
namespace L2
open PySem PySem.Spec PyProof.Rows Hk
end L2
namespace Hk
open PySem L2
end Hk
namespace L2
open PySem PySem.Spec PyProof.Rows
noncomputable def Itk(a:vG)(ob:Obj)(kvs:List (Key×V)):It :=
 ⟨λi H=>H a=some (.frz ob (.dK kvs))/\i<kvs.length,λi H x H'=>H'=H/\∃n v,kvs[i]?=some (Sum.inl n,v)/\x=.int n,λi H=>H a=some (.frz ob (.dK kvs))/\kvs.length<=i⟩
theorem qaB{X:Cx}{pins:List (vG×Obj)}{σ:St}{H:Hp}{s:vC}{a:vG}{ob:Obj}{kvs:List (Key×V)}{es0:Array DictEntry}{ep:Nat}(I:Inv X pins σ H s)(h:H a=some (.frz ob (.dK kvs)))(hd:ob.data=.dict es0 ep):
  (a==v8)=false/\∃vs,KV kvs vs/\s.heap.DictAt (YN X.prog X.w) a vs ep:=by
 obtain⟨e,_,lo,vs,r,o,es,ep',e',c1,c2,c3⟩:=(show YQ X.prog X.w H s.heap a (.frz ob (.dK kvs))from I.hok a _ h);refine⟨lo,vs,r,o,es,e',c1,?_,c3⟩;rw[e]at e';cases e';rw[hd]at c2;cases c2;exact hd
theorem qat{P:vO}{w:vT}{K:zA}{tg:vP}{ob:Obj}{kvs:List (Key×V)}{es0:Array DictEntry}{ep:Nat}(a it:vG)(hne:a≠it)(hd:ob.data=.dict es0 ep)(hk:∀p∈kvs,∃n:Int,p.1=(Sum.inl n:Key)):
  Turn P w K tg (Itk a ob kvs) [it] it (λi h=>h.IsKeyIter it a i kvs.length ep) where
 mem:=by simp
 obj:=λi h st b hb=>by
  have e:b=it:=by simpa using hb
  subst e;obtain⟨o,e,c,d⟩:=st;exact⟨o,e,λv z=>by rw[d]at z;cases z⟩
 keep:=λi h h' st k=>st.at λo e=>k it (by simp) o e
 item:=by
  intro X hP hw hK hc i pins s σ H E I hf st hg;subst hP hw hK;obtain⟨hq,hi⟩:=hg;obtain⟨lo,vs,r,hm⟩:=qaB I hq hd;have hl:kvs.length=vs.length:=by have:=vf yi r.keys;simpa using this
  obtain⟨⟨k,v⟩,hx⟩:∃p,kvs[i]?=some p:=⟨kvs[i],zC hi⟩;obtain⟨n,rfl⟩:=hk _ (z9 hx);obtain⟨⟨k',u⟩,hu⟩:∃p,vs[i]?=some p:=⟨vs[i]'∅,zC _⟩;have ek:k'=(Sum.inl n:Key):=by
   have h1:(kvs.map (·.1))[i]?=some (Sum.inl n):=by rw[zW,hx];rfl
   rw[r.keys,zW,hu]at h1;exact zt h1
  subst ek;obtain⟨f0,f1,f2,f3,f4,f5⟩:=hf it (by simp);rw[hl]at st;refine wpAny_pyNext_dict_item st hm hu λkey h' hkey st' sb=>?_;have I1:Inv X pins σ H { s with heap:=h' }:=I.turned (t':=s.toks) (λb o hb e=>(sb.2 b hb).trans e) f0 f1 f3 f4 f5;obtain⟨t,rfl⟩:∃t,key=.int n t:=by
   rcases qy (k:=(Sum.inl n:Key)) hkey with⟨i,t,e4,rfl⟩|⟨x,t,e4,_⟩
   ·cases e4;exact⟨t,rfl⟩
   ·cases e4
  obtain⟨o,e,c,d⟩:=id st';rw[<- hl]at st';exact⟨.int n t,rfl,q68 (s:={ s with heap:=h' }) e c d (by decide) ⟨.int n,H,I1,⟨t,rfl⟩,⟨rfl,n,v,hx,rfl⟩,st',λb hb=>(hf b hb).1⟩⟩
 done:=by
  intro X hP hw hK hc i pins s σ H E I hf st hg;subst hP hw hK;obtain⟨hq,hi⟩:=hg;obtain⟨lo,vs,r,hm⟩:=qaB I hq hd;have hl:kvs.length=vs.length:=by have:=vf yi r.keys;simpa using this
  obtain⟨f0,f1,f2,f3,f4,f5⟩:=hf it (by simp);rw[hl]at st;exact wpAny_pyNext_dict_end (I.ok.hd hc) st hm (zo ∅) λh' eb=>⟨rfl,I.turned (t':=s.toks) (λb o hb e=>eb b o hb e) f0 f1 f3 f4 f5⟩
 self:=λ_ _ _ _ _ st h=>wpAny_pyIter_keyiter st h
noncomputable def iKeys(tl:TE):TI:=λσ H R=>tl σ H λv H1=>∃a ob kvs,v=.ref a/\H1 a=some (.frz ob (.dK kvs))/\(∀p∈kvs,∃n:Int,p.1=(Sum.inl n:Key))/\R (Itk a ob kvs) H1
theorem qdh{X:Cx}{tg l:vP}{tl:TE}(hl:PE X l tl):PI X tg l (iKeys tl):=by
 intro pins s σ H R I h;refine thn (hl pins s σ H _ I h) λv s1 ⟨x,H1,I1,r1,q1⟩=>?_;obtain⟨a,ob,kvs,e,hq,hk,q⟩:=q1;subst e;cases r1;obtain⟨e0,_,lo,vs,r,o,es,ep,e',c1,c2,c3⟩:=(show YQ X.prog X.w H1 s1.heap a (.frz ob (.dK kvs))from I1.hok a _ hq);have hob:ob.data=.dict es ep:=by rw[e0]at e';cases e';exact c2
 have hm:s1.heap.DictAt (YN X.prog X.w) a vs ep:=⟨o,es,e',c1,c2,c3⟩;have hlen:kvs.length=vs.length:=by have:=vf yi r.keys;simpa using this
 have hlt:a<s1.heap.objs.size:=zP e0;refine wpAny_pyIter_dict lo hm ?_;refine⟨s1.heap.objs.size,[s1.heap.objs.size],_,_,H1,rfl,I1.kept (t':=s1.toks) λb o e=>zD _ e,qat a _ (zi hlt) hob hk,⟨_,zS _ rfl,rfl,by rw[hlen];rfl⟩,λb hb=>?_,q⟩;have e:b=s1.heap.objs.size:=by simpa using hb
 subst e;exact I1.fpOk (zN _) (I1.hok.fresh (zN _))
end L2
namespace Hk
open PySem L2
theorem q5K:∀{ks:List Int}{vs:List V}{i:Nat}{n:Int}{v:V},(kvsOf ks vs)[i]?=some (Sum.inl n,v)->ks[i]?=some n
 | [],_,_,_,_,h=>by cases h
 | _::_,[],_,_,_,h=>by cases h
 | k::ks,v::vs,0,n,u,h=>by cases h;rfl
 | k::ks,v::vs,i+1,n,u,h=>q5K (ks:=ks) (vs:=vs) h
theorem q5i:∀{ks:List Int}{vs:List V},∀p∈kvsOf ks vs,∃n:Int,p.1=(Sum.inl n:Key)
 | [],_,_,h=>by cases h
 | _::_,[],_,h=>by cases h
 | k::ks,v::vs,p,h=>by
  rcases zE.mp h with rfl|h
  ·exact⟨k,rfl⟩
  ·exact q5i p h
theorem qaY{K:zA}{G:Hp}{a:vG}{ob:Obj}{ks:List Int}{vs:List V}(h1:G a=some (.frz ob (.dK (kvsOf ks vs))))(hl:ks.length=vs.length):IterOf K (Itk a ob (kvsOf ks vs)) G (ks.map D.int):=by
 have l1:=q2d hl;refine⟨λH i s hi=>⟨s _ _ h1,by rw[zB]at hi;omega⟩,λG2 H i x H' d s0 s1 hd hy=>?_,λH s=>⟨s _ _ h1,by rw[zB];omega⟩⟩;obtain⟨e,n,v,q1,q2⟩:=hy;subst e q2;have:=q5K q1;rw[zW,this]at hd;cases hd;exact⟨G2,Ext.refl s1,rfl⟩
noncomputable def Ws:Option (Option W)->Option (List D)
 | some ↥(.dic ks _)=>some (ks.map D.int)
 | _=>none
noncomputable def iDk(i:Nat):FI:=λω=>Ws ω[i]?
theorem qee{X:Cx}{tg o:vP}{i:Nat}(ho:PE X o (Y7 i)):XI X tg o (iDk i):=by
 refine⟨_,qdh ho,λG0 H0 G ω σ H ds R ow e k=>?_⟩;unfold iDk Ws at e
 split at e
 ·rename_i ks ds' q
  cases e;obtain⟨v,h1,p,vs,rfl,⟨ob,h2⟩,h3,h4⟩:=ow.sh i _ q;exact⟨.ref p,h1,p,ob,_,rfl,ow.gh _ _ h2,q5i,k _ G H (Ext.refl ow.gh) (qaY h2 (by rw[h3];exact h4.len))⟩
 ·cases e
abbrev Cal(P:vO)(w:vT)(K:zA)(mg:Str->Option vB)(base:vZ)(k:Nat)(f:vG)(d:vN)(x:Str)(ps:List Str)(n:Nat)(m:List D->Option O):Prop :=
 FnOk P w K mg base CX0 k f d ps (spD K n m)/\mg x=some (.ref f)/\xJ K (.ref f)=true/\Binds K d ps []
section
variable{X:Cx}{x:Str}{pos:Pos}
theorem xc{e:vP}{es:List vP}{k k0:Nat}{f:vG}{fd:vN}{ps:List Str}{m:List D->Option O}{p:Pos}{g:FA}(c:Cal X.prog X.w X.K X.mg X.base k f fd x ps (e::es).length m)(hr:Room k0 X.A)(ha:XA X (e::es) g)(hk:k<=k0:=by decide)(hg:Gl X x:=by exact rfl)(hdb:(x==("__debug__" : Str))=false:=by decide)(he:vK (e::es) X.env=(false,eval e X.env)::vK es X.env:=by rfl)(hpl:(vm pos (vK es X.env)).any (·.1)=false:=by rfl):
  XE X (.Call (.Name x p) (e::es) [] pos) (YG m g):=zAN c.1 (hr.mono hk) hg c.2.1 c.2.2.1 c.2.2.2 pass0 ha hdb he hpl
theorem vE(i:Nat)(hN:X.N[i]?=some x:=by rfl)(hv:Vis X.env.scope x:=by first|exact Or.inl rfl|exact Or.inr (Or.inl rfl)|exact Or.inr (Or.inr rfl))(hd:(x==("__debug__" : Str))=false:=by decide)(hcd:(x==("__classdict__" : Str))=false:=by decide):XE X (.Name x pos) (Z6 i):=Wk i (pv i hN hv hd hcd)
theorem vV(i:Nat)(hN:X.N[i]?=some x:=by rfl)(hv:Vis X.env.scope x:=by first|exact Or.inl rfl|exact Or.inr (Or.inl rfl)|exact Or.inr (Or.inr rfl))(hd:(x==("__debug__" : Str))=false:=by decide)(hcd:(x==("__classdict__" : Str))=false:=by decide):XV X (.Name x pos) (vOf (Z6 i)):=XE.toV (Wk i (pv i hN hv hd hcd))
theorem vD(i:Nat)(hN:X.N[i]?=some x:=by rfl)(hv:Vis X.env.scope x:=by first|exact Or.inl rfl|exact Or.inr (Or.inl rfl)|exact Or.inr (Or.inr rfl))(hd:(x==("__debug__" : Str))=false:=by decide)(hcd:(x==("__classdict__" : Str))=false:=by decide):XD X (.Name x pos) (dOf (Z6 i)):=XE.toD (Wk i (pv i hN hv hd hcd))
end
def Fd(K:zA)(x:Str)(st:vo)(f:vG):Prop:=yH K vQ x=some (some (.ref f))/\∃fd,Fun K x x st f fd
section
variable{P:vO}{w:vT}{K:zA}{mg:Str->Option vB}{base h:vZ}{x:Str}{st:vo}{f:vG}{fd:vN}
theorem qfQ{oc:vB}{od an:Option vG}{osl:Array (Option vB)}{kV doc pm cdv ct:vB}(a:yH K vQ x=some (some (.ref f)))(l:K.lookup f=some ⟨oc,od,.func (yz x x (Ys st) (Yd st) (Z9 st) .none kV doc pm an cdv ct),osl⟩)(c:xy K cdv x=true)(k:xJ K (.ref f)=true):Fd K x st f:=⟨a,_,qez l c k⟩
theorem qh(P:vO)(w:vT)(base:vZ)(X:K.In h)(G:h.Ns vQ mg){x:Str}{st:vo}{f:vG}{fd:vN}{k n:Nat}{ps:List Str}{m:List D->Option O}(D:Fd K x st f)(F:Fun K x x st f fd)(o:FnOk P w K mg base CX0 k f fd ps (spD K n m))(b:∀(kV doc pm:vB)(an:Option vG)(cdv ct:vB)(us:List vB),us.length=ps.length->bindArgs (yz x x (Ys st) (Yd st) (Z9 st) .none kV doc pm an cdv ct) ⟨us,[]⟩=pure (ps.zip us)):Cal P w K mg base k f fd x ps n m :=
 ⟨o,w9 X G D.1,F.kp,F.binds b⟩
end
end Hk
namespace Hk
open PySem PyProof.Rows
noncomputable def kcl(c:Int)(l:List ub):List ub:=l.filter λp=>tU p.1==c
def X1(l m:List ub):Prop:=∀c,kcl c l=kcl c m
theorem q07(c:Int)(a b:List ub):kcl c (a++b)=kcl c a++kcl c b:=List.filter_append ..
theorem q3R(c:Int)(a:List ub):kcl c a.reverse=(kcl c a).reverse:=List.filter_reverse ..
theorem q4r{c:Int}{l:List ub}(h:∀p∈l,tU p.1≠c):kcl c l=[]:=wV.mpr λp hp=>by simpa using h p hp
theorem q2P{xs:Array ub}{i:Nat}{p:ub}(h:xs.toList[i]?=some p):K xs i=tU p.1:=by
 unfold K;rw[<- zX,h]
theorem q8n{α:Type}{l:List α}{i j:Nat}{p:α}(h:p∈(l.take j).drop i):∃n,i<=n/\n<j/\l[n]?=some p:=by
 obtain⟨m,hm⟩:=yf.mp h;rw[yv,yh]at hm
 split at hm
 ·exact⟨i+m,∅,by assumption,hm⟩
 ·cases hm
theorem cut3{α:Type}(l:List α){i j:Nat}(h:i<=j):l.take i++((l.take j).drop i++l.drop j)=l:=by
 have:l.take i=(l.take j).take i:=by rw[Zt,Zl h]
 rw[this,<- yE,yV,yV]
theorem q2t{xs:Array ub}{i j:Nat}(hij:i<=j)(hj:j<=xs.size):(mirror xs i j ((j-i)/2)).toList=xs.toList.take i++(((xs.toList.take j).drop i).reverse++xs.toList.drop j):=by
 apply yl;intro k;rw[zX,getElem?_mirror_all hj];have hl:xs.toList.length=xs.size:=zQ;rcases zu k i with h1|h1
 ·rw[vJ ∅,zZ (by rw[zb];omega),yh,vH h1,zX]
 ·rw[zV (by rw[zb];omega),zb,show min i xs.toList.length=i by omega]
  have ld:((xs.toList.take j).drop i).length=j-i:=by rw[z8,zb];omega
  rcases zu k j with h2|h2
  ·rw[vH ⟨h1,h2⟩,zZ (by rw[xB,ld];omega),List.getElem?_reverse (by rw[ld];omega),ld,yv,yh,vH ∅,zX]
   congr 1;omega
  ·rw[vJ ∅,zV (by rw[xB,ld];omega),xB,ld,yv,zX]
   congr 1;omega
theorem q7q{xs:Array ub}{j l:Nat}(hs:j<xs.size)(hl:l<=j):(bubble xs j (j-l)).toList=xs.toList.take l++(xs[j]::((xs.toList.take j).drop l++xs.toList.drop (j+1))):=by
 apply yl;intro k;rw[zX,getElem?_bubble hs _ ∅,show j-(j-l)=l by omega];have hn:xs.toList.length=xs.size:=zQ;rcases zu k l with h1|h1
 ·rw[vJ ∅,vJ ∅,zZ (by rw[zb];omega),yh,vH h1,zX]
 ·rw[zV (by rw[zb];omega),zb,show min l xs.toList.length=l by omega]
  rcases wC h1 with h2|h2
  ·subst h2
   rw[vH rfl,wT,xD,getElem?_pos xs j hs]
  ·rw[vJ ∅]
   obtain⟨m,hm⟩:∃m,k-l=m+1:=⟨k-l-1,∅⟩;rw[hm,ym];have ld:((xs.toList.take j).drop l).length=j-l:=by rw[z8,zb];omega
   rcases zu m (j-l)with h3|h3
   ·rw[vH ∅,zZ (by rw[ld];exact h3),yv,yh,vH ∅,zX]
    congr 1;omega
   ·rw[vJ ∅,zV (by rw[ld];exact h3),ld,yv,zX]
    congr 1;omega
theorem q7y{xs:Array ub}{j l:Nat}(hs:j<xs.size)(hl:l<=j)(h:∀i,l<=i->i<j->K xs j<K xs i):X1 (bubble xs j (j-l)).toList xs.toList:=by
 intro c;have hx:xs.toList[j]?=some xs[j]:=by rw[zX,getElem?_pos xs j hs]
 have e:xs.toList=xs.toList.take l++((xs.toList.take j).drop l++(xs[j]::xs.toList.drop (j+1))):=by
  have d:xs.toList.drop j=xs[j]::xs.toList.drop (j+1):=by
   rw[xR (by rw[zQ];exact hs),Array.getElem_toList]
  rw[<- d,cut3 _ hl]
 rw[q7q hs hl,q07];have e2:kcl c xs.toList=kcl c (xs.toList.take l)++(kcl c ((xs.toList.take j).drop l)++kcl c (xs[j]::xs.toList.drop (j+1))):=by
  conv=>lhs;rw[e]
  rw[q07,q07]
 rw[e2]
 congr 1
 show kcl c ([xs[j]]++((xs.toList.take j).drop l++xs.toList.drop (j+1)))=_++kcl c ([xs[j]]++xs.toList.drop (j+1));rw[q07,q07,q07]
 by_cases z:tU xs[j].1=c
 ·have no:kcl c ((xs.toList.take j).drop l)=[]:=q4r λp hp=>by
   obtain⟨n,n1,n2,n3⟩:=q8n hp;have k1:=q2P n3;have k2:=q2P hx;have:=h n n1 n2;omega
  rw[no,yY,yY]
 ·have no:kcl c [xs[j]]=[]:=q4r λp hp=>by cases zL.mp hp;exact z
  rw[no,yY,yY]
structure DInv (a₀:Array ub) (xs:Array ub) (x neq:Nat):Prop where
 le:neq+1<=x
 ni:sD xs x
 eq:∀i,x-(neq+1)<=i->i<x->K xs i=K xs (x-1)
 lt:0<x-(neq+1)->K xs (x-(neq+1))<K xs (x-(neq+1)-1)
 cl:∀c,kcl c (xs.toList.take (x-(neq+1)))=(kcl c (a₀.toList.take (x-(neq+1)))).reverse
 dr:xs.toList.drop (x-(neq+1))=a₀.toList.drop (x-(neq+1))
theorem DInv.flip{a₀ xs:Array ub}{x neq:Nat}(D:DInv a₀ xs x neq)(hx:x<=xs.size)(hz:xs.size=a₀.size):
  (∀c,kcl c ((mirror xs (x-(neq+1)) x ((x-(x-(neq+1)))/2)).toList.take x)=(kcl c (a₀.toList.take x)).reverse)/\(mirror xs (x-(neq+1)) x ((x-(x-(neq+1)))/2)).toList.drop x=a₀.toList.drop x:=by
 have hb:x-(neq+1)<=x:=Nat.sub_le _ _;have hle:=D.le;have hbx:x-(neq+1)<x:=∅
 have lt:=D.lt;have eq:=D.eq;have ni:=D.ni;have cl:=D.cl;have dr:=D.dr;generalize x-(neq+1)=b at hb hbx lt eq cl dr;have hn:xs.toList.length=xs.size:=zQ;have hn0:a₀.toList.length=a₀.size:=zQ;have run:(xs.toList.take x).drop b=(a₀.toList.take x).drop b:=by
  rw[Zu,Zu,dr]
 have lrun:((xs.toList.take x).drop b).length=x-b:=by rw[z8,zb];omega
 rw[q2t hb hx];have l1:(xs.toList.take b++((xs.toList.take x).drop b).reverse).length=x:=by
  rw[zG,xB,lrun,zb];omega
 rw[<- yE];refine⟨λc=>?_,?_⟩
 ·rw[Zm l1,q07,q3R,run]
  have e0:a₀.toList.take x=a₀.toList.take b++(a₀.toList.take x).drop b:=by
   have:a₀.toList.take b=(a₀.toList.take x).take b:=by rw[Zt,Zl hb]
   rw[this,yV]
  have e9:kcl c (a₀.toList.take x)=kcl c (a₀.toList.take b)++kcl c ((a₀.toList.take x).drop b):=(vf (kcl c) e0).trans (q07 c _ _);rw[e9,List.reverse_append,<- cl c]
  by_cases z:c=K xs (x-1)
  ·have no:kcl c (xs.toList.take b)=[]:=q4r λp hp=>by
    obtain⟨m,hm⟩:=yf.mp hp;rw[yh]at hm
    split at hm
    ·rename_i hmb
     have k1:=q2P hm;have k2:=lt ∅;have k3:=ni m (b-1) ∅ ∅;have k4:K xs b=K xs (x-1):=eq b (zN _) hbx;omega
    ·cases hm
   rw[no,yY,z5]
  ·have no:kcl c ((a₀.toList.take x).drop b)=[]:=q4r λp hp=>by
    rw[<- run]at hp;obtain⟨n,n1,n2,n3⟩:=q8n hp;have k1:=q2P n3;have k2:=eq n n1 n2;intro y;exact z ∅
   rw[no,List.reverse_nil,z5,yY]
 ·rw[Zn l1]
  have e1:xs.toList.drop x=(xs.toList.drop b).drop (x-b):=by rw[Zv];congr 1;omega
  have e2:a₀.toList.drop x=(a₀.toList.drop b).drop (x-b):=by rw[Zv];congr 1;omega
  rw[e1,e2,dr]
section
variable{prog:vO}{w:vT}{A:vY}{E:vB->vC->Prop}{s:vC}{a₀:Array ub}
theorem q3N{xs ys:Array ub}{x:Nat}(h:sD xs x)(e:∀k,K ys k=K xs k)(hl:x=0\/K xs x<=K xs (x-1)):sD ys (x+1):=by
 intro i j hij hj;rw[e,e];rcases zu j x with y|y
 ·exact h i j hij y
 ·obtain rfl:j=x:=∅
  rcases wC hij with z|z
  ·rw[z];exact yM _
  ·rcases hl with hl|hl
   ·omega
   ·exact xP hl (h i (j-1) ∅ ∅)
theorem q7J{st:ug}{n nrem:Nat}{Q:DescSt->ug->Prop}(h0:IntKeys a₀)(hn:nrem<=a₀.size)(h1:1<=n)(hnn:n<=nrem)(hB:uy a₀ st)(hD:DInv a₀ (vS st) n 0)(h:∀m neq st',uy a₀ st'->n<=m->m<=nrem->DInv a₀ (vS st') m neq->Q (none,m,neq) st'):wpS (model prog w) A E s (descLoop n nrem) Q st:=by
 unfold descLoop;refine uq (I:=λx c st'=>∃neq,c=(none,x,neq)/\uy a₀ st'/\DInv a₀ (vS st') x neq) ?turn ?done ⟨0,rfl,hB,hD⟩
 case done=>
  rintro c st' ⟨neq,rfl,b1,b2⟩;rw[Nat.max_eq_right hnn]at b2 ⊢;exact h nrem neq st' b1 hnn (zN _) b2
 case turn=>
  rintro x c st' hx1 hx2 ⟨neq,rfl,b1,D⟩
  dsimp only
  have hsz:(vS st').size=a₀.size:=b1.size;have hle:=D.le;refine vj (wpS_ltK b1 h0 ∅ ∅ ?_)
  by_cases less:K (vS st') x<K (vS st') (x-1)
  ·rw[vU less]
   simp only[if_true];obtain⟨f1,f2⟩:=D.flip ∅ hsz;have ke:=tK (xs:=vS st') (i:=x-(neq+1)) (j:=x) ∅ D.eq;have next:DInv a₀ (mirror (vS st') (x-(neq+1)) x ((x-(x-(neq+1)))/2)) (x+1) 0:=by
    refine⟨∅,q3N D.ni ke (.inr (xh less)),λi i1 i2=>?_,λ_=>?_,?_,?_⟩
    ·congr 1;omega
    ·show K _ x<K _ (x-1)
     rw[ke,ke];exact less
    ·exact f1
    ·exact f2
   by_cases hq:neq>0
   ·rw[vH hq]
    exact vj (tL (v7 ⟨0,rfl,b1.setArr (tM _ _ _ _),next⟩))
   ·rw[vJ hq]
    have hq0:neq=0:=∅
    subst hq0;have e:mirror (vS st') (x-(0+1)) x ((x-(x-(0+1)))/2)=vS st':=by
     have:(x-(x-(0+1)))/2=0:=∅
     rw[this];rfl
    rw[e]at next
    exact v7 ⟨0,rfl,b1,next⟩
  ·rw[vW less]
   simp only[zy,if_false];refine vj (wpS_ltK b1 h0 ∅ ∅ ?_)
   by_cases more:K (vS st') (x-1)<K (vS st') x
   ·rw[vU more]
    simp only[if_true];exact v7 (h x neq st' b1 hx1 ∅ D)
   ·rw[vW more]
    simp only[zy,if_false];have ex:K (vS st') x=K (vS st') (x-1):=∅
    have eb:x+1-(neq+1+1)=x-(neq+1):=∅
    refine v7 ⟨neq+1,rfl,b1,∅,q3N D.ni (λ_=>rfl) (.inr ∅),λi i1 i2=>?_,?_,?_,?_⟩
    ·rw[eb]at i1
     rw[show x+1-1=x by omega,ex];rcases zu i x with y|y
     ·exact D.eq i i1 y
     ·obtain rfl:i=x:=∅
      exact ex
    ·rw[eb];exact D.lt
    ·rw[eb];exact D.cl
    ·rw[eb];exact D.dr
theorem q8l{st:ug}{n nrem:Nat}{Q:Option Nat->ug->Prop}(h0:IntKeys a₀)(hn:nrem<=a₀.size)(h1:1<=n)(hnn:n<=nrem)(hB:uy a₀ st)(hs:sD (vS st) n)(hc:∀c,kcl c ((vS st).toList.take n)=(kcl c (a₀.toList.take n)).reverse)(hd:(vS st).toList.drop n=a₀.toList.drop n)(h:∀m st',uy a₀ st'->1<=m->m<=nrem->uc (vS st') m->X1 (vS st').toList a₀.toList->Q (some m) st'):wpS (model prog w) A E s (tail3 n nrem) Q st:=by
 unfold tail3;have hsz:n<=(vS st).size:=by rw[hB.size];omega
 refine vj (tL ?_);have b1:uy a₀ (setArr st (mirror (vS st) 0 n ((n-0)/2))):=hB.setArr (tM _ _ _ _);have stb:X1 (mirror (vS st) 0 n ((n-0)/2)).toList a₀.toList:=λc=>by
  rw[q2t (yL _) hsz,Zw,yY,wE,q07,q3R,hc c,wo,hd,<- q07,yV]
 refine vj (wpS_ascLoop h0 hn h1 hnn b1 (λi j hij hj=>?_) λm m1 m2 m3 _=>v7 (h m _ b1 ∅ m2 m3 stb));show K (mirror (vS st) 0 n ((n-0)/2)) i<=K (mirror (vS st) 0 n ((n-0)/2)) j;rw[K_mirror hsz,K_mirror hsz,vH ∅,vH ∅];exact hs _ _ ∅ ∅
theorem q3T{st:ug}{n nrem:Nat}{Q:Option Nat->ug->Prop}(h0:IntKeys a₀)(hn:nrem<=a₀.size)(hnn:n+1<=nrem)(hB:uy a₀ st)(hD:DInv a₀ (vS st) (n+1) 0)(h:∀m st',uy a₀ st'->1<=m->m<=nrem->uc (vS st') m->X1 (vS st').toList a₀.toList->Q (some m) st'):wpS (model prog w) A E s (descPart n nrem) Q st:=by
 unfold descPart;refine vj (wpS_lift (uI ⟨rfl,?_⟩));refine vj (q7J h0 hn ∅ hnn hB hD λm neq st' b1 m1 m2 D=>?_)
 dsimp only
 have hsz:(vS st').size=a₀.size:=b1.size;have hle:=D.le;obtain⟨f1,f2⟩:=D.flip ∅ hsz;have ke:=tK (xs:=vS st') (i:=m-(neq+1)) (j:=m) ∅ D.eq
 by_cases hq:neq>0
 ·rw[vH hq]
  refine vj (tL (q8l h0 hn ∅ m2 (b1.setArr (tM _ _ _ _)) (λi j hij hj=>?_) f1 f2 h));show K (mirror (vS st') _ _ _) j<=K (mirror (vS st') _ _ _) i;rw[ke,ke];exact D.ni i j hij hj
 ·rw[vJ hq]
  have hq0:neq=0:=∅
  subst hq0;have e:mirror (vS st') (m-(0+1)) m ((m-(m-(0+1)))/2)=vS st':=by
   have:(m-(m-(0+1)))/2=0:=∅
   rw[this];rfl
  rw[e]at f1 f2;exact q8l h0 hn ∅ m2 b1 D.ni f1 f2 h
theorem q7H{st:ug}{nrem:Nat}{Q:Option Nat->ug->Prop}(h0:IntKeys a₀)(hn:nrem<=a₀.size)(h1:1<=nrem)(hB:uy a₀ st)(hA:vS st=a₀)(h:∀m st',uy a₀ st'->1<=m->m<=nrem->uc (vS st') m->X1 (vS st').toList a₀.toList->Q (some m) st'):wpS (model prog w) A E s (countRun' 0 nrem) Q st:=by
 rw[countRun0_eq];refine vj (wpS_ascLoop h0 hn (zN 1) h1 hB (λi j hij hj=>by obtain rfl:i=j:=∅;exact yM _) λn n1 n2 n3 n4=>?_)
 dsimp only
 have same:X1 (vS st).toList a₀.toList:=λc=>by rw[hA]
 by_cases e1:n=nrem
 ·rw[vH ⇑e1]
  exact v7 (h n st hB n1 n2 n3 same)
 ·rw[vJ ⇑e1]
  have lt:=n4.resolve_left e1
  by_cases e2:n>1
  ·rw[vH e2]
   refine vj (wpS_ltK hB h0 ∅ ∅ ?_)
   by_cases rose:K (vS st) 0<K (vS st) (n-1)
   ·rw[vU rose]
    simp only[if_true];exact v7 (h n st hB n1 n2 n3 same)
   ·rw[vW rose]
    simp only[zy,if_false];have hsz:n<=(vS st).size:=by rw[hB.size];omega
    have all:∀k,0<=k->k<n->K (vS st) k=K (vS st) (n-1):=λk _ hk=>by
     have a1:=n3 0 k ∅ hk;have a2:=n3 k (n-1) ∅ ∅;omega
    have ke:=tK (xs:=vS st) (i:=0) (j:=n) hsz all;refine vj (tL (q3T h0 hn ∅ (hB.setArr (tM _ _ _ _)) ?_ h));show DInv a₀ (mirror (vS st) 0 n ((n-0)/2)) (n+1) 0;have ml:=q2t (yL n) hsz;rw[Zw,yY,wE]at ml;have ll:(((vS st).toList.take n).reverse).length=n:=by rw[xB,zb,zQ];omega
    have ni:sD (vS st) n:=λi j hij hj=>by rw[all i ∅ ∅,all j ∅ hj];exact yM _
    refine⟨∅,q3N ni ke (.inr (xh lt)),λi i1 i2=>?_,λ_=>?_,λc=>?_,?_⟩
    ·congr 1;omega
    ·show K _ n<K _ (n-1)
     rw[ke,ke];exact lt
    ·show kcl c ((mirror (vS st) 0 n ((n-0)/2)).toList.take n)=(kcl c (a₀.toList.take n)).reverse
     rw[ml,Zm ll,q3R,hA]
    ·show (mirror (vS st) 0 n ((n-0)/2)).toList.drop n=a₀.toList.drop n
     rw[ml,Zn ll,hA]
  ·rw[vJ e2]
   obtain rfl:n=1:=∅
   refine q3T h0 hn ∅ hB ?_ h;have ni:sD (vS st) 1:=λi j hij hj=>by obtain rfl:i=j:=∅;exact yM _
   refine⟨∅,q3N ni (λ_=>rfl) (.inr (xh lt)),λi i1 i2=>?_,λ_=>lt,λc=>?_,?_⟩
   ·congr 1;omega
   ·show kcl c ((vS st).toList.take 1)=(kcl c (a₀.toList.take 1)).reverse
    rw[hA,<- q3R];cases a₀.toList with
    | nil=>rfl
    | cons p r=>rfl
   ·rw[hA]
theorem qaC{st:ug}{n ok:Nat}{Q:Bool->ug->Prop}(h0:IntKeys a₀)(hn:n<=a₀.size)(hok:ok<=n)(hB:uy a₀ st)(hs:uc (vS st) ok)(hS:X1 (vS st).toList a₀.toList)(h:∀st',uy a₀ st'->uc (vS st') n->X1 (vS st').toList a₀.toList->Q true st'):wpS (model prog w) A E s (binarySort' 0 n ok) Q st:=by
 rw[binarySort'_eq];simp only[xg];refine vj (sE (uq (I:=λj c st'=>c=(none,())/\uy a₀ st'/\uc (vS st') (min j n)/\X1 (vS st').toList a₀.toList)
  (Q:=λc st'=>c=(none,())/\uy a₀ st'/\uc (vS st') n/\X1 (vS st').toList a₀.toList) ?turn ?done ?first) λc st' z=>?_)
 case first=>
  refine⟨rfl,hB,λi j hij hj=>?_,hS⟩
  by_cases y:ok=0
  ·obtain rfl:i=j:=∅
   exact yM _
  ·exact hs i j hij ∅
 case done=>
  rintro c st' ⟨hc,b1,b2,b3⟩;rw[show min (max (max ok 1) n) n=n by omega]at b2;exact⟨hc,b1,b2,b3⟩
 case turn=>
  rintro j c st' j1 j2 ⟨rfl,b1,b2,b3⟩;rw[show min j n=j by omega]at b2;have hj:j<a₀.size:=∅
  have hjs:j<(vS st').size:=by rw[b1.size];exact hj
  refine vj (sE (uq (I:=λx c st2=>st2=st'/\∃l r,c=(none,l,r)/\l<=r/\r<=j/\r-l<=j-x/\(∀i,i<l->K (vS st') i<=K (vS st') j)/\∀i,r<=i->i<j->K (vS st') j<K (vS st') i)
   (Q:=λc st2=>st2=st'/\∃l r,c=(none,l,r)/\l<=j/\(∀i,i<l->K (vS st') i<=K (vS st') j)/\∀i,l<=i->i<j->K (vS st') j<K (vS st') i) ?half ?found ?all) λc st2 z=>?_)
  case all=>exact⟨rfl,0,j,rfl,yL _,zN _,∅,λi y=>∅,λi y1 y2=>∅⟩
  case found=>
   rintro c st2 ⟨rfl,l,r,rfl,c1,c2,c3,c4,c5⟩;obtain rfl:l=r:=∅
   exact⟨rfl,l,l,rfl,c2,c4,c5⟩
  case half=>
   rintro x c st2 _ hx ⟨rfl,l,r,rfl,c1,c2,c3,c4,c5⟩
   dsimp only
   by_cases y:l>=r
   ·rw[vH y]
    obtain rfl:l=r:=∅
    exact v7 ⟨rfl,l,l,rfl,c2,c4,c5⟩
   ·rw[vJ y]
    refine vj (wpS_ltK b1 h0 hj ∅ ?_)
    by_cases less:K (vS st2) j<K (vS st2) ((l+r)/2)
    ·rw[vU less]
     simp only[if_true];refine v7 ⟨rfl,l,(l+r)/2,rfl,∅,∅,∅,c4,λi i1 i2=>?_⟩;exact Int.lt_of_lt_of_le less (b2 _ _ i1 i2)
    ·rw[vW less]
     simp only[zy,if_false];refine v7 ⟨rfl,(l+r)/2+1,r,rfl,∅,∅,∅,λi i1=>?_,c5⟩;have:=b2 i ((l+r)/2) ∅ ∅;omega
  obtain⟨rfl,l,r,rfl,c1,c2,c3⟩:=z;show wpS _ _ _ _ (do moveDown' j l;pure (ForInStep.yield (none,()))) _ _;rw[moveDown'_eq];refine vj (wpS_modify (v7 ⟨rfl,b1.setArr (bubble_perm _ _ _),?_,?_⟩))
  ·rw[show min (j+1) n=j+1 by omega]
   intro i k hik hk;show K (bubble (vS st2) j (j-l)) i<=K (bubble (vS st2) j (j-l)) k;rw[K_bubble hjs ∅,K_bubble hjs ∅,show j-(j-l)=l by omega]
   repeat' split
   all_goals first
    | (exfalso;omega)
    | exact yM _
    | exact c2 _ ∅
    | exact xh (c3 _ ∅ ∅)
    | exact b2 _ _ ∅ ∅
  ·intro c
   rw[<- b3 c];exact q7y hjs c1 c3 c
 obtain⟨rfl,b1,b2,b3⟩:=z;exact v7 (h st' b1 b2 b3)
def W8(a₀:Array ub)(st:ug):Prop:=SDone a₀ st/\X1 (vS st).toList a₀.toList
theorem q7t{st:ug}{Q:Unit->ug->Prop}(h0:IntKeys a₀)(hB:uy a₀ st)(hA:vS st=a₀)(h2:2<=a₀.size)(h64:a₀.size<64)(h:∀st',(vS st').Perm a₀->failedOf st'=none->uc (vS st') a₀.size->X1 (vS st').toList a₀.toList->Q () st'):wpS (model prog w) A E s sortRuns' Q st:=by
 rw[sortRuns'_eq];refine vj (wpS_get ?_)
 dsimp only
 have mr:minRun' a₀.size a₀.size 0=a₀.size:=by
  cases e:a₀.size with
  | zero=>omega
  | succ f=>rw[minRun'_succ,vH ∅]
 simp only[hB.size,mr];refine vj (sE (uq (I:=λx c st'=>(x=0/\c=(none,0)/\st'=st)\/(1<=x/\c=(none,a₀.size)/\W8 a₀ st')) (Q:=λc st'=>c=(none,a₀.size)/\W8 a₀ st') ?turn ?done (.inl ⟨rfl,rfl,rfl⟩)) λc st' z=>?_)
 case done=>
  rintro c st' (⟨y,_,_⟩|⟨_,y1,y2⟩)
  ·omega
  ·exact⟨y1,y2⟩
 case turn=>
  rintro x c st' _ hx (⟨rfl,rfl,rfl⟩|⟨x1,rfl,D⟩)
  ·dsimp only
   rw[vJ ∅];simp only[ZY,Nat.min_self,xg];refine vj (q7H h0 (zN _) ∅ hB hA λm st2 b1 m1 m2 m3 m4=>?_)
   dsimp only
   by_cases y:m<a₀.size
   ·rw[vH y]
    refine vj (wpS_lift (uI ⟨rfl,?_⟩));refine vj (qaC h0 (zN _) m2 b1 m3 m4 λst3 d1 d2 d3=>?_);simp only[ZD,zy,if_false];refine vj (wpS_get ?_);have nb:(pendingOf st3).back?=none:=by rw[d1.pend];rfl
    rw[nb]
    dsimp only
    exact vj (wpS_modify (v7 (.inr ⟨∅,rfl,d1.done d2,d3⟩)))
   ·rw[vJ y]
    obtain rfl:m=a₀.size:=∅
    refine vj (wpS_get ?_);have nb:(pendingOf st2).back?=none:=by rw[b1.pend];rfl
    rw[nb]
    dsimp only
    exact vj (wpS_modify (v7 (.inr ⟨∅,rfl,b1.done m3,m4⟩)))
  ·dsimp only
   rw[vH (zN _)];exact v7 ⟨rfl,D⟩
 obtain⟨rfl,D⟩:=z
 dsimp only
 refine vj (sE (uq (I:=λ_ c st2=>st2=st'/\c=(none,())) (Q:=λc st2=>st2=st'/\c=(none,())) (λx c st2 _ _ y=>?_) (λ_ _ y=>y) ⟨rfl,rfl⟩) λc st2 y=>?_)
 ·obtain⟨rfl,rfl⟩:=y
  refine vj (wpS_get ?_);rw[vH (by rw[D.1.2.2.1];exact zN 1)];exact v7 ⟨rfl,rfl⟩
 ·obtain⟨rfl,rfl⟩:=y
  exact v7 (h _ D.1.1 D.1.2.1 D.1.2.2.2 D.2)
end
section
variable{α β:Type}
noncomputable def Xf(f:α->Int)(x:α):List α->List α
 | []=>[x]
 | y::r=>if f x<=f y then x::y::r else y::Xf f x r
noncomputable def YJ(f:α->Int)(l:List α):List α:=l.foldr (Xf f) []
noncomputable def clK(f:α->Int)(c:Int)(l:List α):List α:=l.filter λx=>f x==c
theorem q3d{f:α->Int}{x:α}:∀{l:List α},(Xf f x l).Perm (x::l)
 | []=>.refl _
 | y::r=>by
  unfold Xf
  split
  ·exact .refl _
  ·exact(q3d.cons y).trans (.swap x y r)
theorem q02{f:α->Int}:∀{l:List α},(YJ f l).Perm l
 | []=>.refl _
 | y::r=>q3d.trans ((q02 (l:=r)).cons y)
theorem q5I(f:α->Int)(l:List α):(YJ f l).length=l.length:=q02.length_eq
theorem q7P{f:α->Int}{x:α}:∀{l:List α},l.Pairwise (λa b=>f a<=f b)->(Xf f x l).Pairwise (λa b=>f a<=f b)
 | [],_=>wP _ _
 | y::r,h=>by
  obtain⟨h1,h2⟩:=zc.mp h;unfold Xf
  split
  ·rename_i z
   refine zc.mpr ⟨λa ha=>?_,h⟩;rcases zE.mp ha with rfl|ha
   ·exact z
   ·exact xP z (h1 a ha)
  ·rename_i z
   refine zc.mpr ⟨λa ha=>?_,q7P h2⟩;rcases zE.mp (q3d.mem_iff.mp ha)with rfl|ha
   ·omega
   ·exact h1 a ha
theorem q2W{f:α->Int}:∀{l:List α},(YJ f l).Pairwise (λa b=>f a<=f b)
 | []=>.nil
 | y::r=>q7P (q2W (l:=r))
theorem q90{f:α->Int}{x:α}(c:Int):∀{l:List α},l.Pairwise (λa b=>f a<=f b)->clK f c (Xf f x l)=clK f c (x::l)
 | [],_=>rfl
 | y::r,h=>by
  obtain⟨h1,h2⟩:=zc.mp h;unfold Xf
  split
  ·rfl
  ·rename_i z
   have ih:=q90 (x:=x) c h2;unfold clK at ih ⊢;rw[yC,ih,yC,yC,yC]
   by_cases a:f x=c
   ·have:¬f y=c:=∅
    simp[a,this]
   ·simp[a]
theorem q77{f:α->Int}(c:Int):∀{l:List α},clK f c (YJ f l)=clK f c l
 | []=>rfl
 | y::r=>by
  show clK f c (Xf f y (YJ f r))=_;rw[q90 c q2W];unfold clK;rw[yC,yC];have ih:=q77 (f:=f) c (l:=r);unfold clK at ih;rw[ih]
theorem q1D{f:α->Int}{a:α}{l:List α}:clK f (f a) (a::l)=a::clK f (f a) l:=by
 unfold clK;rw[yC,vH (by simp)]
theorem q8y{f:α->Int}:∀{l m:List α},l.Pairwise (λa b=>f a<=f b)->m.Pairwise (λa b=>f a<=f b)->(∀c,clK f c l=clK f c m)->l=m
 | [],m,_,_,h=>by
  cases m with
  | nil=>rfl
  | cons b m=>have:=h (f b);rw[q1D]at this;cases this
 | a::l,m,h1,h2,h=>by
  cases m with
  | nil=>have:=h (f a);rw[q1D]at this;cases this
  | cons b m=>
   obtain⟨p1,p2⟩:=zc.mp h1;obtain⟨q1,q2⟩:=zc.mp h2;have x1:a∈b::m:=by
    have:a∈clK f (f a) (b::m):=by rw[<- h,q1D];exact zI
    exact(zd.mp this).1
   have x2:b∈a::l:=by
    have:b∈clK f (f b) (a::l):=by rw[h,q1D];exact zI
    exact(zd.mp this).1
   have e:f a=f b:=by
    rcases zE.mp x1 with y|y
    ·rw[y]
    ·rcases zE.mp x2 with z|z
     ·rw[z]
     ·have:=q1 a y;have:=p1 b z;omega
   have hab:=h (f a);rw[q1D]at hab;rw[e,q1D]at hab;obtain⟨rfl,_⟩:=Zz hab;refine vf (a::·) (q8y p2 q2 λc=>?_);have hc:=h c;unfold clK at hc ⊢;rw[yC,yC]at hc
   by_cases z:(f a==c)=true
   ·rw[vH z,vH z]at hc;exact(Zz hc).2
   ·rw[vJ z,vJ z]at hc;exact hc
theorem q6b{f:β->Int}{g:α->β}{x:α}:∀{l:List α},Xf f (g x) (l.map g)=(Xf (λa=>f (g a)) x l).map g
 | []=>rfl
 | y::r=>by
  show (if f (g x)<=f (g y)then _ else _)=(if f (g x)<=f (g y)then _ else _:List α).map g
  split
  ·rfl
  ·rw[q6b];rfl
theorem q1p{f:β->Int}{g:α->β}:∀{l:List α},YJ f (l.map g)=(YJ (λa=>f (g a)) l).map g
 | []=>rfl
 | y::r=>by
  show Xf f (g y) (YJ f (r.map g))=(Xf _ y (YJ _ r)).map g;rw[q1p,q6b]
end
theorem qdy{a₀ xs:Array ub}(hp:xs.Perm a₀)(hs:uc xs a₀.size)(hS:X1 xs.toList a₀.toList):xs.toList=YJ (λp=>tU p.1) a₀.toList:=by
 have hn:xs.size=a₀.size:=hp.size_eq;refine q8y (f:=λp:ub=>tU p.1) (yJ.mpr λi j hi hj hij=>?_) q2W λc=>(hS c).trans (q77 c).symm;have e1:=q2P (xs:=xs) (i:=i) (zC hi);have e2:=q2P (xs:=xs) (i:=j) (zC hj);rw[<- e1,<- e2];exact hs i j ∅ (by rw[zQ]at hj;omega)
end Hk
namespace Hk
open PySem PySem.Spec PyProof.Rows L2
section
variable{X:Cx}{pins:List (vG×Obj)}{σ:L2.St}{H:Hp}{s:vC}
theorem qaL{h':vZ}{a:vG}{ys:List V}{its:List vB}{n t':Nat}(I:Inv X pins σ H s)(fa:Y2 X pins H a)(k:∀b o,b≠a->s.heap.get? b=some o->h'.get? b=some o)(new:h'.get? a=some { cls:=.type "list", data:=.seq its.toArray n })(hv:YO ys its)(hz:ys.length<=sizeLine):Inv X pins σ (upd H a (.lst ys)) { s with heap:=h',toks:=t' }:=by
 obtain⟨f0,f1,f2,f3,f4,f5⟩:=fa;have I1:=I.turned (h':=h') (t':=t') (it:=a) k f0 f1 f3 f4 f5;have na:∀{b:vG}{u:HO},H b=some u->b≠a:=λq z=>by rw[z,f0]at q;cases q
 refine Inv.step (s:={ s with heap:=h',toks:=t' }) (H':=upd H a (.lst ys)) (h':=h') (g':=s.gens) (d':=s.drawn) (t':=t') (ch:=[a]) I1 (λb hb=>?_) (λb o _ _ _ e _=>e) (λb o _ _ _ e _=>⟨o.slots,e⟩)
  (λb o hc e n=>by rw[qb ⇑hc];exact n) (λb o _ e=>⟨o,e⟩) (λb xs q=>by rw[qb (na q)];exact q) (λb o u q=>by rw[qb (na q)];exact q)
  (λb ps q=>⟨#[],by rw[qb (na q),q];simp⟩) (λ_ hm=>hm) (λb u q=>?_) I1.bare
 ·cases zL.mp hb
  exact⟨f3,f1,f4,f5⟩
 ·by_cases z:b=a
  ·subst z
   rw[qe]at q;cases q;exact⟨hz,its,n,hv,new⟩
  ·rw[qb z]at q
   exact(I1.hok b u q).stay (λ_ _ _ q=>q) (λc q=>by rw[qb (na q)];exact q) (λc xs q=>by rw[qb (na q)];exact q)
theorem qdv{k:Nat}{f:vG}{fd:vN}{ps:List Str}{sp:Sp}{E:XK}{Q:VK}{us:List vB}{vs:List V}{E':vB->vC->Prop}(F:FnOk X.prog X.w X.K X.mg X.base CX0 k f fd ps sp)(hr:Room (k+2) X.A)(hb:Binds X.K fd ps [])(I:Inv X pins σ H s)(r:YO vs us)(h:sp vs H Q E):vL (model X.prog X.w) X.A.in1.in1 (call (.ref f) us) (EP X pins σ Q) E' s:=by
 have hl:(us++[]).length=ps.length:=by rw[z5,<- r.length];exact F.len _ _ _ _ h
 have b:=hb s us I.kIn hl;rw[z5]at b;refine wpAny_call (uQ (F.run X.A.in1.in1 X.stack s H ⟨us,[]⟩ us vs Q E hr.in1.in1 I.env0.in1.in1 b r h) λr s' hq=>?_);cases r with
 | error e=>exact False.elim hq
 | ok fl=>
  cases fl with
  | ret u=>exact I.after hq
  | next=>exact False.elim hq
  | brk=>exact False.elim hq
  | cont=>exact False.elim hq
end
theorem q2q{α:Type}{f g:α->Int}:∀{l:List α},(∀x∈l,f x=g x)->YJ f l=YJ g l
 | [],_=>rfl
 | y::r,h=>by
  show Xf f y (YJ f r)=Xf g y (YJ g r);rw[q2q λx hx=>h x (zJ _ hx)];have:∀{l:List α},(∀x∈l,f x=g x)->Xf f y l=Xf g y l:=λ{l} hl=>by
   induction l with
   | nil=>rfl
   | cons z r ih=>
    unfold Xf;rw[h y zI,hl z zI,ih λx hx=>hl x (zJ _ hx)]
  exact this λx hx=>h x (zJ _ (q02.mem_iff.mp hx))
theorem q79{α:Type}{f:α->V}{g:α->vB}:∀{l:List α},(∀t∈l,RelV (f t) (g t))->YO (l.map f) (l.map g)
 | [],_=>.nil
 | t::r,h=>.cons (h t zI) (q79 λx hx=>h x (zJ _ hx))
theorem q54:∀{xs:List V}{vs:List vB}{i:Nat}{v:vB},YO xs vs->vs[i]?=some v->∃x,xs[i]?=some x/\RelV x v
 | _,_,i,v,.nil,h=>by simp at h
 | _,_,0,v,.cons r _,h=>by simp at h;subst h;exact⟨_,rfl,r⟩
 | _,_,i+1,v,.cons _ r,h=>by
  obtain⟨x,a,b⟩:=q54 (i:=i) r ⇑h;exact⟨x,by simpa using a,b⟩
theorem q6B:∀{vs:List vB}{ns:List Int}{i:Nat}{v:vB},v5 vs ns->vs[i]?=some v->ns[i]?=some (tU v)
 | _,_,i,v,.nil,h=>by simp at h
 | _,_,0,v,.cons _ _ _,h=>by simp at h;subst h;rfl
 | _,_,i+1,v,.cons _ _ r,h=>by
  have:=q6B (i:=i) r ⇑h;simpa using this
theorem q7m{xs:List V}{vs ks:List vB}{ds:List D}{kf:D->Int}(rv:YO xs vs)(hd:ds.length=xs.length)(hk:v5 ks (ds.map kf)):YO ((YJ (λz:D×V=>kf z.1) (ds.zip xs)).map (·.2)) ((YJ (λp:vB×vB=>tU p.1) (ks.zip vs)).map (·.2)):=by
 have l1:=rv.length;have l2:=hk.length;rw[zB]at l2
 let L:=(ds.zip xs).zip (ks.zip vs)
 have e1:ds.zip xs=L.map Prod.fst:=by
  rw[xl];rw[yT,yT];omega
 have e2:ks.zip vs=L.map Prod.snd:=by
  rw[List.map_snd_zip];rw[yT,yT];omega
 have mem:∀t∈L,kf t.1.1=tU t.2.1/\RelV t.1.2 t.2.2:=λt ht=>by
  obtain⟨i,hi⟩:=yf.mp ht;obtain⟨a1,a2⟩:=yc.mp hi;obtain⟨b1,b2⟩:=yc.mp a1;obtain⟨c1,c2⟩:=yc.mp a2;obtain⟨x,g1,g2⟩:=q54 rv c2;rw[b2]at g1;cases g1;have g3:=q6B hk c1;rw[zW,b1]at g3;exact⟨zt g3,g2⟩
 rw[e1,e2,q1p,q1p,zp,zp,q2q λt ht=>(mem t ht).1];exact q79 λt ht=>(mem t (q02.mem_iff.mp ht)).2
section
variable{X:Cx}{pins:List (vG×Obj)}{σ:L2.St}{G H:Hp}{s:vC}{a kS:vG}{xs:List V}{vs:List vB}{ds:List D}{kf:D->Int}
noncomputable def apart(pins:List (vG×Obj))(a kS:vG)(e1:Nat)(ks:Array vB)(e:Nat):List (vG×Obj):=pins++[(kS,vp "list" ks e),(a,vp "list" #[] e1)]
theorem q4k(I:Inv X (apart pins a kS e1 ks e) σ H s):s.heap.get? kS=some (vp "list" ks e)/\H kS=none:=by
 have:=I.pin (kS,vp "list" ks e) (zF _ (zF _ zI));exact⟨this.1,this.2.1⟩
theorem q4Q(I:Inv X (apart pins a kS e1 ks e) σ H s):s.heap.get? a=some (vp "list" #[] e1)/\H a=none:=by
 have:=I.pin (a,vp "list" #[] e1) (zF _ (zF _ (zJ _ zI)));exact⟨this.1,this.2.1⟩
theorem q5M(I:Inv X (apart pins a kS e1 ks e) σ H s):Inv X pins σ H s:=I.unpinned
theorem q6Z{e1 e:Nat}{ks:Array vB}(I:Inv X pins σ H s)(fk:Y2 X pins H kS)(fa:Y2 X pins H a)(hk:s.heap.get? kS=some (vp "list" ks e))(ha:s.heap.get? a=some (vp "list" #[] e1)):Inv X (apart pins a kS e1 ks e) σ H s :=
 I.pins_of λp hp=>by
  rcases zK.mp hp with z|z
  ·exact I.pin p (zF _ z)
  ·rcases zE.mp z with rfl|z
   ·exact⟨hk,fk.1,fk.2.1,fk.2.2.1,λv h=>by cases h⟩
   ·cases zL.mp z
    exact⟨ha,fa.1,fa.2.1,fa.2.2.1,λv h=>by cases h⟩
theorem q4O{h:vZ}{b:vG}{ys:Array vB}{n:Nat}(q:h.get? b=some (vp "list" ys n))(f:Array vB->Array vB):∃n',(h.update b (Obj.mapSeq f)).get? b=some (vp "list" (f ys) n'):=⟨_,get?_update_seq q f⟩
theorem q3K{H':Hp}{b:vG}(h:Y2 X pins H b)(n:H' b=none):Y2 X pins H' b:=⟨n,h.2⟩
theorem q6f{st:ug}{ks:Array vB}{e e1:Nat}{P:PySem.Fin->vC->Prop}{E:vB->vC->Prop}{A:vY}(I:Inv X (apart pins a kS e1 ks e) σ H s)(ne:kS≠a)(fk:Y2 X pins H kS)(fa:Y2 X pins H a)(rv:YO xs vs)(hd:ds.length=xs.length)(hk:v5 ks.toList (ds.map kf))(h64:vs.length<64)(ho:(vS st).toList=YJ (λp:ub=>tU p.1) (ks.toList.zip vs))(hf:failedOf st=none)(h:∀s',Inv X pins σ (upd H a (.lst ((YJ (λz:D×V=>kf z.1) (ds.zip xs)).map (·.2)))) s'->P (.done (.ret .none)) s'):
  vL (model X.prog X.w) A (ksk_tail a false e1 (.ref kS) st) P E s:=by
 obtain⟨qk,hk0⟩:=q4k I;obtain⟨qa,ha0⟩:=q4Q I;have I0:=q5M I;have lk:ks.toList.length=vs.length:=by have:=hk.length;have:=rv.length;rw[zB]at *;omega
 have lo:((vS st).map (·.2)).size=vs.length:=by
  rw[Array.size_map,<- zQ,ho,q5I,yT];omega
 have qa1:(s.heap.update kS (Obj.mapSeq λ_=>(#[]:Array vB))).get? a=some (vp "list" #[] e1):=(zh _ _ ne).trans qa;obtain⟨c2,qa2⟩:=q4O qa1 (λ_=>(vS st).map (·.2));have sv:=q7m rv hd hk;have el:((vS st).map (·.2)).toList=(YJ (λp:vB×vB=>tU p.1) (ks.toList.zip vs)).map (·.2):=by rw[Array.toList_map,ho]
 unfold ksk_tail
 try dsimp only
 refine vA (u4 qk rfl (vA (wpAny_letGo (vA (seqEpoch_at qa1 rfl ?_)))) (by rw[<- zQ,lk,vn];omega) (yL _));refine vA (u4 qa1 rfl ?_ (yL _) (by show ((vS st).map (·.2)).size<=_;rw[lo,vn];omega));rw[hf];simp only[bne_self_eq_false,zy,if_false];refine vF (h _ ?_);have I1:=I0.turned (h':=s.heap.update kS (Obj.mapSeq λ_=>(#[]:Array vB))) (t':=s.toks) (it:=kS) (λb o hb q=>(zh _ _ (Ne.symm hb)).trans q) fk.1 fk.2.1 fk.2.2.2.1 fk.2.2.2.2.1 fk.2.2.2.2.2;refine qaL (s:={ s with heap:=s.heap.update kS (Obj.mapSeq λ_=>(#[]:Array vB)) }) (its:=((vS st).map (·.2)).toList) (n:=c2) (t':=s.toks) I1 fa (λb o hb q=>(zh _ _ (Ne.symm hb)).trans q) ?_ (by rw[el];exact sv) ?_
 ·rw[xM];exact qa2
 ·rw[sv.length,<- el,zQ,lo,vn];omega
theorem qdP{ks:Array vB}{e e1:Nat}{P:PySem.Fin->vC->Prop}{E:vB->vC->Prop}{A:vY}(I:Inv X (apart pins a kS e1 ks e) σ H s)(ne:kS≠a)(fk:Y2 X pins H kS)(fa:Y2 X pins H a)(rv:YO xs vs)(hd:ds.length=xs.length)(hk:v5 ks.toList (ds.map kf))(h64:vs.length<64)(h:∀s',Inv X pins σ (upd H a (.lst ((YJ (λz:D×V=>kf z.1) (ds.zip xs)).map (·.2)))) s'->P (.done (.ret .none)) s'):
  vL (model X.prog X.w) A (ksk_end a false vs.toArray e1 (.ref kS) ks) P E s:=by
 have lk:ks.size=vs.length:=by rw[<- zQ];have:=hk.length;have:=rv.length;rw[zB]at *;omega
 have lz:(ks.zip vs.toArray).size=vs.length:=by rw[Array.size_zip,lk,zO,Nat.min_self]
 have ez:(ks.zip vs.toArray).toList=ks.toList.zip vs:=ksk_zip ks vs;unfold ksk_end
 try dsimp only
 rw[vJ (by decide)]
 by_cases h2:vs.toArray.size<2
 ·rw[vH h2,vH h2]
  refine vA (vF ?_);rw[StateT.run_pure];refine vA (vF (q6f (st:=SortSt.mk' general' (ks.zip vs.toArray) #[] 7 none) I ne fk fa rv hd hk h64 ?_ rfl h));show (ks.zip vs.toArray).toList=_;rw[ez];rw[zO]at h2;have l2:(ks.toList.zip vs).length<2:=by rw[yT];omega
  match ks.toList.zip vs,l2 with
  | [],_=>rfl
  | [_],_=>rfl
  | _::_::_,l2=>simp at l2;omega
 ·rw[vJ h2,vJ h2]
  rw[zO]at h2;rw[ksk_kind hk (by rw[lk];omega)];refine vA (vF (vA (vh (q7t (a₀:=ks.zip vs.toArray) (st:=SortSt.mk' oneType' (ks.zip vs.toArray) #[] 7 none)
   (Q:=λ_ st'=>(vS st').Perm (ks.zip vs.toArray)/\failedOf st'=none/\uc (vS st') (ks.zip vs.toArray).size/\X1 (vS st').toList (ks.zip vs.toArray).toList)
   (ksk_intKeys hk) ⟨Array.Perm.refl _,rfl,rfl,rfl⟩ rfl (by rw[lz];omega) (by rw[lz];exact h64) λst' b1 b2 b3 b4=>⟨b1,b2,b3,b4⟩) ?_ λ_ _ z=>z)))
  rintro⟨⟨⟩,st'⟩ s' ⟨rfl,b1,b2,b3,b4⟩
  try dsimp only
  refine q6f I ne fk fa rv hd hk h64 ?_ b2 h;rw[qdy b1 b3 b4,ez]
theorem qc9{k:Nat}{f:vG}{fd:vN}{ps:List Str}{m:List D->Option O}{e1:Nat}{P:PySem.Fin->vC->Prop}{E:vB->vC->Prop}(F:FnOk X.prog X.w X.K X.mg X.base CX0 k f fd ps (spD X.K 1 m))(hr:Room (k+2) X.A)(hb:Binds X.K fd ps [])(I:Inv X (apart pins a kS e1 #[] 0) σ H s)(ne:kS≠a)(fk:Y2 X pins H kS)(fa:Y2 X pins H a)(sg:YM G H)(rp:YF X.K G ds xs)(rv:YO xs vs)(h64:vs.length<64)(hm:∀d∈ds,m [d]=↥(.int (kf d)))(h:∀G' H' s',Ext G H G' H'->H' a=none->Inv X pins σ (upd H' a (.lst ((YJ (λz:D×V=>kf z.1) (ds.zip xs)).map (·.2)))) s'->P (.done (.ret .none)) s'):
  vL (model X.prog X.w) X.A.in1.in1 (ksk_rest a (.ref f) false vs.toArray e1 (.ref kS)) P E s:=by
 have ld:ds.length=xs.length:=rp.len;have lv:xs.length=vs.length:=rv.length;unfold ksk_rest;refine vA (uI ?_);rw[List.forIn_toArray];refine vA (ksk_fold (λi s'=>∃G' H' ks e,Inv X (apart pins a kS e1 ks e) σ H' s'/\Ext G H G' H'/\v5 ks.toList ((ds.map kf).take i)) vs 0 s
  ⟨G,H,#[],0,I,Ext.refl sg,by simpa using IntsAre.nil⟩ ?turn ?done)
 case turn=>
  rintro j x s' hx ⟨G',H',ks,e,I',x',hk⟩;simp only[xg]at hk ⊢;have hj:j<vs.length:=(zq.mp hx).1;obtain⟨y,hy,ry⟩:=q54 rv hx;have hdj:ds[j]?=some ds[j]:=zC ∅;obtain⟨y',hy',rd⟩:=rp.get hdj;rw[hy]at hy';cases hy';have lks:ks.size<=vs.length:=by
   have:=hk.length;rw[zQ,zb]at this;omega
  refine vA (uO (vh (qdv (Q:=λv H2=>v=.int (kf ds[j])/\∃G2,Ext G H G2 H2) (E:=λ_ _ _=>False) (E':=λ_ _=>False) F hr hb I' (.cons ry .nil) ?_) (λu s2 he=>?_) λ_ _ z=>False.elim z))
  ·exact⟨G',[ds[j]],_,hm _ (ze ∅),rfl,x'.gh,YF.cons (rd.mono x'.gg) YF.nil,λv G2 H2 x2 y2=>⟨y2,G2,x'.trans x2⟩⟩
  ·obtain⟨v,H2,I2,rvu,rfl,G2,x2⟩:=he
   obtain⟨t2,rfl⟩:∃t,u=.int (kf ds[j]) t:=by
    obtain⟨t,z⟩:=rvu;exact⟨t,z⟩
   try dsimp only
   obtain⟨qk,hk0⟩:=q4k I2;obtain⟨qa,ha0⟩:=q4Q I2;obtain⟨c2,qk2⟩:=q4O qk (·.push (.int (kf ds[j]) t2));have fk2:=q3K fk hk0;refine vA (u4 qk rfl (vF ⟨rfl,G2,H2,ks.push (.int (kf ds[j]) t2),c2,?_,x2,?_⟩) (by rw[vn];omega) (by rw[wc,vn];omega))
   ·have I3:=(q5M I2).turned (h':=s2.heap.update kS (Obj.mapSeq (·.push (.int (kf ds[j]) t2)))) (t':=s2.toks) (it:=kS) (λb o hb q=>(zh _ _ (Ne.symm hb)).trans q) fk2.1 fk2.2.1 fk2.2.2.2.1 fk2.2.2.2.2.1 fk2.2.2.2.2.2
    exact q6Z I3 fk2 (q3K fa ha0) qk2 ((zh _ _ ne).trans qa)
   ·have ek:(ds.map kf).take (j+1)=(ds.map kf).take j++[kf ds[j]]:=by
     rw[ZV,zW,hdj];rfl
    have ea:(ks.push (Value.int (kf ds[j]) t2)).toList=ks.toList++[Value.int (kf ds[j]) t2]:=by simp
    rw[ea,ek];exact ksk_snoc hk
 case done=>
  rintro s' ⟨G',H',ks,e,I',x',hk⟩;rw[xZ (by rw[zB];omega)]at hk;obtain⟨qk,hk0⟩:=q4k I';obtain⟨qa,ha0⟩:=q4Q I'
  try dsimp only
  exact vA (listItems_at qk rfl (qdP I' ne (q3K fk hk0) (q3K fa ha0) rv ld hk h64 λs2 I2=>h G' H' s2 x' ha0 I2))
end
section
variable{X:Cx}{pins:List (vG×Obj)}{σ:L2.St}{G H:Hp}{s:vC}{a:vG}{xs:List V}{vs:List vB}{ds:List D}{kf:D->Int}{k:Nat}{f:vG}{fd:vN}{ps:List Str}{m:List D->Option O}
theorem qbL{n:Nat}{P:PySem.Fin->vC->Prop}{E:vB->vC->Prop}(F:FnOk X.prog X.w X.K X.mg X.base CX0 k f fd ps (spD X.K 1 m))(hr:Room (k+2) X.A)(hb:Binds X.K fd ps [])(I:Inv X pins σ H s)(fa:Y2 X pins H a)(qa:s.heap.get? a=some (vp "list" vs.toArray n))(sg:YM G H)(rp:YF X.K G ds xs)(rv:YO xs vs)(h64:vs.length<64)(hm:∀d∈ds,m [d]=some (.sh (.int (kf d))))(h:∀G' H' s',Ext G H G' H'->H' a=none->Inv X pins σ (upd H' a (.lst ((YJ (λz:D×V=>kf z.1) (ds.zip xs)).map (·.2)))) s'->P (.done (.ret .none)) s'):
  vL (model X.prog X.w) X.A.in1.in1 (ksk_tree a (.ref f) false) P E s:=by
 obtain⟨e1,qa1⟩:=q4O qa (λ_=>(#[]:Array vB));have la:a<s.heap.objs.size:=zP qa;have I3:=I.turned (h':=s.heap.update a (Obj.mapSeq λ_=>(#[]:Array vB))) (t':=s.toks) (it:=a) (λb o hb q=>(zh _ _ (Ne.symm hb)).trans q) fa.1 fa.2.1 fa.2.2.2.1 fa.2.2.2.2.1 fa.2.2.2.2.2;have I4:=I3.kept (h':=(s.heap.update a (Obj.mapSeq λ_=>(#[]:Array vB))).push (vp "tuple" vs.toArray 0)) (t':=s.toks) λb u q=>zD _ q;have fk:=I4.fpOk (zN _) (I4.hok.fresh (zN _));have I5:=I4.kept (h':=((s.heap.update a (Obj.mapSeq λ_=>(#[]:Array vB))).push (vp "tuple" vs.toArray 0)).push (vp "list" #[] 0)) (t':=s.toks) λb u q=>zD _ q;have qa5:(((s.heap.update a (Obj.mapSeq λ_=>(#[]:Array vB))).push (vp "tuple" vs.toArray 0)).push (vp "list" #[] 0)).get? a=some (vp "list" #[] e1):=zD _ (zD _ qa1);have hn:((s.heap.update a (Obj.mapSeq λ_=>(#[]:Array vB))).push (vp "tuple" vs.toArray 0)).objs.size=s.heap.objs.size+1:=by rw[size_push',xE]
 have I6:=q6Z (e:=0) (ks:=#[]) I5 fk fa (zS _ rfl) qa5;have z64:vs.toArray.size<=sizeLine:=by rw[zO,vn];omega
 unfold ksk_tree;refine vA (listItems_at qa rfl (vA (u4 qa rfl (vA (seqEpoch_at qa1 rfl (vA (tI (vA (u0 (vc ?_) (yL _))) ⇑z64)))) z64 (yL _))));exact qc9 F hr hb I6 (by rw[hn];exact xO (yD la)) fk fa sg rp rv h64 hm h
theorem q9p{p:vG}{Q:VK}{E:vB->vC->Prop}(F:FnOk X.prog X.w X.K X.mg X.base CX0 k f fd ps (spD X.K 1 m))(hr:Room (k+2) X.A)(hb:Binds X.K fd ps [])(I:Inv X pins σ H s)(hp:H p=some (.lst xs))(sg:YM G H)(rp:YF X.K G ds xs)(h64:xs.length<64)(hm:∀d∈ds,m [d]=↥(.int (kf d)))(q:∀G' H' l,Ext G H G' H'->H' l=none->H l=none->Q (.ref l) (upd H' l (.lst ((YJ (λz:D×V=>kf z.1) (ds.zip xs)).map (·.2))))):
  vL (model X.prog X.w) X.A (call (.builtin "sorted") [.ref p] [(Str.ofString "key", .ref f)]) (EP X pins σ Q) E s:=by
 obtain⟨vs,n0,rv,e0,_⟩:=I.lst hp;have lv:xs.length=vs.length:=rv.length;have z64:vs.length<=sizeLine:=by rw[vn];omega
 have hn:((s.heap.push (vp "list" #[] 0)).update s.heap.objs.size (Obj.mapSeq (·++vs.toArray))).objs.size=s.heap.objs.size+1:=by rw[xE,size_push']
 have keep:∀b o,s.heap.get? b=some o->(((s.heap.push (vp "list" #[] 0)).update s.heap.objs.size (Obj.mapSeq (·++vs.toArray))).push (vp "list" vs.toArray 0)).get? b=some o:=λb o z=>by
  have lt:b<s.heap.objs.size:=zP z;exact zD _ ((zh _ _ (xO lt)).trans (zD _ z))
 have I2:=I.kept (t':=s.toks) keep;have fa:Y2 X pins H (s.heap.objs.size+1):=I.fpOk (y8 _) (I.hok.fresh (y8 _));have qa:(((s.heap.push (vp "list" #[] 0)).update s.heap.objs.size (Obj.mapSeq (·++vs.toArray))).push (vp "list" vs.toArray 0)).get? (s.heap.objs.size+1)=some (vp "list" vs.toArray 0):=by
  rw[<- hn];exact zS _ rfl
 refine call_function_entry_kw t4 tf tj (ksk_s1 _ _) ?_;unfold Builtin.«sorted»;apply vA (m:=checkCount "sorted" 1 1 _);apply vF;refine vA (collect_list ⟨_,e0,rfl,n0,rfl⟩ (vA (u0 ?_ z64)) z64);show vL _ _ _ _ _ { s with heap:=((s.heap.push (vp "list" #[] 0)).update s.heap.objs.size (Obj.mapSeq (·++vs.toArray))).push (vp "list" vs.toArray 0) };rw[hn];refine vA (vc (wpAny_call_entry_kw slot_list_sort ⟨_,qa,rfl⟩ entry_list_sort ?go (ksk_l1 _ _)))
 case go=>
  show vL (model X.prog X.w) X.A.in1.in1 (Builtin.«list.sort» ⟨[.ref (s.heap.objs.size+1)],[(Str.ofString "key", .ref f)]⟩) _ _ _;rw[ksk_t1];refine qbL F hr hb I2 fa qa sg rp rv ∅ hm λG' H' s' x' hn' I'=>⟨_,rfl,?_⟩;exact vF ⟨_,rfl,.ref _,_,I',rfl,q G' H' _ x' hn' fa.1⟩
theorem q6G{K:zA}{G:Hp}:∀{l:List (D×V)},(∀t∈l,Rep K G t.1 t.2)->YF K G (l.map (·.1)) (l.map (·.2))
 | [],_=>rfl
 | t::r,h=>YF.cons (h t zI) (q6G λx hx=>h x (zJ _ hx))
theorem q9m{K:zA}{G:Hp}{ds:List D}{xs:List V}{kf:D->Int}(h:YF K G ds xs):YF K G (YJ kf ds) ((YJ (λz:D×V=>kf z.1) (ds.zip xs)).map (·.2)):=by
 have l:=h.len;have e:ds=(ds.zip xs).map Prod.fst:=by rw[xl];omega
 have mem:∀t∈ds.zip xs,Rep K G t.1 t.2:=λt ht=>by
  obtain⟨i,hi⟩:=yf.mp ht;obtain⟨a1,a2⟩:=yc.mp hi;obtain⟨v,b1,b2⟩:=h.get a1;rw[a2]at b1;cases b1;exact b2
 have e2:YJ kf ds=(YJ (λz:D×V=>kf z.1) (ds.zip xs)).map (·.1):=by
  conv=>lhs;rw[e]
  rw[q1p]
 rw[e2];exact q6G λt ht=>mem t (q02.mem_iff.mp ht)
noncomputable def WV(m:List D->Option O)(d:D):Int:=match m [d]with
 | ↥(.int k)=>k
 | _=>0
noncomputable def keyOk(m:List D->Option O)(d:D):Bool:=match m [d]with
 | ↥(.int _)=>true
 | _=>false
theorem qcl{m:List D->Option O}{d:D}(h:keyOk m d=true):m [d]=↥(.int (WV m d)):=by
 unfold keyOk at h;unfold WV
 split at h
 ·rename_i k e;rw[e]
 ·cases h
noncomputable def tSortK(K:zA)(m:List D->Option O)(te:TE):TE:=λσ H Q=>te σ H λv H1=>∃p xs G ds,v=.ref p/\H1 p=some (.lst xs)/\YM G H1/\YF K G ds xs/\xs.length<64/\(∀d∈ds,keyOk m d=true) /\
 ∀G' H' l,Ext G H1 G' H'->H' l=none->H1 l=none->Q (.ref l) (upd H' l (.lst ((YJ (λz:D×V=>WV m z.1) (ds.zip xs)).map (·.2))))
def askK(K:zA)(m:List D->Option O)(Q:VK):V->Hp->Prop:=λv H1=>∃p xs G ds,v=.ref p/\H1 p=some (.lst xs)/\YM G H1/\YF K G ds xs/\xs.length<64/\(∀d∈ds,keyOk m d=true) /\
 ∀G' H' l,Ext G H1 G' H'->H' l=none->H1 l=none->Q (.ref l) (upd H' l (.lst ((YJ (λz:D×V=>WV m z.1) (ds.zip xs)).map (·.2))))
def one1(R:V->Hp->Prop):List V->Hp->Prop:=λus H1=>match us with
 | [v]=>R v H1
 | _=>False
theorem qdd{R:V->Hp->Prop}{us:List V}{H1:Hp}(h:one1 R us H1):∃v,us=[v]/\R v H1:=by
 unfold one1 at h
 split at h
 ·exact⟨_,rfl,h⟩
 ·exact h.elim
theorem qc8{e:vP}{te:TE}{x:Str}{p p2 p3 pos:Pos}{k0:Nat}(c:Cal X.prog X.w X.K X.mg X.base k f fd x ps 1 m)(hr:Room k0 X.A)(hg:Gl X "sorted")(hm:X.mg "sorted" = none)(hx:Gl X x)(he:PE X e te)(hk:k+2<=k0)(hd:(x==("__debug__" : Str))=false:=by decide)(hs:vK [e] X.env=(false,eval e X.env)::vK [] X.env:=by rfl)(h1:vm pos (vK [e] X.env)=(false,eval e X.env)::vm pos (vK [] X.env):=by rfl)(h2:(vm pos (vK [e] X.env)).any (·.1)=false:=by rfl)(h3:(uK pos (vz [⟨some (Str.ofString "key"),.Name x p2,p3⟩] X.env)).all (·.1.isSome)=true:=by rfl)(h4:(uK pos (vz [⟨some (Str.ofString "key"),.Name x p2,p3⟩] X.env)).any (·.1.isNone)=false:=by rfl)(h5:(uK pos (vz [⟨some (Str.ofString "key"),.Name x p2,p3⟩] X.env)).filterMap (·.1)=[Str.ofString "key"]:=by rfl):
  PE X (.Call (.Name "sorted" p) [e] [⟨some (Str.ofString "key"),.Name x p2,p3⟩] pos) (tSortK X.K m te):=by
 intro pins s σ H Q I h;refine v9 (q0s I hg hm q2c ?_ (by decide) (by decide));refine callWith_kw (thn (qM he qW hs pos pins s σ H (one1 (askK X.K m Q)) I h) λus s1 ⟨ws,H1,I1,r1,q1⟩=>?_) h1 h2 h3 h4;obtain⟨v,rfl,p,xs,G,ds,rfl,b1,b2,b3,b4,b5,b6⟩:=qdd q1;obtain⟨u,rfl,ru⟩:=vals1 r1;cases ru;refine thn (qef (kpos:=p3) (nm:=some (Str.ofString "key")) (qdz (v:=.ref f) hx c.2.1 rfl hd) qfq pos pins s1 σ H1 (λzs H2=>zs=[.ref f]/\H2=H1) I1 ⟨rfl,rfl⟩) λzs s2 ⟨ys,H2,I2,rz,e1,e2⟩=>?_;subst e1;subst e2;obtain⟨u,rfl,ru⟩:=vals1 rz;cases ru;rw[h5];exact q9p c.1 (hr.mono hk) c.2.2.2 I2 b1 b2 b3 b4 (λd hd=>qcl (b5 d hd)) b6
end
noncomputable def W9(m:List D->Option O):D->Option R
 | .lst ds=>if ds.length<64/\ds.all (keyOk m)=true then some (.fr (YJ (WV m) ds))else none
 | _=>none
noncomputable def WY(m:List D->Option O)(f:FD):FE:=λω=>(f ω).bind (W9 m)
theorem qcm{X:Cx}{k:Nat}{f:vG}{fd:vN}{ps:List Str}{m:List D->Option O}{e:vP}{fe:FD}{x:Str}{p p2 p3 pos:Pos}{k0:Nat}(c:Cal X.prog X.w X.K X.mg X.base k f fd x ps 1 m)(hr:Room k0 X.A)(hm:X.mg "sorted" = none)(he:XV X e fe)(hg:Gl X "sorted" := by exact rfl)(hx:Gl X x:=by exact rfl)(hk:k+2<=k0:=by decide)(hd:(x==("__debug__" : Str))=false:=by decide)(hs:vK [e] X.env=(false,eval e X.env)::vK [] X.env:=by rfl)(h1:vm pos (vK [e] X.env)=(false,eval e X.env)::vm pos (vK [] X.env):=by rfl)(h2:(vm pos (vK [e] X.env)).any (·.1)=false:=by rfl)(h3:(uK pos (vz [⟨some (Str.ofString "key"),.Name x p2,p3⟩] X.env)).all (·.1.isSome)=true:=by rfl)(h4:(uK pos (vz [⟨some (Str.ofString "key"),.Name x p2,p3⟩] X.env)).any (·.1.isNone)=false:=by rfl)(h5:(uK pos (vz [⟨some (Str.ofString "key"),.Name x p2,p3⟩] X.env)).filterMap (·.1)=[Str.ofString "key"]:=by rfl):
  XE X (.Call (.Name "sorted" p) [e] [⟨some (Str.ofString "key"),.Name x p2,p3⟩] pos) (WY m fe):=by
 obtain⟨t,g1,g2⟩:=he;refine⟨_,qc8 c hr hg hm hx g1 hk hd hs h1 h2 h3 h4 h5,λG0 H0 G ω σ H r Q o er kk=>?_⟩;obtain⟨d,q,er⟩:=bnd er;refine g2 G0 H0 G ω σ H d _ o q λv G1 H1 x1 y1=>?_;cases d with
 | lst ds=>
  have er':(if ds.length<64/\ds.all (keyOk m)=true then some (R.fr (YJ (WV m) ds))else none)=some r:=er
  by_cases z:ds.length<64/\ds.all (keyOk m)=true
  ·rw[vH z]at er'
   cases er';obtain⟨p,vs,rfl,w1,w2⟩:=y1.lst x1.gh;refine⟨p,vs,G1,ds,rfl,w1,x1.gh,w2,by rw[<- w2.len];exact z.1,yu.mp z.2,λG2 H2 l x2 n2 n1=>?_⟩;have x3:=Ext.hide x2.gh n2 (.lst ((YJ (λz:D×V=>WV m z.1) (ds.zip vs)).map (·.2)));exact kk _ G2 _ ((x1.trans x2).trans x3) ⟨l,_,rfl,x1.hh.free n1,x2.gh.free n2,qe,q9m (w2.mono x2.gg)⟩
  ·rw[vJ z]at er';cases er'
 | _=>cases er
end Hk
namespace Hk
open PySem L2
noncomputable def skR(m:List D->Option O)(o:Option D):Option R:=o.bind (W9 m)
section
variable{m:List D->Option O}{f:FD}{ω:WSt}{d:D}{i:Nat}{ks:List Int}{ds:List D}
theorem q7L:WY m f ω=skR m (f ω):=rfl
theorem qaS:iDk i ω=Ws ω[i]?:=rfl
theorem qb8:Ws (some ↥(.dic ks ds))=some (ks.map D.int):=rfl
theorem qfD(h:ds.length<64)(h':∀d∈ds,keyOk m d=true):skR m (some (.lst ds))=some (.fr (YJ (WV m) ds)):=vH ⟨h,yu.mpr h'⟩
end
end Hk
set_option maxHeartbeats 4000000
namespace Kx
open PySem L2 Hk
noncomputable def top(i:Nat):vo:=PySem.Challenge.pw_hookrail_k68_rings_made_otherwise.main.body.getD i (.Pass ⟨0,0,0,0⟩)
section
variable{P:vO}{w:vT}{K:zA}{mg:Str->Option vB}{base:vZ}{f:vG}{fd:vN}
noncomputable def q4C:FS:=(Yj (eOf (WH (dOf (zAG .int (vOf (Z6 0)))) (vNot (dOf (zAG .bl (vOf (Z6 0))))))))
noncomputable def qm:List D->Option O:=mir 1 q4C
noncomputable abbrev q35:vo:=top 5
theorem q9j:FnScope ["thing"] ["thing"] (Z9 q35):=⟨rfl,rfl,rfl,⋯,rfl,⋯,⋯⟩
theorem q7G (F:Fun K "is_whole" "is_whole" q35 f fd)(z_isinstance:mg "isinstance" = none)(z_bool:mg "bool" = none)(z_int:mg "int" = none)(i_int:IsT K .int)(i_bool:IsT K .bl):
  FnOk P w K mg base CX0 1 f fd ["thing"] (spD K 1 qm):=by
 have h:=fnD (P:=P) (w:=w) (mg:=mg) (base:=base) (k:=0) (body:=q4C) F q9j (λcdv A outer s H E hr=>
   (qc (qg (XD.toE (q0u (XE.toD (q2I (vV 0) i_int rfl z_isinstance rfl z_int qeJ)) (q2K (qfb (XE.toD (q2I (vV 0) i_bool rfl z_isinstance rfl z_bool qeh)))))))))
 exact h
noncomputable def q47:FS:=(Yj (eOf (WH (dOf (zAG .tup (vOf (Z6 0)))) (WH (dOf (YC (oEq false) (vOf (XJ Wn (Z5 (vOf (Z6 0)) YI))) (fC (.int 2)))) (WH (dOf (YG qm (Z5 (dOf (YC oIx (vOf (Z6 0)) (fC (.int 0)))) YI))) (dOf (YG qm (Z5 (dOf (YC oIx (vOf (Z6 0)) (fC (.int 1)))) YI))))))))
noncomputable def q1F:List D->Option O:=mir 1 q47
noncomputable abbrev q4a:vo:=top 6
theorem qbD:FnScope ["thing"] ["thing"] (Z9 q4a):=⟨rfl,rfl,rfl,⋯,rfl,⋯,⋯⟩
theorem qaw{f_is_whole:vG}{d_is_whole:vN}(F:Fun K "is_box" "is_box" q4a f fd)(c_is_whole:Cal P w K mg base 1 f_is_whole d_is_whole "is_whole" ["thing"] 1 qm)(z_len:mg "len" = none)(z_isinstance:mg "isinstance" = none)(z_tuple:mg "tuple" = none)(i_tuple:IsT K .tup):
  FnOk P w K mg base CX0 2 f fd ["thing"] (spD K 1 q1F):=by
 have h:=fnD (P:=P) (w:=w) (mg:=mg) (base:=base) (k:=1) (body:=q47) F qbD (λcdv A outer s H E hr=>
   (qc (qg (XD.toE (q0u (XE.toD (q2I (vV 0) i_tuple rfl z_isinstance rfl z_tuple q75)) (q0u (XE.toD (xe_eq hr.units (XE.toV (qN qX q2S rfl z_len q2F (ql (vV 0) qu))) (XD.toV Z7))) (q0u (XE.toD (xc c_is_whole hr (Z4 (XE.toD (YD (vV 0) (XD.toV Z7))) Z8))) (q2K (XE.toD (xc c_is_whole hr (Z4 (XE.toD (YD (vV 0) (XD.toV Z7))) Z8)))))))))))
 exact h
noncomputable def q3m:FD:=(dOf (YG q1F (Z5 (dOf (Z6 0)) YI)))
noncomputable def q2s:FS:=(YS (sIf (zAE (XB (Xr (vOf (YG qm (Z5 (dOf (Z6 0)) YI))))) (zAE (XB (Xr (vOf (YG qm (Z5 (dOf (Z6 1)) YI))))) (XB (Xr (vOf (zAG .lst (vOf (Z6 2)))))))) (Yj (eOf (fC (.bl false)))) Xn)
  (Yj (XJ bAll (Z5 (vOf (Yc 1 [] (Y5 (dOf (Z6 2))) (gN 0) YU q3m)) YI))))
noncomputable def q08:List D->Option O:=mir 3 q2s
noncomputable abbrev q2B:vo:=top 7
theorem q7D:FnScope ["home", "last", "boxes"] ["home", "last", "boxes"] (Z9 q2B):=⟨rfl,rfl,rfl,⋯,rfl,⋯,⋯⟩
theorem q78{f_is_whole:vG}{d_is_whole:vN}{f_is_box:vG}{d_is_box:vN}(F:Fun K "is_errand" "is_errand" q2B f fd)(c_is_whole:Cal P w K mg base 1 f_is_whole d_is_whole "is_whole" ["thing"] 1 qm)(c_is_box:Cal P w K mg base 2 f_is_box d_is_box "is_box" ["thing"] 1 q1F)(z_isinstance:mg "isinstance" = none)(z_list:mg "list" = none)(z_all:mg "all" = none)(i_list:IsT K .lst):
  FnOk P w K mg base CX0 3 f fd ["home", "last", "boxes"] (spD K 3 q08):=by
 have h:=fnD (P:=P) (w:=w) (mg:=mg) (base:=base) (k:=2) (body:=q2s) F q7D (λcdv A outer s H E hr=>
   (q0 (q09 (XW.toT (q4v (q0J (qV (XE.toV (xc c_is_whole hr (Z4 (vD 0) Z8))))) (q4v (q0J (qV (XE.toV (xc c_is_whole hr (Z4 (vD 1) Z8))))) (q6Q (q0J (qV (XE.toV (q2I (vV 2) i_list rfl z_isinstance rfl z_list q3H)))))))) (qc (qg (XD.toE XN))) qF)
   (qc (qg (qN (q5R rfl) qbg rfl z_all qbm (ql (XE.toV (q0D rfl (blk ["box"] [] [] rfl ⋯ ⋯ rfl trivial) (qz (vD 2)) (qw 0) (λ_ _ _ _=>⟨(qf (i:=0) (show ((["box"]:List Str)++([]:List Str):List Str).Nodup from by decide +kernel) rfl (Or.inl rfl)),qP,(XE.toD (xc c_is_box hr (Z4 (vD 0) Z8)))⟩))) qu))))))
 exact h
noncomputable def q17:FS:=(sIf (XB (Xr (vOf (YG q08 (Z5 (dOf (Z6 0)) (Z5 (dOf (Z6 1)) (Z5 (dOf (Z6 2)) YI))))))) sNo Xn)
noncomputable def qZ:List D->Option O:=mir 3 q17
noncomputable abbrev q1e:vo:=top 8
theorem q55:FnScope ["home", "last", "boxes"] ["home", "last", "boxes"] (Z9 q1e):=⟨rfl,rfl,rfl,⋯,rfl,⋯,⋯⟩
theorem q4B{f_is_errand:vG}{d_is_errand:vN}(F:Fun K "check_errand" "check_errand" q1e f fd)(c_is_errand:Cal P w K mg base 3 f_is_errand d_is_errand "is_errand" ["home", "last", "boxes"] 3 q08):
  FnOk P w K mg base CX0 4 f fd ["home", "last", "boxes"] (spD K 3 qZ):=by
 have h:=fnD (P:=P) (w:=w) (mg:=mg) (base:=base) (k:=3) (body:=q17) F q55 (λcdv A outer s H E hr=>
   (qc (q09 (q0J (qV (XE.toV (xc c_is_errand hr (Z4 (vD 0) (Z4 (vD 1) (Z4 (vD 2) Z8))))))) (qc qcx) qF)))
 exact h
noncomputable def q49:FS:=(sExt 3 (dOf (Z6 4)))
noncomputable def q58:FS:=(YS (Ww (YG qZ (Z5 (dOf (Z6 0)) (Z5 (dOf (Z6 1)) (Z5 (dOf (Z6 2)) YI)))))
  (YS (YZ 3 (Xm (Z5 (dOf (Z6 0)) (Z5 (dOf (Z6 1)) YI))))
  (YS (Xv (Y5 (dOf (Z6 2))) (gN 4) q49)
  (Yj (Xe (vOf (Z6 3)))))))
noncomputable def q2G:List D->Option O:=mir 5 q58
noncomputable abbrev q57:vo:=top 9
theorem q5c:FnScope ["home", "last", "boxes", "places", "box"] ["home", "last", "boxes"] (Z9 q57):=⟨rfl,rfl,rfl,⋯,rfl,⋯,⋯⟩
theorem qbr{f_check_errand:vG}{d_check_errand:vN}(F:Fun K "stops" "stops" q57 f fd)(c_check_errand:Cal P w K mg base 4 f_check_errand d_check_errand "check_errand" ["home", "last", "boxes"] 3 qZ)(z_sorted:mg "sorted" = none)(z_set:mg "set" = none):
  FnOk P w K mg base CX0 5 f fd ["home", "last", "boxes"] (spD K 3 q2G):=by
 have h:=fnD (P:=P) (w:=w) (mg:=mg) (base:=base) (k:=4) (body:=q58) F q5c (λcdv A outer s H E hr=>
   (q0 (q8d (xc c_check_errand hr (Z4 (vD 0) (Z4 (vD 1) (Z4 (vD 2) Z8)))))
   (q0 (qi (i:=3) q5c.nd rfl (Or.inl rfl) (YX (Z4 (vD 0) (Z4 (vD 1) Z8))))
   (q0 (q05 PassesOwn.never rfl (qz (vD 2)) (qf (i:=4) q5c.nd rfl (Or.inl rfl)) (qc (qej (pv 3) (vD 4))))
   (qc (qg (q9n rfl z_sorted rfl z_set (vV 3))))))))
 exact h
noncomputable def q3i:FS:=sNb
noncomputable def q0O:List D->Option O:=mir 5 q3i
noncomputable abbrev q1Z:vo:=top 11
theorem q3e:FnScope ["things", "ties", "beside", "thing", "tie"] ["things", "ties"] (Z9 q1Z):=⟨rfl,rfl,rfl,⋯,rfl,⋯,⋯⟩
theorem q5Y (F:Fun K "neighbours" "neighbours" q1Z f fd):
  FnOk P w K mg base CX0 1 f fd ["things", "ties"] (spD K 2 q0O):=by
 have h:=fnD (P:=P) (w:=w) (mg:=mg) (base:=base) (k:=0) (body:=q3i) F q3e (λcdv A outer s H E hr=>
   (qek hr.units PassesOwn.never rfl q3e.nd rfl rfl rfl (by first|exact Or.inl rfl|exact Or.inr rfl) (by first|exact Or.inl rfl|exact Or.inr rfl) (by first|exact Or.inl rfl|exact Or.inr rfl) (by first|exact .inl rfl|exact .inr rfl) (by first|exact .inl rfl|exact .inr rfl) (by first|exact .inl rfl|exact .inr rfl) (pv 0) (pv 1) (pv 2) (pv 2) (pv 2) (pv 3) (pv 2) (XE.toD (YD (vV 4) (XD.toV Z7))) (XE.toD (YD (vV 4) (XD.toV Z7))) (XE.toD (YD (vV 4) (XD.toV Z7))) (XE.toD (YD (vV 4) (XD.toV Z7))) (λω e h=>qfu h) (λω e h=>qex h)))
 exact h
noncomputable def q2j:FS:=(sIf (We true 2 (dOf (Z6 5))) (YS (WB 2 (dOf (Z6 5)) (fC (.bl true)))
  (W0 3 (dOf (Z6 5)))) Xn)
noncomputable def q1h:FT:=(Xr (vOf (Z6 3)))
noncomputable def q2i:FS:=(YS (W4 4 (Wz 3))
  (Xv (Y5 (dOf (Xt 1 (dOf (Z6 4))))) (gN 5) q2j))
noncomputable def q2T:FS:=(YS (Wc 2 (dOf (Z6 0)) (fC (.bl true)))
  (YS (YZ 3 (Xm (Z5 (dOf (Z6 0)) YI)))
  (YS (sWh 1000000 q1h q2i)
  (Yj (Wd 2)))))
noncomputable def q0K:List D->Option O:=mir 6 q2T
noncomputable abbrev q38:vo:=top 12
theorem q0S:FnScope ["thing", "beside", "found", "waiting", "here", "other"] ["thing", "beside"] (Z9 q38):=⟨rfl,rfl,rfl,⋯,rfl,⋯,⋯⟩
theorem q7C (F:Fun K "group_of" "group_of" q38 f fd)(z_sorted:mg "sorted" = none):
  FnOk P w K mg base CX0 1 f fd ["thing", "beside"] (spD K 2 q0K):=by
 have h:=fnD (P:=P) (w:=w) (mg:=mg) (base:=base) (k:=0) (body:=q2T) F q0S (λcdv A outer s H E hr=>
   (q0 (qcf (i:=2) q0S.nd rfl (Or.inl rfl) (vD 0) XN)
   (q0 (qi (i:=3) q0S.nd rfl (Or.inl rfl) (YX (Z4 (vD 0) Z8)))
   (q0 (qbS PassesOwn.never (qV (vV 3)) (q0 (qd8 (i:=4) q0S.nd rfl (Or.inl rfl) (qe0 (pv 3)))
   (qc (q05 PassesOwn.never rfl (qz (XE.toD (q2M hr.units (pv 1) (vD 4)))) (qf (i:=5) q0S.nd rfl (Or.inl rfl)) (qc (q09 (q5o hr.units (vD 5) (pv 2)) (q0 (q3F hr.units (pv 2) (vD 5) XN)
   (qc (q25 (pv 3) (vD 5)))) qF))))))
   (qc (qg (qbz rfl rfl z_sorted (pv 2))))))))
 exact h
noncomputable def q3u:FS:=(WB 3 (dOf (Z6 7)) (fC (.bl true)))
noncomputable def q3f:FS:=(sIf (We true 3 (dOf (Z6 5))) (YS (YZ 6 (eOf (dOf (YG q0K (Z5 (dOf (Z6 5)) (Z5 (dOf (Z6 2)) YI))))))
  (YS (W0 4 (dOf (Z6 6)))
  (Xv (Y5 (dOf (Z6 6))) (gN 7) q3u))) Xn)
noncomputable def q40:FS:=(YS (YZ 2 (eOf (dOf (YG q0O (Z5 (dOf (Z6 0)) (Z5 (dOf (Z6 1)) YI))))))
  (YS (WU 3)
  (YS (YZ 4 (Xm YI))
  (YS (Xv (Y5 (dOf (WX (vOf (Z6 0))))) (gN 5) q3f)
  (Xk 4)))))
noncomputable def q1a:List D->Option O:=mir 8 q40
noncomputable abbrev q42:vo:=top 13
theorem q0A:FnScope ["things", "ties", "beside", "grouped", "told", "thing", "group", "member"] ["things", "ties"] (Z9 q42):=⟨rfl,rfl,rfl,⋯,rfl,⋯,⋯⟩
theorem qbb{f_neighbours:vG}{d_neighbours:vN}{f_group_of:vG}{d_group_of:vN}(F:Fun K "groups" "groups" q42 f fd)(c_neighbours:Cal P w K mg base 1 f_neighbours d_neighbours "neighbours" ["things", "ties"] 2 q0O)(c_group_of:Cal P w K mg base 1 f_group_of d_group_of "group_of" ["thing", "beside"] 2 q0K)(z_sorted:mg "sorted" = none):
  FnOk P w K mg base CX0 2 f fd ["things", "ties"] (spD K 2 q1a):=by
 have h:=fnD (P:=P) (w:=w) (mg:=mg) (base:=base) (k:=1) (body:=q40) F q0A (λcdv A outer s H E hr=>
   (q0 (qi (i:=2) q0A.nd rfl (Or.inl rfl) (XD.toE (XE.toD (xc c_neighbours hr (Z4 (vD 0) (Z4 (vD 1) Z8))))))
   (q0 (q5f (i:=3) q0A.nd rfl (Or.inl rfl))
   (q0 (qi (i:=4) q0A.nd rfl (Or.inl rfl) (YX Z8))
   (q0 (q05 PassesOwn.never rfl (qz (XE.toD (qdo rfl z_sorted (vV 0)))) (qf (i:=5) q0A.nd rfl (Or.inl rfl)) (qc (q09 (q5o hr.units (vD 5) (pv 3)) (q0 (qi (i:=6) q0A.nd rfl (Or.inl rfl) (XD.toE (XE.toD (xc c_group_of hr (Z4 (vD 5) (Z4 (vD 2) Z8))))))
   (q0 (q25 (pv 4) (vD 6))
   (qc (q05 PassesOwn.never rfl (qz (vD 6)) (qf (i:=7) q0A.nd rfl (Or.inl rfl)) (qc (q3F hr.units (pv 3) (vD 7) XN)))))) qF)))
   (qc (q2R (pv 4))))))))
 exact h
noncomputable def qam:FS:=(Yj (YC oIx (vOf (Z6 0)) (fC (.int 2))))
noncomputable def q0a:List D->Option O:=mir 1 qam
noncomputable abbrev q7a:vo:=top 15
theorem qfh:FnScope ["edge"] ["edge"] (Z9 q7a):=⟨rfl,rfl,rfl,⋯,rfl,⋯,⋯⟩
theorem qdn (F:Fun K "cost" "cost" q7a f fd):
  FnOk P w K mg base CX0 1 f fd ["edge"] (spD K 1 q0a):=by
 have h:=fnD (P:=P) (w:=w) (mg:=mg) (base:=base) (k:=0) (body:=qam) F qfh (λcdv A outer s H E hr=>
   (qc (qg (YD (vV 0) (XD.toV Z7)))))
 exact h
noncomputable def q0w:FS:=(WB 1 (dOf (Z6 4)) (dOf (Z6 2)))
noncomputable def q0y:FS:=(Xv (Y5 (dOf (Z6 3))) (gN 4) q0w)
noncomputable def q0N:FS:=(YS (WU 1)
  (YS (Xv (iEn (Z5 (dOf (Z6 0)) YI)) (gT 2 (YH (gN 2) (YH (gN 3) Yn))) q0y)
  (Yg 1 (Yj (Z6 1)))))
noncomputable def qG:List D->Option O:=mir 5 q0N
noncomputable abbrev q0L:vo:=top 16
theorem qR:FnScope ["parts", "numbers", "number", "part", "thing"] ["parts"] (Z9 q0L):=⟨rfl,rfl,rfl,⋯,rfl,⋯,⋯⟩
theorem q4d (F:Fun K "group_numbers" "group_numbers" q0L f fd)(z_enumerate:mg "enumerate" = none):
  FnOk P w K mg base CX0 1 f fd ["parts"] (spD K 1 qG):=by
 have h:=fnD (P:=P) (w:=w) (mg:=mg) (base:=base) (k:=0) (body:=q0N) F qR (λcdv A outer s H E hr=>
   (q0 (q5f (i:=1) qR.nd rfl (Or.inl rfl))
   (q0 (q05 PassesOwn.never rfl (qdm rfl z_enumerate (Z4 (vD 0) Z8)) (q21 rfl (qt (qf (i:=2) qR.nd rfl (Or.inl rfl)) (qt (qf (i:=3) qR.nd rfl (Or.inl rfl)) q19))) (qc (q05 PassesOwn.never rfl (qz (vD 3)) (qf (i:=4) qR.nd rfl (Or.inl rfl)) (qc (q3F hr.units (pv 1) (vD 4) (vD 2))))))
   (qL 1 (qc (qg (vE 1)))))))
 exact h
noncomputable def q0c:FS:=(WB 3 (dOf (Z6 4)) (dOf (fIte (tOf (YC (oEq false) (vOf (Xt 0 (dOf (Z6 4)))) (vOf (Z6 2)))) (Z6 1) (Xt 0 (dOf (Z6 4))))))
noncomputable def q0o:FS:=(YS (WU 3)
  (YS (Xv (iDk 0) (gN 4) q0c)
  (Yg 3 (Yj (Z6 3)))))
noncomputable def qK:List D->Option O:=mir 5 q0o
noncomputable abbrev q0n:vo:=top 17
theorem q0p:FnScope ["numbers", "one", "other", "joined", "thing"] ["numbers", "one", "other"] (Z9 q0n):=⟨rfl,rfl,rfl,⋯,rfl,⋯,⋯⟩
theorem q3v (F:Fun K "with_two_joined" "with_two_joined" q0n f fd):
  FnOk P w K mg base CX0 1 f fd ["numbers", "one", "other"] (spD K 3 qK):=by
 have h:=fnD (P:=P) (w:=w) (mg:=mg) (base:=base) (k:=0) (body:=q0o) F q0p (λcdv A outer s H E hr=>
   (q0 (q5f (i:=3) q0p.nd rfl (Or.inl rfl))
   (q0 (q05 PassesOwn.never rfl (qee (pv 0)) (qf (i:=4) q0p.nd rfl (Or.inl rfl)) (qc (q3F hr.units (pv 3) (vD 4) (XE.toD (q6I (Wi hr.units (XE.toV (q2M hr.units (pv 0) (vD 4))) (vV 2)) (vE 1) (q2M hr.units (pv 0) (vD 4)))))))
   (qL 3 (qc (qg (vE 3)))))))
 exact h
noncomputable def q3s:FS:=(YS (YZ 6 (eOf (dOf (Xt 3 (dOf (YC oIx (vOf (Z6 5)) (fC (.int 0))))))))
  (YS (YZ 7 (eOf (dOf (Xt 3 (dOf (YC oIx (vOf (Z6 5)) (fC (.int 1))))))))
  (sIf (tOf (YC (oEq true) (vOf (Z6 6)) (vOf (Z6 7)))) (YS (W0 4 (dOf (Z6 5)))
  (YZ 3 (eOf (dOf (YG qK (Z5 (dOf (Z6 3)) (Z5 (dOf (Z6 6)) (Z5 (dOf (Z6 7)) YI)))))))) Xn)))
noncomputable def q46:FS:=(YS (YZ 3 (eOf (dOf (YG qG (Z5 (dOf (YG q1a (Z5 (dOf (Z6 0)) (Z5 (dOf (Z6 1)) YI)))) YI)))))
  (YS (YZ 4 (Xm YI))
  (YS (Xv (Y5 (dOf (WY q0a (vOf (Z6 2))))) (gN 5) q3s)
  (Xk 4))))
noncomputable def q1R:List D->Option O:=mir 8 q46
noncomputable abbrev q41:vo:=top 18
theorem q0z:FnScope ["things", "knots", "edges", "numbers", "taken", "edge", "one", "other"] ["things", "knots", "edges"] (Z9 q41):=⟨rfl,rfl,rfl,⋯,rfl,⋯,⋯⟩
theorem qak{f_group_numbers:vG}{d_group_numbers:vN}{f_groups:vG}{d_groups:vN}{f_cost:vG}{d_cost:vN}{f_with_two_joined:vG}{d_with_two_joined:vN}(F:Fun K "forest" "forest" q41 f fd)(c_group_numbers:Cal P w K mg base 1 f_group_numbers d_group_numbers "group_numbers" ["parts"] 1 qG)(c_groups:Cal P w K mg base 2 f_groups d_groups "groups" ["things", "ties"] 2 q1a)(c_cost:Cal P w K mg base 1 f_cost d_cost "cost" ["edge"] 1 q0a)(c_with_two_joined:Cal P w K mg base 1 f_with_two_joined d_with_two_joined "with_two_joined" ["numbers", "one", "other"] 3 qK)(z_sorted:mg "sorted" = none):
  FnOk P w K mg base CX0 4 f fd ["things", "knots", "edges"] (spD K 3 q1R):=by
 have h:=fnD (P:=P) (w:=w) (mg:=mg) (base:=base) (k:=3) (body:=q46) F q0z (λcdv A outer s H E hr=>
   (q0 (qi (i:=3) q0z.nd rfl (Or.inl rfl) (XD.toE (XE.toD (xc c_group_numbers hr (Z4 (XE.toD (xc c_groups hr (Z4 (vD 0) (Z4 (vD 1) Z8)))) Z8)))))
   (q0 (qi (i:=4) q0z.nd rfl (Or.inl rfl) (YX Z8))
   (q0 (q05 PassesOwn.never rfl (qz (XE.toD (qcm c_cost hr z_sorted (vV 2)))) (qf (i:=5) q0z.nd rfl (Or.inl rfl)) (q0 (qi (i:=6) q0z.nd rfl (Or.inl rfl) (XD.toE (XE.toD (q2M hr.units (pv 3) (XE.toD (YD (vV 5) (XD.toV Z7)))))))
   (q0 (qi (i:=7) q0z.nd rfl (Or.inl rfl) (XD.toE (XE.toD (q2M hr.units (pv 3) (XE.toD (YD (vV 5) (XD.toV Z7)))))))
   (qc (q09 (Xu hr.units (vV 6) (vV 7)) (q0 (q25 (pv 4) (vD 5))
   (qc (qi (i:=3) q0z.nd rfl (Or.inl rfl) (XD.toE (XE.toD (xc c_with_two_joined hr (Z4 (vD 3) (Z4 (vD 6) (Z4 (vD 7) Z8))))))))) qF)))))
   (qc (q2R (pv 4)))))))
 exact h
noncomputable def q43:FS:=(Yj (eOf (WH (dOf (YG qm (Z5 (dOf (Z6 0)) YI))) (dOf (YC (oIn false) (vOf (Z6 0)) (Wp (Z5 (fC (.int 1)) (Z5 (dOf (zAF (fC (.int 1)))) YI))))))))
noncomputable def q22:List D->Option O:=mir 1 q43
noncomputable abbrev q44:vo:=top 20
theorem qcb:FnScope ["thing"] ["thing"] (Z9 q44):=⟨rfl,rfl,rfl,⋯,rfl,⋯,⋯⟩
theorem qbe{f_is_whole:vG}{d_is_whole:vN}(F:Fun K "is_way" "is_way" q44 f fd)(c_is_whole:Cal P w K mg base 1 f_is_whole d_is_whole "is_whole" ["thing"] 1 qm):
  FnOk P w K mg base CX0 2 f fd ["thing"] (spD K 1 q22):=by
 have h:=fnD (P:=P) (w:=w) (mg:=mg) (base:=base) (k:=1) (body:=q43) F qcb (λcdv A outer s H E hr=>
   (qc (qg (XD.toE (q0u (XE.toD (xc c_is_whole hr (Z4 (vD 0) Z8))) (q2K (XE.toD (xe_in (vV 0) (XD.toV (Yz (Z4 Z7 (Z4 (XE.toD (q2Q (XD.toV Z7))) Z8))))))))))))
 exact h
noncomputable def q2o:FS:=(Yj (eOf (WH (dOf (YG qm (Z5 (dOf (Z6 1)) YI))) (WH (dOf (YC oGe (vOf (Z6 1)) (fC (.int 0)))) (dOf (YC oLt (vOf (Z6 1)) (vOf (Z6 0))))))))
noncomputable def qD:List D->Option O:=mir 2 q2o
noncomputable abbrev q2z:vo:=top 21
theorem q7l:FnScope ["size", "thing"] ["size", "thing"] (Z9 q2z):=⟨rfl,rfl,rfl,⋯,rfl,⋯,⋯⟩
theorem q6u{f_is_whole:vG}{d_is_whole:vN}(F:Fun K "has_place" "has_place" q2z f fd)(c_is_whole:Cal P w K mg base 1 f_is_whole d_is_whole "is_whole" ["thing"] 1 qm):
  FnOk P w K mg base CX0 2 f fd ["size", "thing"] (spD K 2 qD):=by
 have h:=fnD (P:=P) (w:=w) (mg:=mg) (base:=base) (k:=1) (body:=q2o) F q7l (λcdv A outer s H E hr=>
   (qc (qg (XD.toE (q0u (XE.toD (xc c_is_whole hr (Z4 (vD 1) Z8))) (q0u (XE.toD (qcv (vV 1) (XD.toV Z7))) (q2K (XE.toD (qcr (vV 1) (vV 0))))))))))
 exact h
noncomputable def q1r:FS:=(YS (sIf (zAE (XB (Xr (vOf (zAG .tup (vOf (Z6 1)))))) (tOf (YC (oEq true) (vOf (XJ Wn (Z5 (vOf (Z6 1)) YI))) (fC (.int 3))))) (Yj (eOf (fC (.bl false)))) Xn)
  (Yj (eOf (WH (dOf (YG qD (Z5 (dOf (Z6 0)) (Z5 (dOf (YC oIx (vOf (Z6 1)) (fC (.int 0)))) YI)))) (WH (dOf (YG qD (Z5 (dOf (Z6 0)) (Z5 (dOf (YC oIx (vOf (Z6 1)) (fC (.int 1)))) YI)))) (dOf (YG q22 (Z5 (dOf (YC oIx (vOf (Z6 1)) (fC (.int 2)))) YI))))))))
noncomputable def q04:List D->Option O:=mir 2 q1r
noncomputable abbrev q1s:vo:=top 22
theorem q61:FnScope ["size", "thing"] ["size", "thing"] (Z9 q1s):=⟨rfl,rfl,rfl,⋯,rfl,⋯,⋯⟩
theorem q4S{f_is_way:vG}{d_is_way:vN}{f_has_place:vG}{d_has_place:vN}(F:Fun K "is_ring_box" "is_ring_box" q1s f fd)(c_is_way:Cal P w K mg base 2 f_is_way d_is_way "is_way" ["thing"] 1 q22)(c_has_place:Cal P w K mg base 2 f_has_place d_has_place "has_place" ["size", "thing"] 2 qD)(z_len:mg "len" = none)(z_isinstance:mg "isinstance" = none)(z_tuple:mg "tuple" = none)(i_tuple:IsT K .tup):
  FnOk P w K mg base CX0 3 f fd ["size", "thing"] (spD K 2 q04):=by
 have h:=fnD (P:=P) (w:=w) (mg:=mg) (base:=base) (k:=2) (body:=q1r) F q61 (λcdv A outer s H E hr=>
   (q0 (q09 (XW.toT (q4v (q0J (qV (XE.toV (q2I (vV 1) i_tuple rfl z_isinstance rfl z_tuple q75)))) (q6Q (Xu hr.units (XE.toV (qN qX q2S rfl z_len q2F (ql (vV 1) qu))) (XD.toV Z7))))) (qc (qg (XD.toE XN))) qF)
   (qc (qg (XD.toE (q0u (XE.toD (xc c_has_place hr (Z4 (vD 0) (Z4 (XE.toD (YD (vV 1) (XD.toV Z7))) Z8)))) (q0u (XE.toD (xc c_has_place hr (Z4 (vD 0) (Z4 (XE.toD (YD (vV 1) (XD.toV Z7))) Z8)))) (q2K (XE.toD (xc c_is_way hr (Z4 (XE.toD (YD (vV 1) (XD.toV Z7))) Z8)))))))))))
 exact h
noncomputable def q33:FD:=(dOf (YG q04 (Z5 (dOf (Z6 1)) (Z5 (dOf (Z6 0)) YI))))
noncomputable def q3n:FS:=(YS (sIf (zAE (XB (Xr (vOf (YG qm (Z5 (dOf (Z6 0)) YI))))) (zAE (XB (Xr (vOf (YG qD (Z5 (dOf (Z6 0)) (Z5 (dOf (Z6 1)) YI)))))) (XB (Xr (vOf (YG qD (Z5 (dOf (Z6 0)) (Z5 (dOf (Z6 2)) YI)))))))) (Yj (eOf (fC (.bl false)))) Xn)
  (Yj (eOf (WH (dOf (zAG .lst (vOf (Z6 3)))) (dOf (XJ bAll (Z5 (vOf (Yc 1 [0] (Y5 (dOf (Z6 3))) (gN 0) YU q33)) YI)))))))
noncomputable def q1l:List D->Option O:=mir 4 q3n
noncomputable abbrev q3C:vo:=top 23
theorem q9Q:FnScope ["size", "home", "last", "boxes"] ["size", "home", "last", "boxes"] (Z9 q3C):=⟨rfl,rfl,rfl,⋯,rfl,⋯,⋯⟩
theorem q9A{f_has_place:vG}{d_has_place:vN}{f_is_whole:vG}{d_is_whole:vN}{f_is_ring_box:vG}{d_is_ring_box:vN}(F:Fun K "is_ring" "is_ring" q3C f fd)(c_has_place:Cal P w K mg base 2 f_has_place d_has_place "has_place" ["size", "thing"] 2 qD)(c_is_whole:Cal P w K mg base 1 f_is_whole d_is_whole "is_whole" ["thing"] 1 qm)(c_is_ring_box:Cal P w K mg base 3 f_is_ring_box d_is_ring_box "is_ring_box" ["size", "thing"] 2 q04)(z_all:mg "all" = none)(z_isinstance:mg "isinstance" = none)(z_list:mg "list" = none)(i_list:IsT K .lst):
  FnOk P w K mg base CX0 4 f fd ["size", "home", "last", "boxes"] (spD K 4 q1l):=by
 have h:=fnD (P:=P) (w:=w) (mg:=mg) (base:=base) (k:=3) (body:=q3n) F q9Q (λcdv A outer s H E hr=>
   (q0 (q09 (XW.toT (q4v (q0J (qV (XE.toV (xc c_is_whole hr (Z4 (vD 0) Z8))))) (q4v (q0J (qV (XE.toV (xc c_has_place hr (Z4 (vD 0) (Z4 (vD 1) Z8)))))) (q6Q (q0J (qV (XE.toV (xc c_has_place hr (Z4 (vD 0) (Z4 (vD 2) Z8)))))))))) (qc (qg (XD.toE XN))) qF)
   (qc (qg (XD.toE (q0u (XE.toD (q2I (vV 3) i_list rfl z_isinstance rfl z_list q3H)) (q2K (XE.toD (qN (q5R rfl) qbg rfl z_all qbm (ql (XE.toV (q0D rfl (blk ["box"] ["size"] [0] rfl ⋯ ⋯ rfl ⟨⟨rfl,(by first|exact Or.inl rfl|exact Or.inr rfl),rfl⟩,trivial⟩) (qz (vD 3)) (qw 0) (λ_ _ _ _=>⟨(qf (i:=0) (show ((["box"]:List Str)++(["size"]:List Str):List Str).Nodup from by decide +kernel) rfl (Or.inl rfl)),qP,(XE.toD (xc c_is_ring_box hr (Z4 (vD 1) (Z4 (vD 0) Z8))))⟩))) qu))))))))))
 exact h
noncomputable def q1X:FS:=(sIf (XB (Xr (vOf (YG q1l (Z5 (dOf (Z6 0)) (Z5 (dOf (Z6 1)) (Z5 (dOf (Z6 2)) (Z5 (dOf (Z6 3)) YI)))))))) sNo Xn)
noncomputable def q0d:List D->Option O:=mir 4 q1X
noncomputable abbrev q24:vo:=top 24
theorem q6R:FnScope ["size", "home", "last", "boxes"] ["size", "home", "last", "boxes"] (Z9 q24):=⟨rfl,rfl,rfl,⋯,rfl,⋯,⋯⟩
theorem q5X{f_is_ring:vG}{d_is_ring:vN}(F:Fun K "check_ring" "check_ring" q24 f fd)(c_is_ring:Cal P w K mg base 4 f_is_ring d_is_ring "is_ring" ["size", "home", "last", "boxes"] 4 q1l):
  FnOk P w K mg base CX0 5 f fd ["size", "home", "last", "boxes"] (spD K 4 q0d):=by
 have h:=fnD (P:=P) (w:=w) (mg:=mg) (base:=base) (k:=4) (body:=q1X) F q6R (λcdv A outer s H E hr=>
   (qc (q09 (q0J (qV (XE.toV (xc c_is_ring hr (Z4 (vD 0) (Z4 (vD 1) (Z4 (vD 2) (Z4 (vD 3) Z8)))))))) (qc qcx) qF)))
 exact h
noncomputable def q2a:FD:=(dOf (fSl (vOf (Z6 0)) pNo (pAt (fC (.int 2)))))
noncomputable def q0Y:FS:=(Yj (Yc 1 [] (Y5 (dOf (Z6 0))) (gN 0) YU q2a))
noncomputable def qC:List D->Option O:=mir 1 q0Y
noncomputable abbrev q0T:vo:=top 25
theorem q5e:FnScope ["boxes"] ["boxes"] (Z9 q0T):=⟨rfl,rfl,rfl,⋯,rfl,⋯,⋯⟩
theorem q4E (F:Fun K "without_ways" "without_ways" q0T f fd):
  FnOk P w K mg base CX0 1 f fd ["boxes"] (spD K 1 qC):=by
 have h:=fnD (P:=P) (w:=w) (mg:=mg) (base:=base) (k:=0) (body:=q0Y) F q5e (λcdv A outer s H E hr=>
   (qc (qg (q0D rfl (blk ["box"] [] [] rfl ⋯ ⋯ rfl trivial) (qz (vD 0)) (qw 0) (λ_ _ _ _=>⟨(qf (i:=0) (show ((["box"]:List Str)++([]:List Str):List Str).Nodup from by decide +kernel) rfl (Or.inl rfl)),qP,(XE.toD (YW (vV 0) Yo (Ya (XD.toV Z7))))⟩)))))
 exact h
noncomputable def q3E:FS:=(Yj (YC oMod (vOf (YC Xo (vOf (YC W2 (vOf (Z6 2)) (vOf (Z6 1)))) (vOf (Z6 3)))) (vOf (Z6 0))))
noncomputable def qO:List D->Option O:=mir 4 q3E
noncomputable abbrev q4X:vo:=top 26
theorem qdK:FnScope ["size", "start", "goal", "way"] ["size", "start", "goal", "way"] (Z9 q4X):=⟨rfl,rfl,rfl,⋯,rfl,⋯,⋯⟩
theorem qc4 (F:Fun K "steps" "steps" q4X f fd):
  FnOk P w K mg base CX0 1 f fd ["size", "start", "goal", "way"] (spD K 4 qO):=by
 have h:=fnD (P:=P) (w:=w) (mg:=mg) (base:=base) (k:=0) (body:=q3E) F qdK (λcdv A outer s H E hr=>
   (qc (qg (qr (XE.toV (q1j (XE.toV (q29 (vV 2) (vV 1))) (vV 3))) (vV 0)))))
 exact h
noncomputable def q2m:FS:=(YS (Ww (YG q0d (Z5 (dOf (Z6 0)) (Z5 (dOf (Z6 1)) (Z5 (dOf (Z6 2)) (Z5 (dOf (Z6 3)) YI))))))
  (YS (YZ 4 (eOf (dOf (YG q2G (Z5 (dOf (Z6 1)) (Z5 (dOf (Z6 2)) (Z5 (dOf (YG qC (Z5 (dOf (Z6 3)) YI))) YI)))))))
  (Yj (XJ Y3 (Z5 (vOf (Z6 4)) (Z5 (vOf (YC Yk (vOf (fSl (vOf (Z6 4)) (pAt (fC (.int 1))) pNo)) (vOf (fSl (vOf (Z6 4)) pNo (pAt (fC (.int 1))))))) YI))))))
noncomputable def qU:List D->Option O:=mir 5 q2m
noncomputable abbrev q2w:vo:=top 27
theorem q3V:FnScope ["size", "home", "last", "boxes", "places"] ["size", "home", "last", "boxes"] (Z9 q2w):=⟨rfl,rfl,rfl,⋯,rfl,⋯,⋯⟩
theorem q7c{f_check_ring:vG}{d_check_ring:vN}{f_stops:vG}{d_stops:vN}{f_without_ways:vG}{d_without_ways:vN}(F:Fun K "ring_gaps" "ring_gaps" q2w f fd)(c_check_ring:Cal P w K mg base 5 f_check_ring d_check_ring "check_ring" ["size", "home", "last", "boxes"] 4 q0d)(c_stops:Cal P w K mg base 5 f_stops d_stops "stops" ["home", "last", "boxes"] 3 q2G)(c_without_ways:Cal P w K mg base 1 f_without_ways d_without_ways "without_ways" ["boxes"] 1 qC)(z_list:mg "list" = none)(z_zip:mg "zip" = none):
  FnOk P w K mg base CX0 6 f fd ["size", "home", "last", "boxes"] (spD K 4 qU):=by
 have h:=fnD (P:=P) (w:=w) (mg:=mg) (base:=base) (k:=5) (body:=q2m) F q3V (λcdv A outer s H E hr=>
   (q0 (q8d (xc c_check_ring hr (Z4 (vD 0) (Z4 (vD 1) (Z4 (vD 2) (Z4 (vD 3) Z8))))))
   (q0 (qi (i:=4) q3V.nd rfl (Or.inl rfl) (XD.toE (XE.toD (xc c_stops hr (Z4 (vD 1) (Z4 (vD 2) (Z4 (XE.toD (xc c_without_ways hr (Z4 (vD 3) Z8))) Z8)))))))
   (qc (qg (q9x rfl z_list rfl z_zip (ql (vV 4) (ql (XE.toV (qq (XE.toV (YW (vV 4) (Ya (XD.toV Z7)) Yo)) (XE.toV (YW (vV 4) Yo (Ya (XD.toV Z7)))))) qu))))))))
 exact h
noncomputable def q1T:FS:=(Yj (fIte (tOf (YC (oEq false) (vOf (YC oIx (vOf (Z6 1)) (fC (.int 0)))) (vOf (YC oIx (vOf (Z6 1)) (fC (.int 1)))))) (Z6 0) (YG qO (Z5 (dOf (Z6 0)) (Z5 (dOf (YC oIx (vOf (Z6 1)) (fC (.int 0)))) (Z5 (dOf (YC oIx (vOf (Z6 1)) (fC (.int 1)))) (Z5 (fC (.int 1)) YI)))))))
noncomputable def q0b:List D->Option O:=mir 2 q1T
noncomputable abbrev q27:vo:=top 28
theorem q6L:FnScope ["size", "gap"] ["size", "gap"] (Z9 q27):=⟨rfl,rfl,rfl,⋯,rfl,⋯,⋯⟩
theorem q64{f_steps:vG}{d_steps:vN}(F:Fun K "gap_length" "gap_length" q27 f fd)(c_steps:Cal P w K mg base 1 f_steps d_steps "steps" ["size", "start", "goal", "way"] 4 qO):
  FnOk P w K mg base CX0 2 f fd ["size", "gap"] (spD K 2 q0b):=by
 have h:=fnD (P:=P) (w:=w) (mg:=mg) (base:=base) (k:=1) (body:=q1T) F q6L (λcdv A outer s H E hr=>
   (qc (qg (q6I (Wi hr.units (XE.toV (YD (vV 1) (XD.toV Z7))) (XE.toV (YD (vV 1) (XD.toV Z7)))) (vE 0) (xc c_steps hr (Z4 (vD 0) (Z4 (XE.toD (YD (vV 1) (XD.toV Z7))) (Z4 (XE.toD (YD (vV 1) (XD.toV Z7))) (Z4 Z7 Z8)))))))))
 exact h
noncomputable def q1u:FD:=(dOf (YC Yk (vOf (Z6 0)) (Wp (Z5 (dOf (YG q0b (Z5 (dOf (Z6 1)) (Z5 (dOf (Z6 0)) YI)))) YI))))
noncomputable def q1Q:FS:=(Yj (Yc 1 [0] (Y5 (dOf (YG qU (Z5 (dOf (Z6 0)) (Z5 (dOf (Z6 1)) (Z5 (dOf (Z6 2)) (Z5 (dOf (Z6 3)) YI))))))) (gN 0) YU q1u))
noncomputable def qY:List D->Option O:=mir 4 q1Q
noncomputable abbrev q28:vo:=top 29
theorem q6H:FnScope ["size", "home", "last", "boxes"] ["size", "home", "last", "boxes"] (Z9 q28):=⟨rfl,rfl,rfl,⋯,rfl,⋯,⋯⟩
theorem q5U{f_ring_gaps:vG}{d_ring_gaps:vN}{f_gap_length:vG}{d_gap_length:vN}(F:Fun K "ring_edges" "ring_edges" q28 f fd)(c_ring_gaps:Cal P w K mg base 6 f_ring_gaps d_ring_gaps "ring_gaps" ["size", "home", "last", "boxes"] 4 qU)(c_gap_length:Cal P w K mg base 2 f_gap_length d_gap_length "gap_length" ["size", "gap"] 2 q0b):
  FnOk P w K mg base CX0 7 f fd ["size", "home", "last", "boxes"] (spD K 4 qY):=by
 have h:=fnD (P:=P) (w:=w) (mg:=mg) (base:=base) (k:=6) (body:=q1Q) F q6H (λcdv A outer s H E hr=>
   (qc (qg (q0D rfl (blk ["gap"] ["size"] [0] rfl ⋯ ⋯ rfl ⟨⟨rfl,(by first|exact Or.inl rfl|exact Or.inr rfl),rfl⟩,trivial⟩) (qz (XE.toD (xc c_ring_gaps hr (Z4 (vD 0) (Z4 (vD 1) (Z4 (vD 2) (Z4 (vD 3) Z8))))))) (qw 0) (λ_ _ _ _=>⟨(qf (i:=0) (show ((["gap"]:List Str)++(["size"]:List Str):List Str).Nodup from by decide +kernel) rfl (Or.inl rfl)),qP,(XE.toD (qq (vV 0) (XD.toV (Yz (Z4 (XE.toD (xc c_gap_length hr (Z4 (vD 1) (Z4 (vD 0) Z8)))) Z8)))))⟩)))))
 exact h
noncomputable def q2v:FS:=(Yj (YC oLt (vOf (YG qO (Z5 (dOf (Z6 0)) (Z5 (dOf (Z6 1)) (Z5 (dOf (YC oIx (vOf (Z6 3)) (fC (.int 0)))) (Z5 (fC (.int 1)) YI)))))) (vOf (YG qO (Z5 (dOf (Z6 0)) (Z5 (dOf (Z6 1)) (Z5 (dOf (Z6 2)) (Z5 (fC (.int 1)) YI))))))))
noncomputable def qT:List D->Option O:=mir 4 q2v
noncomputable abbrev q2u:vo:=top 30
theorem q7B:FnScope ["size", "start", "goal", "gap"] ["size", "start", "goal", "gap"] (Z9 q2u):=⟨rfl,rfl,rfl,⋯,rfl,⋯,⋯⟩
theorem q6P{f_steps:vG}{d_steps:vN}(F:Fun K "goes_over" "goes_over" q2u f fd)(c_steps:Cal P w K mg base 1 f_steps d_steps "steps" ["size", "start", "goal", "way"] 4 qO):
  FnOk P w K mg base CX0 2 f fd ["size", "start", "goal", "gap"] (spD K 4 qT):=by
 have h:=fnD (P:=P) (w:=w) (mg:=mg) (base:=base) (k:=1) (body:=q2v) F q7B (λcdv A outer s H E hr=>
   (qc (qg (qcr (XE.toV (xc c_steps hr (Z4 (vD 0) (Z4 (vD 1) (Z4 (XE.toD (YD (vV 3) (XD.toV Z7))) (Z4 Z7 Z8)))))) (XE.toV (xc c_steps hr (Z4 (vD 0) (Z4 (vD 1) (Z4 (vD 2) (Z4 Z7 Z8))))))))))
 exact h
noncomputable def q1P:FT:=(Wb (tOf (YC (oEq false) (vOf (YC oIx (vOf (Z6 0)) (fC (.int 2)))) (fC (.int 1)))) (Xr (vOf (YG qT (Z5 (dOf (Z6 1)) (Z5 (dOf (YC oIx (vOf (Z6 0)) (fC (.int 0)))) (Z5 (dOf (YC oIx (vOf (Z6 0)) (fC (.int 1)))) (Z5 (dOf (Z6 2)) YI))))))))
noncomputable def q3l:FD:=(dOf (Z6 0))
noncomputable def q1O:FT:=(Wb (tOf (YC (oEq false) (vOf (YC oIx (vOf (Z6 0)) (fC (.int 2)))) (vOf (zAF (fC (.int 1)))))) (Xr (vOf (YG qT (Z5 (dOf (Z6 1)) (Z5 (dOf (YC oIx (vOf (Z6 0)) (fC (.int 1)))) (Z5 (dOf (YC oIx (vOf (Z6 0)) (fC (.int 0)))) (Z5 (dOf (Z6 2)) YI))))))))
noncomputable def q3t:FD:=(dOf (Z6 0))
noncomputable def q2C:FS:=(YS (YZ 5 (eOf (dOf (fIte (Xr (vOf (YG qT (Z5 (dOf (Z6 0)) (Z5 (dOf (Z6 1)) (Z5 (dOf (Z6 2)) (Z5 (dOf (Z6 4)) YI))))))) (eOf (fC (.int 1))) (eOf (fC (.int 0)))))))
  (YS (YZ 6 (Yc 1 [0,4] (Y5 (dOf (Z6 3))) (gN 0) q1P q3l))
  (Yg 6 (YS (YZ 7 (Yc 1 [0,4] (Y5 (dOf (Z6 3))) (gN 0) q1O q3t))
  (Yg 7 (Yj (YC Yk (vOf (YC W2 (vOf (Z6 5)) (vOf (XJ Wn (Z5 (vOf (Z6 6)) YI))))) (vOf (XJ Wn (Z5 (vOf (Z6 7)) YI))))))))))
noncomputable def q0r:List D->Option O:=mir 8 q2C
noncomputable abbrev q2n:vo:=top 31
theorem q1f:FnScope ["size", "home", "last", "boxes", "gap", "own", "rights", "lefts"] ["size", "home", "last", "boxes", "gap"] (Z9 q2n):=⟨rfl,rfl,rfl,⋯,rfl,⋯,⋯⟩
theorem q7b{f_goes_over:vG}{d_goes_over:vN}(F:Fun K "bare_lack" "bare_lack" q2n f fd)(c_goes_over:Cal P w K mg base 2 f_goes_over d_goes_over "goes_over" ["size", "start", "goal", "gap"] 4 qT)(z_len:mg "len" = none):
  FnOk P w K mg base CX0 3 f fd ["size", "home", "last", "boxes", "gap"] (spD K 5 q0r):=by
 have h:=fnD (P:=P) (w:=w) (mg:=mg) (base:=base) (k:=2) (body:=q2C) F q1f (λcdv A outer s H E hr=>
   (q0 (qi (i:=5) q1f.nd rfl (Or.inl rfl) (XD.toE (XE.toD (q6I (qV (XE.toV (xc c_goes_over hr (Z4 (vD 0) (Z4 (vD 1) (Z4 (vD 2) (Z4 (vD 4) Z8))))))) (XD.toE Z7) (XD.toE Z7)))))
   (q0 (q0Z (i:=6) rfl q1f.nd rfl rfl (blk ["box"] ["size", "gap"] [0,4] rfl ⋯ ⋯ rfl ⟨⟨rfl,(by first|exact Or.inl rfl|exact Or.inr rfl),rfl⟩,⟨⟨rfl,(by first|exact Or.inl rfl|exact Or.inr rfl),rfl⟩,trivial⟩⟩) (qz (vD 3)) (qw 0) (λ_ _ _ _=>⟨(qf (i:=0) (show ((["box"]:List Str)++(["size", "gap"]:List Str):List Str).Nodup from by decide +kernel) rfl (Or.inl rfl)),(q4Z (XW.toT (qac (Wi hr.units (XE.toV (YD (vV 0) (XD.toV Z7))) (XD.toV Z7)) (q8K (qV (XE.toV (xc c_goes_over hr (Z4 (vD 1) (Z4 (XE.toD (YD (vV 0) (XD.toV Z7))) (Z4 (XE.toD (YD (vV 0) (XD.toV Z7))) (Z4 (vD 2) Z8))))))))))),(vD 0)⟩))
   (qL 6 (q0 (q0Z (i:=7) rfl q1f.nd rfl rfl (blk ["box"] ["size", "gap"] [0,4] rfl ⋯ ⋯ rfl ⟨⟨rfl,(by first|exact Or.inl rfl|exact Or.inr rfl),rfl⟩,⟨⟨rfl,(by first|exact Or.inl rfl|exact Or.inr rfl),rfl⟩,trivial⟩⟩) (qz (vD 3)) (qw 0) (λ_ _ _ _=>⟨(qf (i:=0) (show ((["box"]:List Str)++(["size", "gap"]:List Str):List Str).Nodup from by decide +kernel) rfl (Or.inl rfl)),(q4Z (XW.toT (qac (Wi hr.units (XE.toV (YD (vV 0) (XD.toV Z7))) (XE.toV (q2Q (XD.toV Z7)))) (q8K (qV (XE.toV (xc c_goes_over hr (Z4 (vD 1) (Z4 (XE.toD (YD (vV 0) (XD.toV Z7))) (Z4 (XE.toD (YD (vV 0) (XD.toV Z7))) (Z4 (vD 2) Z8))))))))))),(vD 0)⟩))
   (qL 7 (qc (qg (qq (XE.toV (q29 (vV 5) (XE.toV (qN qX q2S rfl z_len q2F (ql (vV 6) qu))))) (XE.toV (qN qX q2S rfl z_len q2F (ql (vV 7) qu))))))))))))
 exact h
noncomputable def q1w:FD:=(dOf (YC Yk (vOf (Z6 1)) (vOf (YG q0r (Z5 (dOf (Z6 2)) (Z5 (dOf (Z6 3)) (Z5 (dOf (Z6 4)) (Z5 (dOf (Z6 5)) (Z5 (dOf (Z6 0)) YI)))))))))
noncomputable def q1S:FS:=(Yj (Yc 1 [4,0,1,2,3] (Y5 (dOf (YG qU (Z5 (dOf (Z6 0)) (Z5 (dOf (Z6 1)) (Z5 (dOf (Z6 2)) (Z5 (dOf (Z6 3)) YI))))))) (gN 0) YU q1w))
noncomputable def q0g:List D->Option O:=mir 5 q1S
noncomputable abbrev q1G:vo:=top 32
theorem q6A:FnScope ["size", "home", "last", "boxes", "c"] ["size", "home", "last", "boxes", "c"] (Z9 q1G):=⟨rfl,rfl,rfl,⋯,rfl,⋯,⋯⟩
theorem q5T{f_ring_gaps:vG}{d_ring_gaps:vN}{f_bare_lack:vG}{d_bare_lack:vN}(F:Fun K "ring_lacks" "ring_lacks" q1G f fd)(c_ring_gaps:Cal P w K mg base 6 f_ring_gaps d_ring_gaps "ring_gaps" ["size", "home", "last", "boxes"] 4 qU)(c_bare_lack:Cal P w K mg base 3 f_bare_lack d_bare_lack "bare_lack" ["size", "home", "last", "boxes", "gap"] 5 q0r):
  FnOk P w K mg base CX0 7 f fd ["size", "home", "last", "boxes", "c"] (spD K 5 q0g):=by
 have h:=fnD (P:=P) (w:=w) (mg:=mg) (base:=base) (k:=6) (body:=q1S) F q6A (λcdv A outer s H E hr=>
   (qc (qg (q0D rfl (blk ["gap"] ["c", "size", "home", "last", "boxes"] [4,0,1,2,3] rfl ⋯ ⋯ rfl ⟨⟨rfl,(by first|exact Or.inl rfl|exact Or.inr rfl),rfl⟩,⟨⟨rfl,(by first|exact Or.inl rfl|exact Or.inr rfl),rfl⟩,⟨⟨rfl,(by first|exact Or.inl rfl|exact Or.inr rfl),rfl⟩,⟨⟨rfl,(by first|exact Or.inl rfl|exact Or.inr rfl),rfl⟩,⟨⟨rfl,(by first|exact Or.inl rfl|exact Or.inr rfl),rfl⟩,trivial⟩⟩⟩⟩⟩) (qz (XE.toD (xc c_ring_gaps hr (Z4 (vD 0) (Z4 (vD 1) (Z4 (vD 2) (Z4 (vD 3) Z8))))))) (qw 0) (λ_ _ _ _=>⟨(qf (i:=0) (show ((["gap"]:List Str)++(["c", "size", "home", "last", "boxes"]:List Str):List Str).Nodup from by decide +kernel) rfl (Or.inl rfl)),qP,(XE.toD (qq (vV 1) (XE.toV (xc c_bare_lack hr (Z4 (vD 2) (Z4 (vD 3) (Z4 (vD 4) (Z4 (vD 5) (Z4 (vD 0) Z8)))))))))⟩)))))
 exact h
noncomputable def q1d:FT:=(tOf (YC (oEq true) (vOf (Z6 1)) (fC (.int 0))))
noncomputable def q2J:FD:=(dOf (fSl (vOf (Z6 0)) pNo (pAt (fC (.int 2)))))
noncomputable def q0U:FD:=(dOf (YC oIx (vOf (Z6 0)) (fC (.int 0))))
noncomputable def q1v:FS:=(YS (YZ 5 (Yc 2 [] (iZp (Z5 (dOf (Z6 3)) (Z5 (dOf (Z6 4)) YI))) (gT 2 (YH (gN 0) (YH (gN 1) Yn))) q1d q2J))
  (Yg 5 (YS (YZ 6 (Yc 1 [] (Y5 (dOf (Z6 3))) (gN 0) YU q0U))
  (Yg 6 (Yj (YG q1R (Z5 (dOf (Z6 6)) (Z5 (dOf (YC Yk (vOf (YC Yk (vOf (YG qC (Z5 (dOf (Z6 2)) YI))) (vOf (Xm (Z5 (Wp (Z5 (dOf (Z6 0)) (Z5 (dOf (Z6 1)) YI))) YI))))) (vOf (Z6 5)))) (Z5 (dOf (Z6 3)) YI)))))))))
noncomputable def q06:List D->Option O:=mir 7 q1v
noncomputable abbrev q1t:vo:=top 33
theorem q1q:FnScope ["home", "last", "boxes", "edges", "lacks", "lacking", "places"] ["home", "last", "boxes", "edges", "lacks"] (Z9 q1t):=⟨rfl,rfl,rfl,⋯,rfl,⋯,⋯⟩
theorem q50{f_forest:vG}{d_forest:vN}{f_without_ways:vG}{d_without_ways:vN}(F:Fun K "ring_forest" "ring_forest" q1t f fd)(c_forest:Cal P w K mg base 4 f_forest d_forest "forest" ["things", "knots", "edges"] 3 q1R)(c_without_ways:Cal P w K mg base 1 f_without_ways d_without_ways "without_ways" ["boxes"] 1 qC)(z_zip:mg "zip" = none):
  FnOk P w K mg base CX0 5 f fd ["home", "last", "boxes", "edges", "lacks"] (spD K 5 q06):=by
 have h:=fnD (P:=P) (w:=w) (mg:=mg) (base:=base) (k:=4) (body:=q1v) F q1q (λcdv A outer s H E hr=>
   (q0 (q0Z (i:=5) rfl q1q.nd rfl rfl (blk ["edge", "lack"] [] [] rfl ⋯ ⋯ rfl trivial) (qb1 rfl z_zip (Z4 (vD 3) (Z4 (vD 4) Z8))) (q3r (qA (qw 0) (qA (qw 1) q1o))) (λ_ _ _ _=>⟨(q21 rfl (qt (qf (i:=0) (show ((["edge", "lack"]:List Str)++([]:List Str):List Str).Nodup from by decide +kernel) rfl (Or.inl rfl)) (qt (qf (i:=1) (show ((["edge", "lack"]:List Str)++([]:List Str):List Str).Nodup from by decide +kernel) rfl (Or.inl rfl)) q19))),(q4Z (Xu hr.units (vV 1) (XD.toV Z7))),(XE.toD (YW (vV 0) Yo (Ya (XD.toV Z7))))⟩))
   (qL 5 (q0 (q0Z (i:=6) rfl q1q.nd rfl rfl (blk ["edge"] [] [] rfl ⋯ ⋯ rfl trivial) (qz (vD 3)) (qw 0) (λ_ _ _ _=>⟨(qf (i:=0) (show ((["edge"]:List Str)++([]:List Str):List Str).Nodup from by decide +kernel) rfl (Or.inl rfl)),qP,(XE.toD (YD (vV 0) (XD.toV Z7)))⟩))
   (qL 6 (qc (qg (xc c_forest hr (Z4 (vD 6) (Z4 (XE.toD (qq (XE.toV (qq (XE.toV (xc c_without_ways hr (Z4 (vD 2) Z8))) (XE.toV (YX (Z4 (Yz (Z4 (vD 0) (Z4 (vD 1) Z8))) Z8))))) (vV 5))) (Z4 (vD 3) Z8)))))))))))
 exact h
noncomputable def q0P:FD:=(dOf (YC Xo (vOf (YG q0a (Z5 (dOf (Z6 0)) YI))) (vOf (XJ bAbs (Z5 (vOf (Z6 1)) YI)))))
noncomputable def q0M:FD:=(dOf (YG q0a (Z5 (dOf (Z6 0)) YI)))
noncomputable def q18:FS:=(YS (YZ 5 (Yc 2 [] (iZp (Z5 (dOf (Z6 3)) (Z5 (dOf (Z6 4)) YI))) (gT 2 (YH (gN 0) (YH (gN 1) Yn))) YU q0P))
  (Yg 5 (Yj (YC Yk (vOf (XJ bSum (Z5 (vOf (Z6 5)) YI))) (vOf (YC Xo (fC (.int 2)) (vOf (XJ bSum (Z5 (vOf (Yc 1 [] (Y5 (dOf (YG q06 (Z5 (dOf (Z6 0)) (Z5 (dOf (Z6 1)) (Z5 (dOf (Z6 2)) (Z5 (dOf (Z6 3)) (Z5 (dOf (Z6 4)) YI)))))))) (gN 0) YU q0M)) YI)))))))))
noncomputable def qv:List D->Option O:=mir 6 q18
noncomputable abbrev q0V:vo:=top 34
theorem q2H:FnScope ["home", "last", "boxes", "edges", "lacks", "crossings"] ["home", "last", "boxes", "edges", "lacks"] (Z9 q0V):=⟨rfl,rfl,rfl,⋯,rfl,⋯,⋯⟩
theorem q4J{f_cost:vG}{d_cost:vN}{f_ring_forest:vG}{d_ring_forest:vN}(F:Fun K "empty_weight" "empty_weight" q0V f fd)(c_cost:Cal P w K mg base 1 f_cost d_cost "cost" ["edge"] 1 q0a)(c_ring_forest:Cal P w K mg base 5 f_ring_forest d_ring_forest "ring_forest" ["home", "last", "boxes", "edges", "lacks"] 5 q06)(z_zip:mg "zip" = none)(z_abs:mg "abs" = none)(z_sum:mg "sum" = none):
  FnOk P w K mg base CX0 6 f fd ["home", "last", "boxes", "edges", "lacks"] (spD K 5 qv):=by
 have h:=fnD (P:=P) (w:=w) (mg:=mg) (base:=base) (k:=5) (body:=q18) F q2H (λcdv A outer s H E hr=>
   (q0 (q0Z (i:=5) rfl q2H.nd rfl rfl (blk ["edge", "lack"] [] [] rfl ⋯ ⋯ rfl trivial) (qb1 rfl z_zip (Z4 (vD 3) (Z4 (vD 4) Z8))) (q3r (qA (qw 0) (qA (qw 1) q1o))) (λ_ _ _ _=>⟨(q21 rfl (qt (qf (i:=0) (show ((["edge", "lack"]:List Str)++([]:List Str):List Str).Nodup from by decide +kernel) rfl (Or.inl rfl)) (qt (qf (i:=1) (show ((["edge", "lack"]:List Str)++([]:List Str):List Str).Nodup from by decide +kernel) rfl (Or.inl rfl)) q19))),qP,(XE.toD (q1j (XE.toV (xc c_cost hr (Z4 (vD 0) Z8))) (XE.toV (qN qbI qfk rfl z_abs qeH (ql (vV 1) qu)))))⟩))
   (qL 5 (qc (qg (qq (XE.toV (qN (q3o rfl) q6O rfl z_sum q6K (ql (vV 5) qu))) (XE.toV (q1j (XD.toV Z7) (XE.toV (qN (q3o rfl) q6O rfl z_sum q6K (ql (XE.toV (q0D rfl (blk ["edge"] [] [] rfl ⋯ ⋯ rfl trivial) (qz (XE.toD (xc c_ring_forest hr (Z4 (vD 0) (Z4 (vD 1) (Z4 (vD 2) (Z4 (vD 3) (Z4 (vD 4) Z8)))))))) (qw 0) (λ_ _ _ _=>⟨(qf (i:=0) (show ((["edge"]:List Str)++([]:List Str):List Str).Nodup from by decide +kernel) rfl (Or.inl rfl)),qP,(XE.toD (xc c_cost hr (Z4 (vD 0) Z8)))⟩))) qu)))))))))))
 exact h
noncomputable def q1W:FD:=(dOf (YG qO (Z5 (dOf (Z6 3)) (Z5 (dOf (Z6 0)) (Z5 (dOf (Z6 1)) (Z5 (dOf (Z6 2)) YI))))))
noncomputable def q4o:FD:=(dOf (YC Yk (vOf (Z6 0)) (vOf (Z6 1))))
noncomputable def q2Y:FS:=(YS (YZ 9 (Yc 1 [8] (Y5 (dOf (Z6 5))) (gN 0) YU q4o))
  (Yg 9 (W0 7 (Wp (Z5 (dOf (Z6 8)) (Z5 (dOf (YC Yk (vOf (Z6 6)) (vOf (YG qv (Z5 (dOf (Z6 1)) (Z5 (dOf (Z6 2)) (Z5 (dOf (Z6 3)) (Z5 (dOf (Z6 4)) (Z5 (dOf (Z6 9)) YI))))))))) YI))))))
noncomputable def q5d:FS:=(YS (YZ 4 (eOf (dOf (YG qY (Z5 (dOf (Z6 0)) (Z5 (dOf (Z6 1)) (Z5 (dOf (Z6 2)) (Z5 (dOf (Z6 3)) YI))))))))
  (YS (YZ 5 (eOf (dOf (YG q0g (Z5 (dOf (Z6 0)) (Z5 (dOf (Z6 1)) (Z5 (dOf (Z6 2)) (Z5 (dOf (Z6 3)) (Z5 (fC (.int 0)) YI)))))))))
  (YS (YZ 6 (eOf (dOf (XJ bSum (Z5 (vOf (Yc 3 [0] (Y5 (dOf (Z6 3))) (gT 3 (YH (gN 0) (YH (gN 1) (YH (gN 2) Yn)))) YU q1W)) YI)))))
  (YS (YZ 7 (Xm YI))
  (YS (Xv (iRg2 (Z5 (vOf (YC W2 (vOf (zAF (fC (.int 1)))) (vOf (XJ bMax (Z5 (vOf (Z6 5)) YI))))) (Z5 (vOf (YC W2 (fC (.int 2)) (vOf (XJ bMin (Z5 (vOf (Z6 5)) YI))))) YI))) (gN 8) q2Y)
  (Xk 7))))))
noncomputable def q1E:List D->Option O:=mir 10 q5d
noncomputable abbrev q4P:vo:=top 35
theorem q0X:FnScope ["size", "home", "last", "boxes", "edges", "bare", "loaded", "told", "c", "lacks"] ["size", "home", "last", "boxes"] (Z9 q4P):=⟨rfl,rfl,rfl,⋯,rfl,⋯,⋯⟩
theorem qbX{f_ring_edges:vG}{d_ring_edges:vN}{f_ring_lacks:vG}{d_ring_lacks:vN}{f_steps:vG}{d_steps:vN}{f_empty_weight:vG}{d_empty_weight:vN}(F:Fun K "turns" "turns" q4P f fd)(c_ring_edges:Cal P w K mg base 7 f_ring_edges d_ring_edges "ring_edges" ["size", "home", "last", "boxes"] 4 qY)(c_ring_lacks:Cal P w K mg base 7 f_ring_lacks d_ring_lacks "ring_lacks" ["size", "home", "last", "boxes", "c"] 5 q0g)(c_steps:Cal P w K mg base 1 f_steps d_steps "steps" ["size", "start", "goal", "way"] 4 qO)(c_empty_weight:Cal P w K mg base 6 f_empty_weight d_empty_weight "empty_weight" ["home", "last", "boxes", "edges", "lacks"] 5 qv)(z_sum:mg "sum" = none)(z_min:mg "min" = none)(z_max:mg "max" = none)(z_range:mg "range" = none):
  FnOk P w K mg base CX0 8 f fd ["size", "home", "last", "boxes"] (spD K 4 q1E):=by
 have h:=fnD (P:=P) (w:=w) (mg:=mg) (base:=base) (k:=7) (body:=q5d) F q0X (λcdv A outer s H E hr=>
   (q0 (qi (i:=4) q0X.nd rfl (Or.inl rfl) (XD.toE (XE.toD (xc c_ring_edges hr (Z4 (vD 0) (Z4 (vD 1) (Z4 (vD 2) (Z4 (vD 3) Z8))))))))
   (q0 (qi (i:=5) q0X.nd rfl (Or.inl rfl) (XD.toE (XE.toD (xc c_ring_lacks hr (Z4 (vD 0) (Z4 (vD 1) (Z4 (vD 2) (Z4 (vD 3) (Z4 Z7 Z8)))))))))
   (q0 (qi (i:=6) q0X.nd rfl (Or.inl rfl) (XD.toE (XE.toD (qN (q3o rfl) q6O rfl z_sum q6K (ql (XE.toV (q0D rfl (blk ["start", "goal", "way"] ["size"] [0] rfl ⋯ ⋯ rfl ⟨⟨rfl,(by first|exact Or.inl rfl|exact Or.inr rfl),rfl⟩,trivial⟩) (qz (vD 3)) (q3r (qA (qw 0) (qA (qw 1) (qA (qw 2) q1o)))) (λ_ _ _ _=>⟨(q21 rfl (qt (qf (i:=0) (show ((["start", "goal", "way"]:List Str)++(["size"]:List Str):List Str).Nodup from by decide +kernel) rfl (Or.inl rfl)) (qt (qf (i:=1) (show ((["start", "goal", "way"]:List Str)++(["size"]:List Str):List Str).Nodup from by decide +kernel) rfl (Or.inl rfl)) (qt (qf (i:=2) (show ((["start", "goal", "way"]:List Str)++(["size"]:List Str):List Str).Nodup from by decide +kernel) rfl (Or.inl rfl)) q19)))),qP,(XE.toD (xc c_steps hr (Z4 (vD 3) (Z4 (vD 0) (Z4 (vD 1) (Z4 (vD 2) Z8))))))⟩))) qu)))))
   (q0 (qi (i:=7) q0X.nd rfl (Or.inl rfl) (YX Z8))
   (q0 (q05 PassesOwn.never rfl (qb4 rfl z_range (ql (XE.toV (q29 (XE.toV (q2Q (XD.toV Z7))) (XE.toV (qN (q9Z rfl) qfd rfl z_max qeL (ql (vV 5) qu))))) (ql (XE.toV (q29 (XD.toV Z7) (XE.toV (qN (q5O rfl) qaA rfl z_min qaU (ql (vV 5) qu))))) qu))) (qf (i:=8) q0X.nd rfl (Or.inr rfl)) (q0 (q0Z (i:=9) rfl q0X.nd rfl rfl (blk ["lack"] ["c"] [8] rfl ⋯ ⋯ rfl ⟨⟨rfl,(by first|exact Or.inl rfl|exact Or.inr rfl),rfl⟩,trivial⟩) (qz (vD 5)) (qw 0) (λ_ _ _ _=>⟨(qf (i:=0) (show ((["lack"]:List Str)++(["c"]:List Str):List Str).Nodup from by decide +kernel) rfl (Or.inl rfl)),qP,(XE.toD (qq (vV 0) (vV 1)))⟩))
   (qL 9 (qc (q25 (pv 7) (Yz (Z4 (vD 8) (Z4 (XE.toD (qq (vV 6) (XE.toV (xc c_empty_weight hr (Z4 (vD 1) (Z4 (vD 2) (Z4 (vD 3) (Z4 (vD 4) (Z4 (vD 9) Z8))))))))) Z8))))))))
   (qc (q2R (pv 7)))))))))
 exact h
noncomputable def q3c:FD:=(dOf (Z6 1))
noncomputable def q1Y:FS:=(Yj (XJ bMin (Z5 (vOf (Yc 2 [] (Y5 (dOf (YG q1E (Z5 (dOf (Z6 0)) (Z5 (dOf (Z6 1)) (Z5 (dOf (Z6 2)) (Z5 (dOf (Z6 3)) YI))))))) (gT 2 (YH (gN 0) (YH (gN 1) Yn))) YU q3c)) YI)))
noncomputable def qo:List D->Option O:=mir 4 q1Y
noncomputable abbrev q1H:vo:=top 36
theorem q6p:FnScope ["size", "home", "last", "boxes"] ["size", "home", "last", "boxes"] (Z9 q1H):=⟨rfl,rfl,rfl,⋯,rfl,⋯,⋯⟩
theorem q63{f_turns:vG}{d_turns:vN}(F:Fun K "ring_least" "ring_least" q1H f fd)(c_turns:Cal P w K mg base 8 f_turns d_turns "turns" ["size", "home", "last", "boxes"] 4 q1E)(z_min:mg "min" = none):
  FnOk P w K mg base CX0 9 f fd ["size", "home", "last", "boxes"] (spD K 4 qo):=by
 have h:=fnD (P:=P) (w:=w) (mg:=mg) (base:=base) (k:=8) (body:=q1Y) F q6p (λcdv A outer s H E hr=>
   (qc (qg (qN (q5O rfl) qaA rfl z_min qaU (ql (XE.toV (q0D rfl (blk ["c", "weight"] [] [] rfl ⋯ ⋯ rfl trivial) (qz (XE.toD (xc c_turns hr (Z4 (vD 0) (Z4 (vD 1) (Z4 (vD 2) (Z4 (vD 3) Z8))))))) (q3r (qA (qw 0) (qA (qw 1) q1o))) (λ_ _ _ _=>⟨(q21 rfl (qt (qf (i:=0) (show ((["c", "weight"]:List Str)++([]:List Str):List Str).Nodup from by decide +kernel) rfl (Or.inl rfl)) (qt (qf (i:=1) (show ((["c", "weight"]:List Str)++([]:List Str):List Str).Nodup from by decide +kernel) rfl (Or.inl rfl)) q19))),qP,(vD 1)⟩))) qu)))))
 exact h
noncomputable def q2k:FS:=(YS (sIf (tOf (YC oLt (vOf (Z6 1)) (vOf (XJ Wn (Z5 (vOf (Z6 0)) YI))))) (Yj (YC oIx (vOf (Z6 0)) (vOf (Z6 1)))) Xn)
  (Yj (eOf (fC (.int 0)))))
noncomputable def qp:List D->Option O:=mir 2 q2k
noncomputable abbrev q2p:vo:=top 38
theorem q7p:FnScope ["script", "k"] ["script", "k"] (Z9 q2p):=⟨rfl,rfl,rfl,⋯,rfl,⋯,⋯⟩
theorem q6l (F:Fun K "_law_cell" "_law_cell" q2p f fd)(z_len:mg "len" = none):
  FnOk P w K mg base CX0 1 f fd ["script", "k"] (spD K 2 qp):=by
 have h:=fnD (P:=P) (w:=w) (mg:=mg) (base:=base) (k:=0) (body:=q2k) F q7p (λcdv A outer s H E hr=>
   (q0 (q09 (qfI (vV 1) (XE.toV (qN qX q2S rfl z_len q2F (ql (vV 0) qu)))) (qc (qg (YD (vV 0) (vV 1)))) qF)
   (qc (qg (XD.toE Z7)))))
 exact h
noncomputable def q2l:FS:=(YS (YZ 1 (eOf (dOf (YG qp (Z5 (dOf (Z6 0)) (Z5 (fC (.int 0)) YI))))))
  (Yj (YC oIx (vOf (Xm (Z5 (dOf (YC Yk (fC (.int 1)) (vOf (YC oMod (vOf (YC oDiv (vOf (Z6 1)) (fC (.int 4)))) (fC (.int 12)))))) (Z5 (dOf (YC Yk (fC (.int 1)) (vOf (YC oMod (vOf (YC oDiv (vOf (Z6 1)) (fC (.int 4)))) (fC (.int 100)))))) (Z5 (dOf (YC Yk (fC (.int 1)) (vOf (YC oMod (vOf (YC oDiv (vOf (Z6 1)) (fC (.int 4)))) (vOf (YC oPow (fC (.int 10)) (fC (.int 39)))))))) (Z5 (fC (.int 24)) YI)))))) (vOf (YC oMod (vOf (Z6 1)) (fC (.int 4)))))))
noncomputable def q0q:List D->Option O:=mir 2 q2l
noncomputable abbrev q2r:vo:=top 39
theorem q3U:FnScope ["script", "cell"] ["script"] (Z9 q2r):=⟨rfl,rfl,rfl,⋯,rfl,⋯,⋯⟩
theorem q6V{f__law_cell:vG}{d__law_cell:vN}(F:Fun K "_law_size" "_law_size" q2r f fd)(c__law_cell:Cal P w K mg base 1 f__law_cell d__law_cell "_law_cell" ["script", "k"] 2 qp):
  FnOk P w K mg base CX0 2 f fd ["script"] (spD K 1 q0q):=by
 have h:=fnD (P:=P) (w:=w) (mg:=mg) (base:=base) (k:=1) (body:=q2l) F q3U (λcdv A outer s H E hr=>
   (q0 (qi (i:=1) q3U.nd rfl (Or.inl rfl) (XD.toE (XE.toD (xc c__law_cell hr (Z4 (vD 0) (Z4 Z7 Z8))))))
   (qc (qg (YD (XE.toV (YX (Z4 (XE.toD (qq (XD.toV Z7) (XE.toV (qr (XE.toV (qI (vV 1) (XD.toV Z7))) (XD.toV Z7))))) (Z4 (XE.toD (qq (XD.toV Z7) (XE.toV (qr (XE.toV (qI (vV 1) (XD.toV Z7))) (XD.toV Z7))))) (Z4 (XE.toD (qq (XD.toV Z7) (XE.toV (qr (XE.toV (qI (vV 1) (XD.toV Z7))) (XE.toV (qfj (XD.toV Z7) (XD.toV Z7))))))) (Z4 Z7 Z8)))))) (XE.toV (qr (vV 1) (XD.toV Z7))))))))
 exact h
noncomputable def q1M:FS:=(YS (YZ 4 (eOf (dOf (YG qp (Z5 (dOf (Z6 0)) (Z5 (dOf (YC Yk (fC (.int 2)) (vOf (Z6 3)))) YI))))))
  (W0 2 (dOf (YC oMod (vOf (YC oIx (vOf (Xm (Z5 (dOf (YC Yk (vOf (Z6 3)) (vOf (YC oDiv (vOf (Z6 4)) (fC (.int 3)))))) (Z5 (dOf (YC oDiv (vOf (Z6 4)) (fC (.int 3)))) (Z5 (dOf (YC W2 (vOf (YC W2 (fC (.int 0)) (fC (.int 1)))) (vOf (YC oDiv (vOf (Z6 4)) (fC (.int 3)))))) YI))))) (vOf (YC oMod (vOf (Z6 4)) (fC (.int 3)))))) (vOf (Z6 1))))))
noncomputable def q2x:FS:=(YS (YZ 2 (Xm YI))
  (YS (Xv (iRg1 (Z5 (fC (.int 7)) YI)) (gN 3) q1M)
  (YS (sIf (tOf (YC (oEq false) (vOf (YC oMod (vOf (YC oDiv (vOf (YG qp (Z5 (dOf (Z6 0)) (Z5 (fC (.int 1)) YI)))) (fC (.int 28)))) (fC (.int 3)))) (fC (.int 1)))) (zAV 2 (fC (.int 1)) (dOf (YC oIx (vOf (Z6 2)) (fC (.int 0))))) Xn)
  (Xk 2))))
noncomputable def q0t:List D->Option O:=mir 5 q2x
noncomputable abbrev q2A:vo:=top 40
theorem q1g:FnScope ["script", "size", "some", "k", "cell"] ["script", "size"] (Z9 q2A):=⟨rfl,rfl,rfl,⋯,rfl,⋯,⋯⟩
theorem q74{f__law_cell:vG}{d__law_cell:vN}(F:Fun K "_law_menu" "_law_menu" q2A f fd)(c__law_cell:Cal P w K mg base 1 f__law_cell d__law_cell "_law_cell" ["script", "k"] 2 qp)(z_range:mg "range" = none):
  FnOk P w K mg base CX0 2 f fd ["script", "size"] (spD K 2 q0t):=by
 have h:=fnD (P:=P) (w:=w) (mg:=mg) (base:=base) (k:=1) (body:=q2x) F q1g (λcdv A outer s H E hr=>
   (q0 (qi (i:=2) q1g.nd rfl (Or.inl rfl) (YX Z8))
   (q0 (q05 PassesOwn.never rfl (qaj rfl z_range (ql (XD.toV Z7) qu)) (qf (i:=3) q1g.nd rfl (Or.inl rfl)) (q0 (qi (i:=4) q1g.nd rfl (Or.inl rfl) (XD.toE (XE.toD (xc c__law_cell hr (Z4 (vD 0) (Z4 (XE.toD (qq (XD.toV Z7) (vV 3))) Z8))))))
   (qc (q25 (pv 2) (XE.toD (qr (XE.toV (YD (XE.toV (YX (Z4 (XE.toD (qq (vV 3) (XE.toV (qI (vV 4) (XD.toV Z7))))) (Z4 (XE.toD (qI (vV 4) (XD.toV Z7))) (Z4 (XE.toD (q29 (XE.toV (q29 (XD.toV Z7) (XD.toV Z7))) (XE.toV (qI (vV 4) (XD.toV Z7))))) Z8))))) (XE.toV (qr (vV 4) (XD.toV Z7))))) (vV 1)))))))
   (q0 (q09 (Wi hr.units (XE.toV (qr (XE.toV (qI (XE.toV (xc c__law_cell hr (Z4 (vD 0) (Z4 Z7 Z8)))) (XD.toV Z7))) (XD.toV Z7))) (XD.toV Z7)) (qc (qe1 (pv 2) Z7 (XE.toD (YD (vV 2) (XD.toV Z7))))) qF)
   (qc (q2R (pv 2)))))))
 exact h
noncomputable def q1x:FS:=(W0 4 (Wp (Z5 (dOf (YC oIx (vOf (Z6 1)) (vOf (YC oMod (vOf (YC oDiv (vOf (Z6 5)) (fC (.int 2)))) (fC (.int 7)))))) (Z5 (dOf (YC oIx (vOf (Z6 1)) (vOf (YC oMod (vOf (YC oDiv (vOf (Z6 5)) (fC (.int 14)))) (fC (.int 7)))))) (Z5 (dOf (YC oIx (vOf (Xm (Z5 (fC (.int 1)) (Z5 (dOf (zAF (fC (.int 1)))) YI)))) (vOf (YC oMod (vOf (Z6 5)) (fC (.int 2)))))) YI)))))
noncomputable def q26:FS:=(YS (YZ 2 (eOf (dOf (YG qp (Z5 (dOf (Z6 0)) (Z5 (fC (.int 1)) YI))))))
  (YS (YZ 3 (eOf (dOf (YC oIx (vOf (Xm (Z5 (fC (.int 5)) (Z5 (fC (.int 5)) (Z5 (dOf (YC oMod (vOf (YC oDiv (vOf (Z6 2)) (fC (.int 4)))) (fC (.int 6)))) (Z5 (dOf (YC oMod (vOf (YC oDiv (vOf (Z6 2)) (fC (.int 4)))) (fC (.int 3)))) YI)))))) (vOf (YC oMod (vOf (Z6 2)) (fC (.int 4))))))))
  (YS (YZ 4 (Xm YI))
  (YS (Xv (Y5 (dOf (fSl (vOf (Z6 0)) (pAt (fC (.int 9))) (pAt (vOf (YC Yk (fC (.int 9)) (vOf (Z6 3)))))))) (gN 5) q1x)
  (Xk 4)))))
noncomputable def q0f:List D->Option O:=mir 6 q26
noncomputable abbrev q20:vo:=top 41
theorem q0e:FnScope ["script", "some", "cell", "many", "boxes", "one"] ["script", "some"] (Z9 q20):=⟨rfl,rfl,rfl,⋯,rfl,⋯,⋯⟩
theorem q5Z{f__law_cell:vG}{d__law_cell:vN}(F:Fun K "_law_boxes" "_law_boxes" q20 f fd)(c__law_cell:Cal P w K mg base 1 f__law_cell d__law_cell "_law_cell" ["script", "k"] 2 qp):
  FnOk P w K mg base CX0 2 f fd ["script", "some"] (spD K 2 q0f):=by
 have h:=fnD (P:=P) (w:=w) (mg:=mg) (base:=base) (k:=1) (body:=q26) F q0e (λcdv A outer s H E hr=>
   (q0 (qi (i:=2) q0e.nd rfl (Or.inl rfl) (XD.toE (XE.toD (xc c__law_cell hr (Z4 (vD 0) (Z4 Z7 Z8))))))
   (q0 (qi (i:=3) q0e.nd rfl (Or.inl rfl) (XD.toE (XE.toD (YD (XE.toV (YX (Z4 Z7 (Z4 Z7 (Z4 (XE.toD (qr (XE.toV (qI (vV 2) (XD.toV Z7))) (XD.toV Z7))) (Z4 (XE.toD (qr (XE.toV (qI (vV 2) (XD.toV Z7))) (XD.toV Z7))) Z8)))))) (XE.toV (qr (vV 2) (XD.toV Z7)))))))
   (q0 (qi (i:=4) q0e.nd rfl (Or.inl rfl) (YX Z8))
   (q0 (q05 PassesOwn.never rfl (qz (XE.toD (YW (vV 0) (Ya (XD.toV Z7)) (Ya (XE.toV (qq (XD.toV Z7) (vV 3))))))) (qf (i:=5) q0e.nd rfl (Or.inl rfl)) (qc (q25 (pv 4) (Yz (Z4 (XE.toD (YD (vV 1) (XE.toV (qr (XE.toV (qI (vV 5) (XD.toV Z7))) (XD.toV Z7))))) (Z4 (XE.toD (YD (vV 1) (XE.toV (qr (XE.toV (qI (vV 5) (XD.toV Z7))) (XD.toV Z7))))) (Z4 (XE.toD (YD (XE.toV (YX (Z4 Z7 (Z4 (XE.toD (q2Q (XD.toV Z7))) Z8)))) (XE.toV (qr (vV 5) (XD.toV Z7))))) Z8)))))))
   (qc (q2R (pv 4))))))))
 exact h
noncomputable def q00:FS:=(W0 6 (Wp (Z5 (dOf (YC oMod (vOf (YC Yk (vOf (YC Xo (vOf (Z6 5)) (vOf (Z6 7)))) (vOf (Z6 4)))) (vOf (Z6 0)))) (Z5 (dOf (YC oMod (vOf (YC Yk (vOf (YC Xo (vOf (Z6 5)) (vOf (Z6 8)))) (vOf (Z6 4)))) (vOf (Z6 0)))) (Z5 (dOf (YC Xo (vOf (Z6 5)) (vOf (Z6 9)))) YI)))))
noncomputable def q0E:FS:=(YS (YZ 6 (Xm YI))
  (YS (Xv (Y5 (dOf (Z6 3))) (gT 3 (YH (gN 7) (YH (gN 8) (YH (gN 9) Yn)))) q00)
  (Yg 6 (Yj (YG qo (Z5 (dOf (Z6 0)) (Z5 (dOf (YC oMod (vOf (YC Yk (vOf (YC Xo (vOf (Z6 5)) (vOf (Z6 1)))) (vOf (Z6 4)))) (vOf (Z6 0)))) (Z5 (dOf (YC oMod (vOf (YC Yk (vOf (YC Xo (vOf (Z6 5)) (vOf (Z6 2)))) (vOf (Z6 4)))) (vOf (Z6 0)))) (Z5 (dOf (Z6 6)) YI)))))))))
noncomputable def qH:List D->Option O:=mir 10 q0E
noncomputable abbrev q0I:vo:=top 42
theorem qS:FnScope ["size", "home", "last", "boxes", "on", "sign", "moved", "start", "goal", "side"] ["size", "home", "last", "boxes", "on", "sign"] (Z9 q0I):=⟨rfl,rfl,rfl,⋯,rfl,⋯,⋯⟩
theorem q4c{f_ring_least:vG}{d_ring_least:vN}(F:Fun K "_law_least_on" "_law_least_on" q0I f fd)(c_ring_least:Cal P w K mg base 9 f_ring_least d_ring_least "ring_least" ["size", "home", "last", "boxes"] 4 qo):
  FnOk P w K mg base CX0 10 f fd ["size", "home", "last", "boxes", "on", "sign"] (spD K 6 qH):=by
 have h:=fnD (P:=P) (w:=w) (mg:=mg) (base:=base) (k:=9) (body:=q0E) F qS (λcdv A outer s H E hr=>
   (q0 (qi (i:=6) qS.nd rfl (Or.inl rfl) (YX Z8))
   (q0 (q05 PassesOwn.never rfl (qz (vD 3)) (q21 rfl (qt (qf (i:=7) qS.nd rfl (Or.inl rfl)) (qt (qf (i:=8) qS.nd rfl (Or.inl rfl)) (qt (qf (i:=9) qS.nd rfl (Or.inl rfl)) q19)))) (qc (q25 (pv 6) (Yz (Z4 (XE.toD (qr (XE.toV (qq (XE.toV (q1j (vV 5) (vV 7))) (vV 4))) (vV 0))) (Z4 (XE.toD (qr (XE.toV (qq (XE.toV (q1j (vV 5) (vV 8))) (vV 4))) (vV 0))) (Z4 (XE.toD (q1j (vV 5) (vV 9))) Z8)))))))
   (qL 6 (qc (qg (xc c_ring_least hr (Z4 (vD 0) (Z4 (XE.toD (qr (XE.toV (qq (XE.toV (q1j (vV 5) (vV 1))) (vV 4))) (vV 0))) (Z4 (XE.toD (qr (XE.toV (qq (XE.toV (q1j (vV 5) (vV 2))) (vV 4))) (vV 0))) (Z4 (vD 6) Z8)))))))))))
 exact h
noncomputable def q3k:FD:=(Wp (Z5 (dOf (Z6 1)) (Z5 (dOf (Z6 0)) (Z5 (dOf (YC W2 (fC (.int 0)) (vOf (Z6 2)))) YI))))
noncomputable def q96:FS:=(YS (YZ 1 (eOf (dOf (YG q0q (Z5 (dOf (Z6 0)) YI)))))
  (YS (YZ 2 (eOf (dOf (YG q0t (Z5 (dOf (Z6 0)) (Z5 (dOf (Z6 1)) YI))))))
  (YS (YZ 3 (eOf (dOf (YG q0f (Z5 (dOf (Z6 0)) (Z5 (dOf (Z6 2)) YI))))))
  (YS (YZ 4 (eOf (dOf (YC oIx (vOf (Z6 2)) (fC (.int 0))))))
  (YS (YZ 5 (eOf (dOf (YC oIx (vOf (Z6 2)) (fC (.int 1))))))
  (YS (YZ 6 (eOf (dOf (YG qo (Z5 (dOf (Z6 1)) (Z5 (dOf (Z6 4)) (Z5 (dOf (Z6 5)) (Z5 (dOf (XJ zAW (Z5 (vOf (Z6 3)) YI))) YI))))))))
  (YS (YZ 7 (eOf (dOf (YC oMod (vOf (YG qp (Z5 (dOf (Z6 0)) (Z5 (fC (.int 16)) YI)))) (vOf (Z6 1))))))
  (YS (sIf (tOf (YC (oEq true) (vOf (YG qH (Z5 (dOf (Z6 1)) (Z5 (dOf (Z6 4)) (Z5 (dOf (Z6 5)) (Z5 (dOf (Z6 3)) (Z5 (dOf (Z6 7)) (Z5 (fC (.int 1)) YI)))))))) (vOf (Z6 6)))) (Yj (eOf (fC (.bl false)))) Xn)
  (YS (sIf (tOf (YC (oEq true) (vOf (YG qH (Z5 (dOf (Z6 1)) (Z5 (dOf (Z6 4)) (Z5 (dOf (Z6 5)) (Z5 (dOf (Z6 3)) (Z5 (dOf (Z6 7)) (Z5 (dOf (zAF (fC (.int 1)))) YI)))))))) (vOf (Z6 6)))) (Yj (eOf (fC (.bl false)))) Xn)
  (YS (YZ 8 (Yc 3 [] (Y5 (dOf (Z6 3))) (gT 3 (YH (gN 0) (YH (gN 1) (YH (gN 2) Yn)))) YU q3k))
  (Yg 8 (YS (sIf (tOf (YC (oEq true) (vOf (YG qo (Z5 (dOf (Z6 1)) (Z5 (dOf (Z6 5)) (Z5 (dOf (Z6 4)) (Z5 (dOf (Z6 8)) YI)))))) (vOf (Z6 6)))) (Yj (eOf (fC (.bl false)))) Xn)
  (YS (YZ 9 (eOf (dOf (YG qp (Z5 (dOf (Z6 0)) (Z5 (fC (.int 17)) YI))))))
  (YS (YZ 10 (eOf (dOf (YC oMod (vOf (YC oDiv (vOf (Z6 9)) (fC (.int 98)))) (vOf (YC Yk (vOf (XJ Wn (Z5 (vOf (Z6 3)) YI))) (fC (.int 1))))))))
  (YS (sIf (tOf (YC (oEq true) (vOf (YG qo (Z5 (dOf (Z6 1)) (Z5 (dOf (Z6 4)) (Z5 (dOf (Z6 5)) (Z5 (dOf (YC Yk (vOf (fSl (vOf (Z6 3)) (pAt (vOf (Z6 10))) pNo)) (vOf (fSl (vOf (Z6 3)) pNo (pAt (vOf (Z6 10))))))) YI)))))) (vOf (Z6 6)))) (Yj (eOf (fC (.bl false)))) Xn)
  (YS (YZ 11 (eOf (Wp (Z5 (dOf (YC oIx (vOf (Z6 2)) (vOf (YC oMod (vOf (Z6 9)) (fC (.int 7)))))) (Z5 (dOf (YC oIx (vOf (Z6 2)) (vOf (YC oMod (vOf (YC oDiv (vOf (Z6 9)) (fC (.int 7)))) (fC (.int 7)))))) (Z5 (dOf (YC oIx (vOf (Xm (Z5 (fC (.int 1)) (Z5 (dOf (zAF (fC (.int 1)))) YI)))) (vOf (YC oMod (vOf (YC oDiv (vOf (Z6 9)) (fC (.int 49)))) (fC (.int 2)))))) YI))))))
  (Yj (YC oGe (vOf (YG qo (Z5 (dOf (Z6 1)) (Z5 (dOf (Z6 4)) (Z5 (dOf (Z6 5)) (Z5 (dOf (YC Yk (vOf (YC Yk (vOf (fSl (vOf (Z6 3)) pNo (pAt (vOf (Z6 10))))) (vOf (Xm (Z5 (dOf (Z6 11)) YI))))) (vOf (fSl (vOf (Z6 3)) (pAt (vOf (Z6 10))) pNo)))) YI)))))) (vOf (Z6 6))))))))))))))))))))
noncomputable def q3L:List D->Option O:=mir 12 q96
noncomputable abbrev q3D:vo:=top 43
theorem q0v:FnScope ["script", "size", "some", "boxes", "home", "last", "low", "on", "back", "cell", "at", "box"] ["script"] (Z9 q3D):=⟨rfl,rfl,rfl,⋯,rfl,⋯,⋯⟩
theorem qfg{f__law_size:vG}{d__law_size:vN}{f__law_menu:vG}{d__law_menu:vN}{f__law_boxes:vG}{d__law_boxes:vN}{f_ring_least:vG}{d_ring_least:vN}{f__law_cell:vG}{d__law_cell:vN}{f__law_least_on:vG}{d__law_least_on:vN}(F:Fun K "law" "law" q3D f fd)(c__law_size:Cal P w K mg base 2 f__law_size d__law_size "_law_size" ["script"] 1 q0q)(c__law_menu:Cal P w K mg base 2 f__law_menu d__law_menu "_law_menu" ["script", "size"] 2 q0t)(c__law_boxes:Cal P w K mg base 2 f__law_boxes d__law_boxes "_law_boxes" ["script", "some"] 2 q0f)(c_ring_least:Cal P w K mg base 9 f_ring_least d_ring_least "ring_least" ["size", "home", "last", "boxes"] 4 qo)(c__law_cell:Cal P w K mg base 1 f__law_cell d__law_cell "_law_cell" ["script", "k"] 2 qp)(c__law_least_on:Cal P w K mg base 10 f__law_least_on d__law_least_on "_law_least_on" ["size", "home", "last", "boxes", "on", "sign"] 6 qH)(z_list:mg "list" = none)(z_len:mg "len" = none):
  FnOk P w K mg base CX0 11 f fd ["script"] (spD K 1 q3L):=by
 have h:=fnD (P:=P) (w:=w) (mg:=mg) (base:=base) (k:=10) (body:=q96) F q0v (λcdv A outer s H E hr=>
   (q0 (qi (i:=1) q0v.nd rfl (Or.inl rfl) (XD.toE (XE.toD (xc c__law_size hr (Z4 (vD 0) Z8)))))
   (q0 (qi (i:=2) q0v.nd rfl (Or.inl rfl) (XD.toE (XE.toD (xc c__law_menu hr (Z4 (vD 0) (Z4 (vD 1) Z8))))))
   (q0 (qi (i:=3) q0v.nd rfl (Or.inl rfl) (XD.toE (XE.toD (xc c__law_boxes hr (Z4 (vD 0) (Z4 (vD 2) Z8))))))
   (q0 (qi (i:=4) q0v.nd rfl (Or.inl rfl) (XD.toE (XE.toD (YD (vV 2) (XD.toV Z7)))))
   (q0 (qi (i:=5) q0v.nd rfl (Or.inl rfl) (XD.toE (XE.toD (YD (vV 2) (XD.toV Z7)))))
   (q0 (qi (i:=6) q0v.nd rfl (Or.inl rfl) (XD.toE (XE.toD (xc c_ring_least hr (Z4 (vD 1) (Z4 (vD 4) (Z4 (vD 5) (Z4 (XE.toD (qfR q6r qdY rfl z_list q3H (ql (vV 3) qu))) Z8))))))))
   (q0 (qi (i:=7) q0v.nd rfl (Or.inl rfl) (XD.toE (XE.toD (qr (XE.toV (xc c__law_cell hr (Z4 (vD 0) (Z4 Z7 Z8)))) (vV 1)))))
   (q0 (q09 (Xu hr.units (XE.toV (xc c__law_least_on hr (Z4 (vD 1) (Z4 (vD 4) (Z4 (vD 5) (Z4 (vD 3) (Z4 (vD 7) (Z4 Z7 Z8)))))))) (vV 6)) (qc (qg (XD.toE XN))) qF)
   (q0 (q09 (Xu hr.units (XE.toV (xc c__law_least_on hr (Z4 (vD 1) (Z4 (vD 4) (Z4 (vD 5) (Z4 (vD 3) (Z4 (vD 7) (Z4 (XE.toD (q2Q (XD.toV Z7))) Z8)))))))) (vV 6)) (qc (qg (XD.toE XN))) qF)
   (q0 (q0Z (i:=8) rfl q0v.nd rfl rfl (blk ["start", "goal", "side"] [] [] rfl ⋯ ⋯ rfl trivial) (qz (vD 3)) (q3r (qA (qw 0) (qA (qw 1) (qA (qw 2) q1o)))) (λ_ _ _ _=>⟨(q21 rfl (qt (qf (i:=0) (show ((["start", "goal", "side"]:List Str)++([]:List Str):List Str).Nodup from by decide +kernel) rfl (Or.inl rfl)) (qt (qf (i:=1) (show ((["start", "goal", "side"]:List Str)++([]:List Str):List Str).Nodup from by decide +kernel) rfl (Or.inl rfl)) (qt (qf (i:=2) (show ((["start", "goal", "side"]:List Str)++([]:List Str):List Str).Nodup from by decide +kernel) rfl (Or.inl rfl)) q19)))),qP,(Yz (Z4 (vD 1) (Z4 (vD 0) (Z4 (XE.toD (q29 (XD.toV Z7) (vV 2))) Z8))))⟩))
   (qL 8 (q0 (q09 (Xu hr.units (XE.toV (xc c_ring_least hr (Z4 (vD 1) (Z4 (vD 5) (Z4 (vD 4) (Z4 (vD 8) Z8)))))) (vV 6)) (qc (qg (XD.toE XN))) qF)
   (q0 (qi (i:=9) q0v.nd rfl (Or.inl rfl) (XD.toE (XE.toD (xc c__law_cell hr (Z4 (vD 0) (Z4 Z7 Z8))))))
   (q0 (qi (i:=10) q0v.nd rfl (Or.inl rfl) (XD.toE (XE.toD (qr (XE.toV (qI (vV 9) (XD.toV Z7))) (XE.toV (qq (XE.toV (qN qX q2S rfl z_len q2F (ql (vV 3) qu))) (XD.toV Z7)))))))
   (q0 (q09 (Xu hr.units (XE.toV (xc c_ring_least hr (Z4 (vD 1) (Z4 (vD 4) (Z4 (vD 5) (Z4 (XE.toD (qq (XE.toV (YW (vV 3) (Ya (vV 10)) Yo)) (XE.toV (YW (vV 3) Yo (Ya (vV 10)))))) Z8)))))) (vV 6)) (qc (qg (XD.toE XN))) qF)
   (q0 (qi (i:=11) q0v.nd rfl (Or.inl rfl) (XD.toE (Yz (Z4 (XE.toD (YD (vV 2) (XE.toV (qr (vV 9) (XD.toV Z7))))) (Z4 (XE.toD (YD (vV 2) (XE.toV (qr (XE.toV (qI (vV 9) (XD.toV Z7))) (XD.toV Z7))))) (Z4 (XE.toD (YD (XE.toV (YX (Z4 Z7 (Z4 (XE.toD (q2Q (XD.toV Z7))) Z8)))) (XE.toV (qr (XE.toV (qI (vV 9) (XD.toV Z7))) (XD.toV Z7))))) Z8))))))
   (qc (qg (qcv (XE.toV (xc c_ring_least hr (Z4 (vD 1) (Z4 (vD 4) (Z4 (vD 5) (Z4 (XE.toD (qq (XE.toV (qq (XE.toV (YW (vV 3) Yo (Ya (vV 10)))) (XE.toV (YX (Z4 (vD 11) Z8))))) (XE.toV (YW (vV 3) (Ya (vV 10)) Yo)))) Z8)))))) (vV 6)))))))))))))))))))))
 exact h
end
set_option compiler.extract_closed false
set_option hygiene false
local macro_rules|`(tactic| simp_arith $c:optConfig [$xs,*])=>`(tactic| simp $c only[q7L,qaS,qb8,q7T,e_wd,qaD,e_wz,q8S,q9R,q88,qcY,qa8,qaJ,qcC,qd0,qcD,qbj,qcN,q7O,q8Z,qcU,qaf,qcM,qcW,qcJ,q7K,q8Q,q0R,q87,q8m,qcH,qcK,q8c,q84,e_if,qab,qb3,qcG,q8v,q8J,qbc,q8R,qcI,W1,qcZ,q6W,q89,q8C,qcw,e_fs,qcy,q8o,q93,e_c,e_e,e_ed,e_d,q8k,q8r,e_v,q7U,q85,q7W,e_op,e_o2,qb7,e_cl,q8Y,q8i,e_ac,e_ca,e_an,qcE,qcL,qcq,e_bl,qd1,e_sl,e_po,e_pa,e_ap,qcA,qaX,qbq,qct,q5p,q6x,q5x,q5G,q5B,q5y,e_t,e_tr,qbh,e_ta,qcz,qcT,e_to,qcu,qal,e_tn,qb6,q8P,q6y,qaH,e_va,qcP,qao,q9G,qcp,qd2,qax,Xg,qcR,e_ng,q86,q8B,q8A,q52,qb9,q72,q7Q,qbn,q6g,q8z,qcX,qcQ,qcV,at0,at1,at2,q0k,q7Z,WA,entry,ya,yn,zM,xu,zB,zU,yX,Zi,yY,wx,wy,ZL,ZM,ym,xD,Nat.reduceSub,Nat.reduceAdd,Nat.reduceLT,Int.reduceLT,Int.reduceLE,Int.reduceSub,Int.reduceAdd,Int.reduceMul,Int.reduceMod,Int.reduceDiv,Int.reduceNeg,ZE,Int.reduceBEq,Zo,↓reduceIte,ZD,ZF,wg,Z0,xz,ZW,ZC,Bool.or_true,xo,Zx,xg,beq_self_eq_true,zy,$xs,*])
set_option compiler.extract_closed true
set_option hygiene true
noncomputable def Ym(p:Int×Int):D:=.tup [.int p.1,.int p.2]
noncomputable def Y6:D->Bool
 | .int _=>true
 | _=>false
noncomputable def nsD:D->Bool
 | .scr _=>false
 | .exc _=>false
 | .dic _ _=>false
 | _=>true
noncomputable def noScr:D->Bool
 | .scr _=>false
 | .exc _=>false
 | .dic _ _=>false
 | .tup [a,b]=>nsD a&&nsD b
 | _=>true
noncomputable def isBoxL:List D->Bool
 | []=>false
 | [_]=>false
 | [a,b]=>Y6 a&&Y6 b
 | _::_::_::_=>false
noncomputable def WP:D->Bool
 | .tup ds=>isBoxL ds
 | _=>false
theorem q32{d:D}(h:nsD d=true):qm [d]=↥(.bl (Y6 d)):=by
 cases d <;> first|rfl|cases h
theorem qeM{d:D}(h:noScr d=true):q1F [d]=↥(.bl (WP d)):=by
 unfold q1F q47
 match d,h with
 | .non,_=>rfl
 | .bl _,_=>rfl
 | .int _,_=>rfl
 | .str _,_=>rfl
 | .lst _,_=>rfl
 | .tup [],_=>rfl
 | .tup [_],_=>simp_arith[q0R];rfl
 | .tup [a,b],h=>
  have h':=wm.mp (show (_&&_)=true from h);have ha:=q32 h'.1;have hb:=q32 h'.2;simp_arith[ha,hb];simp_arith[show (((0+1+1:Nat):Int)==2)=true from rfl,ha,hb];cases a <;> cases b <;> rfl
 | .tup (a::b::c::r),_=>
  have hn:(((a::b::c::r).length:Int)==2)=false:=by
   simp only[zM,beq_eq_false_iff_ne,ne_eq];omega
  simp only[zM]at hn;simp_arith[hn];rfl
theorem q4h:∀(q:D->Bool)(ds:List D),allB (ds.map λd=>D.bl (q d))=some (ds.all q)
 | _,[]=>rfl
 | q,d::ds=>by
  show (allB (ds.map λd=>D.bl (q d))).map _=_;rw[q4h q ds];rfl
theorem qaM{h l:D}{ds:List D}(hh:nsD h=true)(hl:nsD l=true)(hd:∀d∈ds,noScr d=true)(hlen:ds.length<=1000000):
  q08 [h,l,.lst ds]=↥(.bl (Y6 h&&(Y6 l&&ds.all WP))):=by
 unfold q08 q2s;have e1:=q32 hh;have e2:=q32 hl;simp_arith[e1,e2,Xg hlen];cases Y6 h <;> cases Y6 l <;> simp_arith[e2,Xg hlen] <;> first|rfl|skip
 rw[q5k (λd=>D.bl (WP d))]
 ·simp_arith[bAll,q4h]
 ·intro d hd'
  unfold q3m;simp_arith[inW,qeM (hd d hd')]
noncomputable def flat(bs:List (Int×Int)):List Int:=bs.flatMap λp=>[p.1,p.2]
noncomputable def plc(h l:Int)(bs:List (Int×Int)):List Int:=h::l::flat bs
theorem qcc(bs:List (Int×Int))(p:Int×Int):flat (bs++[p])=flat bs++[p.1,p.2]:=by simp[flat]
theorem q23(bs:List (Int×Int)):(flat bs).length=2*bs.length:=by
 induction bs with
 | nil=>rfl
 | cons p r ih=>simp[flat]at ih ⊢;omega
theorem qdq(h l:Int)(bs:List (Int×Int))(p:Int×Int):plc h l (bs++[p])=plc h l bs++[p.1,p.2]:=by unfold plc;rw[qcc];rfl
theorem WC(x:Int):nsD (.int x)=true:=rfl
theorem q9X(p:Int×Int):WP (Ym p)=true:=rfl
theorem qb0(bs:List (Int×Int)):(bs.map Ym).all WP=true:=by
 rw[wS];exact yu.mpr λp _=>q9X p
theorem qa6{h l:Int}{bs:List (Int×Int)}(hb:bs.length<=1000):q08 [.int h,.int l,.lst (bs.map Ym)]=↥(.bl true):=by
 have:=qaM (h:=.int h) (l:=.int l) (ds:=bs.map Ym) (WC h) (WC l) (λd hd=>by
  obtain⟨p,_,rfl⟩:=zR.mp hd;rfl) (by rw[zB];omega)
 rw[qb0]at this;exact this
theorem qbx{h l:Int}{bs:List (Int×Int)}(hb:bs.length<=1000):qZ [.int h,.int l,.lst (bs.map Ym)]=some (.sh .non):=by
 unfold qZ q17;simp_arith[qa6 hb]
theorem qc2{h l:Int}{bs:List (Int×Int)}(hb:bs.length<=30):q2G [.int h,.int l,.lst (bs.map Ym)]=some (.fr ((YL (plc h l bs)).map D.int)):=by
 unfold q2G q58;simp_arith[qbx (show bs.length<=1000 by omega)];obtain⟨ω',e,x4,rfl⟩:=qJ (g:=gN 4) (b:=q49) Ym bs
  (λpre ω=>∃x4,ω=[↥(.int h),↥(.int l),↥(.lst (bs.map Ym)),some (.ow ((plc h l pre).map D.int)),x4])
  (λpre p post ω hd ⟨x4,hω⟩=>by
   subst hω;refine⟨_,rfl,?_⟩;unfold q49;have hl:(plc h l pre).length<=1000:=by
    have:=vf yi hd;rw[zG,zM]at this;show (flat pre).length+1+1<=1000;rw[q23];omega
   have e1:=q6W (i:=3) (ω:=[↥(.int h),↥(.int l),↥(.lst (bs.map Ym)),some (.ow ((plc h l pre).map D.int)),↥(Ym p)]) (ds:=(plc h l pre).map D.int) (ds':=[.int p.1,.int p.2]) (by rw[zB,zM,zx];omega);simp_arith[q0R];show Xw (extS 3 _ (some (Ym p)) _) _;rw[show Ym p=D.tup [.int p.1,.int p.2]from rfl]at e1 ⊢;rw[e1,qdq,za];exact⟨_,rfl⟩)
  (ω:=[↥(.int h),↥(.int l),↥(.lst (bs.map Ym)),some (.ow [.int h,.int l]),none]) ⟨none,rfl⟩
 simp_arith[e];have hlen:(plc h l bs).length<64:=by
  show (flat bs).length+1+1<64;rw[q23];omega
 have:Xe (vOf (Z6 3)) [↥(.int h),↥(.int l),↥(.lst (bs.map Ym)),some (.ow ((plc h l bs).map D.int)),x4]=some (.fr ((YL (plc h l bs)).map D.int)):=by
  show X5 (.lst ((plc h l bs).map D.int))=_;show (intsOf ((plc h l bs).map D.int)).bind _=_;rw[q0j];exact vH (qf3 hlen)
 simp_arith[this]
theorem q5F:∀(xs ys:List Int),wU pairD (xs.map D.int) (ys.map D.int)=(xs.zip ys).map Ym
 | [],_=>rfl
 | _::_,[]=>rfl
 | x::xs,y::ys=>by
  show _::wU pairD (xs.map D.int) (ys.map D.int)=_::(xs.zip ys).map Ym;rw[q5F xs ys];rfl
theorem qc5(ds:List D):cutD ds (some 1) none=ds.drop 1:=by
 unfold cutD;have e:HT.sIx ds.length 0 (some 1)=min 1 ds.length:=HT.q1B ds.length 0 1;rw[e,HT.q73];cases ds with
 | nil=>rfl
 | cons d r=>
  have:min 1 (d::r).length=1:=by rw[zM];omega
  rw[this];show List.take _ r=r;rw[zM,ZK,xk]
structure Stp (P:List Int):Prop where
 ne:P≠[]
 rise:P.Pairwise (· < ·)
 len:P.length<=1000
theorem stp(h l:Int){bs:List (Int×Int)}(hb:bs.length<=30):Stp (YL (plc h l bs)):=by
 refine⟨λe=>?_,q0i,?_⟩
 ·have:h∈YL (plc h l bs):=q1k.mpr (by simp[plc])
  rw[e]at this;simp at this
 ·have:(YL (plc h l bs)).length<=(plc h l bs).length:=q0B _
  have h2:(plc h l bs).length=2*bs.length+2:=by show (flat bs).length+1+1=_;rw[q23]
  omega
theorem q0l{α:Type}{g:FG}{c:FT}{f:FD}(P:WSt->Prop)(q:α->Bool)(B F:α->D):∀(xs:List α){ω:WSt},P ω ->
  (∀x∈xs,∀ω,P ω->∃w,g (B x) ω=some w/\P w/\c w=some (q x)/\(q x=true->f w=some (F x)))->Yl g c f (xs.map B) ω=some ((xs.filter q).map F)
 | [],_,_,_=>rfl
 | x::xs,ω,h,t=>by
  obtain⟨w,h1,h2,h3,h4⟩:=t x zI ω h;have ih:=q0l P q B F xs h2 (λe he=>t e (zJ _ he));rw[zU,Yl,h1,ya,h3,ya];cases hq:q x with
  | true=>rw[vH rfl,h4 hq,ya,ih,wN hq];rfl
  | false=>rw[vJ (by decide),ih,wO (by rw[hq];decide)]
theorem q30{α:Type}{i:Nat}{c:FT}{f:FD}(q:α->Bool)(B F:α->D)(xs:List α){ω:WSt}(h:∀x∈xs,c (ω.set i ↥(B x))=some (q x)/\(q x=true->f (ω.set i ↥(B x))=some (F x))):Yl (gN i) c f (xs.map B) ω=some ((xs.filter q).map F) :=
 q0l (g:=gN i) (c:=c) (f:=f) (λw=>∀x,w.set i x=ω.set i x) q B F xs (ω:=ω) (λx=>rfl) λd hd w hw=>
  ⟨w.set i ↥(B d),rfl,λx=>by rw[List.set_set,hw],by rw[hw];exact(h d hd).1,λz=>by rw[hw];exact(h d hd).2 z⟩
theorem q0h{α:Type}{i:Nat}{f:FD}(B F:α->D)(xs:List α){ω:WSt}(h:∀x∈xs,f (ω.set i ↥(B x))=some (F x)):Yl (gN i) YU f (xs.map B) ω=some (xs.map F):=by
 have:=q30 (c:=YU) (i:=i) (f:=f) (λ_=>true) B F xs (ω:=ω) λx hx=>⟨rfl,λ_=>h x hx⟩;rw[this,yq.mpr (λ_ _=>rfl)]
theorem qaa{α:Type}(f:α->Int):∀bs:List α,zAd (bs.map λp=>D.int (f p))=some (bs.map f).sum
 | []=>rfl
 | b::r=>by
  show (zAd (r.map λp=>D.int (f p))).map _=_;rw[qaa f r];rfl
theorem q76{α:Type}(f:α->Int)(bs:List α):bSum [.lst (bs.map λp=>D.int (f p))]=↥(.int (bs.map f).sum):=by
 show (zAd _).map _=_;rw[qaa];rfl
theorem q0W{ns:List Int}{k:Int}(h:0<=k):qp [.scr ns,.int k]=↥(.int (ns.getD k.toNat 0)):=by
 unfold qp q2k
 by_cases hk:k<ns.length
 ·simp_arith[hk,decide_true,q1m h hk]
  simp[zj,zC (show k.toNat<ns.length by omega)]
 ·simp_arith[hk,decide_false]
  simp[zj,zo (show ns.length<=k.toNat by omega)]
theorem q3p{ds:List D}{i:Int}(P:D->Prop)(h0:0<=i)(h1:i<ds.length)(h:∀d∈ds,P d):∃d,atI ds i=some d/\P d :=
 ⟨_,q1m h0 h1,h _ (ze _)⟩
noncomputable def tri(x:Int×Int×Int):D:=.tup [.int x.1,.int x.2.1,.int x.2.2]
theorem qdZ{ns:List Int}:∃n:Int,q0q [.scr ns]=↥(.int n)/\1<=n/\n<=10^39:=by
 unfold q0q q2l;have hc:=q0W (ns:=ns) (k:=0) (by decide);generalize ns.getD (wq 0) 0=c at hc;have p39:oPow (.int 10) (.int 39)=↥(.int (10^39)):=rfl;have md:∀x,oMod (.int x) (.int (10^39))=↥(.int (x%10^39)):=λx=>q0k (by decide);simp only[ZE]at p39 md ⊢;obtain⟨d,hd,n,rfl,hn⟩:=q3p (ds:=[.int (1+c/4%12),.int (1+c/4%100),.int (1+c/4%1000000000000000000000000000000000000000),.int 24]) (i:=c%4) (λd=>∃n:Int,d=D.int n/\1<=n/\n<=1000000000000000000000000000000000000000) ∅ (show c%4<4 by omega) (by
  intro d hd;simp only[zE,zY,or_false]at hd;rcases hd with rfl|rfl|rfl|rfl
  ·exact⟨_,rfl,∅,∅⟩
  ·exact⟨_,rfl,∅,∅⟩
  ·exact⟨_,rfl,∅,∅⟩
  ·exact⟨_,rfl,by decide,by decide⟩)
 simp_arith[hc,p39,md,hd];exact⟨n,rfl,hn⟩
theorem qbN{ns:List Int}{n:Int}(hn:1<=n):∃ps:List Int,q0t [.scr ns,.int n]=some (.fr (ps.map D.int))/\ps.length=7/\∀p∈ps,0<=p/\p<n:=by
 unfold q0t q2x;have rg:rg1I (some [.int 7])=some (upTo 0 7):=rfl;obtain⟨ω',e,ps,y3,y4,rfl,i1,i2⟩:=qaP (g:=gN 3) (b:=q1M) 0 7
  (λi ω=>∃(ps:List Int) (y3 y4:Option W),ω=[↥(.scr ns),↥(.int n),some (.ow (ps.map D.int)),y3,y4]/\ps.length=i/\∀p∈ps,0<=p/\p<n)
  (λi ω hi ⟨ps,y3,y4,hω,i1,i2⟩=>by
   subst hω;refine⟨_,rfl,?_⟩;have hc:=q0W (ns:=ns) (k:=2+(0+(i:Int))) ∅;generalize ns.getD (2+(0+(i:Int))).toNat 0=c at hc;obtain⟨d,hd,q,rfl⟩:=q3p (ds:=[.int (0+(i:Int)+c/3),.int (c/3),.int (-1-c/3)]) (i:=c%3) (λd=>∃q:Int,d=D.int q) ∅ (show c%3<3 by omega) (by
    intro d hd;simp only[zE,zY,or_false]at hd;rcases hd with rfl|rfl|rfl <;> exact⟨_,rfl⟩)
   have md:oMod (.int q) (.int n)=↥(.int (q%n)):=q0k ∅;have hll:(ps.map D.int).length<1000000:=by rw[zB];omega
   unfold q1M;simp_arith[hc,hd,md];rw[W1 hll,q52];refine⟨ps++[q%n],_,_,by rw[za];rfl,by rw[zG,i1];rfl,λp hp=>?_⟩;rcases zK.mp hp with y|y
   ·exact i2 p y
   ·cases zL.mp y
    exact⟨xv _ ∅,wF _ ∅⟩)
  (ω:=[↥(.scr ns),↥(.int n),some (.ow []),none,none]) ⟨[],none,none,rfl,rfl,by simp⟩
 have hc:=q0W (ns:=ns) (k:=1) (by decide);generalize ns.getD (wq 1) 0=c at hc
 match ps,i1,i2,e with
 | p0::p1::r,i1,i2,e=>
  by_cases z:c/28%3=1
  ·simp_arith[rg,e,hc,z]
   refine⟨p0::p0::r,?_,i1,λp hp=>?_⟩
   ·rw[qea (by decide) (by simp;omega)]
    rfl
   ·rcases zE.mp hp with rfl|hp
    ·exact i2 _ zI
    ·rcases zE.mp hp with rfl|hp
     ·exact i2 _ zI
     ·exact i2 p (by simp[hp])
  ·have z':(c/28%3==1)=false:=by simpa using z
   simp_arith[rg,e,hc,z'];exact⟨p0::p1::r,rfl,i1,i2⟩
theorem Wx{xs:List Int}(h7:xs.length=7)(x:Int):∃y,y∈xs/\atI (xs.map D.int) (x%7)=some (.int y):=by
 refine⟨xs[(x%7).toNat]'∅,ze _,?_⟩;rw[q1m ∅ (by rw[zB];omega),List.getElem_map]
theorem qad{ns ps:List Int}(h7:ps.length=7)(hl:ns.length<=63):∃bs:List (Int×Int×Int),q0f [.scr ns,.lst (ps.map D.int)]=some (.fr (bs.map tri))/\(∀b∈bs,b.1∈ps/\b.2.1∈ps/\(b.2.2=1\/b.2.2=-1))/\bs.length<=5:=by
 unfold q0f q26;have hc:=q0W (ns:=ns) (k:=1) (by decide);generalize ns.getD (wq 1) 0=c at hc;obtain⟨d,hd,k,rfl,hk⟩:=q3p (ds:=[.int 5,.int 5,.int (c/4%6),.int (c/4%3)]) (i:=c%4) (λd=>∃k:Nat,d=D.int (k:Int)/\k<=5) ∅ (show c%4<4 by omega) (by
  intro d hd;simp only[zE,zY,or_false]at hd;rcases hd with rfl|rfl|rfl|rfl
  ·exact⟨5,rfl,by decide⟩
  ·exact⟨5,rfl,by decide⟩
  ·exact⟨(c/4%6).toNat,by rw[wz ∅],∅⟩
  ·exact⟨(c/4%3).toNat,by rw[wz ∅],∅⟩)
 simp_arith[hc,hd,qfx];have hcl:(cutD ns (some 9) (some (9+(k:Int)))).length<=5:=by
  have e1:HT.sIx ns.length 0 (some 9)=min 9 ns.length:=HT.q1B ns.length 0 9;have e2:HT.sIx ns.length ns.length (some (9+(k:Int)))=min (9+k) ns.length:=by
   have:=HT.q1B ns.length ns.length (9+k);rw[show ((9+k:Nat):Int)=9+(k:Int) by omega]at this;exact this
  unfold cutD;rw[e1,e2,zb];omega
 generalize cutD ns (some 9) (some (9+(k:Int)))=cells at hcl;obtain⟨ω',e,bs,x5,rfl,i1,i2⟩:=qJ (g:=gN 5) (b:=q1x) D.int cells
  (λpre ω=>∃(bs:List (Int×Int×Int)) (x5:Option W),ω=[↥(.scr ns),↥(.lst (ps.map D.int)),↥(.int c),↥(.int (k:Int)),some (.ow (bs.map tri)),x5]/\(∀b∈bs,b.1∈ps/\b.2.1∈ps/\(b.2.2=1\/b.2.2=-1))/\bs.length=pre.length)
  (λpre x post ω hd' ⟨bs,x5,hω,i1,i2⟩=>by
   subst hω;refine⟨_,rfl,?_⟩;have hp:pre.length<cells.length:=by rw[hd',zG,zM];omega
   obtain⟨y1,m1,a1⟩:=Wx h7 (x/2);obtain⟨y2,m2,a2⟩:=Wx h7 (x/14);obtain⟨d,hd,q,rfl,hq⟩:=q3p (ds:=[.int 1,.int (-1)]) (i:=x%2) (λd=>∃q:Int,d=D.int q/\(q=1\/q=-1)) ∅ (show x%2<2 by omega) (by
    intro d hd;simp only[zE,zY,or_false]at hd;rcases hd with rfl|rfl
    ·exact⟨_,rfl,.inl rfl⟩
    ·exact⟨_,rfl,.inr rfl⟩)
   have hll:(bs.map tri).length<1000000:=by rw[zB];omega
   unfold q1x;simp_arith[a1,a2,hd,W1 hll];refine⟨bs++[(y1,y2,q)],_,by rw[za];rfl,λb hb=>?_,by rw[zG,zG,i2];rfl⟩;rcases zK.mp hb with y|y
   ·exact i1 b y
   ·cases zL.mp y;exact⟨m1,m2,hq⟩)
  (ω:=[↥(.scr ns),↥(.lst (ps.map D.int)),↥(.int c),↥(.int (k:Int)),some (.ow []),none]) ⟨[],none,rfl,by simp,rfl⟩
 simp_arith[e];exact⟨bs,rfl,i1,∅⟩
noncomputable def wD:D->Bool
 | .int _=>true
 | _=>false
noncomputable def plD:D->Bool
 | .scr _=>false
 | .exc _=>false
 | .dic _ _=>false
 | _=>true
noncomputable def smD:D->Bool
 | .int w=>decide (w.natAbs<2^200)
 | d=>plD d
noncomputable def plB:D->Bool
 | .tup ds=>ds.all smD
 | d=>plD d
noncomputable def plL:D->Bool
 | .lst ds=>ds.all plB&&decide (ds.length<=20)
 | d=>plD d
noncomputable def inD(n:Int):D->Bool
 | .int x=>decide (0<=x)&&decide (x<n)
 | _=>false
noncomputable def zAe:D->Bool
 | .int w=>w==1 || w == -1
 | _=>false
noncomputable def zAO(n:Int):D->Bool
 | .tup [x,y,w]=>inD n x&&(inD n y&&zAe w)
 | _=>false
noncomputable def isRd:D->D->D->D->Bool
 | .int n,h,l,.lst ds=>inD n h&&(inD n l&&ds.all (zAO n))
 | _,_,_,_=>false
theorem q9q{d:D}(h:smD d=true):plD d=true:=by cases d <;> first|rfl|cases h
theorem q3z{d:D}(h:plD d=true):qm [d]=↥(.bl (wD d)):=by
 cases d <;> first|rfl|cases h
theorem qdw(w:Int):oIn false (.int w) (.tup [.int 1,.int (-1)])=↥(.bl (w==1 || w == -1)):=by
 have e:=q6t w [1,-1];have h:(Yt (.int w)&&([1,-1].map D.int).all Yt)=true:=rfl;show (if (Yt (.int w)&&([1,-1].map D.int).all Yt)=true then some (R.sh (D.bl (Hk.inD (.int w) ([1,-1].map D.int))))else none)=_;rw[vH h,e]
 congr 3
 by_cases a:w=1 <;> by_cases b:w=-1 <;> simp[a,b]
theorem qdX{d:D}(h:plD d=true):q22 [d]=↥(.bl (zAe d)):=by
 unfold q22 q43;have e:=q3z h;cases d with
 | int w=>simp_arith[e,wD,qdw,zAe]
 | _=>first|(simp_arith[e,wD,zAe];done)|cases h
theorem q2h{n:Int}{d:D}(h:plD d=true):qD [.int n,d]=↥(.bl (inD n d)):=by
 unfold qD q2o;have e:=q3z h;cases d with
 | int x=>
  simp_arith[e,wD,inD,ge_iff_le]
 | _=>first|(simp_arith[e,wD,inD];done)|cases h
theorem qeX{n:Int}{d:D}(h:plB d=true):q04 [.int n,d]=↥(.bl (zAO n d)):=by
 unfold q04 q1r
 match d,h with
 | .non,_=>rfl
 | .bl _,_=>rfl
 | .int _,_=>rfl
 | .str _,_=>rfl
 | .lst _,_=>rfl
 | .tup [],_=>rfl
 | .tup [_],_=>rfl
 | .tup [_,_],_=>rfl
 | .tup (a::b::c::e::r),_=>
  have hn:(((a::b::c::e::r).length:Int)==3)=false:=by
   simp only[zM,beq_eq_false_iff_ne,ne_eq];omega
  simp only[zM]at hn;simp_arith[hn];rfl
 | .tup [a,b,c],h=>
  have h':smD a=true/\smD b=true/\smD c=true:=by simpa [plB]using h
  have e1:=q2h (n:=n) (q9q h'.1);have e2:=q2h (n:=n) (q9q h'.2.1);have e3:=qdX (q9q h'.2.2);have e4:(((0+1+1+1:Nat):Int)==3)=true:=rfl;simp_arith[e1,e2,e3];simp_arith[e4,e1,e2,e3];show _=some (O.sh (D.bl (inD n a&&(inD n b&&zAe c))));cases inD n a <;> cases inD n b <;> simp_arith[q0R]
theorem qah(n h l b:D)(hn:plD n=true)(hh:plD h=true)(hl:plD l=true)(hb:plL b=true):q1l [n,h,l,b]=↥(.bl (isRd n h l b)):=by
 unfold q1l q3n;have e1:=q3z hn;cases n with
 | int n=>
  have e2:=q2h (n:=n) hh;have e3:=q2h (n:=n) hl;have no:∀{b:D},(inD n h=false\/inD n l=false)->isRd (.int n) h l b=false:=by
   intro b z;cases b with
   | lst ds=>
    show (inD n h&&(inD n l&&ds.all (zAO n)))=false;rcases z with z|z <;> rw[z]
    ·rfl
    ·cases inD n h <;> rfl
   | _=>rfl
  cases z1:inD n h with
  | false=>simp_arith[e1,wD,e2,z1,no (.inl z1)]
  | true=>
   cases z2:inD n l with
   | false=>simp_arith[e1,wD,e2,e3,z1,z2,no (.inr z2)]
   | true=>
    cases b with
    | lst ds=>
     have hb':ds.all plB=true/\ds.length<=20:=by simpa [plL]using hb
     have hll:ds.length<=1000000:=∅
     have cm:Yl (gN 0) YU q33 ds [none,↥(.int n)]=some (ds.map λd=>D.bl (zAO n d)):=by
      refine q5k (λd=>D.bl (zAO n d)) ds λd hd=>?_;have:=qeX (n:=n) (yu.mp hb'.1 d hd);unfold q33;simp_arith[this]
     simp_arith[e1,wD,e2,e3,z1,z2,Xg hll,inW,Xp,cm,bAll,q4h];show _=some (O.sh (D.bl (inD n h&&(inD n l&&ds.all (zAO n)))));rw[z1,z2];rfl
    | _=>first|(simp_arith[e1,wD,e2,e3,z1,z2,isRd];done)|cases hb
 | _=>first|(simp_arith[e1,wD,isRd];done)|cases hn
theorem qbd{n h l:Int}{bs:List (Int×Int×Int)}(hn:n<=10^39)(hh:0<=h/\h<n)(hl:0<=l/\l<n)(hb:bs.length<=20)(hbs:∀b∈bs,(0<=b.1/\b.1<n)/\(0<=b.2.1/\b.2.1<n)/\(b.2.2=1\/b.2.2=-1)):
  q0d [.int n,.int h,.int l,.lst (bs.map tri)]=some (.sh .non):=by
 have smD':∀{x:Int},x.natAbs<=10^39->smD (.int x)=true:=λ{x} hx=>by
  show decide (x.natAbs<2^200)=true;exact vU (wA hx (by decide))
 have pb:(bs.map tri).all plB=true:=by
  rw[wS];refine yu.mpr λb hb=>?_;obtain⟨a1,a2,a3⟩:=hbs b hb;show (smD (.int b.1)&&(smD (.int b.2.1)&&(smD (.int b.2.2)&&true)))=true;rw[smD' ∅,smD' ∅,smD' ∅];rfl
 have pL:plL (.lst (bs.map tri))=true:=by
  show ((bs.map tri).all plB&&decide ((bs.map tri).length<=20))=true;rw[pb,zB];simp;omega
 have e:=qah (.int n) (.int h) (.int l) (.lst (bs.map tri)) rfl rfl rfl pL;have ok:isRd (.int n) (.int h) (.int l) (.lst (bs.map tri))=true:=by
  show (inD n (.int h)&&(inD n (.int l)&&(bs.map tri).all (zAO n)))=true;have i1:∀{x:Int},0<=x/\x<n->inD n (.int x)=true:=λ{x} hx=>by
   show (decide (0<=x)&&decide (x<n))=true;simp;exact hx
  rw[i1 hh,i1 hl,wS];show bs.all _=true;refine yu.mpr λb hb=>?_;obtain⟨a1,a2,a3⟩:=hbs b hb;show (inD n (.int b.1)&&(inD n (.int b.2.1)&&zAe (.int b.2.2)))=true;rw[i1 a1,i1 a2];show (b.2.2==1 || b.2.2 == -1)=true;rcases a3 with z|z <;> rw[z] <;> rfl
 rw[ok]at e;unfold q0d q1X;simp_arith[e]
noncomputable def two(b:Int×Int×Int):Int×Int:=(b.1,b.2.1)
theorem q6j{bs:List (Int×Int×Int)}(hb:bs.length<=20):qC [.lst (bs.map tri)]=some (.fr ((bs.map two).map Ym)):=by
 unfold qC q0Y;have hl:(bs.map tri).length<=1000000:=by rw[zB];omega
 have cm:=q0h (i:=0) (f:=q2a) tri (λb=>Ym (two b)) bs (ω:=[none]) (λb _=>rfl);simp_arith[Xg hl,inW,Xp,cm];rw[zp];rfl
noncomputable def rnd(P:List Int):List (Int×Int):=P.zip (P.drop 1++P.take 1)
theorem qdC(ds:List D):cutD ds none (some 1)=ds.take 1:=by
 unfold cutD;have e:HT.sIx ds.length ds.length (some 1)=min 1 ds.length:=HT.q1B ds.length ds.length 1;rw[e,HT.q73,ZY,wE,List.take_eq_take_iff];omega
theorem q6T{n h l:Int}{bs:List (Int×Int×Int)}(hn:n<=10^39)(hh:0<=h/\h<n)(hl:0<=l/\l<n)(hb:bs.length<=20)(hbs:∀b∈bs,(0<=b.1/\b.1<n)/\(0<=b.2.1/\b.2.1<n)/\(b.2.2=1\/b.2.2=-1)):
  qU [.int n,.int h,.int l,.lst (bs.map tri)]=some (.fr ((rnd (YL (plc h l (bs.map two)))).map Ym)):=by
 unfold qU q2m;have c:=qbd hn hh hl hb hbs;have w:=q6j hb;have s:=qc2 (h:=h) (l:=l) (bs:=bs.map two) (by rw[zB];omega);have sl:(YL (plc h l (bs.map two))).length<=1000:=(stp h l (bs:=bs.map two) (by rw[zB];omega)).len;generalize YL (plc h l (bs.map two))=P at s sl;have ad:Yk (.lst (cutD (P.map D.int) (some 1) none)) (.lst (cutD (P.map D.int) none (some 1)))=some (.fr ((P.drop 1++P.take 1).map D.int)):=by
  rw[qc5,qdC,<- ZB,<- ZA,za];exact vH (by rw[zB,zB,z8,zb];omega)
 have hz:Y3 [.lst (P.map D.int),.lst ((P.drop 1++P.take 1).map D.int)]=some (.fr ((rnd P).map Ym)):=by
  show some (R.fr (wU pairD _ _))=_;rw[q5F];rfl
 simp_arith[c,w,s,qcB,ad,hz]
inductive Rch (es:List (Int×Int)) (a:Int):Int->Prop where
 | refl:Rch es a a
 | step {b c:Int}:Rch es a b->((b,c)∈es\/(c,b)∈es)->Rch es a c
theorem Rch.trans{es:List (Int×Int)}{a b c:Int}(h:Rch es a b)(h':Rch es b c):Rch es a c:=by
 induction h' with
 | refl=>exact h
 | step _ e ih=>exact ih.step e
theorem Rch.symm{es:List (Int×Int)}{a b:Int}(h:Rch es a b):Rch es b a:=by
 induction h with
 | refl=>exact .refl
 | step _ e ih=>exact(Rch.refl.step e.symm).trans ih
theorem Rch.inv{es:List (Int×Int)}{a:Int}(P:Int->Prop)(h0:P a)(hs:∀b c,P b->((b,c)∈es\/(c,b)∈es)->P c){c:Int}(h:Rch es a c):P c:=by
 induction h with
 | refl=>exact h0
 | step _ e ih=>exact hs _ _ ih e
theorem q4m{α β:Type}(f:α->β):∀(ks:List Int)(xs:List α)(k:Int),YT ks (xs.map f) k=(YT ks xs k).map f
 | [],_,_=>rfl
 | _::_,[],_=>rfl
 | k'::ks,x::xs,k=>by
  show (if k'=k then some (f x)else YT ks (xs.map f) k)=(if k'=k then some x else YT ks xs k).map f
  by_cases z:k'=k
  ·rw[vH z,vH z];rfl
  ·rw[vJ z,vJ z,q4m f ks xs k]
theorem q2f{α:Type}:∀{ks:List Int}{xs:List α}{k:Int},ks.length=xs.length->(YT ks xs k).isSome=decide (k∈ks)
 | [],[],_,_=>rfl
 | [],_::_,_,h=>by simp at h
 | _::_,[],_,h=>by simp at h
 | k'::ks,x::xs,k,h=>by
  show (if k'=k then some x else YT ks xs k).isSome=_
  by_cases z:k'=k
  ·rw[vH z];simp[z]
  ·have z':¬k=k':=λy=>z y.symm
   rw[vJ z,q2f ⇑h];simp[z']
theorem q4j:∀(ks:List Int)(xss:List (List Int))(a' b a:Int),YT ks (WK ks xss a' b) a=(YT ks xss a).map λxs=>if a=a' then xs++[b]else xs
 | [],_,_,_,_=>rfl
 | _::_,[],_,_,_=>rfl
 | k::ks,x::xss,a',b,a=>by
  unfold WK
  by_cases z:k=a'
  ·rw[vH z]
   show (if k=a then some (x++[b])else YT ks xss a)=(if k=a then some x else YT ks xss a).map _
   by_cases y:k=a
   ·rw[vH y,vH y,yn,vH (y▸z)]
   ·rw[vJ y,vJ y]
    have:¬a=a':=λe=>y (z.trans e.symm);cases YT ks xss a with
    | none=>rfl
    | some v=>rw[yn,vJ this]
  ·rw[vJ z]
   show (if k=a then some x else YT ks (WK ks xss a' b) a)=(if k=a then some x else YT ks xss a).map _
   by_cases y:k=a
   ·have:¬a=a':=λe=>z (y.trans e)
    rw[vH y,vH y,yn,vJ this]
   ·rw[vJ y,vJ y];exact q4j ks xss a' b a
theorem qdG(ts:List Int)(a:Int)(ha:a∈ts):∀(es:List (Int×Int)),∃xs,YT ts (nbT ts es) a=some xs/\∀c,c∈xs↔((a,c)∈es\/(c,a)∈es):=by
 intro es;have key:∀(post pre:List (Int×Int))(T:List (List Int))(xs:List Int),YT ts T a=some xs->(∀c,c∈xs↔((a,c)∈pre\/(c,a)∈pre))->∃xs',YT ts (post.foldl (Yu ts) T) a=some xs'/\∀c,c∈xs'↔((a,c)∈pre++post\/(c,a)∈pre++post):=by
  intro post
  induction post with
  | nil=>intro pre T xs h1 h2;exact⟨xs,h1,by rw[z5];exact h2⟩
  | cons e post ih=>
   intro pre T xs h1 h2;have h3:YT ts (Yu ts T e) a=some (let ys:=if a=e.1 then xs++[e.2]else xs;if a=e.2 then ys++[e.1]else ys):=by
    unfold Yu;rw[q4j,q4j,h1];rfl
   obtain⟨xs',g1,g2⟩:=ih (pre++[e]) (Yu ts T e) _ h3 (λc=>by
    obtain⟨e1,e2⟩:=e;have m:∀x y:Int,(x,y)∈pre++[(e1,e2)]↔(x,y)∈pre\/(x=e1/\y=e2):=λx y=>by simp
    rw[m,m]
    by_cases y1:a=e1 <;> by_cases y2:a=e2 <;> simp[y1,y2,h2] <;> (try subst y1) <;> (try subst y2) <;> simp_all <;> grind)
   refine⟨xs',g1,λc=>?_⟩;rw[g2,yE];rfl
 have h0:YT ts (ts.map λ_=>([]:List Int)) a=some []:=by
  have:(YT ts (ts.map λ_=>([]:List Int)) a).isSome=true:=by rw[q2f (by rw[zB]),vU ha]
  obtain⟨x,hx⟩:=yW.mp this;rw[q4m]at hx ⊢;obtain⟨y,hy,e⟩:=xf.mp hx;rw[hy];rfl
 obtain⟨xs',g1,g2⟩:=key es [] _ [] h0 (by simp);exact⟨xs',g1,by simpa using g2⟩
structure Ok (ts:List Int) (es:List (Int×Int)):Prop where
 nd:ts.Nodup
 inn:∀e∈es,e.1∈ts/\e.2∈ts
 l1:ts.length<64
 l2:es.length<=1000
noncomputable def nbD(ts:List Int)(es:List (Int×Int)):List D:=(nbT ts es).map λxs=>.lst (xs.map D.int)
theorem q60{ts:List Int}{es:List (Int×Int)}(h:Ok ts es):q0O [.lst (ts.map D.int),.lst (es.map YE)]=↥(.dic ts (nbD ts es)):=by
 have hl:=h.l1;have e:nbM (ts.map D.int) (es.map YE)=some (.dic ts (nbD ts es)):=by
  unfold nbM;rw[q0j,q3W];exact vH ⟨h.nd,h.inn,∅,h.l2⟩
 show outM ((nbM (ts.map D.int) (es.map YE)).map _)=_;rw[e];rfl
theorem Rch.mem{ts:List Int}{es:List (Int×Int)}(h:Ok ts es){a c:Int}(ha:a∈ts)(r:Rch es a c):c∈ts :=
 r.inv (λx=>x∈ts) ha λb c _ e=>by
  rcases e with e|e
  ·exact(h.inn _ e).2
  ·exact(h.inn _ e).1
noncomputable def Yv(F:List Int):List D:=F.map λ_=>.bl true
theorem q5N(F:List Int):F.length=(Yv F).length:=by unfold Yv;rw[zB]
theorem q7R{F:List Int}{c:Int}(h:c∉F):Y0 F c=F++[c]/\putA F (Yv F) c (.bl true)=Yv (F++[c]):=by
 unfold Y0 putA Yv;rw[vJ h,vJ h,za];exact⟨rfl,rfl⟩
theorem q1b:∀{F ts:List Int},F.Nodup->(∀c∈F,c∈ts)->F.length<=ts.length
 | [],_,_,_=>yL _
 | a::r,ts,hn,hs=>by
  obtain⟨h1,h2⟩:=yO.mp hn;have ha:=hs a zI;have:=q1b (F:=r) (ts:=ts.erase a) h2 λc hc=>(List.mem_erase_of_ne (show c≠a from λz=>h1 (by rw[<- z];exact hc))).mpr (hs c (zJ _ hc));rw[List.length_erase_of_mem ha]at this;have hp:0<ts.length:=List.length_pos_of_mem ha;rw[zM];omega
structure GI (ts:List Int) (es:List (Int×Int)) (a:Int) (F Wt:List Int):Prop where
 nd:F.Nodup
 st:a∈F
 wl:Wt.length<=F.length
 w:∀c∈Wt,c∈F
 r:∀c∈F,Rch es a c
 cl:∀b∈F,b∉Wt->∀c,((b,c)∈es\/(c,b)∈es)->c∈F
theorem q7I{ts:List Int}{es:List (Int×Int)}(h:Ok ts es){a:Int}(ha:a∈ts):
  ∃F:List Int,q0K [.int a,.dic ts (nbD ts es)]=some (.fr ((YR F).map D.int))/\F.Nodup/\∀c,c∈F↔Rch es a c:=by
 unfold q0K q2T;simp_arith[q0R];have hl1:=h.l1;obtain⟨ω',e,F,x4,x5,rfl,gi⟩:=qf2 (fc:=q1h) (fb:=q2i) (n:=1000000)
  (λω=>∃(F Wt:List Int) (x4 x5:Option W),ω=[↥(.int a),↥(.dic ts (nbD ts es)),some (.od F (Yv F)),some (.ow (Wt.map D.int)),x4,x5]/\GI ts es a F Wt)
  (λω=>match ω with
   | [_,_,some (.od F _),some (.ow w),_,_]=>(ts.length-F.length)+w.length
   | _=>0)
  (λω=>∃(F:List Int) (x4 x5:Option W),ω=[↥(.int a),↥(.dic ts (nbD ts es)),some (.od F (Yv F)),some (.ow []),x4,x5]/\GI ts es a F [])
  (λω ⟨F,Wt,x4,x5,hω,gi⟩ hf=>by
   subst hω;unfold q1h at hf;simp -implicitDefEqProofs only[q7L,qaS,qb8,q7T,e_wd,qaD,e_wz,q8S,q9R,q88,qcY,qa8,qaJ,qcC,qd0,qcD,qbj,qcN,q7O,q8Z,qcU,qaf,qcM,qcW,qcJ,q7K,q8Q,q0R,q87,q8m,qcH,qcK,q8c,q84,e_if,qab,qb3,qcG,q8v,q8J,qbc,q8R,qcI,W1,qcZ,q6W,q89,q8C,qcw,e_fs,qcy,q8o,q93,e_c,e_e,e_ed,e_d,q8k,q8r,e_v,q7U,q85,q7W,e_op,e_o2,qb7,e_cl,q8Y,q8i,e_ac,e_ca,e_an,qcE,qcL,qcq,e_bl,qd1,e_sl,e_po,e_pa,e_ap,qcA,qaX,qbq,qct,q5p,q6x,q5x,q5G,q5B,q5y,e_t,e_tr,qbh,e_ta,qcz,qcT,e_to,qcu,qal,e_tn,qb6,q8P,q6y,qaH,e_va,qcP,qao,q9G,qcp,qd2,qax,Xg,qcR,e_ng,q86,q8B,q8A,q52,qb9,q72,q7Q,qbn,q6g,q8z,qcX,qcQ,qcV,at0,at1,at2,q0k,q7Z,WA,entry,ya,yn,zM,xu,zB,zU,yX,Zi,yY,wx,wy,ZL,ZM,ym,xD,Nat.reduceSub,Nat.reduceAdd,Nat.reduceLT,Int.reduceLT,Int.reduceLE,Int.reduceSub,Int.reduceAdd,Int.reduceMul,Int.reduceMod,Int.reduceDiv,Int.reduceNeg,ZE,Int.reduceBEq,Zo,↓reduceIte,ZD,ZF,wg,Z0,xz,ZW,ZC,Bool.or_true,xo,Zx,xg,beq_self_eq_true,zy]at hf;cases Wt with
   | nil=>exact⟨F,x4,x5,rfl,gi⟩
   | cons w r=>cases hf)
  (λω ⟨F,Wt,x4,x5,hω,gi⟩=>by
   subst hω;refine⟨!Wt.isEmpty,?_,λhk=>?_⟩
   ·unfold q1h
    simp_arith[q0R];cases Wt <;> rfl
   ·obtain⟨Wr,here,rfl⟩:∃Wr here,Wt=Wr++[here]:=by
     cases Wt with
     | nil=>cases hk
     | cons w r=>exact⟨(w::r).dropLast,(w::r).getLast (by simp),(List.dropLast_concat_getLast _).symm⟩
    have hF:here∈F:=gi.w here (by simp);have hts:here∈ts:=(gi.r here hF).mem h ha;obtain⟨xs,v1,v2⟩:=qdG ts here hts es;have vd:YT ts (nbD ts es) here=some (.lst (xs.map D.int)):=by unfold nbD;rw[q4m,v1];rfl
    have ew:(Wr++[here]).map D.int=Wr.map D.int++[D.int here]:=by rw[za];rfl
    have ffl:=q1b gi.nd λc hc=>(gi.r c hc).mem h ha;unfold q2i;rw[ew];simp_arith[qdF,vd];obtain⟨ω',e,F',W',x5',rfl,i1,i2,i3,i4,i5,i6,i7,i8⟩:=qJ (g:=gN 5) (b:=q2j) D.int xs
     (λpre ω=>∃(F' W':List Int) (x5:Option W),ω=[↥(.int a),↥(.dic ts (nbD ts es)),some (.od F' (Yv F')),some (.ow (W'.map D.int)),↥(.int here),x5]/\F'.Nodup/\(∀c∈F,c∈F')/\(∀c∈Wr,c∈W')/\(∀c∈W',c∈F')/\(∀c∈F',Rch es a c)/\(∀c∈F',c∈F\/c∈W')/\(∀c∈pre,c∈F')/\F'.length+Wr.length=F.length+W'.length)
     (λpre c post ω hd ⟨F',W',x5,hω,i1,i2,i3,i4,i5,i6,i7,i8⟩=>by
      subst hω;refine⟨_,rfl,?_⟩;have hcx:c∈xs:=by rw[hd];simp
      have hcr:Rch es a c:=(gi.r here hF).step ((v2 c).mp hcx);have fl:=q1b i1 λc hc=>(i5 c hc).mem h ha;have hs:(YT F' (Yv F') c).isSome=decide (c∈F'):=q2f (q5N F');unfold q2j
      by_cases hc:c∈F'
      ·simp_arith[hs,hc,decide_true]
       exact⟨F',W',_,rfl,i1,i2,i3,i4,i5,i6,λx hx=>(by rcases zK.mp hx with y|y;exact i7 x y;cases zL.mp y;exact hc),i8⟩
      ·obtain⟨p1,p2⟩:=q7R hc
       have hwl:(W'.map D.int).length<1000000:=by
        rw[zB];have:=gi.wl;rw[zG,zx]at this;omega
       simp_arith[hs,hc,decide_false,q2E (show F'.length<1000000 by omega),p1,p2,W1 hwl];refine⟨F'++[c],W'++[c],_,by rw[za];rfl,?_,λx hx=>zH _ (i2 x hx),λx hx=>zH _ (i3 x hx),λx hx=>?_,λx hx=>?_,λx hx=>?_,λx hx=>?_,by rw[zG,zG,zx];omega⟩
       ·rw[yR]
        exact⟨i1,by simp,λx hx y hy z=>by cases zL.mp hy;exact hc (z▸hx)⟩
       ·rcases zK.mp hx with y|y
        ·exact zH _ (i4 x y)
        ·exact zF _ y
       ·rcases zK.mp hx with y|y
        ·exact i5 x y
        ·cases zL.mp y;exact hcr
       ·rcases zK.mp hx with y|y
        ·exact(i6 x y).elim .inl λz=>.inr (zH _ z)
        ·exact .inr (zF _ y)
       ·rcases zK.mp hx with y|y
        ·exact zH _ (i7 x y)
        ·exact zF _ y)
     (ω:=[↥(.int a),↥(.dic ts (nbD ts es)),some (.od F (Yv F)),some (.ow (Wr.map D.int)),↥(.int here),x5])
     ⟨F,Wr,x5,rfl,gi.nd,λc hc=>hc,λc hc=>hc,λc hc=>gi.w c (zH _ hc),gi.r,λc hc=>.inl hc,λc hc=>(by cases hc),rfl⟩
    have fl':=q1b i1 λc hc=>(i5 c hc).mem h ha;simp_arith[e];have wl0:=gi.wl;rw[zG,zx]at wl0;refine⟨⟨F',W',_,_,rfl,i1,i2 a gi.st,∅,i4,i5,λb hb hw c hc=>?_⟩,?_⟩
    ·rcases i6 b hb with y|y
     ·by_cases z:b=here
      ·subst z
       exact i7 c ((v2 c).mpr hc)
      ·exact i2 c (gi.cl b y (λm=>by rcases zK.mp m with m|m;exact hw (i3 b m);exact z (zL.mp m)) c hc)
     ·exact vM y hw
    ·show (ts.length-F'.length)+(W'.map D.int).length<(ts.length-F.length)+(Wr.map D.int++[D.int here]).length
     rw[zB,zG,zB,zx];omega)
  (ω:=[↥(.int a),↥(.dic ts (nbD ts es)),some (.od [a] [.bl true]),some (.ow [.int a]),none,none])
  ⟨[a],[a],none,none,rfl,by simp,by simp,zN _,λc hc=>hc,λc hc=>by cases zL.mp hc;exact .refl,λb hb hw=>vM hb hw⟩
  (by show (ts.length-1)+1<1000000;omega)
 have fl:=q1b gi.nd λc hc=>(gi.r c hc).mem h ha;simp_arith[e,qc6 (show F.length<64 by omega)];exact⟨F,rfl,gi.nd,λc=>⟨gi.r c,λr=>r.inv (λx=>x∈F) gi.st λb c hb hc=>gi.cl b hb (by simp) c hc⟩⟩
noncomputable def gD(g:List Int):D:=.lst (g.map D.int)
structure Cls (ts:List Int) (es:List (Int×Int)) (g:List Int) (a:Int):Prop where
 inn:a∈ts
 up:g.Pairwise (· < ·)
 mem:∀c,c∈g↔Rch es a c
 hd:g.head?=some a
theorem qdb{F:List Int}(h:F.Nodup):(YR F).Pairwise (· < ·):=by
 have h1:(YR F).Nodup:=(qE (l:=F)).nodup_iff.mpr h;have h2:=q1V (l:=F);have:=List.Pairwise.and h2 h1;exact this.imp λ{a b} h=>(by have h1:=h.1;have h2:=h.2;omega)
theorem qf1{ts:List Int}{es:List (Int×Int)}{F:List Int}{a:Int}(ha:a∈ts)(hn:F.Nodup)(hm:∀c,c∈F↔Rch es a c)(least:∀c∈F,a<=c):Cls ts es (YR F) a:=by
 have pm:=qE (l:=F);have up:=qdb hn;refine⟨ha,up,λc=>by rw[pm.mem_iff,hm],?_⟩;have haF:a∈YR F:=pm.mem_iff.mpr ((hm a).mpr .refl);cases q:YR F with
 | nil=>rw[q]at haF;cases haF
 | cons b r=>
  rw[q]at haF up;have hb:a<=b:=least b (pm.mem_iff.mp (by rw[q];exact zI));rcases zE.mp haF with rfl|hr
  ·rfl
  ·have:=(zc.mp up).1 a hr
   omega
structure GS (ts:List Int) (es:List (Int×Int)) (gs:List (List Int)) (hs:List Int):Prop where
 len:gs.length=hs.length
 cls:∀(j:Nat)g a,gs[j]?=some g->hs[j]?=some a->Cls ts es g a
 up:hs.Pairwise (· < ·)
theorem GS.snoc{ts:List Int}{es:List (Int×Int)}{gs:List (List Int)}{hs:List Int}(h:GS ts es gs hs){g:List Int}{a:Int}(c:Cls ts es g a)(hu:∀b∈hs,b<a):GS ts es (gs++[g]) (hs++[a]):=by
 refine⟨by rw[zG,zG,h.len];rfl,λj g' a' e1 e2=>?_,?_⟩
 ·rcases zu j gs.length with z|z
  ·rw[zZ z]at e1
   rw[zZ (by rw[<- h.len];exact z)]at e2;exact h.cls j g' a' e1 e2
  ·rw[zV z]at e1
   rw[zV (by rw[<- h.len];exact z),<- h.len]at e2;cases hj:j-gs.length with
   | zero=>rw[hj]at e1 e2;cases e1;cases e2;exact c
   | succ n=>rw[hj]at e1;cases e1
 ·rw[xK]
  exact⟨h.up,by simp,λb hb c hc=>by cases zL.mp hc;exact hu b hb⟩
theorem GS.one{ts:List Int}{es:List (Int×Int)}{gs:List (List Int)}{hs:List Int}(h:GS ts es gs hs){g:List Int}(hg:g∈gs):∃a∈hs,Cls ts es g a:=by
 obtain⟨j,hj,rfl⟩:=zm.mp hg;have hj2:j<hs.length:=by rw[<- h.len];exact hj
 exact⟨hs[j],ze _,h.cls j _ _ (zC hj) (zC hj2)⟩
theorem q9N{ts:List Int}{es:List (Int×Int)}(h:Ok ts es):∃gs hs,q1a [.lst (ts.map D.int),.lst (es.map YE)]=some (.fr (gs.map gD))/\GS ts es gs hs/\(∀t∈ts,∃g∈gs,t∈g)/\gs.length<=ts.length:=by
 unfold q1a q40;have hl1:=h.l1;have sp:=qE (l:=ts);have sl:=q1V (l:=ts);simp_arith[q60 h,qdD hl1];obtain⟨ω',e,gs,hs,Gd,x5,x6,x7,rfl,i1,i2,i3,i4,i5,i6⟩:=qJ (g:=gN 5) (b:=q3f) D.int (YR ts)
  (λpre ω=>∃(gs:List (List Int)) (hs Gd:List Int) (x5 x6 x7:Option W),ω=[↥(.lst (ts.map D.int)),↥(.lst (es.map YE)),↥(.dic ts (nbD ts es)),some (.od Gd (Yv Gd)),some (.ow (gs.map gD)),x5,x6,x7]/\GS ts es gs hs/\Gd.Nodup/\(∀c,c∈Gd↔∃g∈gs,c∈g)/\(∀t∈pre,t∈Gd)/\(∀a∈hs,a∈pre)/\gs.length<=pre.length)
  (λpre t post ω hd ⟨gs,hs,Gd,x5,x6,x7,hω,i1,i2,i3,i4,i5,i6⟩=>by
   subst hω;refine⟨_,rfl,?_⟩;have ht:t∈ts:=sp.mem_iff.mp (by rw[hd];simp);have hs1:(YT Gd (Yv Gd) t).isSome=decide (t∈Gd):=q2f (q5N Gd);have gts:∀c∈Gd,c∈ts:=λc hc=>by
    obtain⟨g,hg,hcg⟩:=(i3 c).mp hc;obtain⟨a,_,cl⟩:=i1.one hg;exact((cl.mem c).mp hcg).mem h cl.inn
   have plen:pre.length<=ts.length:=by rw[<- sp.length_eq,hd,zG];omega
   unfold q3f
   by_cases hc:t∈Gd
   ·simp_arith[hs1,hc,decide_true]
    exact⟨gs,hs,Gd,_,_,_,rfl,i1,i2,i3,λx hx=>(by rcases zK.mp hx with y|y;exact i4 x y;cases zL.mp y;exact hc),λa ha=>zH _ (i5 a ha),by rw[zG];omega⟩
   ·obtain⟨F,f1,f2,f3⟩:=q7I h ht
    have least:∀c∈F,t<=c:=λc hcF=>by
     rcases Int.lt_or_le c t with z|z
     ·exfalso
      have rc:=(f3 c).mp hcF;have hcs:c∈YR ts:=sp.mem_iff.mpr (rc.mem h ht);rw[hd]at hcs sl;have hcp:c∈pre:=by
       rcases zK.mp hcs with y|y
       ·exact y
       ·rcases zE.mp y with rfl|y
        ·omega
        ·have:=(zc.mp (xK.mp sl).2.1).1 c y
         omega
      obtain⟨g,hg,hcg⟩:=(i3 c).mp (i4 c hcp);obtain⟨a,_,cl⟩:=i1.one hg;exact hc ((i3 t).mpr ⟨g,hg,(cl.mem t).mpr (((cl.mem c).mp hcg).trans rc.symm)⟩)
     ·exact z
    have cl:=qf1 ht f2 f3 least;have dis:∀c∈YR F,c∉Gd:=λc hcg hcG=>by
     obtain⟨g,hg,hcg'⟩:=(i3 c).mp hcG;obtain⟨a,_,cl'⟩:=i1.one hg;exact hc ((i3 t).mpr ⟨g,hg,(cl'.mem t).mpr (((cl'.mem c).mp hcg').trans ((cl.mem c).mp hcg).symm)⟩)
    have hgl:(gs.map gD).length<1000000:=by rw[zB];omega
    simp_arith[hs1,hc,decide_false,f1,W1 hgl];obtain⟨ω',e,x7',rfl⟩:=qJ (g:=gN 7) (b:=q3u) D.int (YR F)
     (λpre' ω=>∃(x7:Option W),ω=[↥(.lst (ts.map D.int)),↥(.lst (es.map YE)),↥(.dic ts (nbD ts es)),some (.od (Gd++pre') (Yv (Gd++pre'))),some (.ow (gs.map gD++[.lst ((YR F).map D.int)])),↥(.int t),↥(.lst ((YR F).map D.int)),x7])
     (λpre' c post' ω hd' ⟨x7,hω⟩=>by
      subst hω;refine⟨_,rfl,?_⟩;have ndF:(YR F).Nodup:=(qE (l:=F)).nodup_iff.mpr f2;have hnew:c∉Gd++pre':=λm=>by
       rcases zK.mp m with y|y
       ·exact dis c (by rw[hd'];simp) y
       ·rw[hd',yR]at ndF
        exact ndF.2.2 c y c zI rfl
      obtain⟨p1,p2⟩:=q7R hnew;have hlen:(Gd++pre').length<1000000:=by
       have z1:=q1b i2 gts;have z2:pre'.length<=ts.length:=by
        have a1:(YR F).length<=ts.length:=by
         rw[(qE (l:=F)).length_eq];exact q1b f2 λc hc=>((f3 c).mp hc).mem h ht
        rw[hd',zG]at a1;omega
       rw[zG];omega
      unfold q3u;simp_arith[q2E hlen,p1,p2,yE];exact⟨_,rfl⟩)
     (ω:=[↥(.lst (ts.map D.int)),↥(.lst (es.map YE)),↥(.dic ts (nbD ts es)),some (.od Gd (Yv Gd)),some (.ow (gs.map gD++[.lst ((YR F).map D.int)])),↥(.int t),↥(.lst ((YR F).map D.int)),x7]) ⟨x7,by rw[z5]⟩
    simp_arith[e];refine⟨gs++[YR F],hs++[t],Gd++YR F,_,_,_,by rw[za];rfl,i1.snoc cl λb hb=>?_,?_,λc=>?_,λx hx=>?_,λa ha=>?_,by rw[zG,zG,zx,zx];omega⟩
    ·have hbp:=i5 b hb
     rw[hd]at sl;have le:b<=t:=(xK.mp sl).2.2 b hbp t zI;have ne:b≠t:=λz=>hc (i4 t (z▸hbp));omega
    ·rw[yR]
     exact⟨i2,(qE (l:=F)).nodup_iff.mpr f2,λx hx y hy z=>dis y hy (z▸hx)⟩
    ·rw[zK,i3]
     constructor
     ·rintro(⟨g,hg,hcg⟩|hcF)
      ·exact⟨g,zH _ hg,hcg⟩
      ·exact⟨_,zF _ (zL.mpr rfl),hcF⟩
     ·rintro⟨g,hg,hcg⟩
      rcases zK.mp hg with y|y
      ·exact .inl ⟨g,y,hcg⟩
      ·cases zL.mp y;exact .inr hcg
    ·rcases zK.mp hx with y|y
     ·exact zH _ (i4 x y)
     ·cases zL.mp y
      exact zF _ ((cl.mem t).mpr .refl)
    ·rcases zK.mp ha with y|y
     ·exact zH _ (i5 a y)
     ·exact zF _ y)
  (ω:=[↥(.lst (ts.map D.int)),↥(.lst (es.map YE)),↥(.dic ts (nbD ts es)),some (.od [] []),some (.ow []),none,none,none])
  ⟨[],[],[],none,none,none,rfl,⟨rfl,λj g a e=>(by simp at e),.nil⟩,xb,by simp,by simp,by simp,zN _⟩
 simp_arith[e];refine⟨gs,hs,rfl,i1,λt ht=>?_,by rw[<- sp.length_eq];exact i6⟩;exact(i3 t).mp (i4 t (sp.mem_iff.mpr ht))
theorem Rch.mono{es fs:List (Int×Int)}{a c:Int}(h:∀e∈es,e∈fs)(r:Rch es a c):Rch fs a c:=by
 induction r with
 | refl=>exact .refl
 | step _ e ih=>exact ih.step (e.elim (λz=>.inl (h _ z)) λz=>.inr (h _ z))
noncomputable def YV(f:Int->Int)(a b:Int):Int->Int:=λx=>if f x=b then a else f x
def Tells(ts:List Int)(es:List (Int×Int))(f:Int->Int):Prop:=∀x∈ts,∀y∈ts,f x=f y↔Rch es x y
theorem Tells.join{ts:List Int}{es:List (Int×Int)}{f:Int->Int}(h:Tells ts es f)(inn:∀e∈es,e.1∈ts/\e.2∈ts){p q:Int}(hp:p∈ts)(hq:q∈ts):Tells ts (es++[(p,q)]) (YV f (f p) (f q)):=by
 intro x hx y hy;have up:∀{u v:Int},Rch es u v->Rch (es++[(p,q)]) u v:=λr=>r.mono λe he=>zH _ he;have pq:Rch (es++[(p,q)]) p q:=Rch.refl.step (.inl (by simp))
 constructor
 ·intro e
  unfold YV at e
  by_cases h1:f x=f q
  ·rw[vH h1]at e
   by_cases h2:f y=f q
   ·exact up ((h x hx y hy).mp (by rw[h1,h2]))
   ·rw[vJ h2]at e
    exact((up ((h x hx q hq).mp h1)).trans pq.symm).trans (up ((h p hp y hy).mp e))
  ·rw[vJ h1]at e
   by_cases h2:f y=f q
   ·rw[vH h2]at e
    exact((up ((h x hx p hp).mp e)).trans pq).trans (up ((h q hq y hy).mp h2.symm))
   ·rw[vJ h2]at e
    exact up ((h x hx y hy).mp e)
 ·intro r
  have key:∀{u v:Int},(u,v)∈es++[(p,q)]->u∈ts/\v∈ts/\YV f (f p) (f q) u=YV f (f p) (f q) v:=λ{u v} m=>by
   rcases zK.mp m with m|m
   ·obtain⟨a,b⟩:=inn _ m
    have e:=(h u a v b).mpr (Rch.refl.step (.inl m));exact⟨a,b,by unfold YV;rw[e]⟩
   ·cases zL.mp m
    refine⟨hp,hq,?_⟩;unfold YV;rw[vH rfl]
    by_cases z:f p=f q
    ·rw[vH z]
    ·rw[vJ z]
  exact(Rch.inv (λz=>z∈ts/\YV f (f p) (f q) x=YV f (f p) (f q) z) ⟨hx,rfl⟩ (λb c hb hbc=>by
   rcases hbc with m|m
   ·obtain⟨a1,a2,a3⟩:=key m;exact⟨a2,hb.2.trans a3⟩
   ·obtain⟨a1,a2,a3⟩:=key m;exact⟨a1,hb.2.trans a3.symm⟩) r).2
noncomputable def lst1(f:Int->Int)(ts:List Int)(a:Int):Bool:=ts.all λc=>f c != f a || decide (a<=c)
noncomputable def many(f:Int->Int)(ts:List Int):Nat:=(ts.filter (lst1 f ts)).length
theorem qfT{l:List Int}(h:l.Pairwise (· < ·)):l.Nodup:=h.imp λa b=>∅
noncomputable abbrev Eg:=Int×Int×Int
noncomputable def Yb(e:Eg):Int×Int:=(e.1,e.2.1)
noncomputable def YA(e:Eg):Int:=e.2.2
noncomputable def Yi(s:(Int->Int)×List Eg)(e:Eg):(Int->Int)×List Eg:=if s.1 e.1=s.1 e.2.1 then s else (YV s.1 (s.1 e.1) (s.1 e.2.1),s.2++[e])
noncomputable def Yy(f:Int->Int)(es:List Eg):(Int->Int)×List Eg:=es.foldl Yi (f,[])
theorem q5S(f:Int->Int)(es:List Eg)(e:Eg):Yy f (es++[e])=Yi (Yy f es) e:=by unfold Yy;rw[wI];rfl
theorem q5W{α:Type}{P:List α->Prop}(h0:P [])(hs:∀l a,P l->P (l++[a]))(l:List α):P l:=by
 have:∀l:List α,P l.reverse:=λl=>by
  induction l with
  | nil=>exact h0
  | cons a r ih=>rw[List.reverse_cons];exact hs _ _ ih
 have:=this l.reverse
 rwa [wo]at this
theorem q2X(f:Int->Int)(es:List Eg):(Yy f es).2.Sublist es:=by
 refine q5W (P:=λes=>(Yy f es).2.Sublist es) (ZZ _) (λl e ih=>?_) es;rw[q5S];unfold Yi
 split
 ·exact ih.trans (List.sublist_append_left _ _)
 ·exact ih.append (ZZ _)
theorem Cls.low{ts:List Int}{es:List (Int×Int)}{g:List Int}{a:Int}(c:Cls ts es g a):∀x∈g,a<=x:=λx hx=>by
 have h:=c.hd;have u:=c.up;cases g with
 | nil=>cases hx
 | cons b r=>
  cases h;rcases zE.mp hx with rfl|hx
  ·exact yM _
  ·exact xh ((zc.mp u).1 x hx)
theorem GS.apart{ts:List Int}{es:List (Int×Int)}{gs:List (List Int)}{hs:List Int}(h:GS ts es gs hs){i j:Nat}{g g':List Int}{c:Int}(e1:gs[i]?=some g)(e2:gs[j]?=some g')(h1:c∈g)(h2:c∈g'):i=j:=by
 have li:=(zq.mp e1).1;have lj:=(zq.mp e2).1;rw[h.len]at li lj;have c1:=h.cls i g _ e1 (zC li);have c2:=h.cls j g' _ e2 (zC lj);have r1:=(c1.mem c).mp h1;have r2:=(c2.mem c).mp h2;have a1:=c1.low _ ((c1.mem _).mpr (r1.trans r2.symm));have a2:=c2.low _ ((c2.mem _).mpr (r2.trans r1.symm));rcases wJ i j with z|z|z
 ·have:=yJ.mp h.up i j li lj z;omega
 ·exact z
 ·have:=yJ.mp h.up j i lj li z;omega
theorem q8q:∀{gs:List (List Int)},(∀g∈gs,g.Nodup)->(∀(i j:Nat)g g' c,gs[i]?=some g->gs[j]?=some g'->c∈g->c∈g'->i=j)->gs.flatten.Nodup
 | [],_,_=>xb
 | g::gs,h1,h2=>by
  rw[Za,yR];refine⟨h1 g zI,q8q (λg hg=>h1 g (zJ _ hg)) (λi j a b c e1 e2 m1 m2=>?_),λx hx y hy e=>?_⟩
  ·have:=h2 (i+1) (j+1) a b c e1 e2 m1 m2;omega
  ·subst e
   obtain⟨g',hg',hx'⟩:=xm.mp hy;obtain⟨j,hj,rfl⟩:=zm.mp hg';have:=h2 0 (j+1) g _ x rfl (zC hj) hx hx';omega
theorem GS.flat{ts:List Int}{es:List (Int×Int)}{gs:List (List Int)}{hs:List Int}(ok:Ok ts es)(h:GS ts es gs hs)(all:∀t∈ts,∃g∈gs,t∈g):gs.flatten.Perm ts:=by
 have nd:gs.flatten.Nodup:=q8q (λg hg=>by
  obtain⟨a,_,c⟩:=h.one hg;exact c.up.imp λ{a b} h e=>∅) λi j g g' c e1 e2 m1 m2=>h.apart e1 e2 m1 m2
 refine(yA nd ok.nd).mpr λx=>⟨λhx=>?_,λhx=>?_⟩
 ·obtain⟨g,hg,hx⟩:=xm.mp hx
  obtain⟨a,_,c⟩:=h.one hg;exact((c.mem x).mp hx).mem ok c.inn
 ·obtain⟨g,hg,hx⟩:=all x hx
  exact xm.mpr ⟨g,hg,hx⟩
noncomputable def nmP:Nat->List (List Int)->List (Nat×List Int)
 | _,[]=>[]
 | k,g::gs=>(k,g)::nmP (k+1) gs
noncomputable def kkP(ps:List (Nat×List Int)):List Int:=ps.flatMap (·.2)
noncomputable def vvP(ps:List (Nat×List Int)):List D:=ps.flatMap λp=>p.2.map λ_=>D.int (p.1:Int)
theorem q3J:∀(k:Nat)(gs:List (List Int)),kkP (nmP k gs)=gs.flatten
 | _,[]=>rfl
 | k,g::gs=>by show g++kkP (nmP (k+1) gs)=_;rw[q3J];rfl
theorem q9S:∀ps:List (Nat×List Int),(kkP ps).length=(vvP ps).length
 | []=>rfl
 | p::ps=>by show (p.2++kkP ps).length=((p.2.map λ_=>D.int (p.1:Int))++vvP ps).length;rw[zG,zG,zB,q9S ps]
theorem q8b{α:Type}(v:α):∀(g:List Int){x:Int},x∈g->YT g (g.map λ_=>v) x=some v
 | [],_,h=>by cases h
 | y::g,x,h=>by
  show (if y=x then some v else YT g (g.map λ_=>v) x)=some v
  by_cases z:y=x
  ·rw[vH z]
  ·rw[vJ z]
   rcases zE.mp h with rfl|h
   ·exact vM rfl z
   ·exact q8b v g h
theorem q7f{α:Type}:∀{a:List Int}{c:List α}{b:List Int}{d:List α}{x:Int},a.length=c.length->x∈a->YT (a++b) (c++d) x=YT a c x
 | [],_,_,_,_,_,h=>by cases h
 | _::_,[],_,_,_,h,_=>by simp at h
 | y::a,v::c,b,d,x,hl,h=>by
  show (if y=x then some v else YT (a++b) (c++d) x)=if y=x then some v else YT a c x
  by_cases z:y=x
  ·rw[vH z,vH z]
  ·rw[vJ z,vJ z]
   rcases zE.mp h with rfl|h
   ·exact vM rfl z
   ·exact q7f ⇑hl h
theorem q5H{α:Type}:∀{a:List Int}{c:List α}{b:List Int}{d:List α}{x:Int},a.length=c.length->x∉a->YT (a++b) (c++d) x=YT b d x
 | [],[],_,_,_,_,_=>rfl
 | [],_::_,_,_,_,h,_=>by simp at h
 | _::_,[],_,_,_,h,_=>by simp at h
 | y::a,v::c,b,d,x,hl,h=>by
  show (if y=x then some v else YT (a++b) (c++d) x)=_;rw[vJ (λz=>h (by rw[z];exact zI))];exact q5H ⇑hl λz=>h (zJ _ z)
theorem q6z:∀{gs:List (List Int)}{k:Nat},gs.flatten.Nodup->∀{j:Nat}{g:List Int}{x:Int},gs[j]?=some g->x∈g->YT (kkP (nmP k gs)) (vvP (nmP k gs)) x=some (.int ((k+j:Nat):Int))
 | [],k,_,j,g,x,h,_=>by cases h
 | g'::gs,k,hn,j,g,x,h,hx=>by
  rw[Za,yR]at hn;show YT (g'++kkP (nmP (k+1) gs)) ((g'.map λ_=>D.int (k:Int))++vvP (nmP (k+1) gs)) x=_;cases j with
  | zero=>cases h;rw[q7f (by rw[zB]) hx,q8b _ _ hx];rfl
  | succ j=>
   have hg:gs[j]?=some g:=h;have hf:x∈gs.flatten:=xm.mpr ⟨g,z9 hg,hx⟩;rw[q5H (by rw[zB]) (λz=>hn.2.2 x z x hf rfl),q6z hn.2.1 hg hx,show k+1+j=k+(j+1) by omega]
theorem q8h{α:Type}{ks:List Int}{xs:List α}{k:Int}(y:α)(h:k∉ks):Y0 ks k=ks++[k]/\putA ks xs k y=xs++[y]:=by
 unfold Y0 putA;rw[vJ h,vJ h];exact⟨rfl,rfl⟩
noncomputable def nmD(p:Nat×List Int):D:=.tup [.int (p.1:Int),gD p.2]
theorem q8w:∀(k:Nat)(gs:List (List Int)),XQ k (gs.map gD)=(nmP k gs).map nmD
 | _,[]=>rfl
 | k,g::gs=>by show D.tup [.int (k:Int),gD g]::XQ (k+1) (gs.map gD)=_;rw[q8w];rfl
theorem qbi(a b:List (Nat×List Int)):kkP (a++b)=kkP a++kkP b:=by unfold kkP;rw[w8]
theorem qeI(a b:List (Nat×List Int)):vvP (a++b)=vvP a++vvP b:=by unfold vvP;rw[w8]
theorem q9k{gs:List (List Int)}(nd:gs.flatten.Nodup)(fl:gs.flatten.length<64):qG [.lst (gs.map gD)]=↥(.dic (kkP (nmP 0 gs)) (vvP (nmP 0 gs))):=by
 unfold qG q0N;simp_arith[q8w];have nd':(kkP (nmP 0 gs)).Nodup:=by rw[q3J];exact nd
 have fl':(kkP (nmP 0 gs)).length<64:=by rw[q3J];exact fl
 generalize nmP 0 gs=ps at nd' fl';obtain⟨ω',e,x2,x3,x4,rfl⟩:=qJ (g:=gT 2 (YH (gN 2) (YH (gN 3) Yn))) (b:=q0y) nmD ps
  (λpre ω=>∃x2 x3 x4,ω=[↥(.lst (gs.map gD)),some (.od (kkP pre) (vvP pre)),x2,x3,x4])
  (λpre p post ω hd ⟨x2,x3,x4,hω⟩=>by
   subst hω;refine⟨_,rfl,?_⟩;unfold q0y;obtain⟨k,g⟩:=p;rw[hd,qbi]at nd' fl';show Xw (Xv _ _ _ [↥(.lst (gs.map gD)),some (.od (kkP pre) (vvP pre)),↥(.int (k:Int)),↥(.lst (g.map D.int)),x4]) _;simp_arith[q0R];obtain⟨ω',e,y4,rfl⟩:=qJ (g:=gN 4) (b:=q0w) D.int g
    (λpre' ω=>∃y4,ω=[↥(.lst (gs.map gD)),some (.od (kkP pre++pre') (vvP pre++pre'.map λ_=>D.int (k:Int))),↥(.int (k:Int)),↥(.lst (g.map D.int)),y4])
    (λpre' c post' ω hd' ⟨y4,hω⟩=>by
     subst hω;refine⟨_,rfl,?_⟩;have nd2:(kkP pre++(pre'++c::post')).Nodup:=by
      have:(kkP pre++(g++kkP post)).Nodup:=nd';rw[hd',<- yE]at this;exact(yR.mp this).1
     have hnew:c∉kkP pre++pre':=λm=>by
      rw[<- yE]at nd2;exact(yR.mp nd2).2.2 c m c zI rfl
     have hlen:(kkP pre++pre').length<1000000:=by
      have:(kkP pre++(g++kkP post)).length<64:=fl';rw[hd']at this;simp only[zG,zM]at this ⊢;omega
     obtain⟨p1,p2⟩:=q8h (xs:=vvP pre++pre'.map λ_=>D.int (k:Int)) (D.int (k:Int)) hnew;unfold q0w;simp_arith[q2E hlen,p1,p2,yE];exact⟨_,by rw[za];rfl⟩)
    (ω:=[↥(.lst (gs.map gD)),some (.od (kkP pre) (vvP pre)),↥(.int (k:Int)),↥(.lst (g.map D.int)),x4]) ⟨x4,by rw[z5,yX,z5]⟩
   simp_arith[e];have ek:kkP (pre++[(k,g)])=kkP pre++g:=by
    rw[qbi];show kkP pre++(g++[])=_;rw[z5]
   have ev:vvP (pre++[(k,g)])=vvP pre++g.map λ_=>D.int (k:Int):=by
    rw[qeI];show vvP pre++((g.map λ_=>D.int (k:Int))++[])=_;rw[z5]
   rw[ek,ev];exact⟨_,_,_,rfl⟩)
  (ω:=[↥(.lst (gs.map gD)),some (.od [] []),none,none,none]) ⟨none,none,none,rfl⟩
 simp_arith[e]
noncomputable def egD(e:Eg):D:=.tup [.int e.1,.int e.2.1,.int e.2.2]
theorem q36(e:Eg):q0a [egD e]=↥(.int (YA e)):=rfl
theorem qaO(e:Eg):WV q0a (egD e)=YA e:=by unfold WV;rw[q36]
theorem q9i(e:Eg):keyOk q0a (egD e)=true:=by unfold keyOk;rw[q36]
theorem qbf(es:List Eg):YJ (WV q0a) (es.map egD)=(YJ YA es).map egD:=by
 rw[q1p,q2q λx _=>qaO x]
noncomputable def Xh(f:Int->Int)(ks:List Int):List D:=ks.map λk=>.int (f k)
theorem q2Z{f:Int->Int}:∀{ks:List Int}{x:Int},x∈ks->YT ks (Xh f ks) x=some (.int (f x))
 | [],_,h=>by cases h
 | k::ks,x,h=>by
  by_cases e:k=x
  ·subst e
   show (if k=k then some (D.int (f k))else YT ks (Xh f ks) k)=_;rw[vH rfl]
  ·show (if k=x then some (D.int (f k))else YT ks (Xh f ks) x)=_
   rw[vJ e];exact q2Z ((zE.mp h).elim (λz=>vM z.symm e) id)
theorem qfm{f:Int->Int}{ks:List Int}{a b:Int}(hn:ks.Nodup)(hl:ks.length<1000):qK [.dic ks (Xh f ks),.int a,.int b]=↥(.dic ks (Xh (YV f a b) ks)):=by
 unfold qK q0o;obtain⟨ω',e,x4,rfl⟩:=qJ (g:=gN 4) (b:=q0c) D.int ks
  (λpre ω=>∃x4:Option W,ω=[↥(.dic ks (Xh f ks)),↥(.int a),↥(.int b),some (.od pre (Xh (YV f a b) pre)),x4])
  (λpre k post ω hd ⟨x4,hω⟩=>by
   subst hω;refine⟨_,rfl,?_⟩;have hk:k∈ks:=by rw[hd];simp
   have hnk:k∉pre:=λz=>by
    rw[hd]at hn;exact(yR.mp hn).2.2 k z k (by simp) rfl
   have hp:pre.length<ks.length:=by rw[hd,zG,zM];omega
   have hv:=q2Z (f:=f) hk;have hds:pre.length<1000000:=∅
   obtain⟨p1,p2⟩:=q8h (xs:=Xh (YV f a b) pre) (D.int (YV f a b k)) hnk;have ev:Xh (YV f a b) (pre++[k])=Xh (YV f a b) pre++[.int (YV f a b k)]:=by unfold Xh;rw[za];rfl
   unfold q0c
   by_cases z:f k=b
   ·have z':(f k==b)=true:=by simpa using z
    have jk:YV f a b k=a:=vH z;rw[jk]at p2 ev;simp_arith[hv,z',q2E hds,p1,p2];exact⟨_,by rw[ev]⟩
   ·have z':(f k==b)=false:=by simpa using z
    have jk:YV f a b k=f k:=vJ z;rw[jk]at p2 ev;simp_arith[hv,z',q2E hds,p1,p2];exact⟨_,by rw[ev]⟩)
  (ω:=[↥(.dic ks (Xh f ks)),↥(.int a),↥(.int b),some (.od [] []),none]) ⟨none,rfl⟩
 simp_arith[e]
noncomputable def Xy(ks:List Int)(vs:List D)(x:Int):Int:=match YT ks vs x with
 | some (.int i)=>i
 | _=>0
theorem q8j:∀{ks:List Int}{vs:List D},ks.Nodup->ks.length=vs.length->(∀v∈vs,∃i:Int,v=.int i)->vs=Xh (Xy ks vs) ks
 | [],[],_,_,_=>rfl
 | [],_::_,_,h,_=>by simp at h
 | _::_,[],_,h,_=>by simp at h
 | k::ks,v::vs,hn,hl,hv=>by
  obtain⟨n1,n2⟩:=yO.mp hn;obtain⟨i,rfl⟩:=hv v zI;have ih:=q8j n2 ⇑hl λu hu=>hv u (zJ _ hu);have e1:Xy (k::ks) (.int i::vs) k=i:=by
   unfold Xy;show (match (if k=k then some (D.int i)else YT ks vs k)with|some (.int i)=>i|_=>0)=i;rw[vH rfl]
  have e2:∀x∈ks,Xy (k::ks) (.int i::vs) x=Xy ks vs x:=λx hx=>by
   unfold Xy;have:YT (k::ks) (D.int i::vs) x=YT ks vs x:=vJ (λz:k=x=>by subst z;exact n1 hx);rw[this]
  show D.int i::vs=D.int (Xy (k::ks) (.int i::vs) k)::ks.map _;rw[e1]
  congr 1
  have:ks.map (λk'=>D.int (Xy (k::ks) (.int i::vs) k'))=Xh (Xy ks vs) ks:=by
   unfold Xh;exact yI λx hx=>by rw[e2 x hx]
  rw[this];exact ih
theorem qdB:∀(ps:List (Nat×List Int)),∀v∈vvP ps,∃i:Int,v=.int i:=λps v hv=>by
 unfold vvP at hv;obtain⟨p,_,h⟩:=xn.mp hv;obtain⟨_,_,rfl⟩:=zR.mp h;exact⟨_,rfl⟩
theorem q4l{ts:List Int}{kn:List (Int×Int)}(ok:Ok ts kn):∃(gs:List (List Int)) (ks:List Int) (f:Int->Int),q1a [.lst (ts.map D.int),.lst (kn.map YE)]=some (.fr (gs.map gD))/\qG [.lst (gs.map gD)]=↥(.dic ks (Xh f ks))/\ks.Nodup/\(∀x,x∈ks↔x∈ts)/\ks.length<64/\Tells ts kn f:=by
 obtain⟨gs,hs,g1,g2,g3,g4⟩:=q9N ok;have pf:=g2.flat ok g3;have nd:gs.flatten.Nodup:=pf.nodup_iff.mpr ok.nd;have fl:gs.flatten.length<64:=by rw[pf.length_eq];exact ok.l1
 have nm:=q9k nd fl;have kk:=q3J 0 gs;have lv:=q8j (ks:=kkP (nmP 0 gs)) (vs:=vvP (nmP 0 gs)) (by rw[kk];exact nd) (q9S _) (qdB _);refine⟨gs,kkP (nmP 0 gs),Xy (kkP (nmP 0 gs)) (vvP (nmP 0 gs)),g1,by rw[<- lv];exact nm,by rw[kk];exact nd,λx=>by rw[kk];exact pf.mem_iff,by rw[kk];exact fl,λx hx y hy=>?_⟩;obtain⟨gx,mx,hxg⟩:=g3 x hx;obtain⟨gy,my,hyg⟩:=g3 y hy;obtain⟨i,hi⟩:=yf.mp mx;obtain⟨j,hj⟩:=yf.mp my;have vx:=q6z (k:=0) nd hi hxg;have vy:=q6z (k:=0) nd hj hyg;have fx:Xy (kkP (nmP 0 gs)) (vvP (nmP 0 gs)) x=((0+i:Nat):Int):=by unfold Xy;rw[vx]
 have fy:Xy (kkP (nmP 0 gs)) (vvP (nmP 0 gs)) y=((0+j:Nat):Int):=by unfold Xy;rw[vy]
 rw[fx,fy];obtain⟨a,_,cx⟩:=g2.one mx;obtain⟨b,_,cy⟩:=g2.one my
 constructor
 ·intro e
  have:i=j:=∅
  subst this;rw[hi]at hj;cases hj;exact((cx.mem x).mp hxg).symm.trans ((cx.mem y).mp hyg)
 ·intro r
  have:y∈gx:=(cx.mem y).mpr (((cx.mem x).mp hxg).trans r);have:=g2.apart hi hj this hyg;rw[this]
theorem qaG{ts:List Int}{kn:List (Int×Int)}{es:List Eg}(ok:Ok ts kn)(he:∀e∈es,e.1∈ts/\e.2.1∈ts)(hl:es.length<64):∃f:Int->Int,Tells ts kn f/\q1R [.lst (ts.map D.int),.lst (kn.map YE),.lst (es.map egD)]=some (.fr ((Yy f (YJ YA es)).2.map egD)):=by
 obtain⟨gs,ks,f,g1,g2,nd,mem,lk,tl⟩:=q4l ok;refine⟨f,tl,?_⟩;unfold q1R q46;have sk:=qfD (m:=q0a) (ds:=es.map egD) (by rw[zB];exact hl) (λd hd=>by obtain⟨e,_,rfl⟩:=zR.mp hd;exact q9i e);rw[qbf]at sk;have pm:=q02 (f:=YA) (l:=es);have hS:∀e∈YJ YA es,e.1∈ts/\e.2.1∈ts:=λe h=>he e (pm.mem_iff.mp h);have lS:(YJ YA es).length=es.length:=pm.length_eq;generalize YJ YA es=S at sk hS lS;simp_arith[g1,g2,sk];obtain⟨ω',e,x5,x6,x7,rfl⟩:=qJ (g:=gN 5) (b:=q3s) egD S
  (λpre ω=>∃(x5 x6 x7:Option W),ω=[↥(.lst (ts.map D.int)),↥(.lst (kn.map YE)),↥(.lst (es.map egD)),↥(.dic ks (Xh (Yy f pre).1 ks)),some (.ow ((Yy f pre).2.map egD)),x5,x6,x7])
  (λpre e post ω hd ⟨x5,x6,x7,hω⟩=>by
   subst hω;refine⟨_,rfl,?_⟩;obtain⟨m1,m2⟩:=hS e (by rw[hd];simp);have v1:=q2Z (f:=(Yy f pre).1) ((mem e.1).mpr m1);have v2:=q2Z (f:=(Yy f pre).1) ((mem e.2.1).mpr m2);have lp:((Yy f pre).2.map egD).length<1000000:=by
    have:=(q2X f pre).length_le;have:pre.length<=S.length:=by rw[hd,zG];omega
    rw[zB];omega
   have tw:=qfm (f:=(Yy f pre).1) (a:=(Yy f pre).1 e.1) (b:=(Yy f pre).1 e.2.1) nd ∅;have ed:egD e=.tup [.int e.1,.int e.2.1,.int e.2.2]:=rfl;unfold q3s;rw[q5S];unfold Yi
   by_cases z:(Yy f pre).1 e.1=(Yy f pre).1 e.2.1
   ·have z':((Yy f pre).1 e.1==(Yy f pre).1 e.2.1)=true:=by simpa using z
    rw[vH z];simp_arith[ed,v1,v2,z'];exact⟨_,_,_,rfl⟩
   ·have z':((Yy f pre).1 e.1==(Yy f pre).1 e.2.1)=false:=by simpa using z
    rw[vJ z];simp_arith[ed,v1,v2,z',W1 lp,tw];exact⟨_,_,_,by rw[za];rfl⟩)
  (ω:=[↥(.lst (ts.map D.int)),↥(.lst (kn.map YE)),↥(.lst (es.map egD)),↥(.dic ks (Xh f ks)),some (.ow []),none,none,none]) ⟨none,none,none,rfl⟩
 simp_arith[e]
noncomputable def goN(n s g x:Int):Bool:=decide ((x-s)%n<(g-s)%n)
theorem q0x{n x s:Int}(hx:0<=x/\x<n)(hs:0<=s/\s<n):(x-s)%n=if s<=x then x-s else x-s+n:=by
 by_cases z:s<=x
 ·rw[vH z];exact xi ∅ ∅
 ·have e:(x-s+n)%n=(x-s)%n:=by simp
  rw[vJ z,<- e];exact xi ∅ ∅
noncomputable def rts(n:Int)(bs:List (Int×Int×Int))(x:Int):List (Int×Int×Int):=bs.filter λb=>b.2.2==1&&goN n b.1 b.2.1 x
noncomputable def lfs(n:Int)(bs:List (Int×Int×Int))(x:Int):List (Int×Int×Int):=bs.filter λb=>b.2.2 == -1&&goN n b.2.1 b.1 x
theorem q4b{n a b:Int}(hn:0<n):qO [.int n,.int a,.int b,.int 1]=↥(.int ((b-a)%n)):=by
 unfold qO q3E;have mu:Xo (.int (b-a)) (.int 1)=↥(.int (b-a)):=by rw[q45 (by decide) (by decide),xX]
 have mo:oMod (.int (b-a)) (.int n)=↥(.int ((b-a)%n)):=q0k hn;simp_arith[mu,mo]
theorem q5h{n s g:Int}(hn:0<n)(p:Int×Int):qT [.int n,.int s,.int g,Ym p]=↥(.bl (goN n s g p.1)):=by
 unfold qT q2v;have s1:=q4b (a:=s) (b:=p.1) hn;have s2:=q4b (a:=s) (b:=g) hn;have pd:Ym p=.tup [.int p.1,.int p.2]:=rfl;simp_arith[pd,s1,s2];rfl
noncomputable def YB(n h l:Int)(bs:List (Int×Int×Int))(x:Int):Int:=(if goN n h l x=true then 1 else 0)-((rts n bs x).length:Int)+((lfs n bs x).length:Int)
theorem qdL{n h l:Int}{bs:List (Int×Int×Int)}(hn:0<n)(hb:bs.length<=20)(p:Int×Int):q0r [.int n,.int h,.int l,.lst (bs.map tri),Ym p]=↥(.int (YB n h l bs p.1)):=by
 unfold q0r q2C;have o:=q5h (s:=h) (g:=l) hn p;have kl:(bs.map tri).length<=1000000:=by rw[zB];omega
 have td:∀b:Int×Int×Int,tri b=.tup [.int b.1,.int b.2.1,.int b.2.2]:=λ_=>rfl;have cm1:=q30 (i:=0) (c:=q1P) (f:=q3l) (λb=>b.2.2==1&&goN n b.1 b.2.1 p.1) tri tri bs (ω:=[none,↥(.int n),↥(Ym p)]) (λb _=>⟨by
  have o1:=q5h (s:=b.1) (g:=b.2.1) hn p;unfold q1P;cases q:(b.2.2==1)with
  | true=>simp_arith[td,q,o1]
  | false=>simp_arith[td,q],λ_=>rfl⟩)
 have cm2:=q30 (i:=0) (c:=q1O) (f:=q3t) (λb=>b.2.2 == -1&&goN n b.2.1 b.1 p.1) tri tri bs (ω:=[none,↥(.int n),↥(Ym p)]) (λb _=>⟨by
  have o1:=q5h (s:=b.2.1) (g:=b.1) hn p;unfold q1O;cases q:(b.2.2 == -1)with
  | true=>simp_arith[td,q,o1]
  | false=>simp_arith[td,q],λ_=>rfl⟩)
 unfold YB rts lfs;generalize goN n h l p.1=go at o ⊢;cases go with
 | true=>simp_arith[o,Xg kl,inW,Xp,cm1,cm2,zB]
 | false=>simp_arith[o,Xg kl,inW,Xp,cm1,cm2,zB]
theorem qay{n h l c:Int}{bs:List (Int×Int×Int)}(hn0:1<=n)(hn:n<=10^39)(hh:0<=h/\h<n)(hl:0<=l/\l<n)(hb:bs.length<=20)(hbs:∀b∈bs,(0<=b.1/\b.1<n)/\(0<=b.2.1/\b.2.1<n)/\(b.2.2=1\/b.2.2=-1)):
  q0g [.int n,.int h,.int l,.lst (bs.map tri),.int c]=some (.fr ((YL (plc h l (bs.map two))).map λx=>D.int (c+YB n h l bs x))):=by
 unfold q0g q1S;have g:=q6T hn hh hl hb hbs;have sl:(YL (plc h l (bs.map two))).length<=1000:=(stp h l (bs:=bs.map two) (by rw[zB];omega)).len;generalize YL (plc h l (bs.map two))=P at g sl;have kl:((rnd P).map Ym).length<=1000000:=by
  rw[zB];unfold rnd;rw[yT];omega
 have cm:=q0h (i:=0) (f:=q1w) Ym (λp=>D.int (c+YB n h l bs p.1)) (rnd P) (ω:=[none,↥(.int c),↥(.int n),↥(.int h),↥(.int l),↥(.lst (bs.map tri))]) (λp _=>by
  have b:=qdL (h:=h) (l:=l) (show 0<n by omega) hb p;unfold q1w;simp_arith[b])
 have zf:(rnd P).map (λp=>D.int (c+YB n h l bs p.1))=P.map λx=>D.int (c+YB n h l bs x):=by
  have:(rnd P).map Prod.fst=P:=by
   unfold rnd;rw[xl];rw[zG,z8,zb];omega
  conv=>rhs;rw[<- this]
  rw[zp];rfl
 simp_arith[g,Xg kl,inW,Xp,cm,zf]
theorem q7M{b:Int×Int×Int}{bs:List (Int×Int×Int)}(h:b∈bs):b.1∈flat (bs.map two)/\b.2.1∈flat (bs.map two):=by
 unfold flat;refine⟨xn.mpr ⟨two b,zg h,?_⟩,xn.mpr ⟨two b,zg h,?_⟩⟩
 ·exact zI
 ·exact zJ _ zI
theorem qe5{x:Int}{bs:List (Int×Int×Int)}(h:x∈flat (bs.map two)):∃b∈bs,x=b.1\/x=b.2.1:=by
 unfold flat at h;obtain⟨p,hp,hx⟩:=xn.mp h;obtain⟨b,hb,rfl⟩:=zR.mp hp;rcases zE.mp hx with z|z
 ·exact⟨b,hb,.inl z⟩
 ·exact⟨b,hb,.inr (zL.mp z)⟩
theorem qj{P:List Int}{k:Nat}(h:k<P.length):P.getD k 0=P[k]:=by rw[zj,zC h];rfl
noncomputable def stN(n:Int)(b:Int×Int×Int):Int:=(b.2.1-b.1)*b.2.2%n
theorem q3G{α:Type}{f g:α->Int}:∀(l:List α),(l.map λx=>f x+g x).sum=(l.map f).sum+(l.map g).sum
 | []=>rfl
 | x::l=>by rw[zU,zU,zU,zk,zk,zk,q3G l];omega
noncomputable def glN(n:Int)(g:Int×Int):Int:=if g.1=g.2 then n else (g.2-g.1)%n
theorem qe2{n:Int}(hn:0<n)(p:Int×Int):q0b [.int n,Ym p]=↥(.int (glN n p)):=by
 unfold q0b q1T;have s:=q4b (a:=p.1) (b:=p.2) hn;have pd:Ym p=.tup [.int p.1,.int p.2]:=rfl;unfold glN
 by_cases z:p.1=p.2
 ·have q:(p.1==p.2)=true:=by simpa using z
  simp_arith[pd,q,vH z]
 ·have q:(p.1==p.2)=false:=by simpa using z
  simp_arith[pd,q,vJ z,s]
noncomputable def egN(n:Int)(p:Int×Int):Eg:=(p.1,p.2,glN n p)
theorem qa7{n h l:Int}{bs:List (Int×Int×Int)}(hn0:1<=n)(hn:n<=10^39)(hh:0<=h/\h<n)(hl:0<=l/\l<n)(hb:bs.length<=20)(hbs:∀b∈bs,(0<=b.1/\b.1<n)/\(0<=b.2.1/\b.2.1<n)/\(b.2.2=1\/b.2.2=-1)):
  qY [.int n,.int h,.int l,.lst (bs.map tri)]=some (.fr (((rnd (YL (plc h l (bs.map two)))).map (egN n)).map egD)):=by
 unfold qY q1Q;have g:=q6T hn hh hl hb hbs;have sl:(YL (plc h l (bs.map two))).length<=1000:=(stp h l (bs:=bs.map two) (by rw[zB];omega)).len;generalize YL (plc h l (bs.map two))=P at g sl;have kl:((rnd P).map Ym).length<=1000000:=by
  rw[zB];unfold rnd;rw[yT];omega
 have cm:=q0h (i:=0) (f:=q1u) Ym (λp=>egD (egN n p)) (rnd P) (ω:=[none,↥(.int n)]) (λp _=>by
  have b:=qe2 (show 0<n by omega) p;have pd:Ym p=.tup [.int p.1,.int p.2]:=rfl;have ad:Yk (Ym p) (.tup [.int (glN n p)])=↥(egD (egN n p)):=by
   rw[pd];rfl
  unfold q1u;simp_arith[b,ad])
 have mm:(rnd P).map (λp=>egD (egN n p))=((rnd P).map (egN n)).map egD:=by rw[zp];rfl
 simp_arith[g,Xg kl,inW,Xp,cm,mm]
noncomputable def lkT(es:List Eg)(ls:List Int):List (Int×Int):=((es.zip ls).filter λq=>q.2 != 0).map λq=>Yb q.1
noncomputable def zpD(q:Eg×Int):D:=.tup [egD q.1,.int q.2]
theorem q53:∀(es:List Eg)(ls:List Int),WG (es.map egD) (ls.map D.int)=(es.zip ls).map zpD
 | [],_=>rfl
 | _::_,[]=>rfl
 | e::es,x::ls=>by
  show D.tup [egD e,.int x]::WG (es.map egD) (ls.map D.int)=_;rw[q53];rfl
theorem q8O{c:FT}{f:FD}(q:Eg×Int->Bool)(F:Eg×Int->D)(xs:List (Eg×Int)){ω:WSt}(hω:∃a b,ω=[a,b])(h:∀x∈xs,c [↥(egD x.1),↥(.int x.2)]=some (q x)/\(q x=true->f [↥(egD x.1),↥(.int x.2)]=some (F x))):
  Yl (gT 2 (YH (gN 0) (YH (gN 1) Yn))) c f (xs.map zpD) ω=some ((xs.filter q).map F) :=
 q0l (λw=>∃a b,w=[a,b]) q zpD F xs hω λx hx w hw=>by
  obtain⟨a,b,rfl⟩:=hw;exact⟨_,rfl,⟨_,_,rfl⟩,(h x hx).1,(h x hx).2⟩
theorem q94{h l:Int}{bs:List (Int×Int×Int)}{es:List Eg}{ls:List Int}(hb:bs.length<=20)(le:es.length<64)(ok:Ok (es.map λe=>e.1) (bs.map two++[(h,l)]++lkT es ls))(he:∀e∈es,e.1∈es.map (λe=>e.1)/\e.2.1∈es.map (λe=>e.1)):
  ∃f:Int->Int,Tells (es.map λe=>e.1) (bs.map two++[(h,l)]++lkT es ls) f/\q06 [.int h,.int l,.lst (bs.map tri),.lst (es.map egD),.lst (ls.map D.int)]=some (.fr ((Yy f (YJ YA es)).2.map egD)):=by
 obtain⟨f,f1,f2⟩:=qaG ok he le;refine⟨f,f1,?_⟩;unfold q06 q1v;have w:=q6j hb;have zl:(es.zip ls).length<=64:=by rw[yT];omega
 have kz:((es.zip ls).map zpD).length<=1000000:=by rw[zB];omega
 have ke:(es.map egD).length<=1000000:=by rw[zB];omega
 have cm1:=q8O (c:=q1d) (f:=q2J) (λq=>q.2 != 0) (λq=>YE (Yb q.1)) (es.zip ls) (ω:=[none,none]) ⟨_,_,rfl⟩ (λq _=>⟨by
  unfold q1d;simp_arith[q0R];rfl,λ_=>rfl⟩)
 have cm2:=q0h (i:=0) (f:=q0U) egD (λe=>D.int e.1) es (ω:=[none]) (λe _=>by
  unfold q0U;have ed:egD e=.tup [.int e.1,.int e.2.1,.int e.2.2]:=rfl;simp_arith[ed])
 have m1:((es.zip ls).filter λq=>q.2 != 0).map (λq=>YE (Yb q.1))=(lkT es ls).map YE:=by unfold lkT;rw[zp];rfl
 have m2:es.map (λe=>D.int e.1)=(es.map λe=>e.1).map D.int:=by rw[zp];rfl
 have lt:(lkT es ls).length<=64:=by
  unfold lkT;rw[zB];exact z6 (xH _ _) zl
 have a1:Yk (.lst ((bs.map two).map Ym)) (.lst [.tup [.int h,.int l]])=some (.fr ((bs.map two++[(h,l)]).map YE)):=by
  have:(bs.map two++[(h,l)]).map YE=(bs.map two).map Ym++[.tup [.int h,.int l]]:=by rw[za];rfl
  rw[this];exact vH (by rw[zB,zB];show bs.length+1<=_;omega)
 have a2:Yk (.lst ((bs.map two++[(h,l)]).map YE)) (.lst ((lkT es ls).map YE))=some (.fr ((bs.map two++[(h,l)]++lkT es ls).map YE)):=by
  rw[za (l₂:=lkT es ls)];exact vH (by rw[zB,zB,zG,zB];show bs.length+1+_<=_;omega)
 have zz:=q53 es ls;simp_arith[zz,Xg kz,Xg ke,inW,Xp,cm1,cm2,m1,m2,w,a1,a2,f2]
noncomputable def YY(c:Int):Int:=if c<0 then -c else c
noncomputable def ewN(es:List Eg)(ls:List Int)(F:List Eg):Int:=((es.zip ls).map λq=>YA q.1*YY q.2).sum+2*(F.map YA).sum
theorem q9e{h l:Int}{bs:List (Int×Int×Int)}{es:List Eg}{ls:List Int}(hb:bs.length<=20)(le:es.length<64)(hls:∀x∈ls,-1000<=x/\x<=1000)(ok:Ok (es.map λe=>e.1) (bs.map two++[(h,l)]++lkT es ls))(he:∀e∈es,e.1∈es.map (λe=>e.1)/\e.2.1∈es.map (λe=>e.1)):
  ∃f:Int->Int,Tells (es.map λe=>e.1) (bs.map two++[(h,l)]++lkT es ls) f/\qv [.int h,.int l,.lst (bs.map tri),.lst (es.map egD),.lst (ls.map D.int)]=↥(.int (ewN es ls (Yy f (YJ YA es)).2)):=by
 obtain⟨f,f1,f2⟩:=q94 hb le ok he;refine⟨f,f1,?_⟩;unfold qv q18;have zl:(es.zip ls).length<=64:=by rw[yT];omega
 have kz:((es.zip ls).map zpD).length<=1000000:=by rw[zB];omega
 have kl:=(q2X f (YJ YA es)).length_le;rw[q5I]at kl;generalize (Yy f (YJ YA es)).2=F at f2 kl;have kF:(F.map egD).length<=1000000:=by rw[zB];omega
 have cm1:=q8O (c:=YU) (f:=q0P) (λ_=>true) (λq=>D.int (YA q.1*YY q.2)) (es.zip ls) (ω:=[none,none]) ⟨_,_,rfl⟩ (λq hq=>⟨rfl,λ_=>by
  have c:=q36 q.1;have bq:=hls _ (xr hq).2;have mu:Xo (.int (YA q.1)) (.int (YY q.2))=↥(.int (YA q.1*YY q.2)):=q45 (by unfold YY;split <;> omega) (by unfold YY;split <;> omega);have ab:bAbs [.int q.2]=↥(.int (YY q.2)):=rfl;unfold q0P;simp_arith[c,ab,mu]⟩)
 rw[yq.mpr (λ_ _=>rfl)]at cm1;have cm2:=q0h (i:=0) (f:=q0M) egD (λe=>D.int (YA e)) F (ω:=[none]) (λe _=>by
  have c:=q36 e;unfold q0M;simp_arith[c])
 have s1:=q76 (λq:Eg×Int=>YA q.1*YY q.2) (es.zip ls);have s2:=q76 YA F;have zz:=q53 es ls;have m2:∀x:Int,Xo (.int 2) (.int x)=↥(.int (2*x)):=λx=>q7i (by decide) (by decide);simp_arith[zz,Xg kz,Xg kF,inW,Xp,cm1,cm2,s1,s2,f2,m2];rfl
noncomputable def nxN(N k:Nat):Nat:=if k+1<N then k+1 else 0
noncomputable def egs(n:Int)(P:List Int):List Eg:=(rnd P).map (egN n)
theorem qdg(P:List Int):(rnd P).length=P.length:=by
 unfold rnd;rw[yT,zG,z8,zb];omega
theorem qe4{P:List Int}{k:Nat}(hk:k<P.length):(rnd P)[k]?=some (P.getD k 0,P.getD (nxN P.length k) 0):=by
 have:(P.drop 1++P.take 1)[k]?=some (P.getD (nxN P.length k) 0):=by
  unfold nxN
  by_cases z:k+1<P.length
  ·rw[vH z,zZ (by rw[z8];omega),yv,Nat.add_comm 1 k,zC z,qj z]
  ·rw[vJ z,zV (by rw[z8];omega),z8,show k-(P.length-1)=0 by omega,yh,vH (by decide),zC (∅:0<P.length),qj (∅:0<P.length)]
 unfold rnd;rw[yc];exact⟨by rw[zC hk,qj hk],this⟩
theorem q7j(P:List Int):rnd P=(yB P.length).map λk=>(P.getD k 0,P.getD (nxN P.length k) 0):=by
 apply yl;intro k
 by_cases z:k<P.length
 ·rw[qe4 z,zW,yo z];rfl
 ·rw[zo (by rw[qdg];omega),zo (by rw[zB,z7];omega)]
theorem q0m(n:Int)(P:List Int):(egs n P).map (λe=>e.1)=P:=by
 unfold egs;rw[zp];show (rnd P).map Prod.fst=P;unfold rnd;rw[xl];rw[zG,z8,zb];omega
theorem q1i{n:Int}{P:List Int}:∀e∈egs n P,e.1∈P/\e.2.1∈P:=λe he=>by
 unfold egs at he;rw[q7j,zp]at he;obtain⟨k,hk,rfl⟩:=zR.mp he;have hk':=yF.mp hk;have hx:nxN P.length k<P.length:=by unfold nxN;split <;> omega
 show P.getD k 0∈P/\P.getD (nxN P.length k) 0∈P;rw[qj hk',qj hx];exact⟨ze _,ze _⟩
theorem q4U{n h l x:Int}{bs:List (Int×Int×Int)}(hb:bs.length<=20):-21<=YB n h l bs x/\YB n h l bs x<=21:=by
 have a:(rts n bs x).length<=bs.length:=xH _ _;have b:(lfs n bs x).length<=bs.length:=xH _ _;unfold YB
 split <;> omega
theorem qfy{n a b w:Int}(hn:0<n)(hw:w=1\/w=-1):qO [.int n,.int a,.int b,.int w]=↥(.int ((b-a)*w%n)):=by
 unfold qO q3E;have mu:Xo (.int (b-a)) (.int w)=↥(.int ((b-a)*w)):=q45 ∅ ∅;have mo:oMod (.int ((b-a)*w)) (.int n)=↥(.int ((b-a)*w%n)):=q0k hn;simp_arith[mu,mo]
theorem qed{n:Int}(hn:0<n){bs:List (Int×Int×Int)}(hbs:∀b∈bs,b.2.2=1\/b.2.2=-1):
  Yl (gT 3 (YH (gN 0) (YH (gN 1) (YH (gN 2) Yn)))) YU q1W (bs.map tri) [none,none,none,↥(.int n)]=some (bs.map λb=>D.int (stN n b)):=by
 have:=q0l (g:=gT 3 (YH (gN 0) (YH (gN 1) (YH (gN 2) Yn)))) (c:=YU) (f:=q1W) (λw=>∃a b c,w=[a,b,c,↥(.int n)]) (λ_=>true) tri (λb=>D.int (stN n b)) bs (ω:=[none,none,none,↥(.int n)]) ⟨_,_,_,rfl⟩ λb hb w hw=>by
  obtain⟨x,y,z,rfl⟩:=hw;refine⟨_,rfl,⟨_,_,_,rfl⟩,rfl,λ_=>?_⟩;have s:=qfy (a:=b.1) (b:=b.2.1) hn (hbs b hb);show q1W [↥(.int b.1),↥(.int b.2.1),↥(.int b.2.2),↥(.int n)]=_;unfold q1W stN;simp_arith[s]
 rw[this,yq.mpr (λ_ _=>rfl)]
noncomputable def X9(S:Int)(w:Int->Int)(c:Int):D:=.tup [.int c,.int (S+w c)]
noncomputable def loT(B:List Int):Int:=-1-WE B
noncomputable def nT(B:List Int):Nat:=(2-XH B-loT B).toNat
theorem rngT{B:List Int}(h0:B≠[])(hB:∀b∈B,-21<=b/\b<=21):(-22<=loT B/\loT B<=20)/\(-19<=2-XH B/\2-XH B<=23)/\nT B<=100/\0<nT B:=by
 have a:=hB _ (q2L h0).1;have b:=hB _ (q1C h0).1;have c:=(q2L h0).2 _ (q1C h0).1;unfold nT loT;omega
theorem qbv{n h l:Int}{bs:List (Int×Int×Int)}(hn0:1<=n)(hn:n<=10^39)(hh:0<=h/\h<n)(hl:0<=l/\l<n)(hb:bs.length<=20)(hbs:∀b∈bs,(0<=b.1/\b.1<n)/\(0<=b.2.1/\b.2.1<n)/\(b.2.2=1\/b.2.2=-1)){P:List Int}(eP:YL (plc h l (bs.map two))=P){w:Int->Int}(hw:∀c:Int,-200<=c->c<=200->qv [.int h,.int l,.lst (bs.map tri),.lst ((egs n P).map egD),.lst (P.map λx=>D.int (YB n h l bs x+c))]=↥(.int (w c))):
  q1E [.int n,.int h,.int l,.lst (bs.map tri)]=some (.fr ((yB (nT (P.map (YB n h l bs)))).map λk:Nat=>X9 (bs.map (stN n)).sum w (loT (P.map (YB n h l bs))+(k:Int)))):=by
 have re:=qa7 hn0 hn hh hl hb hbs;have rl:=qay (c:=0) hn0 hn hh hl hb hbs;have S:=stp h l (bs:=bs.map two) (by rw[zB];omega);rw[eP]at re rl S;have re':qY [.int n,.int h,.int l,.lst (bs.map tri)]=some (.fr ((egs n P).map egD)):=re;have z0:(P.map λx=>D.int (0+YB n h l bs x))=(P.map (YB n h l bs)).map D.int:=by
  rw[zp];exact yI λx _=>by rw[wW];rfl
 rw[z0]at rl;generalize hB:P.map (YB n h l bs)=B at rl;have B0:B≠[]:=λe=>by rw[e]at hB;exact S.ne (xT.mp hB)
 have Bb:∀b∈B,-21<=b/\b<=21:=λb hb'=>by
  rw[<- hB]at hb';obtain⟨x,_,rfl⟩:=zR.mp hb';exact q4U hb
 obtain⟨r1,r2,r3,_⟩:=rngT B0 Bb;have mx:=qf4 B0;have mn:=qaK B0;have lo:=qed (n:=n) ∅ (bs:=bs) λb h=>(hbs b h).2.2;have sm:=q76 (stN n) bs;have kl:(bs.map tri).length<=1000000:=by rw[zB];omega
 have kB:(B.map D.int).length<=1000000:=by rw[zB,<- hB,zB];have:=S.len;omega
 generalize (bs.map (stN n)).sum=Z at sm;generalize hE:(egs n P).map egD=E at re' hw;obtain⟨ω',e,x8,x9,rfl⟩:=qJ (g:=gN 8) (b:=q2Y) (λk:Nat=>D.int (loT B+(k:Int))) (yB (nT B))
  (λpre ω=>∃x8 x9:Option W,ω=[↥(.int n),↥(.int h),↥(.int l),↥(.lst (bs.map tri)),↥(.lst E),↥(.lst (B.map D.int)),↥(.int Z),some (.ow (pre.map λk:Nat=>X9 Z w (loT B+(k:Int)))),x8,x9])
  (λpre k post ω hd ⟨x8,x9,hω⟩=>by
   subst hω;refine⟨_,rfl,?_⟩;have hk:k<nT B:=yF.mp (by rw[hd];simp);have pl:pre.length<nT B:=by
    have:=vf yi hd;rw[z7,zG,zM]at this;omega
   generalize hc:loT B+(k:Int)=c;have W:=hw c ∅ ∅;have cm:=q0h (i:=0) (f:=q4o) D.int (λx=>D.int (x+c)) B (ω:=[none,↥(.int c)]) (λx _=>by
    unfold q4o;simp_arith[q0R])
   have mm:B.map (λx=>D.int (x+c))=P.map λx=>D.int (YB n h l bs x+c):=by rw[<- hB,zp];rfl
   rw[mm]at cm;have as:(pre.map λk:Nat=>X9 Z w (loT B+(k:Int))).length<1000000:=by rw[zB];omega
   show Xw (q2Y [_,_,_,_,_,_,_,_,↥(.int c),_]) _;unfold q2Y;simp_arith[Xg kB,inW,Xp,cm,W,W1 as];exact⟨_,_,by rw[za,ZN,hc];rfl⟩)
  (ω:=[↥(.int n),↥(.int h),↥(.int l),↥(.lst (bs.map tri)),↥(.lst E),↥(.lst (B.map D.int)),↥(.int Z),some (.ow []),none,none]) ⟨none,none,rfl⟩
 have up:upTo (loT B) (nT B)=(yB (nT B)).map λk:Nat=>D.int (loT B+(k:Int)):=rfl;have rg:rg2I (some [.int (-1-WE B),.int (2-XH B)])=some (upTo (loT B) (nT B)):=qfH ⟨by unfold loT at r1;omega,by unfold loT at r1;omega⟩ ⟨∅,∅⟩;unfold q1E q5d;simp_arith[re',rl,Xg kl,inW,Xp,lo,sm,mx,mn,rg,up,e]
theorem qas{n h l:Int}{bs:List (Int×Int×Int)}{ks:List Nat}{f:Nat->Int}{Z:Int}{v:Int->Int}(k0:ks≠[])(kl:ks.length<=1000)(ht:q1E [.int n,.int h,.int l,.lst (bs.map tri)]=some (.fr (ks.map λk=>X9 Z v (f k)))):
  qo [.int n,.int h,.int l,.lst (bs.map tri)]=↥(.int (XH (ks.map λk=>Z+v (f k)))):=by
 unfold qo q1Y;have kk:(ks.map λk=>X9 Z v (f k)).length<=1000000:=by rw[zB];omega
 have cm:=q0l (g:=gT 2 (YH (gN 0) (YH (gN 1) Yn))) (c:=YU) (f:=q3c) (λw=>∃a b,w=[a,b]) (λ_=>true) (λk=>X9 Z v (f k)) (λk=>D.int (Z+v (f k))) ks (ω:=[none,none]) ⟨_,_,rfl⟩ λk _ w hw=>by
  obtain⟨a,b,rfl⟩:=hw;exact⟨_,rfl,⟨_,_,rfl⟩,rfl,λ_=>rfl⟩
 rw[yq.mpr (λ_ _=>rfl)]at cm;have mm:ks.map (λk=>D.int (Z+v (f k)))=(ks.map λk=>Z+v (f k)).map D.int:=by rw[zp];rfl
 rw[mm]at cm;have mn:=qaK (ns:=ks.map λk=>Z+v (f k)) λe=>k0 (xT.mp e);simp_arith[ht,Xg kk,inW,Xp,cm,mn]
theorem Rch.one{X:List (Int×Int)}{p q x y:Int}(r:Rch (X++[(p,q)]) x y):Rch X x y\/(Rch X x p/\Rch X q y)\/(Rch X x q/\Rch X p y):=by
 induction r with
 | refl=>exact .inl .refl
 | @step b c _ e ih=>
  have e':((b,c)∈X\/(c,b)∈X)\/(b=p/\c=q)\/(b=q/\c=p):=by
   rcases e with e|e
   ·rcases zK.mp e with e|e
    ·exact .inl (.inl e)
    ·have:=zL.mp e;simp only[Prod.mk.injEq]at this;exact .inr (.inl this)
   ·rcases zK.mp e with e|e
    ·exact .inl (.inr e)
    ·have:=zL.mp e;simp only[Prod.mk.injEq]at this;exact .inr (.inr ⟨this.2,this.1⟩)
  rcases e' with e'|⟨rfl,rfl⟩|⟨rfl,rfl⟩
  ·rcases ih with h|⟨h1,h2⟩|⟨h1,h2⟩
   ·exact .inl (h.step e')
   ·exact .inr (.inl ⟨h1,h2.step e'⟩)
   ·exact .inr (.inr ⟨h1,h2.step e'⟩)
  ·rcases ih with h|⟨h1,h2⟩|⟨h1,h2⟩
   ·exact .inr (.inl ⟨h,.refl⟩)
   ·exact .inr (.inl ⟨h1,.refl⟩)
   ·exact .inl h1
  ·rcases ih with h|⟨h1,h2⟩|⟨h1,h2⟩
   ·exact .inr (.inr ⟨h,.refl⟩)
   ·exact .inl h1
   ·exact .inr (.inr ⟨h1,.refl⟩)
theorem Rch.sub{X Y:List (Int×Int)}(h:∀e∈X,Rch Y e.1 e.2){x y:Int}(r:Rch X x y):Rch Y x y:=by
 induction r with
 | refl=>exact .refl
 | step _ e ih=>
  rcases e with e|e
  ·exact ih.trans (h _ e)
  ·exact ih.trans (h _ e).symm
theorem Rch.of{X:List (Int×Int)}{p q:Int}(h:(p,q)∈X):Rch X p q:=Rch.refl.step (.inl h)
theorem q8F{a b:Int}:∀(C:List Eg)(T:List (Int×Int)),¬Rch T a b->Rch (T++C.map Yb) a b->∃C1 c C2,C=C1++c::C2/\¬Rch (T++C1.map Yb) a b/\Rch (T++C1.map Yb++[Yb c]) a b
 | [],T,h,r=>vM ⇑r h
 | c::C,T,h,r=>by
  by_cases z:Rch (T++[Yb c]) a b
  ·exact⟨[],c,C,rfl,by simpa using h,by simpa using z⟩
  ·obtain⟨C1,d,C2,e,h1,h2⟩:=q8F C (T++[Yb c]) z ⇑r
   exact⟨c::C1,d,C2,by rw[e];rfl,by simpa using h1,by simpa using h2⟩
noncomputable def kru(f:Int->Int):List Eg->Int
 | []=>0
 | e::es=>if f e.1=f e.2.1 then kru f es else YA e+kru (YV f (f e.1) (f e.2.1)) es
theorem q5g:∀(es:List Eg)(f:Int->Int)(acc:List Eg),((es.foldl Yi (f,acc)).2.map YA).sum=(acc.map YA).sum+kru f es
 | [],f,acc=>by show _=_+(0:Int);rw[Int.add_zero];rfl
 | e::es,f,acc=>by
  show ((es.foldl Yi (Yi (f,acc) e)).2.map YA).sum=_+(if f e.1=f e.2.1 then kru f es else YA e+kru (YV f (f e.1) (f e.2.1)) es)
  by_cases z:f e.1=f e.2.1
  ·have a:Yi (f,acc) e=(f,acc):=vH z
   rw[a,vH z,q5g es]
  ·have a:Yi (f,acc) e=(YV f (f e.1) (f e.2.1),acc++[e]):=vJ z
   rw[a,vJ z,q5g es,za,yw,ZN,List.sum_singleton,Int.add_assoc]
theorem q59:∀{C:List Eg},(∀c∈C,0<=YA c)->0<=(C.map YA).sum
 | [],_=>yM _
 | c::C,h0=>by rw[zU,zk];have:=h0 c zI;have:=q59 λx hx=>h0 x (zJ _ hx);omega
theorem kmin{ts:List Int}:∀(es:List Eg),es.Pairwise (λa b=>YA a<=YA b)->∀(f:Int->Int)(T:List (Int×Int))(C:List Eg),Tells ts T f->(∀e∈T,e.1∈ts/\e.2∈ts)->(∀e∈es,e.1∈ts/\e.2.1∈ts)->(∀c∈C,0<=YA c) ->
  (∀c∈C,Rch (T++(es.filter λx=>decide (YA x<=YA c)).map Yb) c.1 c.2.1)->(∀e∈es,Rch (T++C.map Yb) e.1 e.2.1)->kru f es<=(C.map YA).sum
 | [],_,f,T,C,_,_,_,h0,_,_=>by
  show (0:Int)<=_;exact q59 h0
 | e::es,so,f,T,C,hf,hT,he,h0,hD,hc=>by
  obtain⟨s1,s2⟩:=zc.mp so;have ⟨m1,m2⟩:=he e zI;have he':∀x∈es,x.1∈ts/\x.2.1∈ts:=λx hx=>he x (zJ _ hx);show (if f e.1=f e.2.1 then kru f es else YA e+kru (YV f (f e.1) (f e.2.1)) es)<=_
  by_cases z:f e.1=f e.2.1
  ·rw[vH z]
   refine kmin es s2 f T C hf hT he' h0 (λc hcc=>?_) λx hx=>hc x (zJ _ hx);refine(hD c hcc).sub λx hx=>?_;rcases zK.mp hx with m|m
   ·exact .of (zH _ m)
   ·obtain⟨y,hy,rfl⟩:=zR.mp m
    obtain⟨y1,y2⟩:=zd.mp hy;rcases zE.mp y1 with rfl|y1
    ·exact((hf _ m1 _ m2).mp z).mono λw hw=>zH _ hw
    ·exact .of (zF _ (zg (zd.mpr ⟨y1,y2⟩)))
  ·rw[vJ z]
   have nr:¬Rch T e.1 e.2.1:=λr=>z ((hf _ m1 _ m2).mpr r);obtain⟨C1,c,C2,eC,n1,r1⟩:=q8F C T nr (hc e zI);have hcC:c∈C:=by rw[eC];simp
   have le:YA e<=YA c:=by
    by_cases q:YA e<=YA c
    ·exact q
    ·exfalso
     have fe:((e::es).filter λx=>decide (YA x<=YA c))=[]:=wV.mpr λx hx=>by
      rcases zE.mp hx with rfl|hx
      ·simpa using q
      ·have:=s1 x hx
       simp only[decide_eq_true_eq];omega
     have:=hD c hcC;rw[fe,yX,z5]at this;refine n1 (r1.sub λx hx=>?_);rcases zK.mp hx with m|m
     ·exact .of m
     ·rw[zL.mp m]
      exact this.mono λw hw=>zH _ hw
   have rc:Rch (T++[(e.1,e.2.1)]++C1.map Yb) c.1 c.2.1:=by
    have up:∀{x y:Int},Rch (T++C1.map Yb) x y->Rch (T++[(e.1,e.2.1)]++C1.map Yb) x y:=λr=>r.mono λw hw=>by
     rcases zK.mp hw with m|m
     ·exact zH _ (zH _ m)
     ·exact zF _ m
    have ee:Rch (T++[(e.1,e.2.1)]++C1.map Yb) e.1 e.2.1:=.of (by simp);rcases r1.one with h|⟨h1,h2⟩|⟨h1,h2⟩
    ·exact vM h n1
    ·exact((up h1).symm.trans ee).trans (up h2).symm
    ·exact((up h2).trans ee.symm).trans (up h1)
   have ih:=kmin es s2 (YV f (f e.1) (f e.2.1)) (T++[(e.1,e.2.1)]) (C1++C2) (hf.join hT m1 m2) (λx hx=>by
     rcases zK.mp hx with m|m
     ·exact hT x m
     ·rw[zL.mp m];exact⟨m1,m2⟩) he' (λx hx=>h0 x (by
     rw[eC];rcases zK.mp hx with m|m
     ·exact zH _ m
     ·exact zF _ (zJ _ m))) (λx hx=>by
     have xC:x∈C:=by
      rw[eC];rcases zK.mp hx with m|m
      ·exact zH _ m
      ·exact zF _ (zJ _ m)
     refine(hD x xC).mono λw hw=>?_;rcases zK.mp hw with m|m
     ·exact zH _ (zH _ m)
     ·obtain⟨y,hy,rfl⟩:=zR.mp m
      obtain⟨y1,y2⟩:=zd.mp hy;rcases zE.mp y1 with rfl|y1
      ·exact zH _ (zF _ (zL.mpr rfl))
      ·exact zF _ (zg (zd.mpr ⟨y1,y2⟩))) (λx hx=>by
     refine(hc x (zJ _ hx)).sub λw hw=>?_;rcases zK.mp hw with m|m
     ·exact .of (zH _ (zH _ m))
     ·obtain⟨y,hy,rfl⟩:=zR.mp m
      rw[eC]at hy;rcases zK.mp hy with k|k
      ·exact .of (zF _ (zg (zH _ k)))
      ·rcases zE.mp k with rfl|k
       ·refine rc.mono λw hw=>?_
        rcases zK.mp hw with m|m
        ·exact zH _ m
        ·rw[za];exact zF _ (zH _ m)
       ·exact .of (zF _ (zg (zF _ k))))
   have su:(C.map YA).sum=YA c+((C1++C2).map YA).sum:=by
    rw[eC,za,yw,zU,zk,za,yw];omega
   omega
structure Ms (T:List (Int×Int)) (es:List Eg) (m:Int):Prop where
 ex:∃C:List Eg,(∀c∈C,c∈es)/\C.Nodup/\(∀e∈es,Rch (T++C.map Yb) e.1 e.2.1)/\(C.map YA).sum=m
 lo:∀C:List Eg,(∀c∈C,c∈es)->(∀e∈es,Rch (T++C.map Yb) e.1 e.2.1)->m<=(C.map YA).sum
theorem zAP{ts:List Int}:∀(es:List Eg)(f:Int->Int)(T:List (Int×Int))(acc:List Eg),Tells ts (T++acc.map Yb) f->(∀e∈T,e.1∈ts/\e.2∈ts)->(∀e∈acc,e.1∈ts/\e.2.1∈ts)->(∀e∈es,e.1∈ts/\e.2.1∈ts)->∀e∈es,Rch (T++(es.foldl Yi (f,acc)).2.map Yb) e.1 e.2.1
 | [],_,_,_,_,_,_,_=>λe he=>by simp at he
 | e::es,f,T,acc,hf,hT,ha,he=>by
  have ⟨m1,m2⟩:=he e zI;have he':∀x∈es,x.1∈ts/\x.2.1∈ts:=λx hx=>he x (zJ _ hx);have inn:∀x∈T++acc.map Yb,x.1∈ts/\x.2∈ts:=λx hx=>by
   rcases zK.mp hx with m|m
   ·exact hT x m
   ·obtain⟨y,hy,rfl⟩:=zR.mp m;exact ha y hy
  have keep:∀(es:List Eg)(g:Int->Int)(acc:List Eg),∀x∈acc,x∈(es.foldl Yi (g,acc)).2:=λes=>by
   induction es with
   | nil=>exact λg acc x hx=>hx
   | cons d es ih=>
    intro g acc x hx;show x∈(es.foldl Yi (Yi (g,acc) d)).2;unfold Yi
    split
    ·exact ih g acc x hx
    ·exact ih _ _ x (zH _ hx)
  intro x hx;show Rch (T++(es.foldl Yi (Yi (f,acc) e)).2.map Yb) x.1 x.2.1
  by_cases z:f e.1=f e.2.1
  ·have a:Yi (f,acc) e=(f,acc):=vH z
   rw[a];rcases zE.mp hx with rfl|hx
   ·refine((hf _ m1 _ m2).mp z).mono λw hw=>?_
    rcases zK.mp hw with m|m
    ·exact zH _ m
    ·obtain⟨y,hy,rfl⟩:=zR.mp m
     exact zF _ (zg (keep es f acc y hy))
   ·exact zAP es f T acc hf hT ha he' x hx
  ·have a:Yi (f,acc) e=(YV f (f e.1) (f e.2.1),acc++[e]):=vJ z
   rw[a];rcases zE.mp hx with rfl|hx
   ·exact .of (zF _ (zg (f:=Yb) (keep es _ _ x (by simp))))
   ·refine zAP es _ T (acc++[e]) ?_ hT (λy hy=>?_) he' x hx
    ·rw[za,<- yE];exact hf.join inn m1 m2
    ·rcases zK.mp hy with m|m
     ·exact ha y m
     ·rw[zL.mp m];exact⟨m1,m2⟩
theorem q8t{ts:List Int}{T:List (Int×Int)}{f:Int->Int}{es:List Eg}(nd:es.Nodup)(hf:Tells ts T f)(hT:∀e∈T,e.1∈ts/\e.2∈ts)(he:∀e∈es,e.1∈ts/\e.2.1∈ts)(h0:∀e∈es,0<=YA e):Ms T es ((Yy f (YJ YA es)).2.map YA).sum:=by
 have pm:=q02 (f:=YA) (l:=es);have he':∀e∈YJ YA es,e.1∈ts/\e.2.1∈ts:=λe h=>he e (pm.mem_iff.mp h);refine⟨⟨(Yy f (YJ YA es)).2,λc hc=>pm.mem_iff.mp ((q2X f _).subset hc),(pm.nodup_iff.mpr nd).sublist (q2X f _),λe h=>?_,rfl⟩,λC hC hc=>?_⟩
 ·have:=zAP (YJ YA es) f T [] (by rw[yX,z5];exact hf) hT (by simp) he' e (pm.mem_iff.mpr h)
  exact this
 ·have:=q5g (YJ YA es) f []
  unfold Yy;rw[this,yX,wX,wW];refine kmin (ts:=ts) _ q2W f T C hf hT he' (λc h=>h0 c (hC c h)) (λc h=>?_) (λe h=>hc e (pm.mem_iff.mp h));exact .of (zF _ (zg (f:=Yb) (zd.mpr ⟨pm.mem_iff.mpr (hC c h),by simp⟩)))
theorem dd{n x s:Int}(hx:0<=x/\x<n)(hs:0<=s/\s<n):((x-s)%n=x-s/\s<=x)\/((x-s)%n=x-s+n/\x<s):=by
 rw[q0x hx hs]
 by_cases z:s<=x
 ·rw[vH z];exact .inl ⟨rfl,z⟩
 ·rw[vJ z];exact .inr ⟨rfl,∅⟩
def Sc(n:Int)(P:List Int)(x y:Int):Prop:=x∈P/\y∈P/\∀z∈P,z≠x->y≠x/\(y-x)%n<=(z-x)%n
def InR(n:Int)(P:List Int):Prop:=∀p∈P,0<=p/\p<n
theorem Sc.uniq{n:Int}{P:List Int}(hn:InR n P){x y y':Int}(h:Sc n P x y)(h':Sc n P x y'):y=y':=by
 obtain⟨hx,hy,a⟩:=h;obtain⟨_,hy',b⟩:=h'
 by_cases z:y=x
 ·by_cases z':y'=x
  ·rw[z,z']
  ·exact vM z (a y' hy' z').1
 ·have b':=(b y hy z)
  have a':=(a y' hy' b'.1);have d1:=dd (hn y hy) (hn x hx);have d2:=dd (hn y' hy') (hn x hx);have:=hn x hx;have:=hn y hy;have:=hn y' hy';omega
theorem Sc.pre{n:Int}{P:List Int}(hn:InR n P){x a p:Int}(h:Sc n P x p)(h':Sc n P a p):x=a:=by
 obtain⟨hx,hp,u⟩:=h;obtain⟨ha,_,v⟩:=h'
 by_cases z:x=a
 ·exact z
 ·have u':=u a ha λq=>z q.symm
  have v':=v x hx z;have d1:=dd (hn p hp) (hn x hx);have d2:=dd (hn p hp) (hn a ha);have d3:=dd (hn a ha) (hn x hx);have d4:=dd (hn x hx) (hn a ha);have:=hn x hx;have:=hn a ha;have:=hn p hp;omega
theorem q3w{P:List Int}(hP:P.Pairwise (· < ·)){n:Int}(hn:InR n P){k:Nat}(hk:k<P.length):Sc n P (P.getD k 0) (P.getD (nxN P.length k) 0):=by
 have hx:nxN P.length k<P.length:=by unfold nxN;split <;> omega
 rw[qj hk,qj hx];refine⟨ze _,ze _,λz hz ne=>?_⟩;obtain⟨j,hj,rfl⟩:=zm.mp hz;have jk:j≠k:=λq=>by subst q;exact ne rfl
 have up:∀{a b:Nat}(ha:a<P.length)(hb:b<P.length),a<b->P[a]<P[b]:=λha hb h=>yJ.mp hP _ _ ha hb h;have b1:=hn _ (ze hk);have b2:=hn _ (ze hx);have b3:=hn _ (ze hj);have d1:=dd b2 b1;have d2:=dd b3 b1
 by_cases z:k+1<P.length
 ·have e:nxN P.length k=k+1:=vH z
  have lt:P[k]<P[nxN P.length k]:=up hk hx ∅;rcases Nat.lt_or_gt_of_ne jk with q|q
  ·have:=up hj hk q;omega
  ·rcases zu j (k+1)with r|r
   ·omega
   ·rcases wC r with r|r
    ·have:P[nxN P.length k]=P[j]:=by congr 1;omega
     omega
    ·have:=up hx hj ∅;omega
 ·have e:nxN P.length k=0:=vJ z
  have q:j<k:=∅
  have:=up hj hk q;have lt:P[nxN P.length k]<P[k]:=up hx hk ∅;rcases ZI j with r|r
  ·have:P[nxN P.length k]=P[j]:=by congr 1;omega
   omega
  ·have:=up hx hj ∅;omega
theorem qB{P:List Int}(hP:P.Pairwise (· < ·)){n:Int}(hn:InR n P){e:Eg}:e∈egs n P↔Sc n P e.1 e.2.1/\e.2.2=glN n (e.1,e.2.1):=by
 unfold egs;rw[q7j,zp,zR]
 constructor
 ·rintro⟨k,hk,rfl⟩
  exact⟨q3w hP hn (yF.mp hk),rfl⟩
 ·rintro⟨h1,h2⟩
  obtain⟨k,hk,ek⟩:=zm.mp h1.1;have s:=q3w hP hn hk;rw[qj hk,ek]at s;refine⟨k,yF.mpr hk,?_⟩;have u:=Sc.uniq hn h1 s;show ((P.getD k 0,P.getD (nxN P.length k) 0,glN n (P.getD k 0,P.getD (nxN P.length k) 0)):Eg)=e;rw[qj hk,ek,<- u];obtain⟨a,b,c⟩:=e;show (a,b,glN n (a,b))=(a,b,c);rw[show c=glN n (a,b)from h2]
theorem q03{P:List Int}(hP:P.Pairwise (· < ·))(n:Int):(egs n P).Nodup:=by
 have h:((egs n P).map λe=>e.1).Nodup:=by rw[q0m];exact hP.imp λq=>∅
 exact(xI.mp h).imp λq r=>q (by rw[r])
theorem q2O{P:List Int}{n:Int}(hn:0<n):∀e∈egs n P,0<=YA e:=λe he=>by
 unfold egs at he;obtain⟨p,_,rfl⟩:=zR.mp he;show 0<=glN n p;unfold glN
 split
 ·omega
 ·exact xv _ ∅
theorem qeZ{P:List Int}(hP:P.Pairwise (· < ·)){n:Int}(hn:InR n P){p:Int}(hp:p∈P):∃a,Sc n P a p:=by
 obtain⟨k,hk,rfl⟩:=zm.mp hp
 by_cases z:k=0
 ·subst z
  have s:=q3w hP hn (k:=P.length-1) ∅;have:nxN P.length (P.length-1)=0:=vJ ∅;rw[this,qj hk]at s;exact⟨_,s⟩
 ·have s:=q3w hP hn (k:=k-1) ∅
  have:nxN P.length (k-1)=k:=by unfold nxN;rw[vH ∅];omega
  rw[this,qj hk]at s;exact⟨_,s⟩
theorem q7V{P:List Int}(hP:P.Pairwise (· < ·)){n:Int}(hn:InR n P){p:Int}(hp:p∈P):∃b,Sc n P p b:=by
 obtain⟨k,hk,rfl⟩:=zm.mp hp;have s:=q3w hP hn hk;rw[qj hk]at s;exact⟨_,s⟩
def Wv(Z:Int)(T:List (Int×Int))(E:List Eg)(a:Eg->Int)(w:Int):Prop :=
 ∃m,Ms (T++(E.filter λe=>a e != 0).map Yb) E m/\w=Z+(E.map λe=>YA e*YY (a e)).sum+2*m
theorem Rch.img{X Y:List (Int×Int)}(ρ:Int->Int)(h:∀t∈X,Rch Y (ρ t.1) (ρ t.2)){x y:Int}(r:Rch X x y):Rch Y (ρ x) (ρ y):=by
 induction r with
 | refl=>exact .refl
 | step _ e ih=>
  rcases e with e|e
  ·exact ih.trans (h _ e)
  ·exact ih.trans (h _ e).symm
theorem q1J{α:Type}{f:α->Int}{l m:List α}(p:l.Perm m):(l.map f).sum=(m.map f).sum:=by
 induction p with
 | nil=>rfl
 | cons x _ ih=>rw[zU,zU,zk,zk,ih]
 | swap x y l=>simp only[zU,zk];omega
 | trans _ _ a b=>exact a.trans b
theorem qfr{a b:Int}(h:YY a=YY b):(a != 0)=(b != 0):=by
 unfold YY at h
 by_cases z:a=0 <;> by_cases z':b=0
 ·rw[z,z']
 ·split at h <;> split at h <;> omega
 ·split at h <;> split at h <;> omega
 ·rw[bne_iff_ne.mpr z,bne_iff_ne.mpr z']
theorem q3I{Z w w':Int}{T T':List (Int×Int)}{E E':List Eg}{a a':Eg->Int}(h:Wv Z T E a w)(h':Wv Z T' E' a' w')(φ:Eg->Eg)(ρ:Int->Int)(pm:E'.Perm (E.map φ))(co:∀e∈E,YA (φ e)=YA e)(ab:∀e∈E,YY (a' (φ e))=YY (a e))(ti:∀e∈E,Yb (φ e)=(ρ e.1,ρ e.2.1)\/Yb (φ e)=(ρ e.2.1,ρ e.1))(kn:∀t∈T,Rch T' (ρ t.1) (ρ t.2)):w'<=w:=by
 obtain⟨m,⟨⟨C,c1,_,c3,c4⟩,_⟩,rfl⟩:=h;obtain⟨m',⟨_,lo⟩,rfl⟩:=h';have su:(E'.map λe=>YA e*YY (a' e)).sum=(E.map λe=>YA e*YY (a e)).sum:=by
  rw[q1J pm,zp]
  congr 1
  exact yI λe he=>by show YA (φ e)*YY (a' (φ e))=_;rw[co e he,ab e he]
 have mem:∀e∈E,φ e∈E':=λe he=>pm.mem_iff.mpr (zg he);have tr:∀{Y:List (Int×Int)}(e:Eg),e∈E->Yb (φ e)∈Y->Rch Y (ρ e.1) (ρ e.2.1):=λe he hy=>by
  rcases ti e he with q|q
  ·rw[q]at hy;exact .of hy
  ·rw[q]at hy;exact(Rch.of hy).symm
 have key:∀e∈E,Rch (T'++(E'.filter λe=>a' e != 0).map Yb++(C.map φ).map Yb) (ρ e.1) (ρ e.2.1):=λe he=>(c3 e he).img ρ λt ht=>by
  rcases zK.mp ht with ht|ht
  ·rcases zK.mp ht with ht|ht
   ·exact(kn t ht).mono λx hx=>zH _ (zH _ hx)
   ·obtain⟨d,hd,rfl⟩:=zR.mp ht
    obtain⟨d1,d2⟩:=zd.mp hd;refine tr d d1 (zH _ (zF _ (zg (zd.mpr ⟨mem d d1,?_⟩))));rw[qfr (ab d d1)];exact d2
  ·obtain⟨d,hd,rfl⟩:=zR.mp ht
   exact tr d (c1 d hd) (zF _ (zg (zg hd)))
 have lo':=lo (C.map φ) (λc hc=>by obtain⟨d,hd,rfl⟩:=zR.mp hc;exact mem d (c1 d hd)) λe he=>by
  obtain⟨d,hd,rfl⟩:=zR.mp (pm.mem_iff.mp he);have k:=key d hd;rcases ti d hd with q|q
  ·rw[show (φ d).1=ρ d.1 from vf Prod.fst q,show (φ d).2.1=ρ d.2.1 from vf Prod.snd q];exact k
  ·rw[show (φ d).1=ρ d.2.1 from vf Prod.fst q,show (φ d).2.1=ρ d.1 from vf Prod.snd q];exact k.symm
 have cs:((C.map φ).map YA).sum=(C.map YA).sum:=by
  rw[zp]
  congr 1
  exact yI λc hc=>co c (c1 c hc)
 rw[su];omega
theorem q7N{q:Eg->Bool}:∀{C:List Eg},(∀c∈C,0<=YA c)->((C.filter q).map YA).sum<=(C.map YA).sum
 | [],_=>yM _
 | c::C,h=>by
  have ih:=q7N (q:=q) (C:=C) λx hx=>h x (zJ _ hx);have:=h c zI;rw[yC,zU,zk]
  split
  ·rw[zU,zk];omega
  ·omega
theorem q92{u v:Eg}(ne:u≠v){C:List Eg}(nd:C.Nodup)(hu:u∈C)(hv:v∈C):C.Perm (u::v::C.filter λe=>e != u&&e != v):=by
 refine(yA nd ?_).mpr λx=>?_
 ·refine yO.mpr ⟨λh=>?_,yO.mpr ⟨λh=>?_,nd.filter _⟩⟩
  ·rcases zE.mp h with h|h
   ·exact ne h
   ·simpa using (zd.mp h).2
  ·simpa using (zd.mp h).2
 ·rw[zE,zE,zd]
  constructor
  ·intro h
   by_cases a:x=u
   ·exact .inl a
   ·by_cases b:x=v
    ·exact .inr (.inl b)
    ·exact .inr (.inr ⟨h,by simp[a,b]⟩)
  ·rintro(rfl|rfl|h)
   ·exact hu
   ·exact hv
   ·exact h.1
theorem qbT{Z w w':Int}{T:List (Int×Int)}{E E':List Eg}{a:Eg->Int}{x y p u v:Int}(h:Wv Z T E a w)(h':Wv Z T E' a w')(nd:E.Nodup)(nd':E'.Nodup)(nn:∀e∈E',0<=YA e)(hE:((x,y,u+v):Eg)∈E)(mE:∀e,e∈E'↔e=(x,p,u)\/e=(p,y,v)\/(e∈E/\e≠(x,y,u+v)))(xp:x≠p)(yp:y≠p)(eE:∀e∈E,e.1≠p/\e.2.1≠p)(tT:∀t∈T,t.1≠p/\t.2≠p)(al:a (x,p,u)=a (x,y,u+v))(al':a (p,y,v)=a (x,y,u+v)):w<=w':=by
 obtain⟨m,⟨_,lo⟩,rfl⟩:=h;obtain⟨m',⟨⟨C,c1,c2,c3,c4⟩,_⟩,rfl⟩:=h';have ne:((x,p,u):Eg)≠(p,y,v):=λq=>xp (vf Prod.fst q);have m1:((x,p,u):Eg)∈E':=(mE _).mpr (.inl rfl);have m2:((p,y,v):Eg)∈E':=(mE _).mpr (.inr (.inl rfl));have p1:=q92 ne nd' m1 m2;have fe:∀e,e∈E'.filter (λe=>e != (x,p,u)&&e != (p,y,v))↔e∈E/\e≠(x,y,u+v):=λe=>by
  rw[zd,mE]
  constructor
  ·rintro⟨q|q|q,r⟩
   ·rw[q]at r;simp at r
   ·rw[q]at r;simp at r
   ·exact q
  ·intro q
   refine⟨.inr (.inr q),?_⟩;have n1:e≠(x,p,u):=λr=>(eE e q.1).2 (by rw[r]);have n2:e≠(p,y,v):=λr=>(eE e q.1).1 (by rw[r]);simp only[zr,bne_iff_ne,ne_eq];exact⟨n1,n2⟩
 have p2:E.Perm ((x,y,u+v)::E'.filter λe=>e != (x,p,u)&&e != (p,y,v)):=by
  refine(yA nd (yO.mpr ⟨λq=>((fe _).mp q).2 rfl,nd'.filter _⟩)).mpr λe=>?_;rw[zE,fe]
  constructor
  ·intro q
   by_cases z:e=(x,y,u+v)
   ·exact .inl z
   ·exact .inr ⟨q,z⟩
  ·rintro(rfl|q)
   ·exact hE
   ·exact q.1
 have su:(E'.map λe=>YA e*YY (a e)).sum=(E.map λe=>YA e*YY (a e)).sum:=by
  rw[q1J p1,q1J p2,zU,zU,zU,zk,zk,zk,al,al'];show u*_+(v*_+_)=(u+v)*_+_;rw[Int.add_mul];omega
 let π:Int->Int:=λz=>if z=p then (if a (x,y,u+v)≠0\/(x,p,u)∈C then x else y)else z
 have πn:∀{z},z≠p->π z=z:=λhz=>vJ hz
 let C0:List Eg:=(C.filter λe=>e != (x,p,u)&&e != (p,y,v))++(if (x,p,u)∈C/\(p,y,v)∈C then [(x,y,u+v)]else [])
 have inC:∀e∈C,e≠(x,p,u)->e≠(p,y,v)->e∈C0:=λe he n1 n2=>zH _ (zd.mpr ⟨he,by simp only[zr,bne_iff_ne,ne_eq];exact⟨n1,n2⟩⟩);have keyL:∀t∈T++(E'.filter λe=>a e != 0).map Yb++C.map Yb,Rch (T++(E.filter λe=>a e != 0).map Yb++C0.map Yb) (π t.1) (π t.2):=λt ht=>by
  have edge:∀e∈E',(a e≠0\/e∈C)->Rch (T++(E.filter λe=>a e != 0).map Yb++C0.map Yb) (π e.1) (π e.2.1):=λe he q=>by
   rcases (mE e).mp he with r|r|r
   ·rw[r]
    show Rch _ (π x) (π p);have:π p=x:=by
     show (if p=p then _ else _)=x;rw[vH rfl,vH];rw[r]at q;rcases q with q|q
     ·rw[al]at q;exact .inl q
     ·exact .inr q
    rw[this,πn xp];exact .refl
   ·rw[r]
    show Rch _ (π p) (π y);rw[πn yp]
    by_cases z:a (x,y,u+v)≠0\/(x,p,u)∈C
    ·have:π p=x:=by show (if p=p then _ else _)=x;rw[vH rfl,vH z]
     rw[this]
     by_cases z0:a (x,y,u+v)≠0
     ·exact .of (zH _ (zF _ (zR.mpr ⟨_,zd.mpr ⟨hE,by simpa using z0⟩,rfl⟩)))
     ·rw[r]at q
      have q1:(p,y,v)∈C:=q.resolve_left λq=>z0 (by rw[al']at q;exact q);have q2:(x,p,u)∈C:=z.resolve_left z0;refine .of (zF _ (zR.mpr ⟨(x,y,u+v),zF _ ?_,rfl⟩));rw[vH ⟨q2,q1⟩];exact zL.mpr rfl
    ·have:π p=y:=by show (if p=p then _ else _)=y;rw[vH rfl,vJ z]
     rw[this];exact .refl
   ·obtain⟨k1,k2⟩:=eE e r.1
    rw[πn k1,πn k2];rcases q with q|q
    ·exact .of (zH _ (zF _ (zR.mpr ⟨e,zd.mpr ⟨r.1,by simpa using q⟩,rfl⟩)))
    ·exact .of (zF _ (zR.mpr ⟨e,inC e q (λw=>k2 (by rw[w])) (λw=>k1 (by rw[w])),rfl⟩))
  rcases zK.mp ht with ht|ht
  ·rcases zK.mp ht with ht|ht
   ·obtain⟨k1,k2⟩:=tT t ht
    rw[πn k1,πn k2];exact .of (zH _ (zH _ ht))
   ·obtain⟨d,hd,rfl⟩:=zR.mp ht
    obtain⟨d1,d2⟩:=zd.mp hd;exact edge d d1 (.inl ⇑d2)
  ·obtain⟨d,hd,rfl⟩:=zR.mp ht
   exact edge d (c1 d hd) (.inr hd)
 have ml:=lo C0 (λc hc=>by
   rcases zK.mp hc with hc|hc
   ·obtain⟨k1,k2⟩:=zd.mp hc
    exact((fe c).mp (zd.mpr ⟨c1 c k1,k2⟩)).1
   ·split at hc
    ·rw[zL.mp hc];exact hE
    ·simp at hc) λe he=>by
   obtain⟨k1,k2⟩:=eE e he
   by_cases z:e=(x,y,u+v)
   ·have r1:=(c3 _ m1).img π keyL
    have r2:=(c3 _ m2).img π keyL;have r:=r1.trans r2;rw[show π ((x,p,u):Eg).1=x from πn xp,show π ((p,y,v):Eg).2.1=y from πn yp]at r;rw[z];exact r
   ·have r:=(c3 e ((mE e).mpr (.inr (.inr ⟨he,z⟩)))).img π keyL
    rw[πn k1,πn k2]at r;exact r
 have cl:(C0.map YA).sum<=(C.map YA).sum:=by
  show (((C.filter λe=>e != (x,p,u)&&e != (p,y,v))++(if (x,p,u)∈C/\(p,y,v)∈C then [(x,y,u+v)]else [])).map YA).sum<=_;rw[za,yw]
  by_cases z:(x,p,u)∈C/\(p,y,v)∈C
  ·rw[vH z,q1J (q92 ne c2 z.1 z.2)]
   simp only[zU,zk,yX,wX];have key:∀X:Int,X+(u+v+0)<=u+(v+X):=λX=>∅
   exact key _
  ·rw[vJ z,yX,wX,Int.add_zero]
   exact q7N λc hc=>nn c (c1 c hc)
 rw[su];omega
theorem q9C{n x y:Int}(h:x≠y):glN n (x,y)=(y-x)%n:=vJ h
theorem qfK{n x:Int}:glN n (x,x)=n:=vH rfl
theorem qc3{n:Int}{Q Q':List Int}{p q:Int}(hQ:Q.Pairwise (· < ·))(hQ':Q'.Pairwise (· < ·))(hn:InR n Q')(mem:∀z,z∈Q'↔z=p\/z∈Q)(np:p∉Q)(hq:q∈Q):∃x y,Sc n Q x y/\Sc n Q' x p/\Sc n Q' p y/\x≠p/\y≠p/\glN n (x,y)=glN n (x,p)+glN n (p,y) /\
  ∀e:Eg,e∈egs n Q'↔e=(x,p,glN n (x,p))\/e=(p,y,glN n (p,y))\/(e∈egs n Q/\e≠(x,y,glN n (x,p)+glN n (p,y))):=by
 have hp:p∈Q':=(mem p).mpr (.inl rfl);have sub:∀{z},z∈Q->z∈Q':=λh=>(mem _).mpr (.inr h);have hn0:InR n Q:=λz hz=>hn z (sub hz);have neq:∀{z},z∈Q->z≠p:=λh r=>np (r▸h);obtain⟨x,sx⟩:=qeZ hQ' hn hp;obtain⟨y,sy⟩:=q7V hQ' hn hp;have yp:y≠p:=(sy.2.2 q (sub hq) (neq hq)).1;have xp:x≠p:=λr=>by
  have:=sx.2.2 q (sub hq) (by rw[r];exact neq hq);exact this.1 r.symm
 have xQ:x∈Q:=((mem x).mp sx.1).resolve_left xp;have yQ:y∈Q:=((mem y).mp sy.2.1).resolve_left yp;have rx:=hn x sx.1;have ry:=hn y sy.2.1;have rp:=hn p hp;have dpx:=dd rp rx;have dyp:=dd ry rp;have dyx:=dd ry rx;have dxp:=dd rx rp;have gx:glN n (x,p)=(p-x)%n:=q9C xp;have gy:glN n (p,y)=(y-p)%n:=q9C λr=>yp r.symm;have sQ:Sc n Q x y:=⟨xQ,yQ,λz hz ne=>by
  have a:=sx.2.2 z (sub hz) ne;have b:=sy.2.2 z (sub hz) (neq hz);have rz:=hn z (sub hz);have d1:=dd rz rx;have d2:=dd rz rp;have:=neq hz
  constructor
  ·intro r;subst r;omega
  ·omega⟩
 have gl:glN n (x,y)=glN n (x,p)+glN n (p,y):=by
  rw[gx,gy]
  by_cases z:x=y
  ·subst z;rw[qfK];omega
  ·rw[q9C z]
   have a:=sx.2.2 y (sub yQ) λr=>z r.symm;omega
 refine⟨x,y,sQ,sx,sy,xp,yp,gl,λe=>?_⟩;rw[qB hQ' hn,qB hQ hn0];obtain⟨e1,e2,e3⟩:=e
 constructor
 ·rintro⟨s,c⟩
  simp only at s c
  by_cases z:e1=p
  ·subst z
   have:=Sc.uniq hn s sy;subst this;exact .inr (.inl (by rw[c]))
  ·by_cases z':e1=x
   ·subst z'
    have:=Sc.uniq hn s sx;subst this;exact .inl (by rw[c])
   ·have n2:e2≠p:=λr=>by subst r;exact z' (Sc.pre hn s sx)
    refine .inr (.inr ⟨⟨⟨((mem _).mp s.1).resolve_left z,((mem _).mp s.2.1).resolve_left n2,λw hw ne=>s.2.2 w (sub hw) ne⟩,c⟩,λr=>z' (vf Prod.fst r)⟩)
 ·rintro(r|r|⟨⟨s,c⟩,ne⟩)
  ·cases r;exact⟨sx,rfl⟩
  ·cases r;exact⟨sy,rfl⟩
  ·simp only at s c
   have n1:e1≠x:=λr=>by
    subst r;have:=Sc.uniq hn0 s sQ;subst this;exact ne (by rw[c,gl])
   refine⟨⟨sub s.1,sub s.2.1,λw hw nw=>?_⟩,c⟩;rcases (mem w).mp hw with rfl|hw
   ·have a:=s.2.2 x xQ λr=>n1 r.symm
    have b:=sx.2.2 e1 (sub s.1) n1;have r1:=hn e1 (sub s.1);have r2:=hn e2 (sub s.2.1);have d1:=dd r2 r1;have d2:=dd rp r1;have d3:=dd rx r1;have d4:=dd r1 rx;show e2≠e1/\(e2-e1)%n<=(w-e1)%n;refine⟨a.1,?_⟩;have:=a.2;have:=neq s.1;simp only at *;omega
   ·exact s.2.2 w hw nw
theorem q4V{n:Int}{Q:List Int}(hn:InR n Q){x p s g:Int}(h:Sc n Q x p)(hs:s∈Q)(hg:g∈Q)(sp:s≠p)(gp:g≠p):goN n s g p=goN n s g x:=by
 have rx:=hn x h.1;have rp:=hn p h.2.1;have rs:=hn s hs;have rg:=hn g hg;have a:s≠x->p≠x/\(p-x)%n<=(s-x)%n:=h.2.2 s hs;have b:g≠x->p≠x/\(p-x)%n<=(g-x)%n:=h.2.2 g hg;have d1:=dd rp rs;have d2:=dd rx rs;have d3:=dd rg rs;have d4:=dd rp rx;have d5:=dd rs rx;have d6:=dd rg rx;unfold goN;refine decide_eq_decide.mpr ?_
 by_cases z:s=x
 ·by_cases z':g=x
  ·subst z;subst z';omega
  ·have b':=b z';subst z;omega
 ·have a':=a z
  by_cases z':g=x
  ·subst z';omega
  ·have b':=b z';omega
theorem qaZ{n h l:Int}{bs:List (Int×Int×Int)}{Q:List Int}(hn:InR n Q){x p:Int}(sc:Sc n Q x p)(hh:h∈Q/\h≠p)(hl:l∈Q/\l≠p)(hb:∀b∈bs,(b.1∈Q/\b.1≠p)/\(b.2.1∈Q/\b.2.1≠p)):YB n h l bs p=YB n h l bs x:=by
 have r:rts n bs p=rts n bs x:=y9 λb h=>by rw[q4V hn sc (hb b h).1.1 (hb b h).2.1 (hb b h).1.2 (hb b h).2.2]
 have f:lfs n bs p=lfs n bs x:=y9 λb h=>by rw[q4V hn sc (hb b h).2.1 (hb b h).1.1 (hb b h).2.2 (hb b h).1.2]
 unfold YB;rw[r,f,q4V hn sc hh.1 hl.1 hh.2 hl.2]
theorem q6D{Z w w' n c:Int}{h l:Int}{bs:List (Int×Int×Int)}{Q Q':List Int}{p:Int}(hQ:Q.Pairwise (· < ·))(hQ':Q'.Pairwise (· < ·))(n0:0<n)(hn:InR n Q')(mem:∀z,z∈Q'↔z=p\/z∈Q)(hh:h∈Q)(hl:l∈Q)(hb:∀b∈bs,b.1∈Q/\b.2.1∈Q)(v:Wv Z (bs.map two++[(h,l)]) (egs n Q) (λe=>YB n h l bs e.1+c) w)(v':Wv Z (bs.map two++[(h,l)]) (egs n Q') (λe=>YB n h l bs e.1+c) w'):w<=w':=by
 have sub:∀{z},z∈Q->z∈Q':=λh=>(mem _).mpr (.inr h);have hn0:InR n Q:=λz hz=>hn z (sub hz)
 by_cases np:p∈Q
 ·have same:∀z,z∈Q'↔z∈Q:=λz=>⟨λk=>by
   rcases (mem z).mp k with rfl|k
   ·exact np
   ·exact k,sub⟩
  have pm:(egs n Q).Perm ((egs n Q').map id):=by
   rw[wp];refine(yA (q03 hQ n) (q03 hQ' n)).mpr λe=>?_;rw[qB hQ hn0,qB hQ' hn];have:∀x y,Sc n Q x y↔Sc n Q' x y:=λx y=>⟨λ⟨a,b,c⟩=>⟨sub a,sub b,λz hz=>c z ((same z).mp hz)⟩,λ⟨a,b,c⟩=>⟨(same _).mp a,(same _).mp b,λz hz=>c z (sub hz)⟩⟩;rw[this]
  exact q3I v' v id id pm (λ_ _=>rfl) (λ_ _=>rfl) (λ_ _=>.inl rfl) λt ht=>.of ht
 ·obtain⟨x,y,s1,s2,s3,xp,yp,gl,mE⟩:=qc3 hQ hQ' hn mem np hh
  have neq:∀{z},z∈Q->z≠p:=λh r=>np (r▸h);have ls:=qaZ (bs:=bs) hn s2 ⟨sub hh,neq hh⟩ ⟨sub hl,neq hl⟩ λb k=>⟨⟨sub (hb b k).1,neq (hb b k).1⟩,⟨sub (hb b k).2,neq (hb b k).2⟩⟩;refine qbT (x:=x) (y:=y) (p:=p) (u:=glN n (x,p)) (v:=glN n (p,y)) v v' (q03 hQ n) (q03 hQ' n) (q2O n0) ?_ mE xp yp (λe he=>⟨neq (q1i e he).1,neq (q1i e he).2⟩) (λt ht=>?_) rfl ?_
  ·exact(qB hQ hn0).mpr ⟨s1,gl.symm⟩
  ·rcases zK.mp ht with k|k
   ·obtain⟨b,kb,rfl⟩:=zR.mp k
    exact⟨neq (hb b kb).1,neq (hb b kb).2⟩
   ·rw[zL.mp k];exact⟨neq hh,neq hl⟩
  ·show YB n h l bs p+c=YB n h l bs x+c
   rw[ls]
theorem q8u{n:Int}{Q:List Int}(hQ:Q.Pairwise (· < ·))(hn:InR n Q){s g:Int}(hs:s∈Q)(hg:g∈Q){X:List (Int×Int)}(hX:∀e∈egs n Q,goN n s g e.1=true->Rch X e.1 e.2.1):Rch X s g:=by
 have key:∀(k:Nat)(x:Int),x∈Q->((g-x)%n).toNat<=k->(x-s)%n<=(g-s)%n->Rch X x g:=λk=>by
  induction k with
  | zero=>
   intro x hx hk hw;have d:=dd (hn g hg) (hn x hx);have:=hn g hg;have:=hn x hx;have:x=g:=∅
   rw[this];exact .refl
  | succ k ih=>
   intro x hx hk hw
   by_cases z:x=g
   ·rw[z];exact .refl
   ·obtain⟨y,sy⟩:=q7V hQ hn hx
    have a:=sy.2.2 g hg λr=>z r.symm;have rs:=hn s hs;have rg:=hn g hg;have rx:=hn x hx;have ry:=hn y sy.2.1;have d1:=dd rx rs;have d2:=dd rg rs;have d3:=dd rg rx;have d4:=dd ry rx;have d5:=dd ry rs;have d6:=dd rg ry;have go:goN n s g x=true:=vU ∅;have r:=hX (x,y,glN n (x,y)) ((qB hQ hn).mpr ⟨sy,rfl⟩) go;exact r.trans (ih y sy.2.1 ∅ ∅)
 have d:=dd (hn s hs) (hn s hs);have d2:=dd (hn g hg) (hn s hs);have:=hn s hs;have:=hn g hg;exact key _ s hs (zN _) ∅
noncomputable def Yh(N i t:Nat):Nat:=if i+t<N then i+t else i+t-N
noncomputable def XX(N i k:Nat):Nat:=if i<=k then k-i else k+N-i
theorem qdS{P:List Int}(hP:P.Pairwise (· < ·)){n:Int}(hn:∀p∈P,0<=p/\p<n){i j k:Nat}(hi:i<P.length)(hj:j<P.length)(hk:k<P.length):goN n P[i] P[j] P[k]=decide (XX P.length i k<XX P.length i j):=by
 have get:∀{a b:Nat}(ha:a<P.length)(hb:b<P.length),a<b->P[a]<P[b]:=λha hb h=>yJ.mp hP _ _ ha hb h;have cmp:∀{a b:Nat}(ha:a<P.length)(hb:b<P.length),(a<=b->P[a]<=P[b])/\(P[a]<=P[b]->a<=b):=λ{a b} ha hb=>by
  rcases wJ a b with z|z|z
  ·exact⟨λ_=>xh (get ha hb z),λ_=>yK z⟩
  ·subst z;exact⟨λ_=>yM _,λ_=>zN _⟩
  ·have:=get hb ha z
   exact⟨λ_=>∅,λ_=>∅⟩
 have mi:=hn _ (ze hi);have mj:=hn _ (ze hj);have mk:=hn _ (ze hk);have c1:=cmp hi hk;have c2:=cmp hi hj;have c3:=cmp hj hk;unfold goN XX;rw[q0x mk mi,q0x mj mi];refine decide_eq_decide.mpr ?_
 by_cases z1:i<=k
 ·rw[vH z1,vH (c1.1 z1)]
  by_cases z2:i<=j
  ·rw[vH z2,vH (c2.1 z2)]
   constructor
   ·intro h
    have:¬j<=k:=λy=>by have:=c3.1 y;omega
    omega
   ·intro h
    have:¬P[j]<=P[k]:=λy=>by have:=c3.2 y;omega
    omega
  ·rw[vJ z2,vJ λy=>z2 (c2.2 y)]
   exact⟨λ_=>∅,λ_=>∅⟩
 ·rw[vJ z1,vJ λy=>z1 (c1.2 y)]
  by_cases z2:i<=j
  ·rw[vH z2,vH (c2.1 z2)]
   exact⟨λh=>∅,λh=>∅⟩
  ·rw[vJ z2,vJ λy=>z2 (c2.2 y)]
   constructor
   ·intro h
    have:¬j<=k:=λy=>by have:=c3.1 y;omega
    omega
   ·intro h
    have:¬P[j]<=P[k]:=λy=>by have:=c3.2 y;omega
    omega
noncomputable def wlk(N i d:Nat):List Int:=(yB d).map λt=>((Yh N i t:Nat):Int)
theorem qdj{N i j k:Nat}(hi:i<N)(hj:j<N)(hk:k<N):(k:Int)∈wlk N i (XX N i j)↔XX N i k<XX N i j:=by
 unfold wlk;rw[zR]
 constructor
 ·rintro⟨t,ht,e⟩
  have ht:=yF.mp ht;have e:Yh N i t=k:=∅
  have:XX N i k=t:=by
   have hd:XX N i j<N:=by unfold XX;split <;> omega
   unfold Yh at e;unfold XX
   split at e <;> split <;> omega
  omega
 ·intro h
  refine⟨XX N i k,yF.mpr h,?_⟩;have:Yh N i (XX N i k)=k:=by
   unfold Yh XX
   split <;> split <;> omega
  rw[this]
theorem qfo{N i d:Nat}(hi:i<N)(hd:d<N):(wlk N i d).Nodup:=by
 unfold wlk;rw[List.nodup_iff_pairwise_ne,xI];refine xV (R:=λa b=>a<b) (λ{a b} ha hb h e=>?_) xa;have ha:=yF.mp ha;have hb:=yF.mp hb;have e:Yh N i a=Yh N i b:=∅
 unfold Yh at e
 split at e <;> split at e <;> omega
theorem qeg{N i d:Nat}(hi:i<N)(hd:d<N):∀k∈wlk N i d,0<=k/\k<(N:Int):=λk hk=>by
 obtain⟨t,ht,rfl⟩:=zR.mp hk;have ht:=yF.mp ht;have:Yh N i t<N:=by unfold Yh;split <;> omega
 omega
noncomputable def lgN(n:Int)(P:List Int)(k:Nat):Int:=if k+1<P.length then P.getD (k+1) 0-P.getD k 0 else n-P.getD k 0+P.getD 0 0
theorem q8s{N i t:Nat}(hi:i<N)(ht:t<N):Yh N i t<N:=by unfold Yh;split <;> omega
theorem qbH{N i j:Nat}(hi:i<N)(hj:j<N):Yh N i (XX N i j)=j:=by unfold Yh XX;split <;> split <;> omega
theorem qba{N i t:Nat}(hi:i<N)(ht:t+1<N):Yh N i (t+1)=if Yh N i t+1<N then Yh N i t+1 else 0:=by
 unfold Yh;split <;> split <;> split <;> omega
theorem qbA{P:List Int}(hP:P.Pairwise (· < ·)){n:Int}(hn:∀p∈P,0<=p/\p<n){i t:Nat}(hi:i<P.length)(ht:t+1<P.length):
  (P.getD (Yh P.length i (t+1)) 0-P.getD i 0)%n=(P.getD (Yh P.length i t) 0-P.getD i 0)%n+lgN n P (Yh P.length i t):=by
 have h1:=q8s (t:=t) hi ∅;have h2:=q8s hi ht;have nx:=qba hi ht;have up:∀{a b:Nat}(ha:a<P.length)(hb:b<P.length),a<b->P[a]<P[b]:=λha hb h=>yJ.mp hP _ _ ha hb h;have b0:=hn _ (ze (∅:0<P.length));have bi:=hn _ (ze hi);have b1:=hn _ (ze h1);have b2:=hn _ (ze h2);unfold lgN;rw[qj hi,qj h1,qj h2,q0x b2 bi,q0x b1 bi];have ord:∀{a b:Nat}(ha:a<P.length)(hb:b<P.length),P[a]<=P[b]↔a<=b:=λ{a b} ha hb=>by
  rcases wJ a b with z|z|z
  ·have:=up ha hb z;exact⟨λ_=>∅,λ_=>∅⟩
  ·subst z;exact⟨λ_=>zN _,λ_=>yM _⟩
  ·have:=up hb ha z;exact⟨λ_=>∅,λ_=>∅⟩
 have o1:=ord hi h1;have o2:=ord hi h2
 by_cases z:Yh P.length i t+1<P.length
 ·rw[vH z]at nx
  rw[vH z];have e:P[Yh P.length i (t+1)]=P.getD (Yh P.length i t+1) 0:=by rw[qj z];congr 1
  rw[<- e];have ne:¬i=Yh P.length i t+1:=λq=>by
   have:Yh P.length i (t+1)=i:=by rw[nx];exact q.symm
   unfold Yh at this;split at this <;> omega
  have c:i<=Yh P.length i (t+1)↔i<=Yh P.length i t:=by rw[nx];omega
  by_cases y:i<=Yh P.length i t
  ·rw[vH (o2.mpr (c.mpr y)),vH (o1.mpr y)];omega
  ·rw[vJ (λq=>y (c.mp (o2.mp q))),vJ (λq=>y (o1.mp q))];omega
 ·rw[vJ z]at nx
  rw[vJ z];have e:P[Yh P.length i (t+1)]=P.getD 0 0:=by rw[qj (∅:0<P.length)];congr 1
  have y1:i<=Yh P.length i t:=∅
  have y2:¬i<=Yh P.length i (t+1):=λq=>by
   have z0:i=0:=∅
   subst z0;unfold Yh at nx;split at nx <;> omega
  rw[vJ (λq=>y2 (o2.mp q)),vH (o1.mpr y1),<- e];omega
theorem q8L{P:List Int}(hP:P.Pairwise (· < ·)){n:Int}(hn:∀p∈P,0<=p/\p<n){i:Nat}(hi:i<P.length):∀{d:Nat},d<P.length ->
  (P.getD (Yh P.length i d) 0-P.getD i 0)%n=((yB d).map λt=>lgN n P (Yh P.length i t)).sum
 | 0,_=>by
  have:Yh P.length i 0=i:=by unfold Yh;rw[vH ∅];rfl
  rw[this,Int.sub_self];simp
 | d+1,hd=>by
  rw[qbA hP hn hi hd,q8L hP hn hi ∅,List.range_succ,za,yw];simp
theorem q9V{l m:List Int}(p:l.Perm m):l.sum=m.sum:=by
 induction p with
 | nil=>rfl
 | cons x _ ih=>rw[zk,zk,ih]
 | swap x y l=>rw[zk,zk,zk,zk];omega
 | trans _ _ a b=>exact a.trans b
theorem qck{f:Int->Int}:∀{l:List Int}{m:List Int},l.Nodup->m.Nodup->(∀x∈m,x∈l)->(m.map f).sum=(l.map λx=>if x∈m then f x else 0).sum:=λ{l m} nl nm h=>by
 have p:m.Perm (l.filter λx=>decide (x∈m)):=by
  refine(yA nm (nl.filter _)).mpr λx=>?_;rw[zd];exact⟨λq=>⟨h x q,by simpa using q⟩,λq=>by simpa using q.2⟩
 have s:∀(l:List Int),((l.filter λx=>decide (x∈m)).map f).sum=(l.map λx=>if x∈m then f x else 0).sum:=λl=>by
  induction l with
  | nil=>rfl
  | cons a l ih=>
   rw[yC,zU,zk,<- ih]
   by_cases z:a∈m
   ·rw[vH ⇑z,vH z,zU,zk]
   ·rw[vJ ⇑z,vJ z,wW]
 rw[<- s l];exact q9V (p.map f)
theorem qdi{P:List Int}(hP:P.Pairwise (· < ·)){n:Int}(hn:∀p∈P,0<=p/\p<n){s g:Int}(hs:s∈P)(hg:g∈P):
  (g-s)%n=((yB P.length).map λk=>if goN n s g (P.getD k 0)=true then lgN n P k else 0).sum:=by
 obtain⟨i,hi,rfl⟩:=zm.mp hs;obtain⟨j,hj,rfl⟩:=zm.mp hg;have hd:XX P.length i j<P.length:=by unfold XX;split <;> omega
 have a:=q8L hP hn hi hd;rw[qbH hi hj,qj hi,qj hj]at a;rw[a];have b:=qck (f:=λx=>lgN n P x.toNat) (l:=(yB P.length).map λk:Nat=>(k:Int)) (m:=wlk P.length i (XX P.length i j)) (xI.mpr (List.nodup_range.imp λh q=>h ∅)) (qfo hi hd) (λx hx=>by
  have:=qeg hi hd x hx;exact zR.mpr ⟨x.toNat,yF.mpr ∅,∅⟩)
 rw[zp]at b;unfold wlk at b;rw[zp]at b;refine(show _=_ from b).trans ?_
 congr 1
 refine yI λk hk=>?_;have hk':=yF.mp hk;have m:=qdj hi hj hk';unfold wlk at m;rw[qj hk',qdS hP hn hi hj hk'];show (if (k:Int)∈_ then lgN n P k else 0)=_
 by_cases z:XX P.length i k<XX P.length i j
 ·rw[vH (m.mpr z),vH ⇑z]
 ·rw[vJ λq=>z (m.mp q),vJ ⇑z]
theorem qfE{P:List Int}(hP:P.Pairwise (· < ·)){n:Int}(hn:∀p∈P,0<=p/\p<n){k:Nat}(hk:k<P.length):
  glN n (P.getD k 0,P.getD (if k+1<P.length then k+1 else 0) 0)=lgN n P k:=by
 have up:∀{a b:Nat}(ha:a<P.length)(hb:b<P.length),a<b->P[a]<P[b]:=λha hb h=>yJ.mp hP _ _ ha hb h;have b0:=hn _ (ze (∅:0<P.length));have bk:=hn _ (ze hk);unfold glN lgN
 by_cases z:k+1<P.length
 ·have u:=up hk z ∅
  have b1:=hn _ (ze z);rw[vH z,vH z,qj hk,qj z,vJ (show ¬P[k]=P[k+1] by omega),q0x b1 bk,vH ∅]
 ·rw[vJ z,vJ z,qj hk,qj (∅:0<P.length)]
  by_cases y:k=0
  ·subst y
   show (if P[0]=P[0]then n else _)=_;rw[vH rfl];omega
  ·have u:=up (∅:0<P.length) hk ∅
   show (if P[k]=P[0]then n else (P[0]-P[k])%n)=_;rw[vJ ∅,q0x b0 bk,vJ ∅];omega
theorem qeW{P:List Int}(hP:P.Pairwise (· < ·)){n:Int}(hn:∀p∈P,0<=p/\p<n):egs n P=(yB P.length).map λk=>(P.getD k 0,P.getD (nxN P.length k) 0,lgN n P k):=by
 unfold egs;rw[q7j,zp];refine yI λk hk=>?_;have:=qfE hP hn (yF.mp hk);show ((P.getD k 0,P.getD (nxN P.length k) 0,glN n (P.getD k 0,P.getD (nxN P.length k) 0)):Eg)=_;unfold nxN;rw[this]
theorem q6M{α β γ:Type}(f:α->β)(g:α->γ):∀l:List α,(l.map f).zip (l.map g)=l.map λa=>(f a,g a)
 | []=>rfl
 | a::l=>by rw[zU,zU,List.zip_cons_cons,q6M f g l];rfl
theorem q6o{α:Type}{f g:α->Int}:∀{l:List α},(∀x∈l,f x<=g x)->(l.map f).sum<=(l.map g).sum
 | [],_=>yM _
 | x::l,h=>by
  rw[zU,zU,zk,zk];have:=h x zI;have:=q6o (l:=l) λy hy=>h y (zJ _ hy);omega
theorem q6F{α:Type}{f:α->Int}{q:α->Bool}:∀(l:List α),((l.filter q).map f).sum=(l.map λx=>if q x=true then f x else 0).sum
 | []=>rfl
 | x::l=>by
  rw[yC,zU,zk,<- q6F l]
  by_cases z:q x=true
  ·rw[vH z,vH z,zU,zk]
  ·rw[vJ z,vJ z,wW]
theorem q82{Z Zb w w':Int}{T:List (Int×Int)}{t0:Int×Int}{E:List Eg}{a a':Eg->Int}(v:Wv Z T E a w)(v':Wv (Zb+Z) (t0::T) E a' w')(nn:∀e∈E,0<=YA e)(δ:Eg->Bool)(hz:Zb=(E.map λe=>if δ e=true then YA e else 0).sum)(ha:∀e∈E,(δ e=false->a' e=a e)/\(δ e=true->a' e=a e+1\/a' e=a e-1))(way:∀X,(∀e∈E,δ e=true->Rch X e.1 e.2.1)->Rch X t0.1 t0.2):w<=w':=by
 obtain⟨m,⟨_,lo⟩,rfl⟩:=v;obtain⟨m',⟨⟨C,c1,_,c3,c4⟩,_⟩,rfl⟩:=v';have inY:∀{e},e∈E->δ e=true\/a e≠0->Rch (T++(E.filter λe=>a e != 0).map Yb++(C++E.filter λe=>δ e&&a e==0).map Yb) e.1 e.2.1:=λ{e} he q=>by
  by_cases z:a e=0
  ·refine .of (zF _ (zR.mpr ⟨e,zF _ (zd.mpr ⟨he,?_⟩),rfl⟩))
   rw[q.resolve_right λr=>r z,z];rfl
  ·exact .of (zH _ (zF _ (zR.mpr ⟨e,zd.mpr ⟨he,by simpa using z⟩,rfl⟩)))
 have ml:=lo (C++E.filter λe=>δ e&&a e==0) (λc hc=>by
  rcases zK.mp hc with k|k
  ·exact c1 c k
  ·exact(zd.mp k).1) λe he=>(c3 e he).sub λt ht=>by
   rcases zK.mp ht with ht|ht
   ·rcases zK.mp ht with ht|ht
    ·rcases zE.mp ht with rfl|ht
     ·exact way _ λe he q=>inY he (.inl q)
     ·exact .of (zH _ (zH _ ht))
    ·obtain⟨d,hd,rfl⟩:=zR.mp ht
     obtain⟨d1,d2⟩:=zd.mp hd;refine inY d1 ?_;cases q:δ d with
     | true=>exact .inl rfl
     | false=>rw[(ha d d1).1 q]at d2;exact .inr ⇑d2
   ·obtain⟨d,hd,rfl⟩:=zR.mp ht
    exact .of (zF _ (zR.mpr ⟨d,zH _ hd,rfl⟩))
 rw[za,yw,q6F]at ml;have s1:=q6o (l:=E) (f:=λe=>YA e*YY (a e)+((if (δ e&&a e==0)=true then YA e else 0)+(if (δ e&&a e==0)=true then YA e else 0))) (g:=λe=>YA e*YY (a' e)+(if δ e=true then YA e else 0)) λe he=>by
  have n0:=nn e he;obtain⟨h1,h2⟩:=ha e he;cases q:δ e with
  | false=>rw[h1 q];simp
  | true=>
   by_cases z:a e=0
   ·have e1:YY (a' e)=1:=by
     rcases h2 q with r|r <;> rw[r,z] <;> rfl
    have e0:YY (a e)=0:=by rw[z];rfl
    simp only[z,e1,ZF,BEq.rfl,if_true];rw[show YY 0=0 from rfl];omega
   ·have z':(true&&a e==0)=false:=by simpa using z
    have le:YY (a e)<=YY (a' e)+1:=by
     unfold YY;rcases h2 q with r|r <;> rw[r] <;> split <;> split <;> omega
    have:=xq le n0;rw[Int.mul_add,xX]at this;simp only[z',zy,if_false,if_true];omega
 rw[q3G,q3G,q3G,<- hz]at s1;omega
theorem q5E{n h l x:Int}{bs:List (Int×Int×Int)}{b:Int×Int×Int}(hw:b.2.2=1\/b.2.2=-1):YB n h l (b::bs) x=YB n h l bs x+(if b.2.2=1 then (if goN n b.1 b.2.1 x=true then -1 else 0)else (if goN n b.2.1 b.1 x=true then 1 else 0)):=by
 unfold YB rts lfs;rw[yC,yC];rcases hw with w|w
 ·have e1:(b.2.2==1&&goN n b.1 b.2.1 x)=goN n b.1 b.2.1 x:=by rw[w];rfl
  have e2:(b.2.2 == -1&&goN n b.2.1 b.1 x)=false:=by rw[w];rfl
  rw[e1,e2,vH w];cases goN n b.1 b.2.1 x
  ·simp
  ·simp only[if_true,zM,zy,if_false];omega
 ·have e1:(b.2.2==1&&goN n b.1 b.2.1 x)=false:=by rw[w];rfl
  have e2:(b.2.2 == -1&&goN n b.2.1 b.1 x)=goN n b.2.1 b.1 x:=by rw[w];rfl
  rw[e1,e2,vJ (show ¬b.2.2=1 by rw[w];decide)];cases goN n b.2.1 b.1 x
  ·simp
  ·simp only[if_true,zM,zy,if_false];omega
theorem q6Y{P:List Int}(hP:P.Pairwise (· < ·)){n:Int}(hn:InR n P){s g:Int}(hs:s∈P)(hg:g∈P):(g-s)%n=((egs n P).map λe=>if goN n s g e.1=true then YA e else 0).sum:=by
 rw[qdi hP hn hs hg,qeW hP hn,zp];rfl
theorem qeG{Z w w' n c h l:Int}{bs:List (Int×Int×Int)}{b:Int×Int×Int}{Q:List Int}(hQ:Q.Pairwise (· < ·))(n0:0<n)(hn:InR n Q)(h1:b.1∈Q)(h2:b.2.1∈Q)(hw:b.2.2=1\/b.2.2=-1)(v:Wv Z (bs.map two++[(h,l)]) (egs n Q) (λe=>YB n h l bs e.1+c) w)(v':Wv (stN n b+Z) ((b::bs).map two++[(h,l)]) (egs n Q) (λe=>YB n h l (b::bs) e.1+c) w'):w<=w':=by
 rcases id hw with q|q
 ·have e:stN n b=(b.2.1-b.1)%n:=by unfold stN;rw[q,xX]
  refine q82 v (t0:=two b) v' (q2O n0) (λe=>goN n b.1 b.2.1 e.1) (e.trans (q6Y hQ hn h1 h2)) (λe _=>?_) λX hX=>q8u hQ hn h1 h2 hX;show (goN n b.1 b.2.1 e.1=false->YB n h l (b::bs) e.1+c=YB n h l bs e.1+c)/\(goN n b.1 b.2.1 e.1=true->YB n h l (b::bs) e.1+c=YB n h l bs e.1+c+1\/YB n h l (b::bs) e.1+c=YB n h l bs e.1+c-1);rw[q5E hw,vH q];exact⟨λk=>by rw[k];simp,λk=>by rw[k];right;simp only[if_true];omega⟩
 ·have e:stN n b=(b.1-b.2.1)%n:=by unfold stN;rw[q];congr 1;omega
  refine q82 v (t0:=two b) v' (q2O n0) (λe=>goN n b.2.1 b.1 e.1) (e.trans (q6Y hQ hn h2 h1)) (λe _=>?_) λX hX=>(q8u hQ hn h2 h1 hX).symm;show (goN n b.2.1 b.1 e.1=false->YB n h l (b::bs) e.1+c=YB n h l bs e.1+c)/\(goN n b.2.1 b.1 e.1=true->YB n h l (b::bs) e.1+c=YB n h l bs e.1+c+1\/YB n h l (b::bs) e.1+c=YB n h l bs e.1+c-1);rw[q5E hw,vJ (by rw[q];decide)];exact⟨λk=>by rw[k];simp,λk=>by rw[k];left;simp only[if_true];omega⟩
noncomputable def St(h l:Int)(bs:List (Int×Int×Int)):List Int:=YL (plc h l (bs.map two))
def WR(n h l:Int)(bs:List (Int×Int×Int))(c w:Int):Prop:=Wv (bs.map (stN n)).sum (bs.map two++[(h,l)]) (egs n (St h l bs)) (λe=>YB n h l bs e.1+c) w
structure RgO (n h l:Int) (bs:List (Int×Int×Int)):Prop where
 n1:1<=n
 n9:n<=10^39
 hh:0<=h/\h<n
 hl:0<=l/\l<n
 lb:bs.length<=20
 hb:∀b∈bs,(0<=b.1/\b.1<n)/\(0<=b.2.1/\b.2.1<n)/\(b.2.2=1\/b.2.2=-1)
theorem qx{x h l:Int}{bs:List (Int×Int×Int)}:x∈St h l bs↔x=h\/x=l\/∃b∈bs,x=b.1\/x=b.2.1:=by
 unfold St;rw[q1k];unfold plc;rw[zE,zE];refine or_congr_right (or_congr_right ⟨qe5,?_⟩);rintro⟨b,hb,rfl|rfl⟩
 ·exact(q7M hb).1
 ·exact(q7M hb).2
section
variable{n h l:Int}{bs:List (Int×Int×Int)}(O:RgO n h l bs)
include O
theorem RgO.up:(St h l bs).Pairwise (· < ·):=q0i
theorem RgO.inr:InR n (St h l bs):=λp hp=>by
 rcases qx.mp hp with rfl|rfl|⟨b,hb,rfl|rfl⟩
 ·exact O.hh
 ·exact O.hl
 ·exact(O.hb b hb).1
 ·exact(O.hb b hb).2.1
theorem RgO.len:(St h l bs).length<64:=by
 have a:(YL (plc h l (bs.map two))).length<=(plc h l (bs.map two)).length:=q0B _;have b:(plc h l (bs.map two)).length=2*bs.length+2:=by show (flat (bs.map two)).length+1+1=_;rw[q23,zB]
 have:=O.lb;show (YL (plc h l (bs.map two))).length<64;omega
theorem RgO.bin:∀b∈bs,b.1∈St h l bs/\b.2.1∈St h l bs:=λb hb=>⟨qx.mpr (.inr (.inr ⟨b,hb,.inl rfl⟩)),qx.mpr (.inr (.inr ⟨b,hb,.inr rfl⟩))⟩
end
theorem zipE{P:List Int}{n:Int}(F:Int->Int):(egs n P).zip (P.map F)=(egs n P).map λe=>(e,F e.1):=by
 have e:P.map F=(egs n P).map λe=>F e.1:=by
  conv=>lhs;rw[<- q0m n P]
  rw[zp];rfl
 have z:=q6M (λe:Eg=>e) (λe=>F e.1) (egs n P);rw[Zc]at z;rw[e,z]
theorem qfB{P:List Int}{n:Int}(F:Int->Int):lkT (egs n P) (P.map F)=((egs n P).filter λe=>F e.1 != 0).map Yb:=by
 unfold lkT;rw[zipE,yx,zp];rfl
theorem qfM{P:List Int}{n:Int}(F:Int->Int)(K:List Eg):ewN (egs n P) (P.map F) K=((egs n P).map λe=>YA e*YY (F e.1)).sum+2*(K.map YA).sum:=by
 unfold ewN;rw[zipE,zp];rfl
theorem ok_Q{n h l:Int}{bs:List (Int×Int×Int)}{Q:List Int}(hQ:Q.Pairwise (· < ·))(hl:Q.length<64)(lb:bs.length<=20)(mh:h∈Q)(ml:l∈Q)(mb:∀b∈bs,b.1∈Q/\b.2.1∈Q)(c:Int):Ok Q (bs.map two++[(h,l)]++((egs n Q).filter λe=>YB n h l bs e.1+c != 0).map Yb):=by
 have el:(egs n Q).length=Q.length:=by have:=vf yi (q0m n Q);rwa [zB]at this
 refine⟨hQ.imp λq=>∅,λe m=>?_,hl,?_⟩
 ·rcases zK.mp m with m|m
  ·rcases zK.mp m with m|m
   ·obtain⟨b,hb',rfl⟩:=zR.mp m
    exact mb b hb'
   ·rw[zL.mp m];exact⟨mh,ml⟩
  ·obtain⟨q,hq,rfl⟩:=zR.mp m
   exact q1i q (zd.mp hq).1
 ·have a:=xH (λe:Eg=>YB n h l bs e.1+c != 0) (egs n Q)
  rw[zG,zG,zB,zB];show bs.length+1+_<=1000;omega
theorem qcF{Z n h l:Int}{bs:List (Int×Int×Int)}{Q:List Int}(n0:0<n)(hQ:Q.Pairwise (· < ·))(hl:Q.length<64)(lb:bs.length<=20)(mh:h∈Q)(ml:l∈Q)(mb:∀b∈bs,b.1∈Q/\b.2.1∈Q)(c:Int):∃w,Wv Z (bs.map two++[(h,l)]) (egs n Q) (λe=>YB n h l bs e.1+c) w:=by
 have ok:=ok_Q (n:=n) hQ hl lb mh ml mb c;obtain⟨_,_,f,_,_,_,_,_,hf⟩:=q4l ok;exact⟨_,_,q8t (q03 hQ n) hf ok.inn q1i (q2O n0),rfl⟩
section
variable{n h l:Int}{bs:List (Int×Int×Int)}(O:RgO n h l bs)
include O
theorem RgO.ok(c:Int):Ok (St h l bs) (bs.map two++[(h,l)]++((egs n (St h l bs)).filter λe=>YB n h l bs e.1+c != 0).map Yb):=ok_Q O.up O.len O.lb (qx.mpr (.inl rfl)) (qx.mpr (.inr (.inl rfl))) O.bin c
theorem RgO.wv(c:Int){f:Int->Int}(hf:Tells (St h l bs) (bs.map two++[(h,l)]++((egs n (St h l bs)).filter λe=>YB n h l bs e.1+c != 0).map Yb) f):
  WR n h l bs c ((bs.map (stN n)).sum+(((egs n (St h l bs)).map λe=>YA e*YY (YB n h l bs e.1+c)).sum+2*((Yy f (YJ YA (egs n (St h l bs)))).2.map YA).sum)) :=
 ⟨_,q8t (q03 O.up n) hf (O.ok c).inn q1i (q2O (by have:=O.n1;omega)),(Int.add_assoc _ _ _).symm⟩
theorem RgO.ex(c:Int):∃w,WR n h l bs c w:=by
 obtain⟨_,_,f,_,_,_,_,_,hf⟩:=q4l (O.ok c);exact⟨_,O.wv c hf⟩
theorem RgO.weight(c:Int)(hc:-200<=c/\c<=200):∃w,qv [.int h,.int l,.lst (bs.map tri),.lst ((egs n (St h l bs)).map egD),.lst ((St h l bs).map λx=>D.int (YB n h l bs x+c))]=↥(.int w)/\WR n h l bs c ((bs.map (stN n)).sum+w):=by
 have el:(egs n (St h l bs)).length=(St h l bs).length:=by have:=vf yi (q0m n (St h l bs));rwa [zB]at this
 have k:=O.ok c;have lk:=qfB (P:=St h l bs) (n:=n) λx=>YB n h l bs x+c;rw[<- lk]at k;rw[<- q0m n (St h l bs)]at k;rw[q0m n (St h l bs)]at k;obtain⟨f,f1,f2⟩:=q9e (es:=egs n (St h l bs)) (ls:=(St h l bs).map λx=>YB n h l bs x+c) O.lb (by rw[el];exact O.len) (λx hx=>by
  obtain⟨y,_,rfl⟩:=zR.mp hx;have:=q4U (n:=n) (h:=h) (l:=l) (x:=y) O.lb;omega) (by rw[q0m];exact k) (λe m=>by rw[q0m];exact q1i e m)
 rw[q0m,lk]at f1;rw[zp,qfM]at f2;exact⟨_,f2,O.wv c f1⟩
end
theorem q9D{Z w w':Int}{T:List (Int×Int)}{E:List Eg}{a a':Eg->Int}(v:Wv Z T E a w)(v':Wv Z T E a' w')(nn:∀e∈E,0<=YA e)(h0:∀e∈E,a e≠0)(hl:∀e∈E,YY (a e)<=YY (a' e)):w<=w':=by
 obtain⟨m,⟨_,lo⟩,rfl⟩:=v;obtain⟨m',⟨⟨C,c1,_,_,c4⟩,_⟩,rfl⟩:=v';have ml:=lo [] (by simp) λe he=>.of (zH _ (zF _ (zR.mpr ⟨e,zd.mpr ⟨he,by simpa using h0 e he⟩,rfl⟩)));rw[yX,wX]at ml;have m0:=q59 λc hc=>nn c (c1 c hc);have su:=q6o (l:=E) (f:=λe=>YA e*YY (a e)) (g:=λe=>YA e*YY (a' e)) λe he=>xq (hl e he) (nn e he);omega
theorem qdV{Z w w':Int}{T:List (Int×Int)}{E:List Eg}{a:Eg->Int}(v:Wv Z T E a w)(v':Wv Z T E a w'):w<=w':=q3I v' v id id (by rw[wp]) (λ_ _=>rfl) (λ_ _=>rfl) (λ_ _=>.inl rfl) λt ht=>.of ht
theorem q0Q{n h l:Int}{bs:List (Int×Int×Int)}(O:RgO n h l bs):∃R,qo [.int n,.int h,.int l,.lst (bs.map tri)]=↥(.int R)/\(∃c,WR n h l bs c R)/\∀c w,WR n h l bs c w->R<=w:=by
 have key:∀c:Int,∃w,-200<=c->c<=200->qv [.int h,.int l,.lst (bs.map tri),.lst ((egs n (St h l bs)).map egD),.lst ((St h l bs).map λx=>D.int (YB n h l bs x+c))]=↥(.int w)/\WR n h l bs c ((bs.map (stN n)).sum+w):=λc=>by
  by_cases hc:-200<=c/\c<=200
  ·obtain⟨w,h1,h2⟩:=O.weight c hc
   exact⟨w,λ_ _=>⟨h1,h2⟩⟩
  ·exact⟨0,λa b=>vM ⟨a,b⟩ hc⟩
 obtain⟨W,hW⟩:∃W:Int->Int,∀c:Int,-200<=c->c<=200->qv [.int h,.int l,.lst (bs.map tri),.lst ((egs n (St h l bs)).map egD),.lst ((St h l bs).map λx=>D.int (YB n h l bs x+c))]=↥(.int (W c))/\WR n h l bs c ((bs.map (stN n)).sum+W c):=⟨λc=>(key c).choose,λc=>(key c).choose_spec⟩;have TU:=qbv O.n1 O.n9 O.hh O.hl O.lb O.hb (P:=St h l bs) rfl (w:=W) λc h1 h2=>(hW c h1 h2).1;have hm:h∈St h l bs:=qx.mpr (.inl rfl);generalize hB:(St h l bs).map (YB n h l bs)=B at TU;have B0:B≠[]:=λe=>by rw[<- hB]at e;rw[xT.mp e]at hm;simp at hm
 have Bb:∀b∈B,-21<=b/\b<=21:=λb hb'=>by
  rw[<- hB]at hb';obtain⟨x,_,rfl⟩:=zR.mp hb';exact q4U O.lb
 obtain⟨r1,r2,r3,r4⟩:=rngT B0 Bb;have k0:yB (nT B)≠[]:=λe=>by have:=vf yi e;rw[z7]at this;exact vM this (by show ¬nT B=0;omega)
 have RL:=qas (f:=λk:Nat=>loT B+(k:Int)) k0 (by rw[z7];omega) TU;obtain⟨q1,q2⟩:=q1C (ns:=(yB (nT B)).map λk:Nat=>(bs.map (stN n)).sum+W (loT B+(k:Int))) λe=>k0 (xT.mp e);refine⟨_,RL,?_,λc w v=>?_⟩
 ·obtain⟨k,hk,e⟩:=zR.mp q1
  have hk:=yF.mp hk;rw[<- e];exact⟨_,(hW _ ∅ ∅).2⟩
 ·have mx:=(q2L B0)
  have mn:=(q1C B0);have ends:loT B+(nT B:Int)=2-XH B:=by
   have:=mx.2 _ mn.1;unfold nT loT;omega
  have inB:∀e∈egs n (St h l bs),YB n h l bs e.1∈B:=λe he=>by rw[<- hB];exact zg (q1i e he).1
  have nn:=q2O (P:=St h l bs) (n:=n) (by have:=O.n1;omega);have step:∀c0,loT B<=c0->c0<2-XH B->(bs.map (stN n)).sum+W c0<=w->XH ((yB (nT B)).map λk:Nat=>(bs.map (stN n)).sum+W (loT B+(k:Int)))<=w:=λc0 a b k=>by
   refine xP (q2 _ (zR.mpr ⟨(c0-loT B).toNat,yF.mpr ∅,rfl⟩)) ?_;rw[show loT B+((c0-loT B).toNat:Int)=c0 by omega];exact k
  by_cases z1:c<loT B
  ·refine step (loT B) (yM _) ∅ (q9D (hW _ ∅ ∅).2 v nn (λe he=>?_) λe he=>?_)
   ·have:=mx.2 _ (inB e he)
    show YB n h l bs e.1+loT B≠0;unfold loT;omega
   ·have:=mx.2 _ (inB e he)
    show YY (YB n h l bs e.1+loT B)<=YY (YB n h l bs e.1+c);unfold loT at z1 ⊢;unfold YY;rw[vH ∅,vH ∅];omega
  ·by_cases z2:c<2-XH B
   ·exact step c ∅ z2 (qdV (hW _ ∅ ∅).2 v)
   ·refine step (1-XH B) ∅ ∅ (q9D (hW _ ∅ ∅).2 v nn (λe he=>?_) λe he=>?_)
    ·have:=mn.2 _ (inB e he)
     show YB n h l bs e.1+(1-XH B)≠0;omega
    ·have:=mn.2 _ (inB e he)
     show YY (YB n h l bs e.1+(1-XH B))<=YY (YB n h l bs e.1+c);unfold YY;rw[vJ ∅,vJ ∅];omega
theorem q70{n:Int}{Q Q':List Int}(hQ:Q.Pairwise (· < ·))(hQ':Q'.Pairwise (· < ·))(hn:InR n Q)(same:∀z,z∈Q'↔z∈Q):(egs n Q').Perm (egs n Q):=by
 have hn':InR n Q':=λz hz=>hn z ((same z).mp hz);refine(yA (q03 hQ' n) (q03 hQ n)).mpr λe=>?_;rw[qB hQ hn,qB hQ' hn'];have:∀x y,Sc n Q' x y↔Sc n Q x y:=λx y=>⟨λ⟨a,b,c⟩=>⟨(same _).mp a,(same _).mp b,λz hz=>c z ((same z).mpr hz)⟩,λ⟨a,b,c⟩=>⟨(same _).mpr a,(same _).mpr b,λz hz=>c z ((same z).mp hz)⟩⟩;rw[this]
theorem q0G{n h l n' h' l' R R':Int}{bs bs':List (Int×Int×Int)}(γ:Int->Int)(ex:∃c,WR n h l bs c R)(lo:∀c w,WR n' h' l' bs' c w->R'<=w)(O':RgO n' h' l' bs')(tr:∀c w w',WR n h l bs c w->WR n' h' l' bs' (γ c) w'->w'<=w):R'<=R:=by
 obtain⟨c,v⟩:=ex;obtain⟨w',v'⟩:=O'.ex (γ c);exact xP (lo _ _ v') (tr c _ _ v v')
noncomputable def bxR(ρ:Int->Int)(σ:Int)(b:Int×Int×Int):Int×Int×Int:=(ρ b.1,ρ b.2.1,σ*b.2.2)
theorem qQ{ρ:Int->Int}{σ h l x:Int}{bs:List (Int×Int×Int)}:x∈St (ρ h) (ρ l) (bs.map (bxR ρ σ))↔∃y∈St h l bs,x=ρ y:=by
 rw[qx]
 constructor
 ·rintro(rfl|rfl|⟨b,hb,q⟩)
  ·exact⟨h,qx.mpr (.inl rfl),rfl⟩
  ·exact⟨l,qx.mpr (.inr (.inl rfl)),rfl⟩
  ·obtain⟨d,hd,rfl⟩:=zR.mp hb
   rcases q with rfl|rfl
   ·exact⟨d.1,qx.mpr (.inr (.inr ⟨d,hd,.inl rfl⟩)),rfl⟩
   ·exact⟨d.2.1,qx.mpr (.inr (.inr ⟨d,hd,.inr rfl⟩)),rfl⟩
 ·rintro⟨y,hy,rfl⟩
  rcases qx.mp hy with rfl|rfl|⟨d,hd,rfl|rfl⟩
  ·exact .inl rfl
  ·exact .inr (.inl rfl)
  ·exact .inr (.inr ⟨_,zg hd,.inl rfl⟩)
  ·exact .inr (.inr ⟨_,zg hd,.inr rfl⟩)
theorem q6m{n a b:Int}(ha:0<=a/\a<n)(hb:0<=b/\b<n)(h:(a-b)%n=0):a=b:=by
 have:=dd ha hb;omega
theorem q4I{n a:Int}:(a-a)%n=0:=by rw[Int.sub_self];exact Int.zero_emod _
section
variable{n h l:Int}{bs:List (Int×Int×Int)}(O:RgO n h l bs){ρ:Int->Int}(ri:∀a,0<=ρ a/\ρ a<n)
include O ri
theorem q66{σ:Int}(hσ:σ=1\/σ=-1):RgO n (ρ h) (ρ l) (bs.map (bxR ρ σ)):=⟨O.n1,O.n9,ri h,ri l,by rw[zB];exact O.lb,λb hb=>by
 obtain⟨d,hd,rfl⟩:=zR.mp hb;have:=(O.hb d hd).2.2;refine⟨ri _,ri _,?_⟩;show σ*d.2.2=1\/σ*d.2.2=-1;rcases hσ with s|s <;> rcases this with q|q <;> rw[s,q] <;> decide⟩
theorem qar(dist:∀a b,(ρ a-ρ b)%n=(a-b)%n){c w w':Int}(v:WR n h l bs c w)(v':WR n (ρ h) (ρ l) (bs.map (bxR ρ 1)) c w'):w'<=w:=by
 have O':=q66 O ri (σ:=1) (.inl rfl);have inj:∀{a b},a∈St h l bs->b∈St h l bs->ρ a=ρ b->a=b:=λ{a b} ha hb e=>q6m (O.inr a ha) (O.inr b hb) (by rw[<- dist,e];exact q4I);have go:∀s g x,goN n (ρ s) (ρ g) (ρ x)=goN n s g x:=λs g x=>by unfold goN;rw[dist,dist]
 have zz:((bs.map (bxR ρ 1)).map (stN n)).sum=(bs.map (stN n)).sum:=by
  rw[zp]
  congr 1
  refine yI λb hb=>?_;show (ρ b.2.1-ρ b.1)*(1*b.2.2)%n=(b.2.1-b.1)*b.2.2%n;rcases (O.hb b hb).2.2 with q|q
  ·rw[q,xN,xX,xX,dist]
  ·rw[q,xN,show (ρ b.2.1-ρ b.1)*-1=ρ b.1-ρ b.2.1 by omega,show (b.2.1-b.1)*-1=b.1-b.2.1 by omega,dist]
 have lk:∀x,YB n (ρ h) (ρ l) (bs.map (bxR ρ 1)) (ρ x)=YB n h l bs x:=λx=>by
  unfold YB rts lfs;rw[yx,yx,zB,zB,go];have e1:(λb:Int×Int×Int=>b.2.2==1&&goN n b.1 b.2.1 (ρ x)) ∘ bxR ρ 1=λb=>b.2.2==1&&goN n b.1 b.2.1 x:=by
   funext b
   show (1*b.2.2==1&&goN n (ρ b.1) (ρ b.2.1) (ρ x))=_;rw[xN,go]
  have e2:(λb:Int×Int×Int=>b.2.2 == -1&&goN n b.2.1 b.1 (ρ x)) ∘ bxR ρ 1=λb=>b.2.2 == -1&&goN n b.2.1 b.1 x:=by
   funext b
   show (1*b.2.2 == -1&&goN n (ρ b.2.1) (ρ b.1) (ρ x))=_;rw[xN,go]
  rw[e1,e2]
 have sc:∀{x y},x∈St h l bs->y∈St h l bs->(Sc n (St (ρ h) (ρ l) (bs.map (bxR ρ 1))) (ρ x) (ρ y)↔Sc n (St h l bs) x y):=λ{x y} hx hy=>by
  constructor
  ·rintro⟨_,_,k⟩
   refine⟨hx,hy,λz hz ne=>?_⟩;have:=k (ρ z) (qQ.mpr ⟨z,hz,rfl⟩) λe=>ne (inj hz hx e);rw[dist,dist]at this;exact⟨λe=>this.1 (by rw[e]),this.2⟩
  ·rintro⟨_,_,k⟩
   refine⟨qQ.mpr ⟨x,hx,rfl⟩,qQ.mpr ⟨y,hy,rfl⟩,λz hz ne=>?_⟩;obtain⟨u,hu,rfl⟩:=qQ.mp hz;have:=k u hu λe=>ne (by rw[e]);rw[dist,dist];exact⟨λe=>this.1 (inj hy hx e),this.2⟩
 have gl:∀{x y},x∈St h l bs->y∈St h l bs->glN n (ρ x,ρ y)=glN n (x,y):=λ{x y} hx hy=>by
  unfold glN
  by_cases z:x=y
  ·show (if ρ x=ρ y then n else _)=if x=y then n else _
   rw[vH z,vH (by rw[z])]
  ·show (if ρ x=ρ y then n else (ρ y-ρ x)%n)=if x=y then n else (y-x)%n
   rw[vJ z,vJ λe=>z (inj hx hy e),dist]
 have pm:(egs n (St (ρ h) (ρ l) (bs.map (bxR ρ 1)))).Perm ((egs n (St h l bs)).map λe=>((ρ e.1,ρ e.2.1,e.2.2):Eg)):=by
  refine(yA (q03 O'.up n) ?_).mpr λe=>?_
  ·refine xI.mpr (xV (λ{a b} ha hb ne e=>ne ?_) (q03 O.up n))
   obtain⟨a1,a2⟩:=(qB O.up O.inr).mp ha;obtain⟨b1,b2⟩:=(qB O.up O.inr).mp hb;have e1:=inj a1.1 b1.1 (vf (λq:Eg=>q.1) e);have e2:=inj a1.2.1 b1.2.1 (vf (λq:Eg=>q.2.1) e);have e3:=vf (λq:Eg=>q.2.2) e;exact Prod.ext e1 (Prod.ext e2 e3)
  ·rw[zR,qB O'.up O'.inr]
   constructor
   ·rintro⟨s,k⟩
    obtain⟨x,hx,ex⟩:=qQ.mp s.1;obtain⟨y,hy,ey⟩:=qQ.mp s.2.1;rw[ex,ey]at s k;refine⟨(x,y,glN n (x,y)),(qB O.up O.inr).mpr ⟨(sc hx hy).mp s,rfl⟩,?_⟩;rw[gl hx hy]at k;exact Prod.ext ex.symm (Prod.ext ey.symm k.symm)
   ·rintro⟨d,hd,rfl⟩
    obtain⟨s,k⟩:=(qB O.up O.inr).mp hd;refine⟨(sc s.1 s.2.1).mpr s,?_⟩;show d.2.2=glN n (ρ d.1,ρ d.2.1);rw[gl s.1 s.2.1];exact k
 unfold WR at v';rw[zz]at v';refine q3I v v' (λe=>((ρ e.1,ρ e.2.1,e.2.2):Eg)) ρ pm (λ_ _=>rfl) (λe _=>?_) (λ_ _=>.inl rfl) λt ht=>?_
 ·show YY (YB n (ρ h) (ρ l) (bs.map (bxR ρ 1)) (ρ e.1)+c)=YY (YB n h l bs e.1+c)
  rw[lk]
 ·rcases zK.mp ht with k|k
  ·obtain⟨b,hb,rfl⟩:=zR.mp k
   exact .of (zH _ (zR.mpr ⟨_,zg hb,rfl⟩))
  ·rw[zL.mp k]
   exact .of (zF _ (zL.mpr rfl))
end
noncomputable def WF(h l:Int):Int:=if h=l then 0 else 1
theorem q8G{n h l x:Int}(hh:0<=h/\h<n)(hl:0<=l/\l<n)(hx:0<=x/\x<n):(if goN n l h x=true then (1:Int)else 0)=WF h l-(if goN n h l x=true then 1 else 0):=by
 have d1:=dd hx hl;have d2:=dd hh hl;have d3:=dd hx hh;have d4:=dd hl hh;unfold goN WF
 by_cases z:h=l
 ·subst z
  rw[vH rfl,vJ (by rw[decide_eq_true_eq];omega)];rfl
 ·rw[vJ z]
  by_cases y:(x-h)%n<(l-h)%n
  ·rw[vJ (by rw[decide_eq_true_eq];omega),vH (vU y)];rfl
  ·rw[vH (by rw[decide_eq_true_eq];omega),vJ (by rw[decide_eq_true_eq];exact y)];rfl
theorem q6w{a b:Int}(h:a=-b):YY a=YY b:=by
 subst h;unfold YY;split <;> split <;> omega
noncomputable def bxB(b:Int×Int×Int):Int×Int×Int:=(b.2.1,b.1,0-b.2.2)
theorem qco{n h l:Int}{bs:List (Int×Int×Int)}(O:RgO n h l bs):RgO n l h (bs.map bxB):=⟨O.n1,O.n9,O.hl,O.hh,by rw[zB];exact O.lb,λb hb=>by
 obtain⟨d,hd,rfl⟩:=zR.mp hb;have:=O.hb d hd;refine⟨this.2.1,this.1,?_⟩;show 0-d.2.2=1\/0-d.2.2=-1;omega⟩
theorem q8g{n h l:Int}{bs:List (Int×Int×Int)}(O:RgO n h l bs){c w w':Int}(v:WR n h l bs c w)(v':WR n l h (bs.map bxB) (-c-WF h l) w'):w'<=w:=by
 have O':=qco O;have same:∀z,z∈St l h (bs.map bxB)↔z∈St h l bs:=λz=>by
  rw[qx,qx]
  constructor
  ·rintro(q|q|⟨b,hb,q⟩)
   ·exact .inr (.inl q)
   ·exact .inl q
   ·obtain⟨d,hd,rfl⟩:=zR.mp hb
    exact .inr (.inr ⟨d,hd,q.symm⟩)
  ·rintro(q|q|⟨d,hd,q⟩)
   ·exact .inr (.inl q)
   ·exact .inl q
   ·exact .inr (.inr ⟨_,zg hd,q.symm⟩)
 have zz:((bs.map bxB).map (stN n)).sum=(bs.map (stN n)).sum:=by
  rw[zp]
  congr 1
  refine yI λb hb=>?_;show (b.1-b.2.1)*(0-b.2.2)%n=(b.2.1-b.1)*b.2.2%n;rcases (O.hb b hb).2.2 with q|q <;> rw[q] <;> congr 1 <;> omega
 have lk:∀x∈St h l bs,YB n l h (bs.map bxB) x=WF h l-YB n h l bs x:=λx hx=>by
  have g:=q8G O.hh O.hl (O.inr x hx);unfold YB rts lfs;rw[yx,yx,zB,zB,g];have e1:∀b:Int×Int×Int,((λb:Int×Int×Int=>b.2.2==1&&goN n b.1 b.2.1 x) ∘ bxB) b=(b.2.2 == -1&&goN n b.2.1 b.1 x):=λb=>by
   show (0-b.2.2==1&&goN n b.2.1 b.1 x)=_;have:(0-b.2.2==1)=(b.2.2 == -1):=by
    rw[xw,beq_iff_eq,beq_iff_eq];omega
   rw[this]
  have e2:∀b:Int×Int×Int,((λb:Int×Int×Int=>b.2.2 == -1&&goN n b.2.1 b.1 x) ∘ bxB) b=(b.2.2==1&&goN n b.1 b.2.1 x):=λb=>by
   show (0-b.2.2 == -1&&goN n b.1 b.2.1 x)=_;have:(0-b.2.2 == -1)=(b.2.2==1):=by
    rw[xw,beq_iff_eq,beq_iff_eq];omega
   rw[this]
  rw[y9 λb _=>e1 b,y9 λb _=>e2 b];omega
 unfold WR at v';rw[zz]at v';have pm:=q70 O.up O'.up O.inr same;refine q3I v v' id id (by rw[wp];exact pm) (λ_ _=>rfl) (λe he=>?_) (λ_ _=>.inl rfl) λt ht=>?_
 ·refine q6w ?_
  show YB n l h (bs.map bxB) e.1+(-c-WF h l)=-(YB n h l bs e.1+c);rw[lk e.1 (q1i e he).1];omega
 ·rcases zK.mp ht with k|k
  ·obtain⟨b,hb,rfl⟩:=zR.mp k
   have m:(b.2.1,b.1)∈(bs.map bxB).map two++[(l,h)]:=zH _ (zR.mpr ⟨bxB b,zg hb,rfl⟩);exact(Rch.of m).symm
  ·rw[zL.mp k]
   exact(Rch.of (p:=l) (q:=h) (zF _ (zL.mpr rfl))).symm
theorem qeC{n:Int}{P:List Int}(hn:InR n P){x y s g:Int}(sc:Sc n P x y)(hs:s∈P)(hg:g∈P):(s-y)%n<(s-g)%n↔(x-g)%n<(s-g)%n:=by
 have rx:=hn x sc.1;have ry:=hn y sc.2.1;have rs:=hn s hs;have rg:=hn g hg;have a:s≠x->y≠x/\(y-x)%n<=(s-x)%n:=sc.2.2 s hs;have b:g≠x->y≠x/\(y-x)%n<=(g-x)%n:=sc.2.2 g hg;have y0:y=x->s=x/\g=x:=λq=>⟨by
  by_cases z:s=x
  ·exact z
  ·exact vM q (a z).1,by
  by_cases z:g=x
  ·exact z
  ·exact vM q (b z).1⟩
 have d1:=dd rs ry;have d2:=dd rs rg;have d3:=dd rx rg;have d4:=dd ry rx;have d5:=dd rs rx;have d6:=dd rg rx
 by_cases q:y=x
 ·obtain⟨q1,q2⟩:=y0 q
  subst q1;subst q2;subst q;omega
 ·by_cases z:s=x
  ·by_cases z':g=x
   ·subst z;subst z';omega
   ·have b':=b z';subst z;omega
  ·have a':=a z
   by_cases z':g=x
   ·subst z';omega
   ·have b':=b z';omega
theorem qdT{n:Int}{P:List Int}(hn:InR n P){x y:Int}(sc:Sc n P x y):∀z∈P,z≠y->x≠y/\(y-x)%n<=(y-z)%n:=λz hz ne=>by
 have rx:=hn x sc.1;have ry:=hn y sc.2.1;have rz:=hn z hz;have d1:=dd ry rx;have d2:=dd ry rz;have d3:=dd rz rx
 by_cases q:z=x
 ·subst q;exact⟨ne,yM _⟩
 ·have a:=sc.2.2 z hz q
  exact⟨λe=>a.1 e.symm,∅⟩
theorem q9z{n:Int}{P:List Int}(hn:InR n P){x y:Int}(hx:x∈P)(hy:y∈P)(k:∀z∈P,z≠y->x≠y/\(y-x)%n<=(y-z)%n):Sc n P x y:=⟨hx,hy,λz hz ne=>by
 have rx:=hn x hx;have ry:=hn y hy;have rz:=hn z hz;have d1:=dd ry rx;have d2:=dd ry rz;have d3:=dd rz rx
 by_cases q:z=y
 ·subst q;exact⟨ne,yM _⟩
 ·have a:=k z hz q
  exact⟨λe=>a.1 e.symm,∅⟩⟩
section
variable{n h l:Int}{bs:List (Int×Int×Int)}(O:RgO n h l bs){ρ:Int->Int}(ri:∀a,0<=ρ a/\ρ a<n)
include O ri
theorem qa9(dist:∀a b,(ρ a-ρ b)%n=(b-a)%n){c w w':Int}(v:WR n h l bs c w)(v':WR n (ρ h) (ρ l) (bs.map (bxR ρ (-1))) (-c-WF h l) w'):w'<=w:=by
 have O':=q66 O ri (σ:=-1) (.inr rfl);have inj:∀{a b},a∈St h l bs->b∈St h l bs->ρ a=ρ b->a=b:=λ{a b} ha hb e=>(q6m (O.inr b hb) (O.inr a ha) (by rw[<- dist,e];exact q4I)).symm;have zz:((bs.map (bxR ρ (-1))).map (stN n)).sum=(bs.map (stN n)).sum:=by
  rw[zp]
  congr 1
  refine yI λb hb=>?_;show (ρ b.2.1-ρ b.1)*(-1*b.2.2)%n=(b.2.1-b.1)*b.2.2%n;rcases (O.hb b hb).2.2 with q|q
  ·rw[q,show (ρ b.2.1-ρ b.1)*(-1*1)=ρ b.1-ρ b.2.1 by omega,dist,xX]
  ·rw[q,show (ρ b.2.1-ρ b.1)*(-1*-1)=ρ b.2.1-ρ b.1 by omega,dist];congr 1;omega
 have go:∀{x y s g},Sc n (St h l bs) x y->s∈St h l bs->g∈St h l bs->goN n (ρ s) (ρ g) (ρ y)=goN n g s x:=λsc hs hg=>by
  unfold goN;rw[dist,dist];exact decide_eq_decide.mpr (qeC O.inr sc hs hg)
 have hm:h∈St h l bs:=qx.mpr (.inl rfl);have lm:l∈St h l bs:=qx.mpr (.inr (.inl rfl));have lk:∀{x y},Sc n (St h l bs) x y->YB n (ρ h) (ρ l) (bs.map (bxR ρ (-1))) (ρ y)=WF h l-YB n h l bs x:=λ{x y} sc=>by
  have g:=q8G O.hh O.hl (O.inr x sc.1);unfold YB rts lfs;rw[yx,yx,zB,zB,go sc hm lm,g];have e1:∀b∈bs,((λb:Int×Int×Int=>b.2.2==1&&goN n b.1 b.2.1 (ρ y)) ∘ bxR ρ (-1)) b=(b.2.2 == -1&&goN n b.2.1 b.1 x):=λb hb=>by
   show (-1*b.2.2==1&&goN n (ρ b.1) (ρ b.2.1) (ρ y))=_;have:(-1*b.2.2==1)=(b.2.2 == -1):=by
    rw[xw,beq_iff_eq,beq_iff_eq];omega
   rw[this,go sc (O.bin b hb).1 (O.bin b hb).2]
  have e2:∀b∈bs,((λb:Int×Int×Int=>b.2.2 == -1&&goN n b.2.1 b.1 (ρ y)) ∘ bxR ρ (-1)) b=(b.2.2==1&&goN n b.1 b.2.1 x):=λb hb=>by
   show (-1*b.2.2 == -1&&goN n (ρ b.2.1) (ρ b.1) (ρ y))=_;have:(-1*b.2.2 == -1)=(b.2.2==1):=by
    rw[xw,beq_iff_eq,beq_iff_eq];omega
   rw[this,go sc (O.bin b hb).2 (O.bin b hb).1]
  rw[y9 e1,y9 e2];omega
 have sc:∀{x y},x∈St h l bs->y∈St h l bs->(Sc n (St (ρ h) (ρ l) (bs.map (bxR ρ (-1)))) (ρ y) (ρ x)↔Sc n (St h l bs) x y):=λ{x y} hx hy=>by
  constructor
  ·rintro⟨_,_,k⟩
   refine q9z O.inr hx hy λz hz ne=>?_;have:=k (ρ z) (qQ.mpr ⟨z,hz,rfl⟩) λe=>ne (inj hz hy e);rw[dist,dist]at this;exact⟨λe=>this.1 (by rw[e]),this.2⟩
  ·intro s
   have k:=qdT O.inr s;refine⟨qQ.mpr ⟨y,hy,rfl⟩,qQ.mpr ⟨x,hx,rfl⟩,λz hz ne=>?_⟩;obtain⟨u,hu,rfl⟩:=qQ.mp hz;have:=k u hu λe=>ne (by rw[e]);rw[dist,dist];exact⟨λe=>this.1 (inj hx hy e),this.2⟩
 have gl:∀{x y},x∈St h l bs->y∈St h l bs->glN n (ρ y,ρ x)=glN n (x,y):=λ{x y} hx hy=>by
  unfold glN
  by_cases z:x=y
  ·show (if ρ y=ρ x then n else _)=if x=y then n else _
   rw[vH z,vH (by rw[z])]
  ·show (if ρ y=ρ x then n else (ρ x-ρ y)%n)=if x=y then n else (y-x)%n
   rw[vJ z,vJ λe=>z (inj hx hy e.symm),dist]
 have pm:(egs n (St (ρ h) (ρ l) (bs.map (bxR ρ (-1))))).Perm ((egs n (St h l bs)).map λe=>((ρ e.2.1,ρ e.1,e.2.2):Eg)):=by
  refine(yA (q03 O'.up n) ?_).mpr λe=>?_
  ·refine xI.mpr (xV (λ{a b} ha hb ne e=>ne ?_) (q03 O.up n))
   obtain⟨a1,a2⟩:=(qB O.up O.inr).mp ha;obtain⟨b1,b2⟩:=(qB O.up O.inr).mp hb;have e1:=inj a1.2.1 b1.2.1 (vf (λq:Eg=>q.1) e);have e2:=inj a1.1 b1.1 (vf (λq:Eg=>q.2.1) e);have e3:=vf (λq:Eg=>q.2.2) e;exact Prod.ext e2 (Prod.ext e1 e3)
  ·rw[zR,qB O'.up O'.inr]
   constructor
   ·rintro⟨s,k⟩
    obtain⟨y,hy,ey⟩:=qQ.mp s.1;obtain⟨x,hx,ex⟩:=qQ.mp s.2.1;rw[ex,ey]at s k;refine⟨(x,y,glN n (x,y)),(qB O.up O.inr).mpr ⟨(sc hx hy).mp s,rfl⟩,?_⟩;rw[gl hx hy]at k;exact Prod.ext ey.symm (Prod.ext ex.symm k.symm)
   ·rintro⟨d,hd,rfl⟩
    obtain⟨s,k⟩:=(qB O.up O.inr).mp hd;refine⟨(sc s.1 s.2.1).mpr s,?_⟩;show d.2.2=glN n (ρ d.2.1,ρ d.1);rw[gl s.1 s.2.1];exact k
 unfold WR at v';rw[zz]at v';refine q3I v v' (λe=>((ρ e.2.1,ρ e.1,e.2.2):Eg)) ρ pm (λ_ _=>rfl) (λe he=>?_) (λ_ _=>.inr rfl) λt ht=>?_
 ·refine q6w ?_
  show YB n (ρ h) (ρ l) (bs.map (bxR ρ (-1))) (ρ e.2.1)+(-c-WF h l)=-(YB n h l bs e.1+c);rw[lk ((qB O.up O.inr).mp he).1];omega
 ·rcases zK.mp ht with k|k
  ·obtain⟨b,hb,rfl⟩:=zR.mp k
   exact .of (zH _ (zR.mpr ⟨_,zg hb,rfl⟩))
  ·rw[zL.mp k]
   exact .of (zF _ (zL.mpr rfl))
end
theorem q8V{n h l:Int}{bs bs':List (Int×Int×Int)}(O:RgO n h l bs)(O':RgO n h l bs')(pb:bs'.Perm bs){c w w':Int}(v:WR n h l bs c w)(v':WR n h l bs' c w'):w'<=w:=by
 have same:∀z,z∈St h l bs'↔z∈St h l bs:=λz=>by
  rw[qx,qx];refine or_congr_right (or_congr_right ⟨?_,?_⟩)
  ·rintro⟨b,hb,q⟩;exact⟨b,pb.mem_iff.mp hb,q⟩
  ·rintro⟨b,hb,q⟩;exact⟨b,pb.mem_iff.mpr hb,q⟩
 have lk:∀x,YB n h l bs' x=YB n h l bs x:=λx=>by
  unfold YB rts lfs;rw[(pb.filter _).length_eq,(pb.filter _).length_eq]
 unfold WR at v';rw[q1J pb]at v';refine q3I v v' id id (by rw[wp];exact q70 O.up O'.up O.inr same) (λ_ _=>rfl) (λe he=>?_) (λ_ _=>.inl rfl) λt ht=>?_
 ·show YY (YB n h l bs' e.1+c)=YY (YB n h l bs e.1+c)
  rw[lk]
 ·rcases zK.mp ht with k|k
  ·obtain⟨b,hb,rfl⟩:=zR.mp k
   exact .of (zH _ (zg (pb.mem_iff.mpr hb)))
  ·exact .of (zF _ k)
theorem qer{n h l:Int}{bs:List (Int×Int×Int)}{b:Int×Int×Int}(O:RgO n h l bs)(O':RgO n h l (b::bs)){c w w':Int}(v':WR n h l (b::bs) c w')(v:WR n h l bs c w):w<=w':=by
 have n0:0<n:=by have:=O.n1;omega
 have hm:h∈St h l bs:=qx.mpr (.inl rfl);have lm:l∈St h l bs:=qx.mpr (.inr (.inl rfl));have up1:(YL (b.1::St h l bs)).Pairwise (· < ·):=q0i;have m1:∀z,z∈YL (b.1::St h l bs)↔z=b.1\/z∈St h l bs:=λz=>by rw[q1k,zE]
 have s1:∀{z},z∈St h l bs->z∈YL (b.1::St h l bs):=λk=>(m1 _).mpr (.inr k);have m2:∀z,z∈St h l (b::bs)↔z=b.2.1\/z∈YL (b.1::St h l bs):=λz=>by
  rw[m1,qx,qx]
  constructor
  ·rintro(q|q|⟨d,hd,q⟩)
   ·exact .inr (.inr (.inl q))
   ·exact .inr (.inr (.inr (.inl q)))
   ·rcases zE.mp hd with rfl|hd
    ·rcases q with q|q
     ·exact .inr (.inl q)
     ·exact .inl q
    ·exact .inr (.inr (.inr (.inr ⟨d,hd,q⟩)))
  ·rintro(q|q|q|q|⟨d,hd,q⟩)
   ·exact .inr (.inr ⟨b,zI,.inr q⟩)
   ·exact .inr (.inr ⟨b,zI,.inl q⟩)
   ·exact .inl q
   ·exact .inr (.inl q)
   ·exact .inr (.inr ⟨d,zJ _ hd,q⟩)
 have s2:∀{z},z∈YL (b.1::St h l bs)->z∈St h l (b::bs):=λk=>(m2 _).mpr (.inr k);have r1:InR n (YL (b.1::St h l bs)):=λz hz=>O'.inr z (s2 hz);have l1:(YL (b.1::St h l bs)).length<64:=by
  have a:(YL (b.1::St h l bs)).length<=(b.1::St h l bs).length:=q0B _;have q:(St h l bs).length<=(plc h l (bs.map two)).length:=q0B _;have k:(plc h l (bs.map two)).length=2*bs.length+2:=by show (flat (bs.map two)).length+1+1=_;rw[q23,zB]
  have:=O'.lb;rw[zM]at a this;omega
 obtain⟨w1,v1⟩:=qcF (Z:=(bs.map (stN n)).sum) (n:=n) n0 up1 l1 O.lb (s1 hm) (s1 lm) (λd hd=>⟨s1 (O.bin d hd).1,s1 (O.bin d hd).2⟩) c;obtain⟨w2,v2⟩:=qcF (Z:=(bs.map (stN n)).sum) (n:=n) n0 O'.up O'.len O.lb (s2 (s1 hm)) (s2 (s1 lm)) (λd hd=>⟨s2 (s1 (O.bin d hd).1),s2 (s1 (O.bin d hd).2)⟩) c;have e1:=q6D O.up up1 n0 r1 m1 hm lm O.bin v v1;have e2:=q6D up1 O'.up n0 O'.inr m2 (s1 hm) (s1 lm) (λd hd=>⟨s1 (O.bin d hd).1,s1 (O.bin d hd).2⟩) v1 v2;have bb:=O'.bin b zI;unfold WR at v';rw[zU,zk]at v';have e3:=qeG O'.up n0 O'.inr bb.1 bb.2 (O'.hb b zI).2.2 v2 v';exact xP e1 (xP e2 e3)
noncomputable def RLm(n h l:Int)(bs:List (Int×Int×Int)):Option O:=qo [.int n,.int h,.int l,.lst (bs.map tri)]
theorem q8I{n h l R:Int}{bs bs':List (Int×Int×Int)}(O:RgO n h l bs)(pb:bs'.Perm bs)(e:RLm n h l bs=↥(.int R)):RLm n h l bs'=↥(.int R):=by
 have O':RgO n h l bs':=⟨O.n1,O.n9,O.hh,O.hl,by rw[pb.length_eq];exact O.lb,λb hb=>O.hb b (pb.mem_iff.mp hb)⟩;obtain⟨R1,a1,a2,a3⟩:=q0Q O;obtain⟨R2,b1,b2,b3⟩:=q0Q O';have ee:R1=R:=by have:=a1.symm.trans e;cases this;rfl
 subst ee;have x:=q0G id a2 b3 O' λc w w'=>q8V O O' pb;have y:=q0G id b2 a3 O λc w w'=>q8V O' O pb.symm;have:R2=R1:=∅
 subst this;exact b1
theorem qdt{n h l R:Int}{bs:List (Int×Int×Int)}(O:RgO n h l bs)(e:RLm n h l bs=↥(.int R)):RLm n l h (bs.map bxB)=↥(.int R):=by
 have O':=qco O;obtain⟨R1,a1,a2,a3⟩:=q0Q O;obtain⟨R2,b1,b2,b3⟩:=q0Q O';have ee:R1=R:=by have:=a1.symm.trans e;cases this;rfl
 subst ee;have x:=q0G (λc=>-c-WF h l) a2 b3 O' λc w w'=>q8g O;have id2:(bs.map bxB).map bxB=bs:=by
  rw[zp];have:∀b∈bs,(bxB ∘ bxB) b=b:=λb _=>by
   show ((b.1,b.2.1,0-(0-b.2.2)):Int×Int×Int)=b;rw[show (0:Int)-(0-b.2.2)=b.2.2 by omega]
  rw[yI this,Zc]
 have y:=q0G (λc=>-c-WF l h) b2 (bs':=(bs.map bxB).map bxB) (by rw[id2];exact a3) (by rw[id2];exact O) λc w w'=>q8g O';have:R2=R1:=∅
 subst this;exact b1
theorem q6S{n on:Int}(a b:Int):((1*a+on)%n-(1*b+on)%n)%n=(a-b)%n:=by
 rw[<- wY,xN,xN];congr 1;omega
theorem q7k{n on:Int}(a b:Int):((-1*a+on)%n-(-1*b+on)%n)%n=(b-a)%n:=by
 rw[<- wY];congr 1;omega
theorem zAZ{n:Int}(n0:0<n)(a:Int):0<=a%n/\a%n<n:=⟨xv _ ∅,wF _ n0⟩
theorem q5z{n σ σ' on on':Int}{h l:Int}{bs:List (Int×Int×Int)}(O:RgO n h l bs)(s:∀a,0<=a/\a<n->(σ'*((σ*a+on)%n)+on')%n=a)(ss:∀w,w=1\/w=-1->σ'*(σ*w)=w):(bs.map (bxR (λa=>(σ*a+on)%n) σ)).map (bxR (λa=>(σ'*a+on')%n) σ')=bs:=by
 rw[zp];have:∀b∈bs,(bxR (λa=>(σ'*a+on')%n) σ' ∘ bxR (λa=>(σ*a+on)%n) σ) b=b:=λb hb=>by
  obtain⟨k1,k2,k3⟩:=O.hb b hb;exact Prod.ext (s _ k1) (Prod.ext (s _ k2) (ss _ k3))
 rw[yI this,Zc]
theorem qeq{n h l R on:Int}{bs:List (Int×Int×Int)}(O:RgO n h l bs)(e:RLm n h l bs=↥(.int R)):RLm n ((1*h+on)%n) ((1*l+on)%n) (bs.map (bxR (λa=>(1*a+on)%n) 1))=↥(.int R):=by
 have n0:0<n:=by have:=O.n1;omega
 have O':=q66 O (ρ:=λa=>(1*a+on)%n) (λa=>zAZ n0 _) (σ:=1) (.inl rfl);obtain⟨R1,a1,a2,a3⟩:=q0Q O;obtain⟨R2,b1,b2,b3⟩:=q0Q O';have ee:R1=R:=by have:=a1.symm.trans e;cases this;rfl
 subst ee;have x:=q0G id a2 b3 O' λc w w'=>qar O (ρ:=λa=>(1*a+on)%n) (λa=>zAZ n0 _) q6S;have s:∀a,0<=a/\a<n->(1*((1*a+on)%n)+-on)%n=a:=λa ha=>by
  rw[xN,Int.emod_add_emod,xN,show a+on+-on=a by omega];exact xi ha.1 ha.2
 have id2:=q5z (σ:=1) (σ':=1) (on:=on) (on':=-on) O s (λw _=>∅);have y:=q0G id b2 (n':=n) (h':=(1*((1*h+on)%n)+-on)%n) (l':=(1*((1*l+on)%n)+-on)%n) (bs':=(bs.map (bxR (λa=>(1*a+on)%n) 1)).map (bxR (λa=>(1*a+-on)%n) 1)) (by rw[id2,s h O.hh,s l O.hl];exact a3) (by rw[id2,s h O.hh,s l O.hl];exact O) λc w w'=>qar O' (ρ:=λa=>(1*a+-on)%n) (λa=>zAZ n0 _) q6S;have:R2=R1:=∅
 subst this;exact b1
theorem qey{n h l R on:Int}{bs:List (Int×Int×Int)}(O:RgO n h l bs)(e:RLm n h l bs=↥(.int R)):RLm n ((-1*h+on)%n) ((-1*l+on)%n) (bs.map (bxR (λa=>(-1*a+on)%n) (-1)))=↥(.int R):=by
 have n0:0<n:=by have:=O.n1;omega
 have O':=q66 O (ρ:=λa=>(-1*a+on)%n) (λa=>zAZ n0 _) (σ:=-1) (.inr rfl);obtain⟨R1,a1,a2,a3⟩:=q0Q O;obtain⟨R2,b1,b2,b3⟩:=q0Q O';have ee:R1=R:=by have:=a1.symm.trans e;cases this;rfl
 subst ee;have x:=q0G (λc=>-c-WF h l) a2 b3 O' λc w w'=>qa9 O (ρ:=λa=>(-1*a+on)%n) (λa=>zAZ n0 _) q7k;have s:∀a,0<=a/\a<n->(-1*((-1*a+on)%n)+on)%n=a:=λa ha=>by
  have:(on-(-1*a+on)%n)%n=(on-(-1*a+on))%n:=by
   rw[wY on ((-1*a+on)%n),Int.emod_emod,<- wY]
  rw[show -1*((-1*a+on)%n)+on=on-(-1*a+on)%n by omega,this,show on-(-1*a+on)=a by omega];exact xi ha.1 ha.2
 have id2:=q5z (σ:=-1) (σ':=-1) (on:=on) (on':=on) O s (λw _=>∅);have y:=q0G (λc=>-c-WF ((-1*h+on)%n) ((-1*l+on)%n)) b2 (n':=n) (h':=(-1*((-1*h+on)%n)+on)%n) (l':=(-1*((-1*l+on)%n)+on)%n) (bs':=(bs.map (bxR (λa=>(-1*a+on)%n) (-1))).map (bxR (λa=>(-1*a+on)%n) (-1))) (by rw[id2,s h O.hh,s l O.hl];exact a3) (by rw[id2,s h O.hh,s l O.hl];exact O) λc w w'=>qa9 O' (ρ:=λa=>(-1*a+on)%n) (λa=>zAZ n0 _) q7k;have:R2=R1:=∅
 subst this;exact b1
theorem qf8{n h l R:Int}{bs bs':List (Int×Int×Int)}{b:Int×Int×Int}(O:RgO n h l bs)(O':RgO n h l (b::bs))(pb:bs'.Perm (b::bs))(e:RLm n h l bs=↥(.int R)):∃R',RLm n h l bs'=↥(.int R')/\R<=R':=by
 obtain⟨R1,a1,a2,a3⟩:=q0Q O;obtain⟨R2,b1,b2,b3⟩:=q0Q O';have ee:R1=R:=by have:=a1.symm.trans e;cases this;rfl
 subst ee;exact⟨R2,q8I O' pb b1,q0G id b2 a3 O λc w w' v v'=>qer O O' v v'⟩
theorem qaR{n h l on σ R:Int}{bs:List (Int×Int×Int)}(n0:0<n)(hσ:σ=1\/σ=-1)(hb:bs.length<=20)(e:RLm n ((σ*h+on)%n) ((σ*l+on)%n) (bs.map (bxR (λa=>(σ*a+on)%n) σ))=↥(.int R)):
  qH [.int n,.int h,.int l,.lst (bs.map tri),.int on,.int σ]=↥(.int R):=by
 have mu:∀x:Int,Xo (.int σ) (.int x)=↥(.int (σ*x)):=λx=>q7i ∅ ∅;have mo:∀x:Int,oMod (.int x) (.int n)=↥(.int (x%n)):=λx=>q0k n0;obtain⟨ω',e1,x7,x8,x9,rfl⟩:=qJ (g:=gT 3 (YH (gN 7) (YH (gN 8) (YH (gN 9) Yn)))) (b:=q00) tri bs
  (λpre ω=>∃x7 x8 x9:Option W,ω=[↥(.int n),↥(.int h),↥(.int l),↥(.lst (bs.map tri)),↥(.int on),↥(.int σ),some (.ow ((pre.map (bxR (λa=>(σ*a+on)%n) σ)).map tri)),x7,x8,x9])
  (λpre b post ω hd ⟨x7,x8,x9,hω⟩=>by
   subst hω;refine⟨_,rfl,?_⟩;have hp:pre.length<bs.length:=by rw[hd,zG,zM];omega
   have hll:((pre.map (bxR (λa=>(σ*a+on)%n) σ)).map tri).length<1000000:=by rw[zB,zB];omega
   show Xw (q00 [_,_,_,_,_,_,_,↥(.int b.1),↥(.int b.2.1),↥(.int b.2.2)]) _;unfold q00;simp_arith[mu,mo,W1 hll];exact⟨_,_,_,by rw[za,za];rfl⟩)
  (ω:=[↥(.int n),↥(.int h),↥(.int l),↥(.lst (bs.map tri)),↥(.int on),↥(.int σ),some (.ow []),none,none,none]) ⟨none,none,none,rfl⟩
 unfold RLm at e;unfold qH q0E;simp_arith[e1,mu,mo,e]
theorem cutA(ds:List D)(k:Nat)(h:k<=ds.length):cutD ds (some (k:Int)) none=ds.drop k/\cutD ds none (some (k:Int))=ds.take k:=by
 have e1:HT.sIx ds.length 0 (some (k:Int))=min k ds.length:=HT.q1B ds.length 0 k;have e2:HT.sIx ds.length ds.length (some (k:Int))=min k ds.length:=HT.q1B ds.length ds.length k;have e3:HT.sIx ds.length ds.length none=ds.length:=rfl;have e4:HT.sIx ds.length 0 none=0:=rfl;unfold cutD;rw[e1,e2,e3,e4]
 constructor
 ·rw[show min k ds.length=k by omega,xZ (by rw[z8];omega)]
 ·rw[show min k ds.length=k by omega,wE,ZY]
theorem qbQ(ns:List Int)(hl:ns.length<=63):q3L [.scr ns]=↥(.bl true):=by
 obtain⟨n,s1,s2,s3⟩:=qdZ (ns:=ns);obtain⟨ps,p1,p2,p3⟩:=qbN (ns:=ns) s2;obtain⟨bs,b1,b2,b3⟩:=qad (ns:=ns) p2 hl;have hbs:∀b∈bs,(0<=b.1/\b.1<n)/\(0<=b.2.1/\b.2.1<n)/\(b.2.2=1\/b.2.2=-1):=λb hb=>⟨p3 _ (b2 b hb).1,p3 _ (b2 b hb).2.1,(b2 b hb).2.2⟩;have c16:=q0W (ns:=ns) (k:=16) (by decide);have c17:=q0W (ns:=ns) (k:=17) (by decide);generalize ns.getD (wq 16) 0=q16 at c16;generalize ns.getD (wq 17) 0=cell at c17;have n0:0<n:=∅
 obtain⟨y1,m1,a1⟩:=Wx p2 cell;obtain⟨y2,m2,a2⟩:=Wx p2 (cell/7);obtain⟨d,hd,q,rfl,hq⟩:=q3p (ds:=[.int 1,.int (-1)]) (i:=cell/49%2) (λd=>∃q:Int,d=D.int q/\(q=1\/q=-1)) ∅ (show cell/49%2<2 by omega) (by
  intro d hd;simp only[zE,zY,or_false]at hd;rcases hd with rfl|rfl
  ·exact⟨_,rfl,.inl rfl⟩
  ·exact⟨_,rfl,.inr rfl⟩)
 match ps,p2 with
 | h::l::r,p2=>
  have i0:atI ((h::l::r).map D.int) 0=some (.int h):=by
   rw[q1m (by decide) (by rw[zB,zM];omega)];rfl
  have i1:atI ((h::l::r).map D.int) 1=some (.int l):=by
   rw[q1m (by decide) (by rw[zB,zM,zM];omega)];rfl
  have O:RgO n h l bs:=⟨s2,s3,p3 h (by simp),p3 l (by simp),∅,hbs⟩;have O':RgO n h l ((y1,y2,q)::bs):=⟨s2,s3,p3 h (by simp),p3 l (by simp),by rw[zM];omega,λb hb=>by
   rcases zE.mp hb with rfl|hb
   ·exact⟨p3 _ m1,p3 _ m2,hq⟩
   ·exact hbs b hb⟩
  obtain⟨R,R1,_,_⟩:=q0Q O;have R1:RLm n h l bs=↥(.int R):=R1;have L1:=qaR (on:=q16%n) n0 (.inl rfl) O.lb (qeq O R1);have L2:=qaR (on:=q16%n) n0 (.inr rfl) O.lb (qey O R1);have L3:=qdt O R1;obtain⟨k,hk⟩:∃k:Nat,cell/98%((bs.length:Int)+1)=(k:Int)/\k<=bs.length:=by
   have a:=xv (cell/98) (show (bs.length:Int)+1≠0 by omega);have b:=wF (cell/98) (show 0<(bs.length:Int)+1 by omega);exact⟨(cell/98%((bs.length:Int)+1)).toNat,∅,∅⟩
  have mo:oMod (.int (cell/98)) (.int ((bs.length:Int)+1))=↥(.int (k:Int)):=by rw[<- hk.1];exact q0k ∅
  have mn:oMod (.int q16) (.int n)=↥(.int (q16%n)):=q0k n0;have cu:=cutA (bs.map tri) k (by rw[zB];exact hk.2);rw[<- ZB,<- ZA]at cu;have L4:=q8I O (bs':=bs.drop k++bs.take k) (by
   have:(bs.drop k++bs.take k).Perm (bs.take k++bs.drop k):=List.perm_append_comm
   rwa [yV]at this) R1
  obtain⟨R5,L5,le⟩:=qf8 O O' (bs':=bs.take k++[(y1,y2,q)]++bs.drop k) (by
   have:(bs.take k++(y1,y2,q)::bs.drop k).Perm ((y1,y2,q)::(bs.take k++bs.drop k)):=Zg;rw[yV]at this;rw[yE];exact this) R1
  unfold RLm at R1 L3 L4 L5;have ad1:Yk (.lst ((bs.drop k).map tri)) (.lst ((bs.take k).map tri))=some (.fr ((bs.drop k++bs.take k).map tri)):=by
   rw[za];exact q4W (by rw[zB,zB,z8,zb];omega)
  have ad2:Yk (.lst ((bs.take k).map tri)) (.lst [.tup [.int y1,.int y2,.int q]])=some (.fr ((bs.take k++[(y1,y2,q)]).map tri)):=by
   rw[za];exact q4W (by rw[zB,zb];show _+1<=_;omega)
  have ad3:Yk (.lst ((bs.take k++[(y1,y2,q)]).map tri)) (.lst ((bs.drop k).map tri))=some (.fr ((bs.take k++[(y1,y2,q)]++bs.drop k).map tri)):=by
   rw[za (l₂:=bs.drop k)];exact q4W (by rw[zB,zB,zG,z8,zb];show _+1+_<=_;omega)
  have kl:(bs.map tri).length<=1000000:=by rw[zB];omega
  have cm:Yl (gT 3 (YH (gN 0) (YH (gN 1) (YH (gN 2) Yn)))) YU q3k (bs.map tri) [none,none,none]=some ((bs.map bxB).map tri):=by
   have:=q0l (g:=gT 3 (YH (gN 0) (YH (gN 1) (YH (gN 2) Yn)))) (c:=YU) (f:=q3k) (λw=>∃a b c,w=[a,b,c]) (λ_=>true) tri (λb=>tri (bxB b)) bs (ω:=[none,none,none]) ⟨_,_,_,rfl⟩ λb hb w hw=>by
    obtain⟨x,y,z,rfl⟩:=hw;refine⟨_,rfl,⟨_,_,_,rfl⟩,rfl,λ_=>?_⟩;show q3k [↥(.int b.1),↥(.int b.2.1),↥(.int b.2.2)]=_;unfold q3k;simp_arith -implicitDefEqProofs [q0R];rfl
   rw[this,yq.mpr (λ_ _=>rfl),zp];rfl
  have bl:∀ds:List D,zAW [.lst ds]=some (.fr ds):=λ_=>rfl;have ne:∀x:Int,oEq true (.int x) (.int x)=↥(.bl false):=λx=>by rw[q72,beq_self_eq_true];rfl
  have ge:oGe (.int R5) (.int R)=↥(.bl true):=by rw[q6g];exact vf (λb=>some (Hk.R.sh (D.bl b))) (vU le)
  generalize hr:(h::l::r).map D.int=PS at p1 i0 i1 b1 a1 a2;unfold q3L q96;simp_arith -implicitDefEqProofs [s1,p1,b1,i0,i1,bl,R1,c16,mn,L1,ne,L2,Xg kl,inW,Xp,cm,L3,c17,zB,mo,qcB,cu.1,cu.2,ad1,L4,a1,a2,hd,ad2,ad3,L5,ge]
theorem qeY{l:wb}{w:vT}{K:zA}{h:vZ}{mg:Str->Option vB}{fa:vG}(X:K.In h)(G:h.Ns vQ mg)(hfa:mg "law" = some (.ref fa)){f0:vG}{f1:vG}{f2:vG}{f3:vG}{f4:vG}{f5:vG}{f6:vG}{f7:vG}{f8:vG}{f9:vG}{f10:vG}{f11:vG}{f12:vG}{f13:vG}{f14:vG}{f15:vG}{f16:vG}{f17:vG}{f18:vG}{f19:vG}{f20:vG}{f21:vG}{f22:vG}{f23:vG}{f24:vG}{f25:vG}{f26:vG}{f27:vG}{f28:vG}{f29:vG}{f30:vG}{f31:vG}{f32:vG}{f33:vG}{f34:vG}(D0:Fd K "is_whole" q35 f0)(D1:Fd K "is_box" q4a f1)(D2:Fd K "is_errand" q2B f2)(D3:Fd K "check_errand" q1e f3)(D4:Fd K "stops" q57 f4)(D5:Fd K "neighbours" q1Z f5)(D6:Fd K "group_of" q38 f6)(D7:Fd K "groups" q42 f7)(D8:Fd K "cost" q7a f8)(D9:Fd K "group_numbers" q0L f9)(D10:Fd K "with_two_joined" q0n f10)(D11:Fd K "forest" q41 f11)(D12:Fd K "is_way" q44 f12)(D13:Fd K "has_place" q2z f13)(D14:Fd K "is_ring_box" q1s f14)(D15:Fd K "is_ring" q3C f15)(D16:Fd K "check_ring" q24 f16)(D17:Fd K "without_ways" q0T f17)(D18:Fd K "steps" q4X f18)(D19:Fd K "ring_gaps" q2w f19)(D20:Fd K "gap_length" q27 f20)(D21:Fd K "ring_edges" q28 f21)(D22:Fd K "goes_over" q2u f22)(D23:Fd K "bare_lack" q2n f23)(D24:Fd K "ring_lacks" q1G f24)(D25:Fd K "ring_forest" q1t f25)(D26:Fd K "empty_weight" q0V f26)(D27:Fd K "turns" q4P f27)(D28:Fd K "ring_least" q1H f28)(D29:Fd K "_law_cell" q2p f29)(D30:Fd K "_law_size" q2r f30)(D31:Fd K "_law_menu" q2A f31)(D32:Fd K "_law_boxes" q20 f32)(D33:Fd K "_law_least_on" q0I f33)(D34:Fd K "law" q3D f34)(z_isinstance:yH K vQ "isinstance" = some none)(z_bool:yH K vQ "bool" = some none)(z_int:yH K vQ "int" = some none)(z_len:yH K vQ "len" = some none)(z_tuple:yH K vQ "tuple" = some none)(z_list:yH K vQ "list" = some none)(z_all:yH K vQ "all" = some none)(z_sorted:yH K vQ "sorted" = some none)(z_set:yH K vQ "set" = some none)(z_enumerate:yH K vQ "enumerate" = some none)(z_zip:yH K vQ "zip" = some none)(z_abs:yH K vQ "abs" = some none)(z_sum:yH K vQ "sum" = some none)(z_min:yH K vQ "min" = some none)(z_max:yH K vQ "max" = some none)(z_range:yH K vQ "range" = some none)(i_int:IsT K .int)(i_bool:IsT K .bl)(i_tuple:IsT K .tup)(i_list:IsT K .lst): ∃fd:vN,(∀(s:vC)(v:vB),tY s fd ⟨[v],[]⟩ [("script", v)])/\∀base:vZ,K.In base->base.Ns vQ mg->FnOk l.prog w K mg base CX0 11 fa fd ["script"] (spD K 1 q3L):=by
 have e:=hfa.symm.trans (w9 X G D34.1);cases e;obtain⟨d0,F0⟩:=D0.2;obtain⟨d1,F1⟩:=D1.2;obtain⟨d2,F2⟩:=D2.2;obtain⟨d3,F3⟩:=D3.2;obtain⟨d4,F4⟩:=D4.2;obtain⟨d5,F5⟩:=D5.2;obtain⟨d6,F6⟩:=D6.2;obtain⟨d7,F7⟩:=D7.2;obtain⟨d8,F8⟩:=D8.2;obtain⟨d9,F9⟩:=D9.2;obtain⟨d10,F10⟩:=D10.2;obtain⟨d11,F11⟩:=D11.2;obtain⟨d12,F12⟩:=D12.2;obtain⟨d13,F13⟩:=D13.2;obtain⟨d14,F14⟩:=D14.2;obtain⟨d15,F15⟩:=D15.2;obtain⟨d16,F16⟩:=D16.2;obtain⟨d17,F17⟩:=D17.2;obtain⟨d18,F18⟩:=D18.2;obtain⟨d19,F19⟩:=D19.2;obtain⟨d20,F20⟩:=D20.2;obtain⟨d21,F21⟩:=D21.2;obtain⟨d22,F22⟩:=D22.2;obtain⟨d23,F23⟩:=D23.2;obtain⟨d24,F24⟩:=D24.2;obtain⟨d25,F25⟩:=D25.2;obtain⟨d26,F26⟩:=D26.2;obtain⟨d27,F27⟩:=D27.2;obtain⟨d28,F28⟩:=D28.2;obtain⟨d29,F29⟩:=D29.2;obtain⟨d30,F30⟩:=D30.2;obtain⟨d31,F31⟩:=D31.2;obtain⟨d32,F32⟩:=D32.2;obtain⟨d33,F33⟩:=D33.2;obtain⟨_,F34⟩:=D34.2;obtain⟨_,_,kV,dc,pm,an,cd,ct,_,rfl,_,_⟩:=F34.ex;have y_isinstance:=zv X G z_isinstance;have y_bool:=zv X G z_bool;have y_int:=zv X G z_int;have y_len:=zv X G z_len;have y_tuple:=zv X G z_tuple;have y_list:=zv X G z_list;have y_all:=zv X G z_all;have y_sorted:=zv X G z_sorted;have y_set:=zv X G z_set;have y_enumerate:=zv X G z_enumerate;have y_zip:=zv X G z_zip;have y_abs:=zv X G z_abs;have y_sum:=zv X G z_sum;have y_min:=zv X G z_min;have y_max:=zv X G z_max;have y_range:=zv X G z_range;refine⟨yz "law" "law" (Ys q3D) (Yd q3D) (Z9 q3D) .none kV dc pm an cd ct,λs v=>.of_eq rfl,λbase _ _=>?_⟩;have C0:=qh l.prog w base X G D0 F0 (q7G F0 y_isinstance y_bool y_int i_int i_bool) λ_ _ _ _ _ _ us hl=>match us,hl with|[_],_=>rfl
 have C1:=qh l.prog w base X G D1 F1 (qaw F1 C0 y_len y_isinstance y_tuple i_tuple) λ_ _ _ _ _ _ us hl=>match us,hl with|[_],_=>rfl
 have C2:=qh l.prog w base X G D2 F2 (q78 F2 C0 C1 y_isinstance y_list y_all i_list) λ_ _ _ _ _ _ us hl=>match us,hl with|[_,_,_],_=>rfl
 have C3:=qh l.prog w base X G D3 F3 (q4B F3 C2) λ_ _ _ _ _ _ us hl=>match us,hl with|[_,_,_],_=>rfl
 have C4:=qh l.prog w base X G D4 F4 (qbr F4 C3 y_sorted y_set) λ_ _ _ _ _ _ us hl=>match us,hl with|[_,_,_],_=>rfl
 have C5:=qh l.prog w base X G D5 F5 (q5Y F5) λ_ _ _ _ _ _ us hl=>match us,hl with|[_,_],_=>rfl
 have C6:=qh l.prog w base X G D6 F6 (q7C F6 y_sorted) λ_ _ _ _ _ _ us hl=>match us,hl with|[_,_],_=>rfl
 have C7:=qh l.prog w base X G D7 F7 (qbb F7 C5 C6 y_sorted) λ_ _ _ _ _ _ us hl=>match us,hl with|[_,_],_=>rfl
 have C8:=qh l.prog w base X G D8 F8 (qdn F8) λ_ _ _ _ _ _ us hl=>match us,hl with|[_],_=>rfl
 have C9:=qh l.prog w base X G D9 F9 (q4d F9 y_enumerate) λ_ _ _ _ _ _ us hl=>match us,hl with|[_],_=>rfl
 have C10:=qh l.prog w base X G D10 F10 (q3v F10) λ_ _ _ _ _ _ us hl=>match us,hl with|[_,_,_],_=>rfl
 have C11:=qh l.prog w base X G D11 F11 (qak F11 C9 C7 C8 C10 y_sorted) λ_ _ _ _ _ _ us hl=>match us,hl with|[_,_,_],_=>rfl
 have C12:=qh l.prog w base X G D12 F12 (qbe F12 C0) λ_ _ _ _ _ _ us hl=>match us,hl with|[_],_=>rfl
 have C13:=qh l.prog w base X G D13 F13 (q6u F13 C0) λ_ _ _ _ _ _ us hl=>match us,hl with|[_,_],_=>rfl
 have C14:=qh l.prog w base X G D14 F14 (q4S F14 C12 C13 y_len y_isinstance y_tuple i_tuple) λ_ _ _ _ _ _ us hl=>match us,hl with|[_,_],_=>rfl
 have C15:=qh l.prog w base X G D15 F15 (q9A F15 C13 C0 C14 y_all y_isinstance y_list i_list) λ_ _ _ _ _ _ us hl=>match us,hl with|[_,_,_,_],_=>rfl
 have C16:=qh l.prog w base X G D16 F16 (q5X F16 C15) λ_ _ _ _ _ _ us hl=>match us,hl with|[_,_,_,_],_=>rfl
 have C17:=qh l.prog w base X G D17 F17 (q4E F17) λ_ _ _ _ _ _ us hl=>match us,hl with|[_],_=>rfl
 have C18:=qh l.prog w base X G D18 F18 (qc4 F18) λ_ _ _ _ _ _ us hl=>match us,hl with|[_,_,_,_],_=>rfl
 have C19:=qh l.prog w base X G D19 F19 (q7c F19 C16 C4 C17 y_list y_zip) λ_ _ _ _ _ _ us hl=>match us,hl with|[_,_,_,_],_=>rfl
 have C20:=qh l.prog w base X G D20 F20 (q64 F20 C18) λ_ _ _ _ _ _ us hl=>match us,hl with|[_,_],_=>rfl
 have C21:=qh l.prog w base X G D21 F21 (q5U F21 C19 C20) λ_ _ _ _ _ _ us hl=>match us,hl with|[_,_,_,_],_=>rfl
 have C22:=qh l.prog w base X G D22 F22 (q6P F22 C18) λ_ _ _ _ _ _ us hl=>match us,hl with|[_,_,_,_],_=>rfl
 have C23:=qh l.prog w base X G D23 F23 (q7b F23 C22 y_len) λ_ _ _ _ _ _ us hl=>match us,hl with|[_,_,_,_,_],_=>rfl
 have C24:=qh l.prog w base X G D24 F24 (q5T F24 C19 C23) λ_ _ _ _ _ _ us hl=>match us,hl with|[_,_,_,_,_],_=>rfl
 have C25:=qh l.prog w base X G D25 F25 (q50 F25 C11 C17 y_zip) λ_ _ _ _ _ _ us hl=>match us,hl with|[_,_,_,_,_],_=>rfl
 have C26:=qh l.prog w base X G D26 F26 (q4J F26 C8 C25 y_zip y_abs y_sum) λ_ _ _ _ _ _ us hl=>match us,hl with|[_,_,_,_,_],_=>rfl
 have C27:=qh l.prog w base X G D27 F27 (qbX F27 C21 C24 C18 C26 y_sum y_min y_max y_range) λ_ _ _ _ _ _ us hl=>match us,hl with|[_,_,_,_],_=>rfl
 have C28:=qh l.prog w base X G D28 F28 (q63 F28 C27 y_min) λ_ _ _ _ _ _ us hl=>match us,hl with|[_,_,_,_],_=>rfl
 have C29:=qh l.prog w base X G D29 F29 (q6l F29 y_len) λ_ _ _ _ _ _ us hl=>match us,hl with|[_,_],_=>rfl
 have C30:=qh l.prog w base X G D30 F30 (q6V F30 C29) λ_ _ _ _ _ _ us hl=>match us,hl with|[_],_=>rfl
 have C31:=qh l.prog w base X G D31 F31 (q74 F31 C29 y_range) λ_ _ _ _ _ _ us hl=>match us,hl with|[_,_],_=>rfl
 have C32:=qh l.prog w base X G D32 F32 (q5Z F32 C29) λ_ _ _ _ _ _ us hl=>match us,hl with|[_,_],_=>rfl
 have C33:=qh l.prog w base X G D33 F33 (q4c F33 C28) λ_ _ _ _ _ _ us hl=>match us,hl with|[_,_,_,_,_,_],_=>rfl
 exact qfg F34 C30 C31 C32 C28 C29 C33 y_list y_len
theorem walk{l:wb}{q:vO}{loose:List Str}{XP:(Str->Option vB)->vZ->Prop}{YP:vT->vZ->Prop}{d:DefRec}{K:Params->zA}(hn:l.most=some 63)(hdf:d.params.defaults=[])(hY:∀(w:vT)(h:vZ),YP w h->(K w.params).In h)(F:∀(w:vT)(mg:Str->Option vB)(fa:vG)(h:vZ),(K w.params).In h->h.Ns vQ mg->mg d.name=some (.ref fa) ->
   ∃fd:vN,(∀(s:vC)(u:vB),tY s fd ⟨[u],[]⟩ [("script", u)])/\∀base:vZ,(K w.params).In base->base.Ns vQ mg->FnOk l.prog w (K w.params) mg base CX0 11 fa fd ["script"] (spD (K w.params) 1 q3L)) :
  Zy q loose XP YP l.row.toRowW d [] (λf vs=>PySem.call f vs) :=
 L2.q8e (n:=63) (k:=11) (x := "script") (CX:=λ_=>CX0) (sp:=λw=>spD (K w.params) 1 q3L) hn (by decide) hdf ⟨rfl,by decide,by decide⟩ hY F
  (λ_ H a ns hl _ hS=>⟨H,[.scr ns],.sh (.bl true),qbQ ns hl,rfl,YM.refl _,⟨.ref a,[],rfl,⟨a,rfl,hS⟩,rfl⟩,λ_ _ _ _ y=>y⟩) λ_ _ _ _ _ z=>z
end Kx
namespace PySem.W.Fast
def tw17869378998679112176:=0
def tw5823913351382100519:=0
def tw6016479694575966989:=0
def tw12061252737259704358:=0
def tw15288256552202911767:=0
def tw11986589575896142536:=0
def tw12630413713059308243:=0
def tw12353786423372639401:=0
def tw8004664756336150940:=0
def tw13849194025022051521:=0
def tw5924730771346115130:=0
def tw15527079144463322973:=0
def tw11523557516102126849:=0
def tw15554373758277301725:=0
def tw15213023894864040883:=0
def tw13055944869978135020:=0
def tw16785154079401278534:=0
def tw11108933506636033123:=0
def tw16989273564124062519:=0
def tw6936741553187754008:=0
def tw7727645136503807466:=0
def tw4180260784486196512:=0
def tw15956000476523271322:=0
def tw6795092673430199891:=0
def tw9815766670032897817:=0
def tw6772230815977082181:=0
def tw11915607731929453725:=0
def tw17617992409220658510:=0
def tw6835182164199069753:=0
def tw16788685431427456261:=0
def tw15603080337418498910:=0
def tw3167073645729272319:=0
def tw11705919467556573004:=0
def tw2417999714523355343:=0
def tw1466256285608245257:=0
def tw16106622982598903935:=0
def tw5184529715229650709:=0
def tw3823739972062272418:=0
def tw7847600291703885019:=0
def tw13381614277752052431:=0
def tw11753881758320145615:=0
def tw8027418454185346048:=0
def tw5615954270019189876:=0
def tw1162749755357792563:=0
def tw18287954387405932549:=0
def tw3412967048662627913:=0
def tw8862460148306077058:=0
def tw17445842344184549824:=0
def tw2094755223063839049:=0
def tw11726723265503470867:=0
def tw10091867615465502024:=0
def tw970132128603490744:=0
def tw7767461090574582378:=0
def tw12672090714810864678:=0
def tw2019865933832361825:=0
def tw15894148753606546153:=0
def tw2660599080639900910:=0
def tw4069021131708083967:=0
def tw1837930583542030835:=0
def tw15025063131973207276:=0
def tw7619853125719087326:=0
def tw3154651050739628868:=0
def tw16507490921768832781:=0
def tw13245835240984559214:=0
def tw14379663222395992028:=0
def tw17020374817933204339:=0
def tw3097575024870378302:=0
def tw4106703549838082518:=0
def tw11485700821379430585:=0
def tw1861294102369387417:=0
def tw8578261102922170763:=0
def tw820452032030558066:=0
def tw16839229480132352671:=0
def tw11223181113918031241:=0
def tw3497742298162800411:=0
def tw1042655077896962825:=0
def tw13719542021196513941:=0
def tw8332225758516102973:=0
def tw3323320417500889320:=0
def tw3653156717195716328:=0
def tw4546419722279358210:=0
def tw13320723774320162270:=0
def tw816218242459410394:=0
def tw7579399673904679630:=0
def tw2573588784242709174:=0
def tw17163456006781357767:=0
def tw751039504825648726:=0
def tw16727551017029908528:=0
def tw3153375484154915805:=0
def tw5183946000954764398:=0
def tw18122570156781527489:=0
def tw13424604429699267576:=0
def tw13445931518625904934:=0
def tw9297774684871196360:=0
def tw5707298792199221309:=0
def tw6042706087345135068:=0
def tw4450866923377695720:=0
def tw15959345750812010570:=0
def tw1042536939305172241:=0
def tw12640589873001097574:=0
def tw8399863666475169634:=0
def tw2869194095608552029:=0
def tw14492493463600268645:=0
def tw7197246649494321610:=0
def tw17295668361617292187:=0
def tw10132679291078564677:=0
def tw7862311648157463503:=0
def tw2315319680522942422:=0
def tw9443540721300369153:=0
def tw15350440724442846214:=0
def tw10980863386383744704:=0
def tw3978653555808038139:=0
def tw9730342133598174958:=0
def tw14430464039053306594:=0
def tw14394679825458398230:=0
def tw434793935696512617:=0
def tw6154840715649061276:=0
def tw14318376007148255987:=0
def tw3491893926740484174:=0
def tw5350448160984633440:=0
def tw11382096786121357551:=0
def tw12365472627041148496:=0
def tw6739142863920102965:=0
def tw8559653611188868009:=0
def tw4092788952763541814:=0
def tw835166793607310262:=0
def tw15961860520631299761:=0
def tw9162479822326146331:=0
def tw5223990135924247784:=0
def tw3756191536753469709:=0
def tw8303367667932777775:=0
def tw12361490827129863157:=0
def tw11403714858021904474:=0
def tw15316968792914492237:=0
def tw6463123218863001463:=0
def tw16876191735047164251:=0
def tw6348264734476815134:=0
def tw4816111920970127604:=0
def tw13234351231892166230:=0
def tw2780436144616861845:=0
def tw10617645309241830075:=0
def tw16268985167057096109:=0
def tw6613749957753952918:=0
def tw14945645777552200785:=0
def tw1933909720053906704:=0
def tw1378366709361883103:=0
def tw12271085241319469785:=0
def tw17219792595651257022:=0
def tw18200225911359041279:=0
def tw5650186096764231627:=0
def tw15804009910233675400:=0
def tw7956122543239745218:=0
def tw5683764792443923739:=0
def tw12881909291374928364:=0
def tw11304677282934760855:=0
def tw8269413633684773179:=0
def tw6228862352153120366:=0
def tw5892863233742761512:=0
def tw11723675824015125986:=0
def tw9062652151447946346:=0
def tw7943885479320556217:=0
def tw4196122284059770098:=0
def tw6003089761541025859:=0
def tw6715837808610113709:=0
def tw10509398568075912351:=0
def tw1174695294284434163:=0
def tw13638966340195310818:=0
def tw11726859844514676610:=0
def tw13112609123382665595:=0
def tw16234287824598549498:=0
def tw13594872052312104567:=0
def tw10717529480933695584:=0
def tw8154511275599198596:=0
def tw9934609961946653901:=0
def tw13349308632081483964:=0
def tw15713029915983779048:=0
def tw7612322960125523889:=0
def tw10169917802290241824:=0
def tw4672944613876375601:=0
def tw8982264783911046112:=0
def tw9682829349200091833:=0
def tw14092857191557647375:=0
def tw15907586620970722717:=0
def tw10211739114234144721:=0
def tw11982846527535519249:=0
def tw12329803521051955376:=0
def tw9759977727154530959:=0
def tw14175723530444135698:=0
def tw9163485388851581378:=0
def tw14047844194040671249:=0
def tw4305724240062103104:=0
def tw124330113462836409:=0
def tw7168228689196403469:=0
def tw3477781621706984120:=0
def tw7064054673717497416:=0
def tw15361941332169470792:=0
def tw14776011426850773263:=0
def tw6831551468090209141:=0
def tw115054954862253464:=0
def tw9077231047226876903:=0
def tw14027387125984204503:=0
def tw5645323364041817541:=0
def tw5342268432745451729:=0
def tw12649604965548932368:=0
def tw15099693247113966134:=0
def tw4378554356506084563:=0
def tw6438085367800081814:=0
def tw8550132758637318293:=0
def tw14066769478096207292:=0
def tw2721838749263106138:=0
def tw4632189623639808422:=0
def tw14269424151420386517:=0
def tw12950424277446968765:=0
def tw978934328817934816:=0
def tw12767951594797494843:=0
def tw3681112075215755149:=0
def tw1900952281955217180:=0
def tw8352068481647410640:=0
def tw4017628431033162002:=0
def tw6341087299842278620:=0
def tw3611117680227414010:=0
def tw15542361399163597641:=0
def tw15314942180744031277:=0
def tw12382242968608585679:=0
def tw10227101292053872217:=0
def tw14284759276548375711:=0
def tw3285010084087751592:=0
def tw8053960346612608656:=0
def tw16292419167743870611:=0
def tw9292589500903115700:=0
def tw17616309311471831755:=0
def tw623968482213588186:=0
def tw13536164066401292082:=0
def tw8675017261053234407:=0
def tw12747540874628444247:=0
def tw9755522929591665224:=0
def tw7754608434713148972:=0
def tw13420994892189961883:=0
def tw738356295985988429:=0
def tw1200643284254418283:=0
def tw9096744194575589819:=0
def tw11979909574943044848:=0
def tw14421953311901772397:=0
def tw1577246361208928970:=0
def tw11570797352256707624:=0
def tw8421465625170031153:=0
def tw17261023738641372261:=0
def tw12162482001590739030:=0
def tw6279410906709531137:=0
def tw1076884690589913386:=0
def tw3221642869237396310:=0
def tw16494241025111968593:=0
def tw10215955486213032772:=0
end PySem.W.Fast
open PySem PySem.W PyProof.Rows
set_option maxRecDepth 100000 in
set_option maxHeartbeats 0 in
theorem PySem.Challenge.cw_hookrail_k68_rings_made_otherwise_holds : PySem.Challenge.rw_hookrail_k68_rings_made_otherwise.Holds := by
 w_on;o_law;k_head;(case hw=>w_witness2)
 k_fill
 refine Kx.walk (l:=PySem.Challenge.rw_hookrail_k68_rings_made_otherwise) rfl rfl (λw h Y=>Zq Y) ?F
 case F =>
  intro w mg fa h KX G hmg;refine' Kx.qeY KX G hmg ?D0 ?D1 ?D2 ?D3 ?D4 ?D5 ?D6 ?D7 ?D8 ?D9 ?D10 ?D11 ?D12 ?D13 ?D14 ?D15 ?D16 ?D17 ?D18 ?D19 ?D20 ?D21 ?D22 ?D23 ?D24 ?D25 ?D26 ?D27 ?D28 ?D29 ?D30 ?D31 ?D32 ?D33 ?D34 ?z_isinstance ?z_bool ?z_int ?z_len ?z_tuple ?z_list ?z_all ?z_sorted ?z_set ?z_enumerate ?z_zip ?z_abs ?z_sum ?z_min ?z_max ?z_range ?i_int ?i_bool ?i_tuple ?i_list
  (case D0|D1|D2|D3|D4|D5|D6|D7|D8|D9|D10|D11|D12|D13|D14|D15|D16|D17|D18|D19|D20|D21|D22|D23|D24|D25|D26|D27|D28|D29|D30|D31|D32|D33|D34=>(refine' Hk.qfQ ?a ?l ?c ?k;(case a=>k_is);(case l=>k_is);(case c=>k_is);(case k=>k_is)))
  (case z_isinstance|z_bool|z_int|z_len|z_tuple|z_list|z_all|z_sorted|z_set|z_enumerate|z_zip|z_abs|z_sum|z_min|z_max|z_range=>k_is)
  (case i_int=>intro t ht;cases t <;> first|(exact absurd rfl ht)|rfl|k_is)
  (case i_bool=>intro t ht;cases t <;> first|(exact absurd rfl ht)|rfl|k_is)
  (case i_tuple=>intro t ht;cases t <;> first|(exact absurd rfl ht)|rfl|k_is)
  (case i_list=>intro t ht;cases t <;> first|(exact absurd rfl ht)|rfl|k_is)
#print axioms PySem.Challenge.cw_hookrail_k68_rings_made_otherwise_holds
