import PyProof.Rows.All
import Wide.All
import OpenK.AllK
import Wide.FinOn
import Lean
import PyProof.EqAt
import PyProof.EqKinds
import PyProof.TupleCall
import PySem.SetOps
import KE.KDictSum
import KE.KDictList
import PyProof.ZipIter
import KE.KFind
import PyProof.MaxThree
import PyProof.Rows.IntMath
import PyProof.EnumMake
import PyProof.Rows.EnumRows
import PyProof.DictWalks
import PyProof.Rows.SortRuns
import KE.KSortKey
import KE.KSortTup
import PyProof.Rows.SortShell
import PyProof.Rows.SortWalk
import PySem.Challenge.RW_hookrail_k63_turns
open Array renaming length_toList→zL,getElem?_toList→zZ,getElem?_eq_getElem→zx,getD_eq_getD_getElem?→yg,getElem?_eq_none→yi,toArray_toList→xR,perm_iff_toList_perm→wL,size_push→wm,getElem?_push→ZB,forIn_toList→ZT,toList_push→Zb,toList→YE
open Bool renaming and_eq_true→zr,false_eq_true→yC,false_ne_true→yJ,or_false→xZ,and_false→xm,false_and→wH,false_or→wS,not_true→wT,true_or→wg,and_eq_true_iff→wx,not_false→w8,true_and→ZP,and_true→ZQ,or_true→Zj,eq_iff_iff→Zw
open Int renaming toNat_natCast→yH,le_refl→yk,zero_add→xW,mul_add→xk,le_of_lt→xp,emod_eq_of_lt→xq,mul_one→wQ,reducePow→wU,reduceToNat→wq,toNat_of_nonneg→ZD,reduceSub→ZI,reduceAdd→ZJ,reduceMul→ZK,reduceMod→ZL,reduceDiv→ZM,reduceNeg→ZN,reduceBEq→ZO,le_trans→Ze,reduceLT→Zh,reduceLE→Zi,le_antisymm→Zr,natCast_add→Zy,toNat→YD
open List renaming length_map→zA,getElem?_eq_getElem→zB,length_append→zE,mem_cons→zF,length_cons→zG,mem_cons_self→zH,mem_cons_of_mem→zJ,getElem?_map→zK,size_toArray→zM,range→zO,getElem?_append_right→zP,getD_eq_getElem?_getD→zQ,getElem?_eq_some_iff→zS,mem_singleton→zT,getElem?_set_ne→zU,getElem?_append_left→zV,pairwise_cons→zW,length_range→zX,length_take→zY,append_nil→za,mem_append→zb,map_append→zc,mem_append_right→zd,getElem?_eq_none→ze,mem_of_getElem?→zg,not_mem_nil→zh,map_cons→zi,getElem_mem→zk,pairwise_iff_getElem→zq,map_map→zt,mem_append_left→zu,mem_iff_getElem→zv,mem_range→zw,length_singleton→z9,append_assoc→yB,filter_cons→yE,length_set→yF,length_drop→yG,mem_map→yM,map_congr_left→yN,nodup_append→yO,nil_append→yQ,length_zip→yR,sum_cons→yS,getElem?_replicate→yT,getElem?_set_self→yV,getElem?_range→yX,ext_getElem?→yY,length_replicate→yZ,nodup_cons→yb,getElem?_take→yc,length→yd,getElem?_cons_zero→ye,getElem?_cons_succ→yf,map_nil→yh,getElem?_zip_eq_some→yl,mem_iff_getElem?→yn,length_filter_le→yo,lookup_cons→yp,all_eq_true→yq,getElem?_drop→yr,eq_nil_of_length_eq_zero→yu,take_length→yw,take_append_drop→yy,drop_eq_getElem_cons→yz,take_append_getElem→y9,filterMap_cons→xA,filter_eq_self→xB,length_reverse→xC,getElem_map→xE,pairwise_lt_range→xF,mem_filter→xG,find?_cons→xI,length_nil→xJ,all_cons→xK,foldl_append→xM,pairwise_append→xO,nodup_nil→xQ,perm_ext_iff_of_nodup→xS,getElem_inj→xT,getElem?_eq_none_iff→xX,map_eq_nil_iff→xY,any_cons→xa,of_mem_zip→xb,filter_append→xg,map_singleton→xi,pairwise_singleton→xj,replicate→xl,pairwise_map→xr,drop_length→xu,map_fst_zip→xv,mem_flatten→xw,mem_flatMap→xx,sum_append→xy,replicate_succ→wC,replicate_zero→wE,all_map→wF,length_eraseIdx_of_lt→wK,getElem_range→wM,set_cons_succ→wN,set_cons_zero→wO,filter_cons_of_pos→wW,filter_cons_of_neg→wX,ext_getElem→wY,cons_append→wb,take_of_length_le→wd,range_succ_eq_map→we,zipWith→wf,forIn_cons→wp,filter_nil→wt,dropLast_eq_take→wu,drop_zero→wy,reverse_reverse→wz,length_pos_iff→ZA,flatMap_append→ZE,mem_map_of_mem→ZF,mem_filterMap→ZR,filterMap_map→ZS,zip_cons_cons→ZV,take_sublist→ZY,getElem_take→ZZ,take_add_one→Zd,flatten_cons→Zl,map_snd_zip→Zp,nodup_range→Zq,take_left'→Zt,drop_left'→Zu,foldl_cons→Zv,range_succ→Zx,forIn_nil→Z2,take_take→Z4,drop_take→Z5,drop_drop→Z6,take_zero→Z7,map_take→Z9,map_drop→YA
open List.Pairwise renaming nil→xL,sublist→xt
open List.Perm renaming refl→xP,trans→wo
open List.Sublist renaming refl→Zk
open List.cons renaming inj→YC
open Nat renaming le_refl→zI,ne_of_lt→zm,lt_or_ge→zo,lt_of_lt_of_le→zp,zero_le→zy,le_trans→yA,lt_succ_of_lt→yI,le_of_lt→yL,lt_succ_self→yW,le_succ→yt,lt_irrefl→yv,not_lt_zero→xH,lt_trichotomy→xN,ne_of_gt→xU,zero_add→xV,eq_or_lt_of_le→xh,le_succ_of_le→xo,min_le_left→xz,add_one_ne_zero→wA,zero_ne_add_one→wB,sub_self→wG,lt_of_le_of_lt→wJ,add_sub_cancel_left→wV,reduceEqDiff→wZ,reduceSub→ZG,reduceAdd→ZH,add_sub_cancel→ZU,lt_trans→Za,reduceLT→Zg,min_le_right→Zn,min_eq_left→Zs,not_lt→Z1
open Option renaming bind_some→yD,isSome_iff_exists→ya,map_some→yj,map_eq_some_iff→xn,isSome_map→Zf,getD_none→Zo,map→Z3,none→YF
open Option.some renaming inj→zn
open PySem.Heap renaming get?_push_of_some→zD,lt_size→zN,get?_push_size→zR,get?_update_other→zj,size_push→yP,get?_update_self→ym,size_update→yx,SameBut→y0,get?_some_iff→xf,get?_update_ne→ZC
open PySem.Heap.IsSliceOf renaming new→YG
open PySem.Heap.SameBut renaming update→w9,refl→Zc
open PySem.W renaming Frag→zC,mg_none_of→z8,nsIn→yK,kia_one→yU,fnOf→y8,keepIn→xD,codeIn→wI,methodObj→wP,mg_of→wR,cellsFrom_some→wc,instObj→wj,OpenLaw→wk,lookIn→wv,kitOne→ww,kitx_list→ZW,kitx_dict→ZX,plainGet→Zm,findIn→Zz,kIn_of→Z0,WalkO→Z8,kf_at→YB
open PyProof.Rows renaming arrOf→vT,seqObj→vf,wpS_bind→vp,IntsAre→uA,wpS_pure→uC,listUpdate_at→uV,Keyed→ui,SortedTo→uj,SortSt→ur,wpS_forRange→u3,AllBare→tD,SBase→tE,mirror_perm→tF,seqEpoch_at→tG,subscriptTail_builtinR→tP,plain_sorted→tS,entry_sorted→tT,envOfC→tX,kind_sorted→tY,args_list_sort→tZ,K_mirror_equal→tj,wpS_reverse→tm,subscriptTail→t8,numOf→t9,args_tuple_getitem→sA,args_sorted1→sG,listItems_at→sH,NonInc→sV,wpS_mono→sW,failedOf→sX
open PySem renaming wpAny_bind→vA,Value→vB,Shared→vC,Addr→vF,wpAny_pure→vH,starEach→vK,wpAny→vL,FuncData→vM,Program→vO,Expr→vP,mainGlobals→vQ,World→vU,sizeLine_eq→vX,Heap→vY,Around→vZ,bootBuiltins→vc,wpAny_holding→ve,wpAny_newObj_type→vg,wpAny_call_entry→vh,wpAny_ite_split→vi,wpAny_mono→vm,backTo→vn,Stmt→vo,wpAny_setState_of→vt,swapsWith→vv,keywordEach→vz,behindInMarks→v6,foldedSetIterable→v7,builtinLookup_eq_fast→v8,wpAny_setField_rec→v9,codeAny_builtin→uB,sysModules→uD,assignEach→uE,wpAny_Call_Name_kw→uF,wpAny_passesOwn→uG,wpAny_updateSeq→uH,wpAny_truthy_bool→uI,plainId_quiet→uJ,compareOp→uK,pyNext→uL,backToKw→uM,wpAny_field→uN,rawInt→uO,wpAny_rule→uP,binaryOp→uQ,NameKind→uR,typeLookup_type→uS,attributeBase→uT,wpAny_attempt→uU,codeAny→uW,codeAny_mono→uX,Keyword→uY,scanBound→uZ,wpAny_isInstance→ua,wpAny_newList→ub,sliceBounds→uc,wpAny_pyIter_list→ud,wpAny_typeOf→ue,wpAny_seqItems→uf,IsPair→ug,wpAny_nextOf_list_item→uh,Scope→uk,cLine→um,pickOrder→uo,ZipApart→ut,wpAny_execs_nil→uu,letOwnedTupleGo→uv,wpAny_specialOf→uw,intKind→ux,getItem→uy,setNext→uz,isSubtype_type→u4,wpAny_fieldsOf→u5,firstArgMember→u6,isSubtype_stop→u7,wpAny_newTuple→u8,tupleKind_room_in1→u9,wpAny_standAt→tH,wpAny_comprehension_free→tI,wpAny_eqBool_int→tJ,wpAny_askSetting→tK,updateSeq→tL,wpAny_pyIter_zip→tM,IsPart→tN,typeLookup→tO,call_meets→tQ,wpAny_isTrue_Compare1→tU,wpAny_nextOf_list_end→tV,wpAny_pyNext_zip_item→tW,wpAny_pyNext_zip_end→tf,tupleKind→tq,standAt→tu,PassesOwn→tz,callerA→t4,valueAt→t5,swapsWithSole→t6,swappedStores→t7,checkCount→sB,GenState→sC,CmpOp→sD,BindsTo→sE,slotArgs→sF,Paired→sI,isTrue→sJ,Result→sK,seqIndex_of→sM,wpAny_of_eq→sN,atKey→sO,hashInt→sP,setItem→sQ,pyIter→sR,argsOk→sS,raiseNew→sT,numAt_eq→sU
open PySem.W renaming kas_tail3→sL
noncomputable def vG:=@if_pos
noncomputable def vJ:=@if_neg
noncomputable def vN:=@absurd
noncomputable def vS:=@decide_eq_false
noncomputable def vW:=@decide_eq_true
noncomputable def vq:=@congrArg
local macro_rules|`(∅)=>`(by omega)
local macro_rules|`(⋯)=>`(by decide +kernel)
local macro_rules|`(↥$x)=>`(some (.sh $x))
local macro_rules|`(⇑$x)=>`(by simpa using $x)
local macro_rules|`(tactic|omega)=>`(tactic|lia)
set_option Elab.async false
set_option linter.all false
set_option maxRecDepth 100000
namespace L2
open PySem PySem.Spec PyProof.Rows
noncomputable abbrev Key:=Sum Int Str
noncomputable def Wh:Key->vB->Bool
 | .inl k,v=>Value.isInt k v
 | .inr x,v=>Value.isStrOf x v
noncomputable def keyH(w:vU):Key->Int
 | .inl k=>sP k
 | .inr x=>hashStr w x
theorem qB:∀{k:Key}{v:vB},Wh k v=true->(∃i t,k=Sum.inl i/\v=Value.int i t)\/(∃x t,k=Sum.inr x/\v=Value.str x t)
 | .inl i,v,h=>by
  obtain⟨t,e⟩:=Value.isInt_shape (k:=i) (v:=v) h;exact .inl ⟨i,t,rfl,e⟩
 | .inr x,v,h=>by
  obtain⟨t,e⟩:=Value.isStrOf_shape (x:=x) (v:=v) h;exact .inr ⟨x,t,rfl,e⟩
theorem qcO(i:Int)(t:Tok):Wh (.inl i) (.int i t)=true:=by simp[Wh,Value.isInt]
theorem qdZ(x:Str)(t:Tok):Wh (.inr x) (.str x t)=true:=by simp[Wh,Value.isStrOf]
theorem qgV(a b:Int):decide ((Sum.inl a:Key)=Sum.inl b)=(a==b):=by
 by_cases e:a=b
 ·subst e;simp
 ·have h:¬(Sum.inl a:Key)=Sum.inl b:=λq=>e (Sum.inl.inj q)
  rw[vS h];exact(beq_eq_false_iff_ne.mpr e).symm
theorem qhL(a b:Str):decide ((Sum.inr a:Key)=Sum.inr b)=decide (a=b):=by
 by_cases e:a=b
 ·subst e;simp
 ·have h:¬(Sum.inr a:Key)=Sum.inr b:=λq=>e (Sum.inr.inj q)
  rw[vS h,vS e]
theorem qhD(a:Int)(b:Str):decide ((Sum.inl a:Key)=Sum.inr b)=false:=vS (λq=>nomatch q)
theorem qh2(a:Str)(b:Int):decide ((Sum.inr a:Key)=Sum.inl b)=false:=vS (λq=>nomatch q)
noncomputable def Yb(prog:vO)(w:vU):PySem.KeyKind prog w Key where
 is:=Wh
 hash:=keyH w
 inj:=λv a b ha hb=>by
  rcases qB ha with⟨i,t,rfl,rfl⟩|⟨x,t,rfl,rfl⟩
  ·rcases qB hb with⟨j,u,rfl,e⟩|⟨y,u,rfl,e⟩
   ·injection e with e1 _;rw[e1]
   ·exact nomatch e
  ·rcases qB hb with⟨j,u,rfl,e⟩|⟨y,u,rfl,e⟩
   ·exact nomatch e
   ·injection e with e1 _;rw[e1]
 byValue:=λk v h=>by
  rcases qB h with⟨i,t,rfl,rfl⟩|⟨x,t,rfl,rfl⟩ <;> rfl
 pyHash:=λhv h=>by
  rcases qB hv with⟨i,t,rfl,rfl⟩|⟨x,t,rfl,rfl⟩
  ·exact wpAny_pyHash_int h
  ·exact wpAny_pyHash_str h
 eqBool:=λhu hv h=>by
  rcases qB hu with⟨i,t,rfl,rfl⟩|⟨x,t,rfl,rfl⟩
  ·rcases qB hv with⟨j,u,rfl,rfl⟩|⟨y,u,rfl,rfl⟩
   ·rw[qgV]at h;exact tJ h
   ·rw[qhD]at h;exact SeqAt.EqAt.int_str i t y u _ _ _ _ h
  ·rcases qB hv with⟨j,u,rfl,rfl⟩|⟨y,u,rfl,rfl⟩
   ·rw[qh2]at h;exact SeqAt.EqAt.str_int x t j u _ _ _ _ h
   ·rw[qhL]at h;exact wpAny_eqBool_str h
 «strs»:=λk x t v h=>by
  rcases qB h with⟨i,u,rfl,e⟩|⟨y,u,rfl,e⟩
  ·exact nomatch e
  ·injection e with e1 _
   subst e1;cases v <;> rfl
theorem q9N(prog:vO)(w:vU)(i:Int)(t:Tok):(Yb prog w).is (.inl i) (.int i t)=true:=qcO i t
theorem qae(prog:vO)(w:vU)(x:Str)(t:Tok):(Yb prog w).is (.inr x) (.str x t)=true:=qdZ x t
inductive V where
 | non|bl (b:Bool)|int (i:Int)|str (x:Str)|byt (b:Array UInt8)|flt (b:UInt64)|ref (a:vF)|ty (n:String)
 deriving DecidableEq
def RelV:V->vB->Prop
 | .non,u=>u=Value.none
 | .bl b,u=>u=Value.bool b
 | .int i,u=>∃t,u=Value.int i t
 | .str x,u=>∃t,u=Value.str x t
 | .byt b,u=>∃t,u=Value.bytes b t
 | .flt b,u=>∃t,u=Value.float b t
 | .ref a,u=>u=Value.ref a
 | .ty n,u=>u=Value.type n
abbrev YZ:List V->List vB->Prop:=sI RelV
theorem YZ.length{xs:List V}{us:List vB}(r:YZ xs us):xs.length=us.length:=Paired.length r
theorem YZ.get:∀{xs:List V}{us:List vB}{i:Nat}{x:V},YZ xs us->xs[i]?=some x->∃u,us[i]?=some u/\RelV x u
 | _,_,_,_,.nil,e=>by simp at e
 | _,_,0,_,.cons r _,e=>by simp at e;subst e;exact⟨_,rfl,r⟩
 | _,_,i+1,x,.cons _ t,e=>by
  obtain⟨u,h1,h2⟩:=YZ.get (i:=i) (x:=x) t ⇑e;exact⟨u,by simpa using h1,h2⟩
theorem YZ.set{x:V}{u:vB}(r:RelV x u):∀{xs:List V}{us:List vB}(i:Nat),YZ xs us->YZ (xs.set i x) (us.set i u)
 | _,_,_,.nil=>.nil
 | _,_,0,.cons _ t=>.cons r t
 | _,_,i+1,.cons q t=>.cons q (YZ.set r i t)
theorem YZ.append:∀{xs ys:List V}{us ws:List vB},YZ xs us->YZ ys ws->YZ (xs++ys) (us++ws)
 | _,_,_,_,.nil,s=>s
 | _,_,_,_,.cons r t,s=>.cons r (YZ.append t s)
theorem YZ.take:∀{xs:List V}{us:List vB}(n:Nat),YZ xs us->YZ (xs.take n) (us.take n)
 | _,_,0,_=>.nil
 | _,_,_+1,.nil=>.nil
 | _,_,n+1,.cons r t=>.cons r (YZ.take n t)
theorem YZ.drop:∀{xs:List V}{us:List vB}(n:Nat),YZ xs us->YZ (xs.drop n) (us.drop n)
 | _,_,0,r=>r
 | _,_,_+1,.nil=>.nil
 | _,_,n+1,.cons _ t=>YZ.drop n t
def zAM:Option V->Option vB->Prop
 | some v,some u=>RelV v u
 | none,none=>True
 | _,_=>False
def KV{κ:Type}:List (κ×V)->List (κ×vB)->Prop:=sI λ(p:κ×V) (q:κ×vB)=>p.1=q.1/\RelV p.2 q.2
noncomputable def kV:Key->V
 | .inl i=>.int i
 | .inr x=>.str x
inductive HO where
 
 | lst (xs:List V)
 
 | tup (xs:List V)
 
 | dK (kvs:List (Key×V))|dT (kvs:List (List Key×V))
 
 | set (S:Int->Bool) (n:Nat)
 
 | ins (C dx:vF) (fs:List (Str×V))
 
 | own (x:vF)
 
 | xd (fs:List (Str×V))
 
 | met (f x:vF)
 
 | rng (lo hi:Int)
 
 | frz (o:Obj) (u:HO)
 
 | tbl (ps:Array vB)
 
 | ext (φ:vY->Prop)
noncomputable abbrev Hp:=vF->Option HO
noncomputable def upd(H:Hp)(a:vF)(o:HO):Hp:=λb=>if b=a then some o else H b
theorem qe{H:Hp}{a:vF}{o:HO}:upd H a o a=some o:=by unfold upd;rw[vG rfl]
theorem qc{H:Hp}{a b:vF}{o:HO}(h:b≠a):upd H a o b=H b:=by unfold upd;rw[vJ h]
theorem qi2{H:Hp}{a b:vF}{o u:HO}(h:H a=some o)(h':H b=some u)(d:o≠u):a≠b:=by
 intro e;subst e;rw[h]at h';exact d (zn h')
theorem q0m{H:Hp}{a b:vF}{o:HO}(h:H a=some o)(h':H b=none):a≠b:=by
 intro e;subst e;rw[h]at h';cases h'
section
variable(P:vO)(w:vU)
def Yc(H:Hp)(h:vY)(a:vF):HO->Prop
 | .lst xs=>xs.length<=sizeLine/\∃(its:List vB) (n:Nat),YZ xs its/\h.get? a=some { cls:=.type "list", data:=.seq its.toArray n }
 | .tup xs=>xs.length<=sizeLine/\∃its:List vB,YZ xs its/\IsTup h a its.toArray
 | .dK kvs=>kvs.length<=sizeLine/\(a==uD)=false/\∃vs,KV kvs vs/\h.DictOf (Yb P w) a vs
 | .dT kvs=>kvs.length<=sizeLine/\(a==uD)=false/\∃xs:List (List Key×vF×vB),
   sI (λ(p:List Key×V) (q:List Key×vF×vB)=>p.1=q.1/\H q.2.1=some (.tup (p.1.map kV))/\RelV p.2 q.2.2) kvs xs /\
   ∃o es ep,h.get? a=some o/\o.ExactDict/\o.data=.dict es ep/\es.toList=xs.map (entryOfKey (tq (Yb P w)))/\(xs.map (·.1)).Nodup
 | .set S n=>h.SetOf (ux P w) a S n
 | .ins C dx fs=>H dx=some (.own a)/\fs.length<=1000/\dx≠a/\h.get? a=some (wj C dx) /\
   ∃mA,h.Ns1 dx mA/\(∀f,zAM (fs.lookup f) (mA f))/\PySem.Within mA (fs.map (·.1))
 | .own _=>∃o,h.get? a=some o
 | .xd fs=>∃mA,h.Ns1 a mA/\∀f,zAM (fs.lookup f) (mA f)
 | .rng lo hi=>∃t u v,h.get? a=some { cls:=.type "range", data:=.fields #[.int lo t,.int hi u,.int 1 v] }
 | .frz o u=>h.get? a=some o/\Yc H h a u
 | .tbl ps=>h.get? a=some { cls:=.none,data:=.fields ps }
 | .met f x=>h.get? a=some (wP (.ref f) (.ref x))
 | .ext φ=>φ h/\(∃o,h.get? a=some o)/\∀h1 h2:vY,φ h1->(∀o,h1.get? a=some o->h2.get? a=some o)->φ h2
def HOk(H:Hp)(h:vY):Prop:=∀a o,H a=some o->Yc P w H h a o
end
section
variable{P:vO}{w:vU}{H H':Hp}{h h':vY}{a:vF}{o:HO}
theorem Yc.lt(x:Yc P w H h a o):a<h.objs.size:=by
 cases o with
 | lst xs=>obtain⟨_,_,_,_,e⟩:=x;exact zN e
 | tup xs=>obtain⟨_,_,_,p⟩:=x;exact p.lt
 | dK kvs=>obtain⟨_,_,_,_,o,_,_,e,_⟩:=x;exact zN e
 | dT kvs=>obtain⟨_,_,_,_,o,_,_,e,_⟩:=x;exact zN e
 | set S n=>obtain⟨o,_,_,_,e,_⟩:=x;exact zN e
 | ins C dx fs=>obtain⟨_,_,_,e,_⟩:=x;exact zN e
 | own y=>obtain⟨_,e⟩:=x;exact zN e
 | xd fs=>obtain⟨_,⟨_,_,_,e,_⟩,_⟩:=x;exact zN e
 | rng lo hi=>obtain⟨_,_,_,e⟩:=x;exact zN e
 | frz ob u=>obtain⟨e,_⟩:=x;exact zN e
 | tbl ps=>exact zN (show h.get? a=some _ from x)
 | met f y=>exact zN (show h.get? a=some _ from x)
 | ext φ=>obtain⟨_,⟨_,e⟩,_⟩:=x;exact zN e
theorem Paired.mapP{α β:Type}{F G:α->β->Prop}:∀{l₁:List α}{l₂:List β},sI F l₁ l₂->(∀a b,F a b->G a b)->sI G l₁ l₂
 | _,_,.nil,_=>.nil
 | _,_,.cons r t,f=>.cons (f _ _ r) (Paired.mapP t f)
theorem Yc.stay(x:Yc P w H h a o)(k:∀b u,(b=a\/H b=some (.own a))->h.get? b=some u->h'.get? b=some u)(ho:∀b,H b=some (.own a)->H' b=some (.own a))(ht:∀b xs,H b=some (.tup xs)->H' b=some (.tup xs)):Yc P w H' h' a o:=by
 induction o with
 | lst xs=>obtain⟨z,its,n,r,e⟩:=x;exact⟨z,its,n,r,k _ _ (.inl rfl) e⟩
 | tup xs=>obtain⟨z,its,r,ob,e,c⟩:=x;exact⟨z,its,r,ob,k _ _ (.inl rfl) e,c⟩
 | dK kvs=>obtain⟨z,y,vs,r,ob,es,ep,e,c⟩:=x;exact⟨z,y,vs,r,ob,es,ep,k _ _ (.inl rfl) e,c⟩
 | dT kvs=>
  obtain⟨z,y,xs,r,ob,es,ep,e,c⟩:=x;exact⟨z,y,xs,Paired.mapP r λp q z=>⟨z.1,ht _ _ z.2.1,z.2.2⟩,ob,es,ep,k _ _ (.inl rfl) e,c⟩
 | set S n=>obtain⟨ob,es,ep,t,e,c⟩:=x;exact⟨ob,es,ep,t,k _ _ (.inl rfl) e,c⟩
 | ins C dx fs=>
  obtain⟨d,z,ne,e,mA,⟨od,es,ep,e2,c⟩,r⟩:=x;exact⟨ho _ d,z,ne,k _ _ (.inl rfl) e,mA,⟨od,es,ep,k _ _ (.inr d) e2,c⟩,r⟩
 | own y=>obtain⟨ob,e⟩:=x;exact⟨ob,k _ _ (.inl rfl) e⟩
 | xd fs=>obtain⟨mA,⟨od,es,ep,e,c⟩,r⟩:=x;exact⟨mA,⟨od,es,ep,k _ _ (.inl rfl) e,c⟩,r⟩
 | rng lo hi=>obtain⟨t,u,v,e⟩:=x;exact⟨t,u,v,k _ _ (.inl rfl) e⟩
 | frz ob u ih=>obtain⟨e,q⟩:=x;exact⟨k _ _ (.inl rfl) e,ih q⟩
 | tbl ps=>
  have e:h.get? a=some { cls:=.none,data:=.fields ps }:=x;show h'.get? a=some { cls:=.none,data:=.fields ps };exact k a _ (.inl rfl) e
 | met f y=>
  have e:h.get? a=some (wP (.ref f) (.ref y)):=x;show h'.get? a=some (wP (.ref f) (.ref y));exact k a _ (.inl rfl) e
 | ext φ=>obtain⟨p,⟨o,e⟩,st⟩:=x;exact⟨st _ _ p λo q=>k _ _ (.inl rfl) q,⟨o,k _ _ (.inl rfl) e⟩,st⟩
theorem HOk.lt(x:HOk P w H h)(e:H a=some o):a<h.objs.size:=(x a o e).lt
theorem HOk.fresh(x:HOk P w H h)(e:h.objs.size<=a):H a=none:=by
 cases q:H a with
 | none=>rfl
 | some u=>exact vN (zp (x.lt q) e) (yv _)
theorem HOk.kept(x:HOk P w H h)(k:∀b u,h.get? b=some u->h'.get? b=some u):HOk P w H h':=λa o e=>
 (x a o e).stay (λb u _ q=>k b u q) (λ_ q=>q) λ_ _ q=>q
theorem HOk.laid(x:HOk P w H h)(k:∀b u,h.get? b=some u->h'.get? b=some u)(hp:h.objs.size<=a)(new:Yc P w (upd H a o) h' a o):HOk P w (upd H a o) h':=λb u e=>by
 have hn:=x.fresh hp
 by_cases hb:b=a
 ·subst hb;rw[qe]at e;cases e;exact new
 ·rw[qc hb]at e
  exact(x b u e).stay (λc v _ q=>k c v q) (λc q=>by rw[qc (q0m q hn)];exact q) λc xs q=>by rw[qc (q0m q hn)];exact q
end
def Rd(H:Hp)(a:vF)(u:HO):Prop:=H a=some u\/∃o,H a=some (.frz o u)
theorem Rd.ok{P:vO}{w:vU}{H:Hp}{h:vY}{a:vF}{u:HO}(r:Rd H a u)(x:HOk P w H h):Yc P w H h a u:=by
 rcases r with r|⟨o,r⟩
 ·exact x a u r
 ·obtain⟨_,q⟩:=x a _ r
  exact q
def Mut:Option HO->Prop
 | some (.lst _)=>True
 | some (.dK _)=>True
 | some (.dT _)=>True
 | some (.set _ _)=>True
 | some (.ins _ _ _)=>True
 | some (.ext _)=>True
 | _=>False
section
variable{P:vO}{w:vU}{H:Hp}{h h':vY}{x e:vF}{o':HO}
theorem HOk.write(ok:HOk P w H h)(mu:Mut (H x))(he:e=x\/H e=some (.own x))(k:∀b u,b≠e->h.get? b=some u->h'.get? b=some u)(heo:∃u,h'.get? e=some u)(new:Yc P w (upd H x o') h' x o'):HOk P w (upd H x o') h':=λb u q=>by
 have nown:∀c y,H c=some (.own y)->c≠x:=λc y r z=>by subst z;rw[r]at mu;exact mu
 have ntup:∀c xs,H c=some (.tup xs)->c≠x:=λc xs r z=>by subst z;rw[r]at mu;exact mu
 by_cases hb:b=x
 ·subst hb;rw[qe]at q;cases q;exact new
 ·rw[qc hb]at q
  by_cases hbe:b=e
  ·have q':H b=some (.own x):=by
    rcases he with z|z
    ·exact vN (hbe.trans z) hb
    ·rw[hbe];exact z
   rw[q]at q';cases q';obtain⟨v,hv⟩:=heo;exact⟨v,by rw[hbe];exact hv⟩
  ·refine(ok b u q).stay (λc v hc r=>k c v ?_ r) (λc r=>by rw[qc (nown c b r)];exact r) λc xs r=>by rw[qc (ntup c xs r)];exact r
   rcases hc with rfl|hc
   ·exact hbe
   ·rintro rfl
    rcases he with z|z
    ·exact nown c b hc z
    ·rw[hc]at z;cases z;exact hb rfl
end
structure Un (fs ex:List vF) (H H':Hp) (h h':vY):Prop where
 keep:∀b o,h.get? b=some o->H b=none->b∉fs->b∉ex->h'.get? b=some o
 slot:∀b o,h.get? b=some o->H b=none->b∈fs->b∉ex->∃sl,h'.get? b=some { o with slots:=sl }
 free:∀b o,h.get? b=some o->H b=none->b∉ex->H' b=none
 there:∀b o,h.get? b=some o->b∉ex->∃o',h'.get? b=some o'
 tups:∀b xs,H b=some (.tup xs)->H' b=some (.tup xs)
 frzs:∀b o u,H b=some (.frz o u)->H' b=some (.frz o u)
 tbls:∀b ps,H b=some (.tbl ps)->∃more,H' b=some (.tbl (ps++more))
section
variable{fs fs' ex ex':List vF}{H H1 H2:Hp}{h h1 h2 h':vY}{a x e:vF}{o:HO}
theorem Un.any(u:Un fs ex H H1 h h1){b:vF}{ob:Obj}(q:h.get? b=some ob)(n:H b=none)(hx:b∉ex):∃sl,h1.get? b=some { ob with slots:=sl }:=by
 by_cases hb:b∈fs
 ·exact u.slot b ob q n hb hx
 ·exact⟨ob.slots,u.keep b ob q n hb hx⟩
theorem Un.kept(k:∀b u,h.get? b=some u->h'.get? b=some u):Un fs ex H H h h' :=
 ⟨λb ob q _ _ _=>k b ob q,λb ob q _ _ _=>⟨ob.slots,k b ob q⟩,λ_ _ _ n _=>n,λb ob q _=>⟨ob,k b ob q⟩,λ_ _ q=>q,λ_ _ _ q=>q,λ_ ps q=>⟨#[],by rw[q];simp⟩⟩
theorem Un.refl:Un fs ex H H h h:=Un.kept λ_ _ q=>q
theorem Un.laid(k:∀b u,h.get? b=some u->h'.get? b=some u)(hp:h.objs.size<=a)(hn:H a=none):Un fs ex H (upd H a o) h h' where
 keep:=λb u q _ _ _=>k b u q
 slot:=λb u q _ _ _=>⟨u.slots,k b u q⟩
 free:=λb u q n _=>by rw[qc (zm (zp (zN q) hp))];exact n
 there:=λb u q _=>⟨u,k b u q⟩
 tups:=λb xs q=>by rw[qc (q0m q hn)];exact q
 frzs:=λb u xs q=>by rw[qc (q0m q hn)];exact q
 tbls:=λb ps q=>⟨#[],by rw[qc (q0m q hn),q];simp⟩
theorem Un.write(mu:Mut (H x))(he:e=x\/H e=some (.own x))(k:∀b u,b≠e->h.get? b=some u->h'.get? b=some u)(heo:∃u,h'.get? e=some u):Un fs ex H (upd H x o) h h':=by
 have hx:∀b,H b=none->b≠x:=λb n z=>by subst z;rw[n]at mu;exact mu
 have hb:∀b,H b=none->b≠e:=λb n z=>by
  subst z;rcases he with r|r
  ·exact hx b n r
  ·rw[n]at r;cases r
 have hm:∀b u,H b=some u->¬Mut (some u)->b≠x:=λb u q nm z=>by subst z;rw[q]at mu;exact nm mu
 refine⟨λb u q n _ _=>k b u (hb b n) q,λb u q n _ _=>⟨u.slots,k b u (hb b n) q⟩,λb u q n _=>by rw[qc (hx b n)];exact n,λb u q _=>?_,
  λb xs q=>by rw[qc (hm b _ q λz=>z)];exact q,λb u xs q=>by rw[qc (hm b _ q λz=>z)];exact q,λb ps q=>⟨#[],by rw[qc (hm b _ q λz=>z),q];simp⟩⟩
 by_cases hbe:b=e
 ·subst hbe;exact heo
 ·exact⟨u,k b u hbe q⟩
end
noncomputable def trk(h:vY)(H:Hp):List vF:=(zO h.objs.size).filter λa=>(H a).isSome
noncomputable def zAf(h:vY)(H:Hp):vY:=PySem.W.hideAll h (trk h H)
theorem qdB(h:vY)(H:Hp):(zAf h H).objs.size=h.objs.size:=PySem.W.hideAll_size _ _
theorem qex{h:vY}{H:Hp}{b:vF}{o:Obj}(e:h.get? b=some o)(n:H b=none):(zAf h H).get? b=some o :=
 PySem.W.hideAll_get _ e λhm=>by
  have q:(H b).isSome=true:=(xG.mp hm).2;rw[n]at q;simp at q
theorem qgj{h:vY}{H:Hp}{b:vF}{o:Obj}(e:(zAf h H).get? b=some o):h.get? b=some o/\H b=none:=by
 have e':h.get? b=some o:=PySem.W.of_hideAll (trk h H) e;refine⟨e',?_⟩;cases q:H b with
 | none=>rfl
 | some x=>
  have hm:b∈trk h H:=xG.mpr ⟨zw.mpr (zN e'),by simp[q]⟩;have z:(zAf h H).get? b=none:=PySem.W.hideAll_none (trk h H) hm;rw[z]at e;cases e
noncomputable def zBD(g h:vY)(L:vF):List (vF×Obj):=(zO h.objs.size).filterMap λa=>if a=L\/(g.get? a).isSome=true then none else (h.get? a).map λo=>(a,o)
noncomputable def rest(g h:vY)(L d:vF):List (vF×Obj):=(zBD g h L).filter λp=>decide (p.1≠d)
structure Mod (K:zC) (mg:Str->Option vB) (base:vY):Prop where
 kin:K.In base
 glob:base.Ns vQ mg
 blt:∃mb,base.Ns builtinsNs mb/\∀x:Str,x ≠ "__name__" -> mb x=vc x
 nolimit:base.NoLimit
structure Cx where
 prog:vO
 w:vU
 K:zC
 mg:Str->Option vB
 base:vY
 A:vZ
 N:List Str
 s₀:vC
 H₀:Hp
 env:Env
 outer:List Env
 stack:List Env
 ex:List vF
 fn:Str->Bool
 calm:Bool
 pn:List (vF×Obj)
 xe:vB->vC->Prop
noncomputable def frs(l:List Env):List vF:=l.filterMap (·.frame)
noncomputable abbrev Cx.fs(X:Cx):List vF:=frs X.outer
def Vis(sc:uk)(x:Str):Prop:=sc.names.lookup x=some .local\/sc.names.lookup x=some .cell\/sc.names.lookup x=some .free
def Loc(sc:uk)(x:Str):Prop:=sc.names.lookup x=some .local\/sc.names.lookup x=some .cell
def Look(env:Env)(h:vY)(m:Str->Option vB)(x:Str)(u:vB):Prop :=
 (env.kindOf x=some .local/\m x=some u)\/((env.kindOf x=some .cell\/env.kindOf x=some .free)/\∃c,env.cells.lookup x=some c/\h.IsCell c (some u))
structure Cx.Ok (X:Cx):Prop where
 mod:Mod X.K X.mg X.base
 kind:X.env.scope.kind=.function
 glob:X.env.globals=vQ
 blt:X.env.builtins=builtinsNs
 above:X.s₀.heap.objs.size<=X.env.locals
 inj:∀x y c,X.env.cells.lookup x=some c->X.env.cells.lookup y=some c->x=y
 has:∀x,(X.env.kindOf x=some .cell\/X.env.kindOf x=some .free)->∃c,X.env.cells.lookup x=some c
 cab:∀x c,X.fn x=true->X.env.cells.lookup x=some c->X.s₀.heap.objs.size<=c
 hd:X.calm=true->X.A.handled=none
 frames:X.A.frames=some X.stack
 stk:X.stack=X.outer\/(X.stack=X.env::X.outer/\X.env.frame=some X.env.locals)
 exf:∀b∈X.ex,b≠X.env.locals/\∀x c,X.env.cells.lookup x=some c->c≠b
 bs:∀b o,X.base.get? b=some o->X.s₀.heap.get? b=some o/\X.H₀ b=none
 bsz:X.base.objs.size<=X.s₀.heap.objs.size
 noex:∀b o,X.base.get? b=some o->b∉X.ex
 exfs:∀b∈X.ex,b∉X.fs
 funs:X.s₀.heap.FunFrames X.base X.outer
 frf:∀b∈X.fs,X.H₀ b=none
structure Inv (X:Cx) (pins:List (vF×Obj)) (σ:List (Option V)) (H:Hp) (s:vC):Prop where
 ok:X.Ok
 os:s.os=X.s₀.os
 bare:tD s.gens
 base:Un X.fs X.ex X.H₀ H X.s₀.heap s.heap
 loc:∃m,s.heap.Ns X.env.locals m/\∀(i:Nat)(x:Str)(v:V),X.N[i]?=some x->σ[i]?=some (some v)->Vis X.env.scope x->∃u,RelV v u/\Look X.env s.heap m x u
 cell:∀x c,X.env.cells.lookup x=some c->∃v,s.heap.IsCell c v
 free:H X.env.locals=none
 freeC:∀x c,X.env.cells.lookup x=some c->H c=none
 pin:∀p∈X.pn++pins,s.heap.get? p.1=some p.2/\H p.1=none/\p.1≠X.env.locals/\p.1∉X.fs/\∀v,p.2.data≠.cell v
 hok:HOk X.prog X.w H s.heap
 len:σ.length=X.N.length
section
variable{X:Cx}{pins:List (vF×Obj)}{σ:List (Option V)}{H H':Hp}{s:vC}{h':vY}
theorem Cx.Ok.nofr(ok:X.Ok){b:vF}{o:Obj}(e:X.base.get? b=some o):b∉X.fs:=λhb=>by
 have:=(ok.funs.mem hb).1;rw[e]at this;cases this
theorem Inv.bs(I:Inv X pins σ H s):∀b o,X.base.get? b=some o->s.heap.get? b=some o/\H b=none:=λb o e=>
 ⟨I.base.keep b o (I.ok.bs b o e).1 (I.ok.bs b o e).2 (I.ok.nofr e) (I.ok.noex b o e),I.base.free b o (I.ok.bs b o e).1 (I.ok.bs b o e).2 (I.ok.noex b o e)⟩
theorem Inv.bk(I:Inv X pins σ H s):∀b o,X.base.get? b=some o->s.heap.get? b=some o:=λb o e=>(I.bs b o e).1
theorem Inv.mod(I:Inv X pins σ H s):Mod X.K X.mg X.base:=I.ok.mod
theorem Inv.kIn(I:Inv X pins σ H s):X.K.In s.heap:=I.ok.mod.kin.keeps I.bk
theorem Inv.lt(I:Inv X pins σ H s):X.env.locals<s.heap.objs.size:=let ⟨_,hn,_⟩:=I.loc;hn.lt
theorem Inv.sz(I:Inv X pins σ H s):X.s₀.heap.objs.size<=s.heap.objs.size:=yA I.ok.above (yL I.lt)
theorem Inv.nofs(I:Inv X pins σ H s){a:vF}(h:s.heap.objs.size<=a):a∉X.fs:=λhb=>by
 obtain⟨_,o,ho,_⟩:=I.ok.funs.mem hb;exact vN (zp (zN ho) (yA I.sz h)) (yv _)
theorem Inv.cne(I:Inv X pins σ H s):∀x c,X.env.cells.lookup x=some c->c≠X.env.locals:=λx c e z=>by
 obtain⟨v,o,ho,hd⟩:=I.cell x c e;obtain⟨m,⟨o',es,ep,ho',hd',_⟩,_⟩:=I.loc;rw[z,ho']at ho;cases ho;rw[hd']at hd;cases hd
theorem Inv.funs(I:Inv X pins σ H s):s.heap.FunFrames X.base X.outer:=by
 have all:∀(l:List Env),(∀b∈frs l,b∈X.fs)->X.s₀.heap.FunFrames X.base l->s.heap.FunFrames X.base l:=by
  intro l
  induction l with
  | nil=>intro _ _;trivial
  | cons env r ih=>
   intro hs hl;obtain⟨hk,⟨L,o,hf,hn,ho,hd⟩,hr⟩:=hl;have hL:L∈X.fs:=hs L (by unfold frs;rw[xA,hf];exact zH);obtain⟨sl,e⟩:=I.base.slot L o ho (I.ok.frf L hL) hL λz=>I.ok.exfs L z hL;exact⟨hk,⟨L,_,hf,hn,e,hd⟩,ih (λb hb=>hs b (by unfold frs;rw[xA,hf];exact zJ _ hb)) hr⟩
 exact all X.outer (λ_ hb=>hb) I.ok.funs
theorem Inv.stack(I:Inv X pins σ H s):s.heap.FunFrames X.base X.stack:=by
 rcases I.ok.stk with e|⟨e,hf⟩
 ·rw[e];exact I.funs
 ·rw[e]
  obtain⟨m,hn,_⟩:=I.loc;refine .cons (by rw[I.ok.kind];decide) hf hn ?_ I.funs;exact Heap.get?_none_of_le (yA I.ok.bsz I.ok.above)
theorem Inv.stkSub(I:Inv X pins σ H s):∀b∈frs X.stack,b∈X.env.locals::X.fs:=λb hb=>by
 rcases I.ok.stk with e|⟨e,hf⟩
 ·rw[e]at hb;exact zJ _ hb
 ·rw[e]at hb
  unfold frs at hb;rw[xA,hf]at hb;exact hb
theorem Inv.stkFree(I:Inv X pins σ H s):∀b∈frs X.stack,H b=none:=λb hb=>by
 rcases zF.mp (I.stkSub b hb)with e|hb
 ·rw[e];exact I.free
 ·obtain⟨_,o,ho,_⟩:=I.ok.funs.mem hb
  exact I.base.free b o ho (I.ok.frf b hb) λz=>I.ok.exfs b z hb
theorem Inv.step{g':Array sC}{t':Nat}{d':Drawn}{ch:List vF}(I:Inv X pins σ H s)(hch:∀b∈ch,(b∈X.ex\/X.s₀.heap.objs.size<=b)/\b≠X.env.locals/\(∀x c,X.env.cells.lookup x=some c->c≠b)/\∀p∈X.pn++pins,p.1≠b)(keep:∀b o,b≠X.env.locals->b∉X.fs->b∉ch->s.heap.get? b=some o->H b=none->h'.get? b=some o)(slot:∀b o,b≠X.env.locals->b∈X.fs->b∉ch->s.heap.get? b=some o->H b=none->∃sl,h'.get? b=some { o with slots:=sl })(free:∀b o,b∉ch->s.heap.get? b=some o->H b=none->H' b=none)(there:∀b o,b∉ch->s.heap.get? b=some o->∃o',h'.get? b=some o')(tups:∀b xs,H b=some (.tup xs)->H' b=some (.tup xs))(frzs:∀b o u,H b=some (.frz o u)->H' b=some (.frz o u))(tbls:∀b ps,H b=some (.tbl ps)->∃more,H' b=some (.tbl (ps++more)))(ns:∀m,s.heap.Ns X.env.locals m->h'.Ns X.env.locals m)(hok:HOk X.prog X.w H' h')(hg:tD g'):
  Inv X pins σ H' { s with heap:=h',gens:=g',drawn:=d',toks:=t' }:=by
 have neL:∀b o,X.s₀.heap.get? b=some o->b≠X.env.locals:=λb o e=>zm (zp (zN e) I.ok.above);have neC:∀b o,X.s₀.heap.get? b=some o->b∉X.ex->b∉ch:=λb o e hx hb=>by
  rcases (hch b hb).1 with z|z
  ·exact hx z
  ·exact vN (zp (zN e) z) (yv _)
 have cellK:∀x c,X.env.cells.lookup x=some c->∀v,s.heap.IsCell c v->h'.IsCell c v:=λx c e v ⟨o,ho,hd⟩=>by
  have nch:c∉ch:=λz=>(hch c z).2.2.1 x c e rfl
  by_cases hc:c∈X.fs
  ·obtain⟨sl,q⟩:=slot c o (I.cne x c e) hc nch ho (I.freeC x c e)
   exact⟨_,q,hd⟩
  ·exact⟨o,keep c o (I.cne x c e) hc nch ho (I.freeC x c e),hd⟩
 refine⟨I.ok,I.os,hg,⟨λb o e n hb hx=>?_,λb o e n hb hx=>?_,λb o e n hx=>?_,λb o e hx=>?_,λb xs e=>tups b xs (I.base.tups b xs e),λb o xs e=>frzs b o xs (I.base.frzs b o xs e),λb ps e=>?_⟩,?_,λx c e=>?_,?_,λx c e=>?_,λp hp=>?_,hok,I.len⟩
 ·exact keep b o (neL b o e) hb (neC b o e hx) (I.base.keep b o e n hb hx) (I.base.free b o e n hx)
 ·obtain⟨sl,e1⟩:=I.base.slot b o e n hb hx
  obtain⟨sl',e2⟩:=slot b _ (neL b o e) hb (neC b o e hx) e1 (I.base.free b o e n hx);exact⟨sl',e2⟩
 ·obtain⟨o',e1⟩:=I.base.there b o e hx
  exact free b o' (neC b o e hx) e1 (I.base.free b o e n hx)
 ·obtain⟨o',e1⟩:=I.base.there b o e hx
  exact there b o' (neC b o e hx) e1
 ·obtain⟨m1,e1⟩:=I.base.tbls b ps e
  obtain⟨m2,e2⟩:=tbls b _ e1;exact⟨m1++m2,by rw[e2,Array.append_assoc]⟩
 ·obtain⟨m,hn,hl⟩:=I.loc
  refine⟨m,ns m hn,λi x v e1 e2 e3=>?_⟩;obtain⟨u,r,l⟩:=hl i x v e1 e2 e3;refine⟨u,r,?_⟩;rcases l with l|⟨k,c,e,z⟩
  ·exact .inl l
  ·exact .inr ⟨k,c,e,cellK x c e _ z⟩
 ·obtain⟨v,z⟩:=I.cell x c e
  exact⟨v,cellK x c e v z⟩
 ·obtain⟨m,⟨o,_,_,ho,_⟩,_⟩:=I.loc
  exact free _ o (λz=>(hch _ z).2.1 rfl) ho I.free
 ·obtain⟨v,o,ho,hd⟩:=I.cell x c e
  exact free c o (λz=>(hch c z).2.2.1 x c e rfl) ho (I.freeC x c e)
 ·obtain⟨e,n,ne,nf,d⟩:=I.pin p hp
  have nch:p.1∉ch:=λz=>(hch p.1 z).2.2.2 p hp rfl;exact⟨keep p.1 p.2 ne nf nch e n,free p.1 p.2 nch e n,ne,nf,d⟩
theorem Inv.un{t':Nat}(I:Inv X pins σ H s)(u:Un X.fs [] H H' s.heap h')(hok:HOk X.prog X.w H' h'):Inv X pins σ H' { s with heap:=h',toks:=t' }:=by
 obtain⟨m,⟨o,es,ep,ho,r⟩,_⟩:=id I.loc;obtain⟨sl,hL⟩:=u.any ho I.free (by simp);exact I.step (g':=s.gens) (d':=s.drawn) (ch:=[]) (λ_ z=>nomatch z) (λb o _ hb _ e n=>u.keep b o e n hb (by simp)) (λb o _ hb _ e n=>u.slot b o e n hb (by simp)) (λb o _ e n=>u.free b o e n (by simp)) (λb o _ e=>u.there b o e (by simp)) u.tups u.frzs u.tbls (λm' hm=>by
  obtain⟨o',es',ep',ho',r'⟩:=hm;rw[ho]at ho';cases ho';exact⟨_,es',ep',hL,r'⟩) hok I.bare
theorem Inv.call{g':Array sC}{t':Nat}{d':Drawn}{ch:List vF}(I:Inv X pins σ H s)(u:Un (frs X.stack) ch H H' s.heap h')(hok:HOk X.prog X.w H' h')(hg:tD g')(hch:∀b∈ch,(b∈X.ex\/X.s₀.heap.objs.size<=b)/\b≠X.env.locals/\(∀x c,X.env.cells.lookup x=some c->c≠b)/\∀p∈X.pn++pins,p.1≠b):
  Inv X pins σ H' { s with heap:=h',gens:=g',drawn:=d',toks:=t' }:=by
 obtain⟨m,⟨o,es,ep,ho,r⟩,_⟩:=id I.loc;obtain⟨sl,hL⟩:=u.any ho I.free λz=>(hch _ z).2.1 rfl;exact I.step (ch:=ch) hch (λb o hL hb hc e n=>u.keep b o e n (λz=>(zF.mp (I.stkSub b z)).elim hL hb) hc) (λb o _ _ hc e n=>u.any e n hc) (λb o hc e n=>u.free b o e n hc) (λb o hc e=>u.there b o e hc) u.tups u.frzs u.tbls (λm' hm=>by
  obtain⟨o',es',ep',ho',r'⟩:=hm;rw[ho]at ho';cases ho';exact⟨_,es',ep',hL,r'⟩) hok hg
theorem Inv.turned{t':Nat}{it:vF}(I:Inv X pins σ H s)(k:∀b o,b≠it->s.heap.get? b=some o->h'.get? b=some o)(hn:H it=none)(hL:it≠X.env.locals)(h1:it∈X.ex\/X.s₀.heap.objs.size<=it)(h2:∀x c,X.env.cells.lookup x=some c->c≠it)(h3:∀p∈X.pn++pins,p.1≠it):Inv X pins σ H { s with heap:=h',toks:=t' }:=by
 have nit:∀b u,H b=some u->b≠it:=λb u e z=>by rw[z,hn]at e;cases e
 refine I.step (g':=s.gens) (d':=s.drawn) (ch:=[it]) (λb hb=>?_) (λb o _ _ hc e _=>k b o (λz=>hc (by simp[z])) e) (λb o _ _ hc e _=>⟨o.slots,k b o (λz=>hc (by simp[z])) e⟩) (λ_ _ _ _ n=>n)
  (λb o hc e=>⟨o,k b o (λz=>hc (by simp[z])) e⟩) (λ_ _ e=>e) (λ_ _ _ e=>e) (λb ps e=>⟨#[],by rw[e];simp⟩) (λm hm=>?_) (λb u e=>?_) I.bare
 ·have e:b=it:=by simpa using hb
  subst e;exact⟨h1,hL,h2,h3⟩
 ·obtain⟨o,es,ep,ho,r⟩:=hm
  exact⟨o,es,ep,k _ o (Ne.symm hL) ho,r⟩
 ·refine(I.hok b u e).stay (λc v hc q=>k c v ?_ q) (λ_ q=>q) λ_ _ q=>q
  rcases hc with z|z
  ·rw[z];exact nit b u e
  ·exact nit c _ z
theorem Inv.tok(I:Inv X pins σ H s)(t:Nat):Inv X pins σ H { s with toks:=t }:=I.un (h':=s.heap) (t':=t) Un.refl I.hok
theorem Inv.kept{t':Nat}(I:Inv X pins σ H s)(k:∀b u,s.heap.get? b=some u->h'.get? b=some u):Inv X pins σ H { s with heap:=h',toks:=t' }:=I.un (Un.kept k) (I.hok.kept k)
theorem Inv.laid{a:vF}{o:HO}{t':Nat}(I:Inv X pins σ H s)(k:∀b u,s.heap.get? b=some u->h'.get? b=some u)(hp:s.heap.objs.size<=a)(new:Yc X.prog X.w (upd H a o) h' a o):
  Inv X pins σ (upd H a o) { s with heap:=h',toks:=t' }:=I.un (Un.laid k hp (I.hok.fresh hp)) (I.hok.laid k hp new)
theorem Inv.write{x e:vF}{o:HO}{t':Nat}(I:Inv X pins σ H s)(mu:Mut (H x))(he:e=x\/H e=some (.own x))(k:∀b u,b≠e->s.heap.get? b=some u->h'.get? b=some u)(heo:∃u,h'.get? e=some u)(new:Yc X.prog X.w (upd H x o) h' x o):Inv X pins σ (upd H x o) { s with heap:=h',toks:=t' }:=I.un (Un.write mu he k heo) (I.hok.write mu he k heo new)
theorem Inv.pins_of{pins':List (vF×Obj)}(I:Inv X pins σ H s)(h:∀p∈pins',s.heap.get? p.1=some p.2/\H p.1=none/\p.1≠X.env.locals/\p.1∉X.fs/\∀v,p.2.data≠.cell v):Inv X pins' σ H s :=
 ⟨I.ok,I.os,I.bare,I.base,I.loc,I.cell,I.free,I.freeC,λp hp=>(zb.mp hp).elim (λz=>I.pin p (zu _ z)) (h p),I.hok,I.len⟩
theorem q9I{N:List Str}(hN:N.Nodup){i j:Nat}{x:Str}(a:N[i]?=some x)(b:N[j]?=some x):i=j:=by
 obtain⟨h1,e1⟩:=zS.mp a;obtain⟨h2,e2⟩:=zS.mp b;exact(xT hN).mp (e1.trans e2.symm)
theorem q7C{M:Model}{A:vZ}{E:vB->vC->Prop}{i:Nat}{x:Str}{v:V}{u:vB}{Q:Unit->vC->Prop}(I:Inv X pins σ H s)(hN:X.N.Nodup)(hi:X.N[i]?=some x)(hx:Loc X.env.scope x)(r:RelV v u)(h:∀s',Inv X pins (σ.set i (some v)) H s'->(∃a,y0 a s.heap s'.heap/\(a=X.env.locals\/X.env.cells.lookup x=some a))->Q () s')(hf:X.fn x=true\/X.env.scope.names.lookup x=some .local:=by first|exact .inl rfl|exact .inr rfl|assumption):vL M A (storeName X.env x u) Q E s:=by
 obtain⟨m,hn,hl⟩:=id I.loc;have hcls:(X.env.scope.kind == .class || (X.env.scope.kind == .module&&X.env.locals != X.env.globals))=false:=by rw[I.ok.kind];rfl
 have hiσ:i<σ.length:=by rw[I.len];exact(zS.mp hi).1
 have cne:=I.cne;have tracked:∀{a:vF}{h':vY},(∃o,s.heap.get? a=some o/\H a=none)->y0 a s.heap h'->HOk X.prog X.w H h':=λ{a h'} ha hs b ob e=>by
  obtain⟨_,_,hfree⟩:=ha;refine(I.hok b ob e).stay (λc w' hc q=>(hs.2 c ?_).trans q) (λ_ q=>q) λ_ _ q=>q;rintro rfl;rcases hc with rfl|hc
  ·rw[hfree]at e;cases e
  ·rw[hfree]at hc;cases hc
 rcases hx with hk|hk
 ·refine wpAny_storeName_local hk hn (λh' hn' hs=>?_) hcls
  obtain⟨oL,_,_,hoL,_⟩:=id hn;refine h _ ⟨I.ok,I.os,I.bare,⟨λb o e n hb hx=>?_,λb o e n hb hx=>?_,I.base.free,λb o e hx=>?_,I.base.tups,I.base.frzs,I.base.tbls⟩,⟨_,hn',λj y v' e1 e2 e3=>?_⟩,λy c e=>?_,I.free,I.freeC,λp hp=>?_,tracked ⟨oL,hoL,I.free⟩ hs,by simpa using I.len⟩ ⟨_,hs,.inl rfl⟩
  ·exact(hs.2 b (zm (zp (zN e) I.ok.above))).trans (I.base.keep b o e n hb hx)
  ·obtain⟨sl,e1⟩:=I.base.slot b o e n hb hx
   exact⟨sl,(hs.2 b (zm (zp (zN e) I.ok.above))).trans e1⟩
  ·obtain⟨o',e1⟩:=I.base.there b o e hx
   exact⟨o',(hs.2 b (zm (zp (zN e) I.ok.above))).trans e1⟩
  ·by_cases hj:j=i
   ·subst hj
    rw[hi]at e1;cases e1;rw[yV hiσ]at e2;cases e2;exact⟨u,r,.inl ⟨hk,by simp⟩⟩
   ·rw[zU (Ne.symm hj)]at e2
    obtain⟨u',r',q⟩:=hl j y v' e1 e2 e3;refine⟨u',r',?_⟩;rcases q with⟨k,e⟩|⟨k,c,e,z⟩
    ·refine .inl ⟨k,?_⟩
     have:y≠x:=λe=>hj (q9I hN e1 (e▸hi));simp[this,e]
    ·exact .inr ⟨k,c,e,z.sameBut hs (cne y c e)⟩
  ·obtain⟨w',z⟩:=I.cell y c e
   exact⟨w',z.sameBut hs (cne y c e)⟩
  ·obtain⟨e,n,ne,nf,d⟩:=I.pin p hp
   exact⟨(hs.2 p.1 ne).trans e,n,ne,nf,d⟩
 ·have hfn:X.fn x=true:=by
   rcases hf with z|z
   ·exact z
   ·rw[z]at hk;cases hk
  obtain⟨c,hc⟩:=I.ok.has x (.inl hk);obtain⟨w',z⟩:=I.cell x c hc;refine wpAny_storeName_cell I.ok.kind hk hc z (λh' hc' hs=>?_);obtain⟨oc,hoc,hocd⟩:=id z;refine h { s with heap:=h' } ⟨I.ok,I.os,I.bare,⟨λb o e n hb hx=>?_,λb o e n hb hx=>?_,I.base.free,λb o e hx=>?_,I.base.tups,I.base.frzs,I.base.tbls⟩,⟨m,hn.sameBut hs (Ne.symm (cne x c hc)),λj y v' e1 e2 e3=>?_⟩,λy c' e=>?_,I.free,I.freeC,λp hp=>?_,tracked ⟨oc,hoc,I.freeC x c hc⟩ hs,by simpa using I.len⟩ ⟨c,hs,.inr hc⟩
  ·exact(hs.2 b (zm (zp (zN e) (I.ok.cab x c hfn hc)))).trans (I.base.keep b o e n hb hx)
  ·obtain⟨sl,e1⟩:=I.base.slot b o e n hb hx
   exact⟨sl,(hs.2 b (zm (zp (zN e) (I.ok.cab x c hfn hc)))).trans e1⟩
  ·obtain⟨o',e1⟩:=I.base.there b o e hx
   exact⟨o',(hs.2 b (zm (zp (zN e) (I.ok.cab x c hfn hc)))).trans e1⟩
  ·by_cases hj:j=i
   ·subst hj
    rw[hi]at e1;cases e1;rw[yV hiσ]at e2;cases e2;exact⟨u,r,.inr ⟨.inl hk,c,hc,hc'⟩⟩
   ·rw[zU (Ne.symm hj)]at e2
    obtain⟨u',r',q⟩:=hl j y v' e1 e2 e3;refine⟨u',r',?_⟩;rcases q with q|⟨k,c',e,z'⟩
    ·exact .inl q
    ·refine .inr ⟨k,c',e,z'.sameBut hs ?_⟩
     rintro rfl;exact hj (q9I hN e1 (I.ok.inj _ _ _ e hc▸hi))
  ·by_cases hcc:c'=c
   ·subst hcc;exact⟨_,hc'⟩
   ·obtain⟨w2,z2⟩:=I.cell y c' e
    exact⟨w2,z2.sameBut hs hcc⟩
  ·obtain⟨e,n,ne,nf,d⟩:=I.pin p hp
   refine⟨(hs.2 p.1 ?_).trans e,n,ne,nf,d⟩;intro q;rw[q,hoc]at e;have q':oc=p.2:=zn e;exact d w' (by rw[<- q'];exact hocd)
theorem q8B{M:Model}{A:vZ}{E:vB->vC->Prop}{i:Nat}{x:Str}{v:V}{u:vB}{Q:Unit->vC->Prop}(I:Inv X pins σ H s)(hN:X.N.Nodup)(hi:X.N[i]?=some x)(hx:Loc X.env.scope x)(r:RelV v u)(h:∀s',Inv X pins (σ.set i (some v)) H s'->Q () s')(hf:X.fn x=true\/X.env.scope.names.lookup x=some .local:=by first|exact .inl rfl|exact .inr rfl|assumption):vL M A (storeName X.env x u) Q E s :=
 q7C I hN hi hx r (λs' I' _=>h s' I') hf
theorem Inv.call'{s':vC}{ch:List vF}(I:Inv X pins σ H s)(ho:s'.os=s.os)(u:Un (frs X.stack) ch H H' s.heap s'.heap)(hok:HOk X.prog X.w H' s'.heap)(hg:tD s'.gens)(hch:∀b∈ch,(b∈X.ex\/X.s₀.heap.objs.size<=b)/\b≠X.env.locals/\(∀x c,X.env.cells.lookup x=some c->c≠b)/\∀p∈X.pn++pins,p.1≠b):Inv X pins σ H' s':=by
 obtain⟨h',g',d',t',o'⟩:=s';have e:o'=s.os:=ho;subst e;exact I.call (g':=g') (t':=t') (d':=d') u hok hg hch
end
abbrev XK:=vB->Option vF->Hp->Prop
noncomputable abbrev St:=List (Option V)
abbrev VK:=V->Hp->Prop
abbrev TE:=St->Hp->VK->Prop
abbrev TT:=St->Hp->(Bool->Hp->Prop)->Prop
abbrev TA:=St->Hp->(List V->Hp->Prop)->Prop
structure Ends where
 nx:St->Hp->Prop
 rt:VK
 bk:St->Hp->Prop:=λ_ _=>False
 ct:St->Hp->Prop:=λ_ _=>False
abbrev TS:=Ends->St->Hp->Prop
def EP(X:Cx)(pins:List (vF×Obj))(σ:St)(Q:VK)(u:vB)(s':vC):Prop:=∃v H',Inv X pins σ H' s'/\RelV v u/\Q v H'
def TP(X:Cx)(pins:List (vF×Obj))(σ:St)(Q:Bool->Hp->Prop)(b:Bool)(s':vC):Prop:=∃H',Inv X pins σ H' s'/\Q b H'
def AP(X:Cx)(pins:List (vF×Obj))(σ:St)(Q:List V->Hp->Prop)(us:List vB)(s':vC):Prop:=∃vs H',Inv X pins σ H' s'/\YZ vs us/\Q vs H'
def SP(X:Cx)(pins:List (vF×Obj))(D:Ends)(f:Flow)(s':vC):Prop :=
 match f with
 | .next=>∃σ' H',Inv X pins σ' H' s'/\D.nx σ' H'
 | .brk=>∃σ' H',Inv X pins σ' H' s'/\D.bk σ' H'
 | .cont=>∃σ' H',Inv X pins σ' H' s'/\D.ct σ' H'
 | .ret u=>∃v σ' H',Inv X pins σ' H' s'/\RelV v u/\D.rt v H'
def PE(X:Cx)(e:vP)(t:TE):Prop :=
 ∀(pins:List (vF×Obj))(s:vC)(σ:St)(H:Hp)(Q:VK),Inv X pins σ H s->t σ H Q->vL (model X.prog X.w) X.A (eval e X.env) (EP X pins σ Q) X.xe s
def PT(X:Cx)(e:vP)(t:TT):Prop :=
 ∀(pins:List (vF×Obj))(s:vC)(σ:St)(H:Hp)(Q:Bool->Hp->Prop),Inv X pins σ H s->t σ H Q->vL (model X.prog X.w) X.A (sJ e X.env (eval e X.env)) (TP X pins σ Q) X.xe s
def PW(X:Cx)(e:vP)(t:TT):Prop :=
 ∀(whole:Sem vB)(pins:List (vF×Obj))(s:vC)(σ:St)(H:Hp)(Q:Bool->Hp->Prop),Inv X pins σ H s->t σ H Q->vL (model X.prog X.w) X.A (sJ e X.env whole) (TP X pins σ Q) X.xe s
theorem PW.pt{X:Cx}{e:vP}{t:TT}(h:PW X e t):PT X e t:=h _
def PA(X:Cx)(es:List vP)(t:TA):Prop :=
 ∀(pos:Pos)(pins:List (vF×Obj))(s:vC)(σ:St)(H:Hp)(Q:List V->Hp->Prop),Inv X pins σ H s->t σ H Q->vL (model X.prog X.w) X.A (spliced (vn pos (vK es X.env))) (AP X pins σ Q) X.xe s
def PS(X:Cx)(st:vo)(t:TS):Prop :=
 ∀(pins:List (vF×Obj))(s:vC)(σ:St)(H:Hp)(D:Ends),Inv X pins σ H s->t D σ H->vL (model X.prog X.w) X.A (exec st X.env) (SP X pins D) X.xe s
def PSs(X:Cx)(st:List vo)(t:TS):Prop :=
 ∀(pins:List (vF×Obj))(s:vC)(σ:St)(H:Hp)(D:Ends),Inv X pins σ H s->t D σ H->vL (model X.prog X.w) X.A (execs st X.env) (SP X pins D) X.xe s
theorem thn{α:Type}{t:Sem α}{Q Q':α->vC->Prop}{M:Model}{A:vZ}{E:vB->vC->Prop}{s:vC}(h:vL M A t Q E s)(hQ:∀a s,Q a s->Q' a s):vL M A t Q' E s:=vm h hQ λ_ _ x=>x
section
variable{X:Cx}
theorem bin{a b:vP}{ta tb:TE}(ha:PE X a ta)(hb:PE X b tb){pins:List (vF×Obj)}{s:vC}{σ:St}{H:Hp}{R:V->V->Hp->Prop}(I:Inv X pins σ H s)(h:ta σ H λx H1=>tb σ H1 λy H2=>R x y H2){α:Type}{Q:α->vC->Prop}{f:vB->vB->Sem α}(hf:∀v u s2 x y H2,Inv X pins σ H2 s2->RelV x v->RelV y u->R x y H2->vL (model X.prog X.w) X.A (f v u) Q X.xe s2):
  vL (model X.prog X.w) X.A (eval a X.env) (λv s₁=>vL (model X.prog X.w) X.A (eval b X.env) (λu s₂=>vL (model X.prog X.w) X.A (f v u) Q X.xe s₂) X.xe s₁) X.xe s:=by
 refine thn (ha pins s σ H _ I h) λv s1 ⟨x,H1,I1,r1,q1⟩=>?_;refine thn (hb pins s1 σ H1 _ I1 q1) λu s2 ⟨y,H2,I2,r2,q2⟩=>?_;exact hf v u s2 x y H2 I2 r1 r2 q2
noncomputable def Yz(i:Nat):TE:=λσ H Q=>∃v,σ[i]?=some (some v)/\Q v H
noncomputable def tC(v:V):TE:=λ_ H Q=>Q v H
theorem qhN{i:Nat}{x:Str}{pos:Pos}(hN:X.N[i]?=some x)(hv:Vis X.env.scope x)(hd:(x==("__debug__" : Str))=false:=by decide)(hcd:(x==("__classdict__" : Str))=false:=by decide):PE X (.Name x pos) (Yz i):=by
 intro pins s σ H Q I h;obtain⟨v,e,h⟩:=h;obtain⟨m,hn,hl⟩:=I.loc;obtain⟨u,r,l⟩:=hl i x v hN e hv;have fin:EP X pins σ Q u s:=⟨v,H,I,r,h⟩;rcases l with⟨hk,hm⟩|⟨hk,c,hc,hcell⟩
 ·exact wpAny_Name (wpAny_loadName_local I.ok.kind hk hn hm fin) hd
 ·rcases hk with hk|hk
  ·exact wpAny_Name (wpAny_loadName_cell I.ok.kind hk hc hcell fin) hd
  ·exact wpAny_Name (wpAny_loadName_free I.ok.kind hk hc hcell fin hcd) hd
theorem q0T{i j pos}:PE X (.Constant (.int i) j pos) (tC (.int i)):=λ_ _ _ H _ I h=>wpAny_Constant_int ⟨.int i,H,I.tok _,⟨_,rfl⟩,h⟩
theorem qi0{b j pos}:PE X (.Constant (.bool b) j pos) (tC (.bl b)):=λ_ _ _ H _ I h=>Constant_bool ⟨.bl b,H,I,rfl,h⟩
def Gl(X:Cx)(x:Str):Prop:=X.env.kindOf x=some .globalImplicit
theorem qb8{E:vB->vC->Prop}{pins:List (vF×Obj)}{s:vC}{σ:St}{H:Hp}{x:Str}{u:vB}{pos:Pos}{Q:vB->vC->Prop}(I:Inv X pins σ H s)(hg:Gl X x)(hm:X.mg x=some u)(h:Q u s)(hd:(x==("__debug__" : Str))=false:=by decide):vL (model X.prog X.w) X.A (eval (.Name x pos) X.env) Q E s :=
 Calls.Name_function_global I.ok.kind hg (Calls.loadGlobal_global (by rw[I.ok.glob];exact I.mod.glob.keeps I.bk) hm h) hd
theorem q0S{E:vB->vC->Prop}{pins:List (vF×Obj)}{s:vC}{σ:St}{H:Hp}{x:Str}{u:vB}{pos:Pos}{Q:vB->vC->Prop}(I:Inv X pins σ H s)(hg:Gl X x)(hm:X.mg x=none)(hv:vc x=some u)(h:Q u s)(hn:x ≠ "__name__" := by decide)(hd:(x==("__debug__" : Str))=false:=by decide):vL (model X.prog X.w) X.A (eval (.Name x pos) X.env) Q E s:=by
 obtain⟨mb,h1,h2⟩:=I.mod.blt;exact Calls.Name_function_global I.ok.kind hg (Calls.loadGlobal_builtin (by rw[I.ok.glob];exact I.mod.glob.keeps I.bk) hm (by rw[I.ok.blt];exact h1.keeps I.bk) ((h2 x hn).trans hv) h) hd
theorem qgL{x:Str}{v:V}{u:vB}{pos:Pos}(hg:Gl X x)(hm:X.mg x=some u)(r:RelV v u)(hd:(x==("__debug__" : Str))=false:=by decide):PE X (.Name x pos) (tC v) :=
 λ_ _ _ H _ I h=>qb8 I hg hm ⟨v,H,I,r,h⟩ hd
theorem qgs{x:Str}{v:V}{u:vB}{pos:Pos}(hg:Gl X x)(hm:X.mg x=none)(hv:vc x=some u)(r:RelV v u)(hn:x ≠ "__name__" := by decide)(hd:(x==("__debug__" : Str))=false:=by decide):PE X (.Name x pos) (tC v) :=
 λ_ _ _ H _ I h=>q0S I hg hm hv ⟨v,H,I,r,h⟩ hn hd
def t2I(ta tb:TE)(k:Int->Int->Hp->Prop):St->Hp->Prop:=λσ H=>ta σ H λx H1=>tb σ H1 λy H2=>∃i j,x=.int i/\y=.int j/\k i j H2
noncomputable def tAdd(ta tb:TE):TE:=λσ H Q=>t2I ta tb (λi j H2=>Q (.int (i+j)) H2) σ H
variable{a b:vP}{ta tb:TE}{pos:Pos}
theorem qda(ha:PE X a ta)(hb:PE X b tb):PE X (.BinOp a .Add b pos) (tAdd ta tb):=by
 intro pins s σ H Q I h;refine wpAny_BinOp (bin ha hb I h λv u s2 x y H2 I2 rx ry q=>?_);obtain⟨i,j,rfl,rfl,q⟩:=q;obtain⟨t,rfl⟩:=rx;obtain⟨t',rfl⟩:=ry;exact add_int ⟨.int _,H2,I2.tok _,⟨_,rfl⟩,q⟩
def PC(X:Cx)(op:sD)(a b:vP)(t:TE):Prop :=
 ∀(pins:List (vF×Obj))(s:vC)(σ:St)(H:Hp)(Q:VK),Inv X pins σ H s->t σ H Q ->
  vL (model X.prog X.w) X.A (eval a X.env) (λv s₁=>vL (model X.prog X.w) X.A (eval b X.env) (λu s₂=>vL (model X.prog X.w) X.A (uK op v u) (EP X pins σ Q) X.xe s₂) X.xe s₁) X.xe s
theorem zAa(b:vP){op:sD}(h:op≠.In)(h2:op≠.NotIn):v6 op b=false:=by
 have e1:(op==CmpOp.In)=false:=by cases op <;> first|rfl|exact vN rfl h
 have e2:(op==CmpOp.NotIn)=false:=by cases op <;> first|rfl|exact vN rfl h2
 cases b <;> simp[v6,e1,e2]
noncomputable def tCmp(p:Int->Int->Bool)(ta tb:TE):TE:=λσ H Q=>t2I ta tb (λi j H2=>Q (.bl (p i j)) H2) σ H
noncomputable abbrev tEqI:TE->TE->TE:=tCmp λi j=>decide (i=j)
theorem qhv{op:sD}{p:Int->Int->Bool}(ha:PE X a ta)(hb:PE X b tb)(rule:∀(i j:Int)(t u:Tok)(Q:vB->vC->Prop)(s:vC),Q (.bool (p i j)) s->vL (model X.prog X.w) X.A (uK op (.int i t) (.int j u)) Q X.xe s):PC X op a b (tCmp p ta tb):=by
 intro pins s σ H Q I h;refine bin ha hb I h λv u s2 x y H2 I2 rx ry q=>?_;obtain⟨i,j,rfl,rfl,q⟩:=q;obtain⟨t,rfl⟩:=rx;obtain⟨t',rfl⟩:=ry;exact rule i j t t' _ s2 ⟨.bl _,H2,I2,rfl,q⟩
theorem qha(ha:PE X a ta)(hb:PE X b tb):PC X .Eq a b (tEqI ta tb):=qhv ha hb λ_ _ _ _ _ _ h=>eq_int (by rw[Bool.beq_eq_decide_eq];exact h)
noncomputable def tB(t:TE):TT:=λσ H Q=>t σ H λx H1=>∃c,x=.bl c/\Q c H1
theorem qcQ{op:sD}{t:TE}(h:PC X op a b t)(h1:v6 op b=false:=by first|exact zAa _ (by decide) (by decide)|rfl):PT X (.Compare a [op] [b] pos) (tB t):=by
 intro pins s σ H Q I hw;refine tU (thn (h pins s σ H _ I hw) λv s1 h1=>thn h1 λu s2 h2=>thn h2 λc s3 ⟨x,H1,I1,r1,q1⟩=>?_) h1;obtain⟨d,rfl,q⟩:=q1;cases r1;exact uI ⟨H1,I1,q⟩
variable{tA tB':TT}{rest:List vP}
noncomputable def tAnd(t u:TT):TT:=λσ H Q=>t σ H λc H1=>if c=true then u σ H1 Q else Q false H1
noncomputable def tOr(t u:TT):TT:=λσ H Q=>t σ H λc H1=>if c=true then Q true H1 else u σ H1 Q
noncomputable def tNot(t:TT):TT:=λσ H Q=>t σ H λc H1=>Q (!c) H1
theorem qgQ(ha:PT X a tA):PW X (.BoolOp .And [a] pos) tA:=by
 intro wh pins s σ H Q I h;refine isTrue_and (thn (ha pins s σ H Q I h) λc s1 e=>?_);cases c with
 | true=>exact isTrue_and_nil e
 | false=>exact e
theorem qhB(ha:PT X a tA):PW X (.BoolOp .Or [a] pos) tA:=by
 intro wh pins s σ H Q I h;refine isTrue_or (thn (ha pins s σ H Q I h) λc s1 e=>?_);cases c with
 | false=>exact isTrue_or_nil e
 | true=>exact e
theorem qhs(ha:PT X a tA)(hb:PW X (.BoolOp .And (b::rest) pos) tB'):PW X (.BoolOp .And (a::b::rest) pos) (tAnd tA tB'):=by
 intro wh pins s σ H Q I h;refine isTrue_and (thn (ha pins s σ H _ I h) λc s1 ⟨H1,I1,q1⟩=>?_);cases c with
 | true=>exact hb wh pins s1 σ H1 Q I1 q1
 | false=>exact⟨H1,I1,q1⟩
theorem qhT(ha:PT X a tA)(hb:PW X (.BoolOp .Or (b::rest) pos) tB'):PW X (.BoolOp .Or (a::b::rest) pos) (tOr tA tB'):=by
 intro wh pins s σ H Q I h;refine isTrue_or (thn (ha pins s σ H _ I h) λc s1 ⟨H1,I1,q1⟩=>?_);cases c with
 | true=>exact⟨H1,I1,q1⟩
 | false=>exact hb wh pins s1 σ H1 Q I1 q1
theorem qgW(ha:PT X a tA):PT X (.UnaryOp .Not a pos) (tNot tA):=by
 intro pins s σ H Q I h;exact isTrue_not (ha pins s σ H (λc H1=>Q (!c) H1) I h)
noncomputable def tAndV(ta tb:TE):TE:=λσ H Q=>ta σ H λx H1=>∃c,x=.bl c/\if c=true then tb σ H1 Q else Q (.bl false) H1
noncomputable def tNotV(ta:TE):TE:=λσ H Q=>ta σ H λx H1=>∃c,x=.bl c/\Q (.bl (!c)) H1
theorem qgU{op}{t:TE}(h:PE X a t):PE X (.BoolOp op [a] pos) t:=λpins s σ H Q I hw=>BoolOp_one (h pins s σ H Q I hw)
theorem qh4(ha:PE X a ta)(hb:PE X (.BoolOp .And (b::rest) pos) tb):PE X (.BoolOp .And (a::b::rest) pos) (tAndV ta tb):=by
 intro pins s σ H Q I h;refine BoolOp_and (thn (ha pins s σ H _ I h) λv s1 ⟨x,H1,I1,r1,q1⟩=>?_);obtain⟨c,rfl,q1⟩:=q1;cases r1;refine uI ?_;cases c with
 | true=>exact hb pins s1 σ H1 Q I1 q1
 | false=>exact⟨.bl false,H1,I1,rfl,q1⟩
theorem qhd(ha:PE X a ta):PE X (.UnaryOp .Not a pos) (tNotV ta):=by
 intro pins s σ H Q I h;refine UnaryOp_ (thn (ha pins s σ H _ I h) λv s1 ⟨x,H1,I1,r1,q1⟩=>?_);obtain⟨c,rfl,q1⟩:=q1;cases r1;exact not_of (uI ⟨.bl (!c),H1,I1,rfl,q1⟩)
noncomputable def tIf(t:TT)(ta tb:TE):TE:=λσ H Q=>t σ H λc H1=>if c=true then ta σ H1 Q else tb σ H1 Q
theorem qes{c:vP}(hc:PT X c tA)(ha:PE X a ta)(hb:PE X b tb):PE X (.IfExp c a b pos) (tIf tA ta tb):=by
 intro pins s σ H Q I h;refine wpAny_IfExp (thn (hc pins s σ H _ I h) λd s1 ⟨H1,I1,q1⟩=>?_);cases d with
 | true=>exact ha pins s1 σ H1 Q I1 q1
 | false=>exact hb pins s1 σ H1 Q I1 q1
end
def SqL(K:zC)(H:Hp)(a:vF)(xs:List V):Prop :=
 Rd H a (.lst xs) \/
  ∃(o:Obj) (its:Array vB) (n:Nat),K.lookup a=some o/\o.cls=.type "list" /\ o.dict=none/\o.data=.seq its n/\its.size<=sizeLine/\YZ xs its.toList
def SqT(K:zC)(H:Hp)(a:vF)(xs:List V):Prop :=
 Rd H a (.tup xs) \/
  ∃(o:Obj) (its:Array vB) (n:Nat),K.lookup a=some o/\o.cls=.type "tuple" /\ o.data=.seq its n/\its.size<=sizeLine/\YZ xs its.toList
noncomputable def absV:vB->Option V
 | .none=>some .non
 | .bool b=>some (.bl b)
 | .int i _=>some (.int i)
 | .str x _=>some (.str x)
 | .bytes b _=>some (.byt b)
 | .float b _=>some (.flt b)
 | .ref a=>some (.ref a)
 | .type n=>some (.ty n)
 | _=>none
theorem RelV.abs{x:V}{u:vB}(r:RelV x u):absV u=some x:=by
 cases x with
 | non=>cases r;rfl
 | bl _=>cases r;rfl
 | int _=>obtain⟨t,rfl⟩:=r;rfl
 | str _=>obtain⟨t,rfl⟩:=r;rfl
 | byt _=>obtain⟨t,rfl⟩:=r;rfl
 | flt _=>obtain⟨t,rfl⟩:=r;rfl
 | ref _=>cases r;rfl
 | ty _=>cases r;rfl
theorem RelV.inj{x y:V}{u:vB}(r:RelV x u)(q:RelV y u):x=y:=zn (r.abs.symm.trans q.abs)
theorem YZ.inj:∀{xs ys:List V}{us:List vB},YZ xs us->YZ ys us->xs=ys
 | _,_,_,.nil,.nil=>rfl
 | _,_,_,.cons r t,.cons r' t'=>by rw[r.inj r',YZ.inj t t']
section
variable{X:Cx}{pins:List (vF×Obj)}{σ:St}{H:Hp}{s:vC}{a:vF}{xs ys:List V}
theorem SqL.of{K:zC}(h:H a=some (.lst xs)):SqL K H a xs:=.inl (.inl h)
theorem SqT.of{K:zC}(h:H a=some (.tup xs)):SqT K H a xs:=.inl (.inl h)
theorem Inv.list(I:Inv X pins σ H s)(h:SqL X.K H a xs):∃its:List vB,YZ xs its/\PlainL s.heap a its.toArray/\xs.length<=sizeLine:=by
 rcases h with h|⟨o,its,n,hk,hc,hd,hs,hz,r⟩
 ·obtain⟨z,its,n,r,e⟩:=h.ok I.hok
  exact⟨its,r,⟨_,n,e,rfl,rfl,rfl⟩,z⟩
 ·refine⟨its.toList,r,⟨o,n,I.kIn a o hk,hc,hd,by simpa using hs⟩,?_⟩
  have e:=r.length;simp only[zL]at e;omega
theorem Inv.tuple(I:Inv X pins σ H s)(h:SqT X.K H a xs):∃its:List vB,YZ xs its/\IsTup s.heap a its.toArray/\xs.length<=sizeLine:=by
 rcases h with h|⟨o,its,n,hk,hc,hs,hz,r⟩
 ·obtain⟨z,its,r,p⟩:=h.ok I.hok
  exact⟨its,r,p,z⟩
 ·refine⟨its.toList,r,⟨o,I.kIn a o hk,hc,n,by simpa using hs⟩,?_⟩
  have e:=r.length;simp only[zL]at e;omega
theorem Inv.list_inj(I:Inv X pins σ H s)(h:SqL X.K H a xs)(h':SqL X.K H a ys):xs=ys:=by
 obtain⟨its,r,⟨o,n,e,_,_,d⟩,_⟩:=I.list h;obtain⟨its',r',⟨o',n',e',_,_,d'⟩,_⟩:=I.list h';rw[e]at e';cases e';rw[d]at d';injection d' with d1 _;have:its=its':=by simpa using vq YE d1
 subst this;exact r.inj r'
theorem Inv.tuple_inj(I:Inv X pins σ H s)(h:SqT X.K H a xs)(h':SqT X.K H a ys):xs=ys:=by
 obtain⟨its,r,⟨o,e,_,n,d⟩,_⟩:=I.tuple h;obtain⟨its',r',⟨o',e',_,n',d'⟩,_⟩:=I.tuple h';rw[e]at e';cases e';rw[d]at d';injection d' with d1 _;have:its=its':=by simpa using vq YE d1
 subst this;exact r.inj r'
end
noncomputable abbrev Cx.wish(X:Cx)(E:vB->vC->Prop):Cx:={ X with xe:=E }
noncomputable abbrev Cx.nox(X:Cx):Cx:=X.wish λ_ _=>False
theorem Cx.Ok.wish{X:Cx}(ok:X.Ok)(E:vB->vC->Prop):(X.wish E).Ok :=
 ⟨ok.mod,ok.kind,ok.glob,ok.blt,ok.above,ok.inj,ok.has,ok.cab,ok.hd,ok.frames,ok.stk,ok.exf,ok.bs,ok.bsz,ok.noex,ok.exfs,ok.funs,ok.frf⟩
theorem Cx.Ok.unwish{X:Cx}{E:vB->vC->Prop}(ok:(X.wish E).Ok):X.Ok :=
 ⟨ok.mod,ok.kind,ok.glob,ok.blt,ok.above,ok.inj,ok.has,ok.cab,ok.hd,ok.frames,ok.stk,ok.exf,ok.bs,ok.bsz,ok.noex,ok.exfs,ok.funs,ok.frf⟩
section
variable{X:Cx}{pins:List (vF×Obj)}{σ:St}{H:Hp}{s:vC}{E:vB->vC->Prop}
theorem Inv.wish(I:Inv X pins σ H s)(E:vB->vC->Prop):Inv (X.wish E) pins σ H s:=⟨I.ok.wish E,I.os,I.bare,I.base,I.loc,I.cell,I.free,I.freeC,I.pin,I.hok,I.len⟩
theorem Inv.unwish(I:Inv (X.wish E) pins σ H s):Inv X pins σ H s:=⟨I.ok.unwish,I.os,I.bare,I.base,I.loc,I.cell,I.free,I.freeC,I.pin,I.hok,I.len⟩
theorem SP.unwish{D:Ends}{f:Flow}{s':vC}(h:SP (X.wish E) pins D f s'):SP X pins D f s':=by
 cases f with
 | next=>obtain⟨σ',H',I,q⟩:=h;exact⟨σ',H',I.unwish,q⟩
 | brk=>obtain⟨σ',H',I,q⟩:=h;exact⟨σ',H',I.unwish,q⟩
 | cont=>obtain⟨σ',H',I,q⟩:=h;exact⟨σ',H',I.unwish,q⟩
 | ret u=>obtain⟨v,σ',H',I,r,q⟩:=h;exact⟨v,σ',H',I.unwish,r,q⟩
theorem PSs.nox{st:List vo}{t:TS}(h:PSs X.nox st t):PSs X st t:=λpins s σ H D I hw=>
 vm (h pins s σ H D (I.wish _) hw) (λ_ _ q=>q.unwish) λ_ _ z=>False.elim z
end
section
variable{X:Cx}{st:vo}{rest:List vo}{t u:TS}{e:vP}{te:TE}{pos:Pos}
noncomputable def tNext:TS:=λD σ H=>D.nx σ H
noncomputable def tSeq(t u:TS):TS:=λD σ H=>t { D with nx:=u D } σ H
theorem qgG:PSs X [] tNext:=λ_ _ σ H _ I h=>uu ⟨σ,H,I,h⟩
theorem q16(h1:PS X st t)(h2:PSs X rest u):PSs X (st::rest) (tSeq t u):=by
 intro pins s σ H D I h;refine wpAny_execs_cons (thn (h1 pins s σ H { D with nx:=u D } I h) λf s1 q=>?_);cases f with
 | next=>
  obtain⟨σ',H',I',q⟩:=q;exact h2 pins s1 σ' H' D I' q
 | ret v=>exact q
 | brk=>exact q
 | cont=>exact q
theorem q0p(h1:PS X st t):PSs X [st] t:=by
 intro pins s σ H D I h;refine wpAny_execs_cons (thn (h1 pins s σ H D I h) λf s1 q=>?_);cases f with
 | next=>exact uu q
 | ret v=>exact q
 | brk=>exact q
 | cont=>exact q
theorem Inv.quiet{pins:List (vF×Obj)}{σ:St}{H:Hp}{s:vC}(I:Inv X pins σ H s):interactive X.env=false:=by simp[interactive,I.ok.kind]
noncomputable def tDrop(te:TE):TS:=λD σ H=>te σ H λ_ H1=>D.nx σ H1
theorem q2j(he:PE X e te)(hs:vv e none pos.line X.env=pure false:=by rfl):PS X (.Expr e pos) (tDrop te):=by
 intro pins s σ H D I h;exact wpAny_Expr_any (thn (he pins s σ H _ I h) λv s1 ⟨x,H1,I1,r1,q1⟩=>⟨σ,H1,I1,q1⟩) I.quiet hs
noncomputable def tRet(te:TE):TS:=λD σ H=>te σ H D.rt
theorem q5I(he:PE X e te):PS X (.Return (some e) pos) (tRet te):=by
 intro pins s σ H D I h;exact wpAny_Return_some (thn (he pins s σ H _ I h) λv s1 ⟨x,H1,I1,r1,q1⟩=>⟨x,σ,H1,I1,r1,q1⟩)
noncomputable def tIfS(c:TT)(t u:TS):TS:=λD σ H=>c σ H λb H1=>if b=true then t D σ H1 else u D σ H1
theorem qbp{c:vP}{a b:List vo}{tc:TT}(hc:PT X c tc)(ha:PSs X a t)(hb:PSs X b u):PS X (.If c a b pos) (tIfS tc t u):=by
 intro pins s σ H D I h;refine wpAny_If (thn (hc pins s σ H _ I h) λd s1 ⟨H1,I1,q1⟩=>?_);cases d with
 | true=>exact ha pins s1 σ H1 D I1 q1
 | false=>exact hb pins s1 σ H1 D I1 q1
noncomputable def tNever:TS:=λ_ _ _=>False
theorem qfj:PS X st tNever:=λ_ _ _ _ _ _ h=>h.elim
end
abbrev TG:=V->St->Hp->(St->Hp->Prop)->Prop
abbrev TGs:=List V->St->Hp->(St->Hp->Prop)->Prop
def PG(X:Cx)(target:vP)(t:TG):Prop :=
 ∀(pins:List (vF×Obj))(s:vC)(σ:St)(H:Hp)(v:V)(u:vB)(Q:St->Hp->Prop),Inv X pins σ H s->RelV v u->t v σ H Q ->
  vL (model X.prog X.w) X.A (assign target X.env u) (λ_ s'=>∃σ' H',Inv X pins σ' H' s'/\Q σ' H') X.xe s
def PGs(X:Cx)(ts:List vP)(t:TGs):Prop :=
 ∀(pins:List (vF×Obj))(s:vC)(σ:St)(H:Hp)(vs:List V)(us:List vB)(Q:St->Hp->Prop),Inv X pins σ H s->YZ vs us->t vs σ H Q ->
  vL (model X.prog X.w) X.A (assignInOrder ((uE ts X.env).map (·.2)) us) (λ_ s'=>∃σ' H',Inv X pins σ' H' s'/\Q σ' H') X.xe s
abbrev TSet:=V->V->V->Hp->(Hp->Prop)->Prop
def PSet(X:Cx)(t:TSet):Prop :=
 ∀(pins:List (vF×Obj))(s:vC)(σ:St)(H:Hp)(o i v:V)(ov iv u:vB)(Q:Hp->Prop),Inv X pins σ H s->RelV o ov->RelV i iv->RelV v u->t o i v H Q ->
  vL (model X.prog X.w) X.A (sQ ov iv u) (λ_ s'=>∃H',Inv X pins σ H' s'/\Q H') X.xe s
section
variable{X:Cx}{pos:Pos}
noncomputable def Xb(i:Nat):TG:=λv σ H Q=>Q (σ.set i (some v)) H
theorem q0K{i:Nat}{x:Str}(hN:X.N.Nodup)(hi:X.N[i]?=some x)(hx:Loc X.env.scope x)(hf:X.fn x=true\/X.env.scope.names.lookup x=some .local:=by first|exact .inl rfl|exact .inr rfl|assumption):PG X (.Name x pos) (Xb i):=by
 intro pins s σ H v u Q I r h;exact wpAny_assign_Name (q8B I hN hi hx r (λs' I'=>⟨_,H,I',h⟩) hf)
noncomputable def gNil:TGs:=λvs σ H Q=>vs=[]/\Q σ H
noncomputable def zAY(t:TG)(u:TGs):TGs:=λvs σ H Q=>∃v r,vs=v::r/\t v σ H λσ' H'=>u r σ' H' Q
theorem qaA:PGs X [] gNil:=by
 intro pins s σ H vs us Q I r h;obtain⟨e,h⟩:=h;subst e;cases r;exact assignInOrder_nil ⟨σ,H,I,h⟩
theorem q3U{e:vP}{es:List vP}{t:TG}{u:TGs}(h1:PG X e t)(h2:PGs X es u)(hs:(uE (e::es) X.env).map (·.2)=assign e X.env::(uE es X.env).map (·.2):=by rfl):PGs X (e::es) (zAY t u):=by
 intro pins s σ H vs us Q I r h;obtain⟨v,vr,e1,h⟩:=h;subst e1;cases r with
 | cons r rr=>
  rw[hs];refine assignInOrder_cons (thn (h1 pins s σ H _ _ _ I r h) λ_ s1 ⟨σ1,H1,I1,q1⟩=>?_);exact h2 pins s1 σ1 H1 _ _ Q I1 rr q1
noncomputable def gTup(K:zC)(n:Nat)(t:TGs):TG:=λv σ H Q=>∃a xs,v=.ref a/\SqT K H a xs/\xs.length=n/\t xs σ H Q
theorem qek{es:List vP}{k:Nat}{t:TGs}{n:Nat}(hc:X.calm=true)(h:PGs X es t)(hn:(uE es X.env).length=n:=by rfl)(hst:(uE es X.env).findIdx? (·.1)=none:=by rfl):PG X (.Tuple es k pos) (gTup X.K n t):=by
 intro pins s σ H v u Q I r hw;obtain⟨a,xs,e1,hq,hl,hw⟩:=hw;subst e1;cases r;obtain⟨its,rv,ht,hz⟩:=I.tuple hq;refine assign_Tuple_tuple (I.ok.hd hc) ht (by simp[hn,<- hl,rv.length]) hst λh' hx=>?_;have I1:Inv X pins σ H { s with heap:=h' }:=I.kept (t':=s.toks) λb o e=>hx b o (zm (zN e)) e;exact h pins _ σ H xs _ Q I1 ⇑rv hw
noncomputable def gSub(to ti:TE)(t:TSet):TG:=λv σ H Q=>to σ H λo H1=>ti σ H1 λi H2=>t o i v H2 λH3=>Q σ H3
theorem q5T{o i:vP}{to ti:TE}{t:TSet}(ho:PE X o to)(hi:PE X i ti)(hs:PSet X t)(ha:∀v,assign (.Subscript o i pos) X.env v=(do
   let ov <- holding [v] (eval o X.env)
   let iv <- holding [v,ov] (eval i X.env)
   tu pos
   holding [v,ov,iv] (sQ ov iv v)
   release [v,ov,iv] []):=by intro _;rfl):PG X (.Subscript o i pos) (gSub to ti t):=by
 intro pins s σ H v u Q I r h;rw[ha];refine vA (ve (thn (ho pins s σ H _ I h) λov s1 ⟨x,H1,I1,r1,q1⟩=>?_));refine vA (ve (thn (hi pins s1 σ H1 _ I1 q1) λiv s2 ⟨y,H2,I2,r2,q2⟩=>?_));refine vA (tH (vA (ve (thn (hs pins s2 σ H2 x y v ov iv u _ I2 r1 r2 r q2) λ_ s3 ⟨H3,I3,q3⟩=>?_))));exact wpAny_release ⟨σ,H3,I3,q3⟩
noncomputable def zBG(te:TE)(g:TG):TS:=λD σ H=>te σ H λx H1=>g x σ H1 D.nx
theorem q5O{tg e:vP}{te:TE}{g:TG}(he:PE X e te)(hg:PG X tg g)(hs:t6 [tg] e pos.line X.env=pure false:=by rfl)(hw:t7 [tg] e X.env=pure none:=by rfl)(h1:(uE [tg] X.env).map (·.2)=[assign tg X.env]:=by rfl):PS X (.Assign [tg] e pos) (zBG te g):=by
 intro pins s σ H D I h;refine wpAny_Assign_stores (thn (he pins s σ H _ I h) λv s1 ⟨x,H1,I1,r1,q1⟩=>?_) hs hw;rw[h1];exact thn (hg pins s1 σ H1 x v _ I1 r1 q1) λ_ s2 q=>q
theorem q48{i:Nat}{x:Str}{e:vP}{te:TE}{pos':Pos}(hN:X.N.Nodup)(hi:X.N[i]?=some x)(hx:Loc X.env.scope x)(he:PE X e te)(hs:vv e (some (.Name x pos')) pos.line X.env=pure false:=by rfl)(hf:X.fn x=true\/X.env.scope.names.lookup x=some .local:=by first|exact .inl rfl|exact .inr rfl|assumption):
  PS X (.Assign [.Name x pos'] e pos) (zBG te (Xb i)):=by
 intro pins s σ H D I h;refine wpAny_Assign_Name (thn (he pins s σ H _ I h) λv s1 ⟨y,H1,I1,r1,q1⟩=>?_) hs;exact q8B I1 hN hi hx r1 (λs2 I2=>⟨_,H1,I2,q1⟩) hf
end
section
variable{X:Cx}{pos:Pos}
noncomputable def zAn(c:TT)(tb:TS):TS:=λD σ H=>∃W:Nat->St->Hp->Prop,(∃m,W m σ H)/\∀m σ H,W m σ H ->
 c σ H λb H1=>if b=true then ∃N:St->Hp->Prop,(∀σ' H',N σ' H'->∃m',m'<m/\W m' σ' H')/\tb { D with nx:=N,ct:=N,bk:=D.nx } σ H1 else D.nx σ H1
theorem qeC{c:vP}{body:List vo}{tc:TT}{tb:TS}(hp:tz (model X.prog X.w) X.A X.env X.xe)(hc:PT X c tc)(hb:PSs X body tb):PS X (.While c body [] pos) (zAn tc tb):=by
 intro pins s σ H D I h;obtain⟨W,⟨m0,w0⟩,turn⟩:=h;refine wpAny_While (codeAny_whileLoop (λn s'=>∃σ' H',Inv X pins σ' H' s'/\W n σ' H') ?_ m0 ⟨σ,H,I,w0⟩);rintro n s1 ⟨σ1,H1,I1,w1⟩;refine uG hp (thn (hc pins s1 σ1 H1 _ I1 (turn n σ1 H1 w1)) λb s2 ⟨H2,I2,q2⟩=>?_);cases b with
 | true=>
  obtain⟨N,hN,q2⟩:=q2;rw[vG rfl];refine uG hp (thn (hb pins s2 σ1 H2 _ I2 q2) λf s3 q3=>?_);cases f with
  | next=>
   obtain⟨σ3,H3,I3,n3⟩:=q3;obtain⟨m',hm,w3⟩:=hN σ3 H3 n3;exact⟨m',hm,σ3,H3,I3,w3⟩
  | cont=>
   obtain⟨σ3,H3,I3,n3⟩:=q3;obtain⟨m',hm,w3⟩:=hN σ3 H3 n3;exact⟨m',hm,σ3,H3,I3,w3⟩
  | brk=>exact q3
  | ret v=>exact q3
 | false=>
  rw[vJ yJ];exact uu ⟨σ1,H2,I2,q2⟩
end
structure It where
 go:Nat->Hp->Prop
 yld:Nat->Hp->V->Hp->Prop
 stop:Nat->Hp->Prop
def Xe(X:Cx)(pins:List (vF×Obj))(H:Hp)(b:vF):Prop :=
 H b=none/\b≠X.env.locals/\b∉X.fs/\(b∈X.ex\/X.s₀.heap.objs.size<=b)/\(∀x c,X.env.cells.lookup x=some c->c≠b)/\∀p∈X.pn++pins,p.1≠b
theorem Inv.fpOk{X:Cx}{pins:List (vF×Obj)}{σ:St}{H H':Hp}{s:vC}{b:vF}(I:Inv X pins σ H s)(hb:s.heap.objs.size<=b)(hn:H' b=none):Xe X pins H' b:=by
 refine⟨hn,xU (zp I.lt hb),I.nofs hb,.inr (yA I.sz hb),λx c e z=>?_,λp hp z=>?_⟩
 ·obtain⟨v,q⟩:=I.cell x c e
  exact vN (zp q.lt (by rw[z];exact hb)) (yv _)
 ·exact vN (zp (zN (I.pin p hp).1) (by rw[z];exact hb)) (yv _)
structure Turn (P:vO) (w:vU) (K:zC) (tg:vP) (J:It) (fp:List vF) (it:vF) (tn:Nat->vY->Prop):Prop where
 mem:it∈fp
 obj:∀i h,tn i h->∀b∈fp,∃o,h.get? b=some o/\∀v,o.data≠.cell v
 keep:∀i h h',tn i h->(∀b∈fp,∀o,h.get? b=some o->h'.get? b=some o)->tn i h'
 item:∀(X:Cx),X.prog=P->X.w=w->X.K=K->X.calm=true->∀(i:Nat)(pins:List (vF×Obj))(s:vC)(σ:St)(H:Hp)(E:vB->vC->Prop),Inv X pins σ H s->(∀b∈fp,Xe X pins H b)->tn i s.heap->J.go i H ->
  vL (model P w) X.A (uL (.ref it)) (λr s1=>∃u,r=some u /\
   vL (model P w) X.A (uv tg (.ref it) u) (λ_ s2=>∃x H',Inv X pins σ H' s2/\RelV x u/\J.yld i H x H'/\tn (i+1) s2.heap/\∀b∈fp,H' b=none) E s1) E s
 done:∀(X:Cx),X.prog=P->X.w=w->X.K=K->X.calm=true->∀(i:Nat)(pins:List (vF×Obj))(s:vC)(σ:St)(H:Hp)(E:vB->vC->Prop),Inv X pins σ H s->(∀b∈fp,Xe X pins H b)->tn i s.heap->J.stop i H ->
  vL (model P w) X.A (uL (.ref it)) (λr s1=>r=none/\Inv X pins σ H s1) E s
 self:∀(A:vZ)(i:Nat)(s:vC)(Q:vB->vC->Prop)(E:vB->vC->Prop),tn i s.heap->Q (.ref it) s->vL (model P w) A (sR (.ref it)) Q E s
abbrev TI:=St->Hp->(It->Hp->Prop)->Prop
def PIE(X:Cx)(pins:List (vF×Obj))(σ:St)(tg:vP)(R:It->Hp->Prop)(itv:vB)(s2:vC):Prop :=
 ∃(it:vF) (fp:List vF) (tn:Nat->vY->Prop) (J:It) (H':Hp),itv=.ref it/\Inv X pins σ H' s2/\Turn X.prog X.w X.K tg J fp it tn/\tn 0 s2.heap/\(∀b∈fp,Xe X pins H' b)/\R J H'
def PI(X:Cx)(tg iter:vP)(wi:TI):Prop :=
 ∀(pins:List (vF×Obj))(s:vC)(σ:St)(H:Hp)(R:It->Hp->Prop),Inv X pins σ H s->wi σ H R ->
  vL (model X.prog X.w) X.A (eval iter X.env) (λv s1=>vL (model X.prog X.w) X.A (sR v) (PIE X pins σ tg R) X.xe s1) X.xe s
theorem q8c{M:Model}{A:vZ}{E:vB->vC->Prop}{s:vC}{tg:vP}{it:vF}{u:vB}{o:Obj}{n:String}{vs:Array vB}{Q:Unit->vC->Prop}(ho:s.heap.get? it=some o)(hc:o.cls=.type n)(hd:o.data=.fields vs)(hn:["enumerate", "zip", "dict_itemiterator", "dict_reverseitemiterator", "odict_iterator", "itertools.zip_longest", "itertools.pairwise"].contains n=false)(hQ:Q () s):vL M A (uv tg (.ref it) u) Q E s:=by
 unfold uv;cases tg <;> first
  | exact vH hQ
  | (cases u <;> first
    | exact vH hQ
    | (refine vA (wpAny_load ho ?_)
       rw[hc,hd];show vL M A (if (["enumerate", "zip", "dict_itemiterator", "dict_reverseitemiterator", "odict_iterator", "itertools.zip_longest", "itertools.pairwise"].contains n&&vs[0]?==some (uO _))=true then _ else _) Q E s;rw[vJ (by intro h;rw[hn,wH]at h;cases h)];exact vH hQ))
noncomputable def Itl(K:zC)(a:vF):It :=
 ⟨λi H=>∃xs x,SqL K H a xs/\xs[i]?=some x,λi H x H'=>H'=H/\∀xs,SqL K H a xs->xs[i]?=some x,λi H=>∃xs,SqL K H a xs/\xs.length<=i⟩
noncomputable def Itt(K:zC)(a:vF):It :=
 ⟨λi H=>∃xs x,SqT K H a xs/\xs[i]?=some x,λi H x H'=>H'=H/\∀xs,SqT K H a xs->xs[i]?=some x,λi H=>∃xs,SqT K H a xs/\xs.length<=i⟩
noncomputable def Itr(lo:Int)(n:Nat):It:=⟨λi _=>i<n,λi H x H'=>H'=H/\x=.int (lo+i),λi _=>n<=i⟩
theorem qdj{P:vO}{w:vU}{K:zC}{tg:vP}(a it:vF):Turn P w K tg (Itl K a) [it] it (λi h=>h.IsListIter it a i) where
 mem:=by simp
 obj:=λi h st b hb=>by
  have e:b=it:=by simpa using hb
  subst e;obtain⟨o,e,c,d⟩:=st;exact⟨o,e,λv z=>by rw[d]at z;cases z⟩
 keep:=λi h h' st k=>st.at λo e=>k it (by simp) o e
 item:=by
  intro X hP hw hK hc i pins s σ H E I hf st hg;subst hP hw hK;obtain⟨xs,x,hq,hx⟩:=hg;obtain⟨its,rv,p,hz⟩:=I.list hq;obtain⟨u,hu,ru⟩:=rv.get hx;obtain⟨f0,f1,f2,f3,f4,f5⟩:=hf it (by simp);refine wpAny_pyNext_list_item st p.isList (x:=u) ⇑hu λh' st' sb=>?_;have I1:Inv X pins σ H { s with heap:=h' }:=I.turned (t':=s.toks) (λb o hb e=>(sb.2 b hb).trans e) f0 f1 f3 f4 f5;obtain⟨o,e,c,d⟩:=id st';exact⟨u,rfl,q8c (s:={ s with heap:=h' }) e c d (by decide) ⟨x,H,I1,ru,⟨rfl,λys hy=>by rw[I.list_inj hy hq];exact hx⟩,st',λb hb=>(hf b hb).1⟩⟩
 done:=by
  intro X hP hw hK hc i pins s σ H E I hf st hg;subst hP hw hK;obtain⟨xs,hq,hx⟩:=hg;obtain⟨its,rv,p,hz⟩:=I.list hq;obtain⟨f0,f1,f2,f3,f4,f5⟩:=hf it (by simp);have hl:=rv.length;exact wpAny_pyNext_list_end (I.ok.hd hc) st p.isList (by simp;omega) λh' eb=>⟨rfl,I.turned (t':=s.toks) (λb o hb e=>eb b o hb e) f0 f1 f3 f4 f5⟩
 self:=λ_ _ _ _ _ st h=>wpAny_pyIter_listiter st h
theorem qca{P:vO}{w:vU}{K:zC}{tg:vP}(a it:vF):Turn P w K tg (Itt K a) [it] it (λi h=>h.IsTupleIter it a i) where
 mem:=by simp
 obj:=λi h st b hb=>by
  have e:b=it:=by simpa using hb
  subst e;obtain⟨o,e,c,d⟩:=st;exact⟨o,e,λv z=>by rw[d]at z;cases z⟩
 keep:=λi h h' st k=>st.at λo e=>k it (by simp) o e
 item:=by
  intro X hP hw hK hc i pins s σ H E I hf st hg;subst hP hw hK;obtain⟨xs,x,hq,hx⟩:=hg;obtain⟨its,rv,p,hz⟩:=I.tuple hq;obtain⟨u,hu,ru⟩:=rv.get hx;obtain⟨f0,f1,f2,f3,f4,f5⟩:=hf it (by simp);refine wpAny_pyNext_tuple_item st (show s.heap.IsTuple a its.toArray from p) (x:=u) ⇑hu λh' st' sb=>?_;have I1:Inv X pins σ H { s with heap:=h' }:=I.turned (t':=s.toks) (λb o hb e=>(sb.2 b hb).trans e) f0 f1 f3 f4 f5;obtain⟨o,e,c,d⟩:=id st';exact⟨u,rfl,q8c (s:={ s with heap:=h' }) e c d (by decide) ⟨x,H,I1,ru,⟨rfl,λys hy=>by rw[I.tuple_inj hy hq];exact hx⟩,st',λb hb=>(hf b hb).1⟩⟩
 done:=by
  intro X hP hw hK hc i pins s σ H E I hf st hg;subst hP hw hK;obtain⟨xs,hq,hx⟩:=hg;obtain⟨its,rv,p,hz⟩:=I.tuple hq;obtain⟨f0,f1,f2,f3,f4,f5⟩:=hf it (by simp);have hl:=rv.length;exact wpAny_pyNext_tuple_end (I.ok.hd hc) st (show s.heap.IsTuple a its.toArray from p) (by simp;omega) λh' eb=>⟨rfl,I.turned (t':=s.toks) (λb o hb e=>eb b o hb e) f0 f1 f3 f4 f5⟩
 self:=λ_ _ _ _ _ st h=>wpAny_pyIter_tupleiter st h
theorem qbY{P:vO}{w:vU}{K:zC}{tg:vP}(it:vF)(lo:Int)(n:Nat):Turn P w K tg (Itr lo n) [it] it (λi h=>IsRangeIter h it (lo+(i:Nat)*1) ((n:Int)-(i:Nat)) 1) where
 mem:=by simp
 obj:=λi h st b hb=>by
  have e:b=it:=by simpa using hb
  subst e;exact⟨_,st,λv z=>by
   have z':Data.fields _=Data.cell v:=z;cases z'⟩
 keep:=λi h h' st k=>k it (by simp) _ st
 item:=by
  intro X hP hw hK hc i pins s σ H E I hf st hg;subst hP hw hK;obtain⟨f0,f1,f2,f3,f4,f5⟩:=hf it (by simp);have W:=Walks.range (prog:=X.prog) (w:=X.w) (I.ok.hd hc) it lo 1 n;refine W.item i s _ _ hg st λv h' tk hv st' kk=>?_;obtain⟨t,rfl⟩:=hv;have I1:Inv X pins σ H { s with heap:=h',toks:=tk }:=I.turned (λb o hb e=>kk b o (by simpa using hb) e) f0 f1 f3 f4 f5;refine⟨_,rfl,q8c (s:={ s with heap:=h',toks:=tk }) (n := "range_iterator") st' rfl rfl (by decide) ⟨.int (lo+i),H,I1,⟨t,?_⟩,⟨rfl,rfl⟩,st',λb hb=>(hf b hb).1⟩⟩;rw[wQ]
 done:=by
  intro X hP hw hK hc i pins s σ H E I hf st hg;subst hP hw hK;obtain⟨f0,f1,f2,f3,f4,f5⟩:=hf it (by simp);exact wpAny_pyNext_range_end (I.ok.hd hc) st (by have:n<=i:=hg;omega) λh' eb=>⟨rfl,I.turned (t':=s.toks) (λb o hb e=>eb b o hb e) f0 f1 f3 f4 f5⟩
 self:=λ_ _ _ _ _ st h=>wpAny_pyIter_rangeiter st h
section
variable{X:Cx}{tg:vP}
noncomputable def W0(K:zC)(tl:TE):TI:=λσ H R=>tl σ H λx H1=>∃a,x=.ref a/\(∃xs,SqL K H1 a xs)/\R (Itl K a) H1
noncomputable def iTup(K:zC)(tl:TE):TI:=λσ H R=>tl σ H λx H1=>∃a,x=.ref a/\(∃xs,SqT K H1 a xs)/\R (Itt K a) H1
theorem q1G{l:vP}{tl:TE}(hl:PE X l tl):PI X tg l (W0 X.K tl):=by
 intro pins s σ H R I h;refine thn (hl pins s σ H _ I h) λv s1 ⟨x,H1,I1,r1,q1⟩=>?_;obtain⟨a,e,⟨xs,hq⟩,q⟩:=q1;subst e;cases r1;obtain⟨its,rv,p,hz⟩:=I1.list hq;refine ud p.isList ?_;refine⟨s1.heap.objs.size,[s1.heap.objs.size],_,_,H1,rfl,I1.kept (t':=s1.toks) λb o e=>zD _ e,qdj a _,⟨_,zR _ rfl,rfl,rfl⟩,λb hb=>?_,q⟩;have e:b=s1.heap.objs.size:=by simpa using hb
 subst e;exact I1.fpOk (zI _) (I1.hok.fresh (zI _))
theorem qhj{l:vP}{tl:TE}(hl:PE X l tl):PI X tg l (iTup X.K tl):=by
 intro pins s σ H R I h;refine thn (hl pins s σ H _ I h) λv s1 ⟨x,H1,I1,r1,q1⟩=>?_;obtain⟨a,e,⟨xs,hq⟩,q⟩:=q1;subst e;cases r1;obtain⟨its,rv,p,hz⟩:=I1.tuple hq;refine wpAny_pyIter_tuple (show s1.heap.IsTuple a its.toArray from p) ?_;refine⟨s1.heap.objs.size,[s1.heap.objs.size],_,_,H1,rfl,I1.kept (t':=s1.toks) λb o e=>zD _ e,qca a _,⟨_,zR _ rfl,rfl,rfl⟩,λb hb=>?_,q⟩;have e:b=s1.heap.objs.size:=by simpa using hb
 subst e;exact I1.fpOk (zI _) (I1.hok.fresh (zI _))
theorem q8A{pins:List (vF×Obj)}{σ:St}{H:Hp}{s:vC}{R:It->Hp->Prop}{E:vB->vC->Prop}{lo hi:Int}{t u v:Tok}{tk:Nat}(I:Inv X pins σ H s)(h1:-(2^62)<=lo)(h2:lo<2^62)(h3:-(2^62)<=hi)(h4:hi<2^62)(q:R (Itr lo (hi-lo).toNat) H):vL (model X.prog X.w) X.A (sR (.ref s.heap.objs.size)) (PIE X pins σ tg R) E { s with heap:=s.heap.push { cls:=.type "range", data:=.fields #[.int lo t,.int hi u,.int 1 v] },toks:=tk }:=by
 refine wpAny_pyIter_range (IsRange.new ..) (small_one h1 h2 h3 h4) ?_;have I1:Inv X pins σ H { s with heap:=s.heap.push { cls:=.type "range", data:=.fields #[.int lo t,.int hi u,.int 1 v] },toks:=tk }:=I.kept λb o e=>zD _ e;refine⟨(s.heap.push { cls:=.type "range", data:=.fields #[.int lo t,.int hi u,.int 1 v] }).objs.size,[(s.heap.push { cls:=.type "range", data:=.fields #[.int lo t,.int hi u,.int 1 v] }).objs.size],_,_,H,rfl,
  I1.kept (t':=tk) λb o e=>zD _ e,qbY _ lo (hi-lo).toNat,?_,λb hb=>?_,q⟩
 ·have e1:lo+((0:Nat):Int)*1=lo:=by simp
  have e2:(((hi-lo).toNat:Nat):Int)-((0:Nat):Int)=Builtin.Range.rangeSize lo hi 1:=by rw[rangeSize_one];split <;> omega
  show IsRangeIter _ _ (lo+((0:Nat):Int)*1) ((((hi-lo).toNat:Nat):Int)-((0:Nat):Int)) 1;rw[e1,e2];exact zR _ rfl
 ·have e:b=(s.heap.push { cls:=.type "range", data:=.fields #[.int lo t,.int hi u,.int 1 v] }).objs.size:=by simpa using hb
  subst e;exact I1.fpOk (zI _) (I1.hok.fresh (zI _))
noncomputable def iRng1(ta:TA):TI:=λσ H R=>ta σ H λvs H1=>∃j:Int,vs=[.int j]/\-(2^62)<=j/\j<2^62/\R (Itr 0 j.toNat) H1
noncomputable def iRng2(ta:TA):TI:=λσ H R=>ta σ H λvs H1=>∃i j:Int,vs=[.int i,.int j]/\(-(2^62)<=i/\i<2^62/\-(2^62)<=j/\j<2^62)/\R (Itr i (j-i).toNat) H1
theorem qe6{a:vP}{ta:TA}{p pos:Pos}(hg:Gl X "range")(hm:X.mg "range" = none)(ha:PA X [a] ta)(hs:vK [a] X.env=[(false,eval a X.env)]:=by rfl):PI X tg (.Call (.Name "range" p) [a] [] pos) (iRng1 ta):=by
 intro pins s σ H R I h;refine Call_ (q0S I hg hm boot_range (PyProof.Rows.callWith_type1 (thn (ha pos pins s σ H _ I h) λus s1 ⟨vs,H1,I1,r1,q1⟩=>?_) hs rfl));obtain⟨j,e,q1,q2,q⟩:=q1;subst e;cases r1 with
 | cons r rr=>
  cases rr;obtain⟨t,rfl⟩:=r;exact call_range_1 (q8A I1 ∅ ∅ q1 q2 ⇑q)
theorem qdf{a b:vP}{ta:TA}{p pos:Pos}(hg:Gl X "range")(hm:X.mg "range" = none)(ha:PA X [a,b] ta)(hs:vK [a,b] X.env=[(false,eval a X.env),(false,eval b X.env)]:=by rfl)(hs2:vK [b] X.env=[(false,eval b X.env)]:=by rfl):
  PI X tg (.Call (.Name "range" p) [a,b] [] pos) (iRng2 ta):=by
 intro pins s σ H R I h;refine Call_ (q0S I hg hm boot_range (PyProof.Rows.callWith_type1 (thn (ha pos pins s σ H _ I h) λus s1 ⟨vs,H1,I1,r1,q1⟩=>?_) (by rw[hs,hs2]) (by rw[hs2];rfl)));obtain⟨i,j,e,⟨q1,q2,q3,q4⟩,q⟩:=q1;subst e;cases r1 with
 | cons r rr=>
  cases rr with
  | cons r' rr=>
   cases rr;obtain⟨t,rfl⟩:=r;obtain⟨t',rfl⟩:=r';exact call_range_2 (q8A I1 q1 q2 q3 q4 q)
noncomputable def tFor(wi:TI)(g:TG)(tb:TS):TS:=λD σ H=>wi σ H λJ H1=>∃W:Nat->Nat->St->Hp->Prop,(∃m,W 0 m σ H1)/\∀i m σ H,W i m σ H ->
 (J.stop i H/\D.nx σ H)\/(J.go i H/\∃N:St->Hp->Prop,(∀σ' H',N σ' H'->∃m',m'<m/\W (i+1) m' σ' H')/\∀x H',J.yld i H x H'->g x σ H' λσ2 H2=>tb { D with nx:=N,ct:=N,bk:=D.nx } σ2 H2)
noncomputable def WI(fp:List vF)(h:vY):List (vF×Obj):=fp.filterMap λb=>(h.get? b).map λo=>(b,o)
theorem q2e{fp:List vF}{h:vY}{b:vF}{o:Obj}(hb:b∈fp)(e:h.get? b=some o):(b,o)∈WI fp h:=ZR.mpr ⟨b,hb,by rw[e];rfl⟩
theorem qdQ{fp:List vF}{h:vY}{p:vF×Obj}(hp:p∈WI fp h):p.1∈fp/\h.get? p.1=some p.2:=by
 obtain⟨b,hb,e⟩:=ZR.mp hp;cases q:h.get? b with
 | none=>rw[q]at e;cases e
 | some o=>
  rw[q]at e;have e':(b,o)=p:=zn e;subst e';exact⟨hb,q⟩
theorem Inv.pinned{pins:List (vF×Obj)}{σ:St}{H:Hp}{s:vC}{fp:List vF}(I:Inv X pins σ H s)(hf:∀b∈fp,Xe X pins H b)(ho:∀b∈fp,∃o,s.heap.get? b=some o/\∀v,o.data≠.cell v):Inv X (pins++WI fp s.heap) σ H s :=
 I.pins_of λp hp=>(zb.mp hp).elim (λz=>I.pin p (zd _ z)) λz=>by
  obtain⟨hb,e⟩:=qdQ z;obtain⟨f0,f1,f2,_⟩:=hf p.1 hb;obtain⟨o,e',d⟩:=ho p.1 hb;rw[e]at e';cases e';exact⟨e,f0,f1,f2,d⟩
theorem Inv.unpinned{pins pl:List (vF×Obj)}{σ:St}{H:Hp}{s:vC}(I:Inv X (pins++pl) σ H s):Inv X pins σ H s:=I.pins_of λp hp=>I.pin p (zd _ (zu _ hp))
theorem q3B{iter:vP}{body:List vo}{wi:TI}{g:TG}{tb:TS}{pos:Pos}(hp:tz (model X.prog X.w) X.A X.env X.xe)(hc:X.calm=true)(hi:PI X tg iter wi)(hg:PG X tg g)(hb:PSs X body tb)(hs:∀x,v7 iter X.env x=pure x:=by intro _;rfl):PS X (.For tg iter body [] pos) (tFor wi g tb):=by
 intro pins s σ H D I h;refine wpAny_For (thn (hi pins s σ H _ I h) λv s1 h1=>thn h1 λitv s2 h2=>?_) hs;obtain⟨it,fp,tn,J,H2,e,I2,T,st2,f2,W,⟨m0,w0⟩,turn⟩:=h2;subst e;have stat:∀{H':Hp},(∀b∈fp,H' b=none)->∀b∈fp,Xe X pins H' b:=λhn b hb=>⟨hn b hb,(f2 b hb).2⟩;refine codeAny_forLoop_any (λn s'=>∃i σ' H',Inv X pins σ' H' s'/\tn i s'.heap/\(∀b∈fp,H' b=none)/\W i n σ' H') ?_ m0 ⟨0,σ,H2,I2,st2,λb hb=>(f2 b hb).1,w0⟩;rintro n s3 ⟨i,σ3,H3,I3,st3,fr3,w3⟩;rcases turn i n σ3 H3 w3 with⟨stop,qn⟩|⟨go,N,hN,step⟩
 ·refine uG hp (thn (T.done X rfl rfl rfl hc i pins s3 σ3 H3 X.xe I3 (stat fr3) st3 stop) λr s4 ⟨hr,I4⟩=>?_)
  subst hr;exact uu ⟨σ3,H3,I4,qn⟩
 ·refine uG hp (thn (T.item X rfl rfl rfl hc i pins s3 σ3 H3 X.xe I3 (stat fr3) st3 go) λr s4 ⟨u,hr,h4⟩=>?_)
  subst hr;refine uG hp (thn h4 λ_ s5 ⟨x,H5,I5,r5,y5,st5,fr5⟩=>?_);have I5':=I5.pinned (stat fr5) (T.obj _ _ st5);refine uG hp (thn (hg _ s5 σ3 H5 x u _ I5' r5 (step x H5 y5)) λ_ s6 ⟨σ6,H6,I6,q6⟩=>?_);refine uG hp (thn (hb _ s6 σ6 H6 _ I6 q6) λf s7 q7=>?_);have again:∀{σ7:St}{H7:Hp},Inv X (pins++WI fp s5.heap) σ7 H7 s7->N σ7 H7->∃m,m<n/\∃i σ' H',Inv X pins σ' H' s7/\tn i s7.heap/\(∀b∈fp,H' b=none)/\W i m σ' H':=λ{σ7 H7} I7 n7=>by
   obtain⟨m',hm,w7⟩:=hN σ7 H7 n7;refine⟨m',hm,i+1,σ7,H7,I7.unpinned,T.keep _ _ _ st5 λb hb o e=>(I7.pin (b,o) (zd _ (zd _ (q2e hb e)))).1,λb hb=>?_,w7⟩;obtain⟨o,e,d⟩:=T.obj _ _ st5 b hb;exact(I7.pin (b,o) (zd _ (zd _ (q2e hb e)))).2.1
  cases f with
  | next=>obtain⟨σ7,H7,I7,n7⟩:=q7;exact again I7 n7
  | cont=>obtain⟨σ7,H7,I7,n7⟩:=q7;exact again I7 n7
  | brk=>obtain⟨σ7,H7,I7,q7⟩:=q7;exact⟨σ7,H7,I7.unpinned,q7⟩
  | ret v=>obtain⟨x7,σ7,H7,I7,r7,q7⟩:=q7;exact⟨x7,σ7,H7,I7.unpinned,r7,q7⟩
end
abbrev R2:=V->V->Hp->VK->Prop
def OpR(X:Cx)(f:vB->vB->Sem vB)(r:R2):Prop :=
 ∀(pins:List (vF×Obj))(s:vC)(σ:St)(H:Hp)(x y:V)(v u:vB)(Q:VK),Inv X pins σ H s->RelV x v->RelV y u->r x y H Q ->
  vL (model X.prog X.w) X.A (f v u) (EP X pins σ Q) X.xe s
def UnR(X:Cx)(f:vB->Sem vB)(r:V->Hp->VK->Prop):Prop :=
 ∀(pins:List (vF×Obj))(s:vC)(σ:St)(H:Hp)(x:V)(v:vB)(Q:VK),Inv X pins σ H s->RelV x v->r x H Q ->
  vL (model X.prog X.w) X.A (f v) (EP X pins σ Q) X.xe s
def Yy(X:Cx)(f:vB)(r:List V->Hp->VK->Prop):Prop :=
 ∀(pins:List (vF×Obj))(s:vC)(σ:St)(H:Hp)(xs:List V)(us:List vB)(Q:VK),Inv X pins σ H s->YZ xs us->r xs H Q ->
  vL (model X.prog X.w) X.A (call f us) (EP X pins σ Q) X.xe s
def TruR(X:Cx)(r:V->Hp->(Bool->Hp->Prop)->Prop):Prop :=
 ∀(pins:List (vF×Obj))(s:vC)(σ:St)(H:Hp)(x:V)(v:vB)(Q:Bool->Hp->Prop),Inv X pins σ H s->RelV x v->r x H Q ->
  vL (model X.prog X.w) X.A (truthy v) (TP X pins σ Q) X.xe s
noncomputable def tOp(r:R2)(ta tb:TE):TE:=λσ H Q=>ta σ H λx H1=>tb σ H1 λy H2=>r x y H2 Q
noncomputable def tUn(r:V->Hp->VK->Prop)(ta:TE):TE:=λσ H Q=>ta σ H λx H1=>r x H1 Q
noncomputable def rI(C:Int->Int->Prop)(g:Int->Int->V):R2:=λx y H Q=>∃i j,x=.int i/\y=.int j/\C i j/\Q (g i j) H
noncomputable def rI0(g:Int->Int->V):R2:=λx y H Q=>∃i j,x=.int i/\y=.int j/\Q (g i j) H
def rU(g:Int->V):V->Hp->VK->Prop:=λx H Q=>∃i,x=.int i/\Q (g i) H
section
variable{X:Cx}{a b c:vP}{ta tb tc:TE}{pos:Pos}
theorem binT(ha:PE X a ta)(hb:PE X b tb){pins:List (vF×Obj)}{s:vC}{σ:St}{H:Hp}{R:V->V->Hp->Prop}(I:Inv X pins σ H s)(h:ta σ H λx H1=>tb σ H1 λy H2=>R x y H2){Q:vB->vC->Prop}{f:vB->vB->Sem vB}(hf:∀v u s2 x y H2,Inv X pins σ H2 s2->RelV x v->RelV y u->R x y H2->vL (model X.prog X.w) X.A (f v u) Q X.xe s2):
  vL (model X.prog X.w) X.A (eval a X.env) (λv s₁=>vL (model X.prog X.w) X.A (eval b X.env) (λu s₂=>vL (model X.prog X.w) X.A (f v u) Q X.xe s₂) X.xe s₁) X.xe s:=by
 refine thn (ha pins s σ H _ I h) λv s1 ⟨x,H1,I1,r1,q1⟩=>?_;refine thn (hb pins s1 σ H1 _ I1 q1) λu s2 ⟨y,H2,I2,r2,q2⟩=>?_;exact hf v u s2 x y H2 I2 r1 r2 q2
theorem qi8{op:Operator}{r:R2}(ho:OpR X (uQ op) r)(ha:PE X a ta)(hb:PE X b tb):PE X (.BinOp a op b pos) (tOp r ta tb):=by
 intro pins s σ H Q I h;exact wpAny_BinOp (binT ha hb I h λv u s2 x y H2 I2 rx ry q=>ho pins s2 σ H2 x y v u Q I2 rx ry q)
theorem qi6{op:UnaryOp}{r:V->Hp->VK->Prop}(ho:UnR X (unaryOp op) r)(ha:PE X a ta):PE X (.UnaryOp op a pos) (tUn r ta):=by
 intro pins s σ H Q I h;exact UnaryOp_ (thn (ha pins s σ H _ I h) λv s1 ⟨x,H1,I1,r1,q1⟩=>ho pins s1 σ H1 x v Q I1 r1 q1)
theorem opI{f:vB->vB->Sem vB}{C:Int->Int->Prop}{g:Int->Int->Int}(rule:∀(i j:Int)(t u:Tok)(s:vC)(Q:vB->vC->Prop)(E:vB->vC->Prop),C i j->Q (.int (g i j) s.toks) { s with toks:=s.toks+1 }->vL (model X.prog X.w) X.A (f (.int i t) (.int j u)) Q E s):
  OpR X f (rI C λi j=>.int (g i j)):=by
 intro pins s σ H x y v u Q I rx ry h;obtain⟨i,j,rfl,rfl,hc,q⟩:=h;obtain⟨t,rfl⟩:=rx;obtain⟨t',rfl⟩:=ry;exact rule i j t t' s _ _ hc ⟨.int (g i j),H,I.tok _,⟨_,rfl⟩,q⟩
theorem opI0{f:vB->vB->Sem vB}{g:Int->Int->Int}(rule:∀(i j:Int)(t u:Tok)(s:vC)(Q:vB->vC->Prop)(E:vB->vC->Prop),Q (.int (g i j) s.toks) { s with toks:=s.toks+1 }->vL (model X.prog X.w) X.A (f (.int i t) (.int j u)) Q E s):
  OpR X f (rI0 λi j=>.int (g i j)):=by
 intro pins s σ H x y v u Q I rx ry h;obtain⟨i,j,rfl,rfl,q⟩:=h;obtain⟨t,rfl⟩:=rx;obtain⟨t',rfl⟩:=ry;exact rule i j t t' s _ _ ⟨.int (g i j),H,I.tok _,⟨_,rfl⟩,q⟩
theorem opB0{f:vB->vB->Sem vB}{g:Int->Int->Bool}(rule:∀(i j:Int)(t u:Tok)(s:vC)(Q:vB->vC->Prop)(E:vB->vC->Prop),Q (.bool (g i j)) s->vL (model X.prog X.w) X.A (f (.int i t) (.int j u)) Q E s):
  OpR X f (rI0 λi j=>.bl (g i j)):=by
 intro pins s σ H x y v u Q I rx ry h;obtain⟨i,j,rfl,rfl,q⟩:=h;obtain⟨t,rfl⟩:=rx;obtain⟨t',rfl⟩:=ry;exact rule i j t t' s _ _ ⟨.bl (g i j),H,I,rfl,q⟩
def CDiv(i j:Int):Prop:=0<j/\j<1073741824
def CPow(i j:Int):Prop:=0<=j/\j<=1000000/\i.natAbs<2^64
def CMul(i j:Int):Prop:=(-(2^64)<i/\i<2^64)\/(-(2^64)<j/\j<2^64)
theorem CMul.ok{i j:Int}(h:CMul i j):IntMulOk i j:=by
 rcases h with⟨h1,h2⟩|⟨h1,h2⟩
 ·exact .of_left (intBits_le_64 h1 h2)
 ·exact .of_right (intBits_le_64 h1 h2)
theorem qgZ:OpR X (uQ .Add) (rI0 λi j=>.int (i+j)):=opI0 λ_ _ _ _ _ _ _ q=>add_int q
theorem qhl:OpR X (uQ .Sub) (rI0 λi j=>.int (i-j)):=opI0 λ_ _ _ _ _ _ _ q=>sub_int q
theorem qh3:OpR X (uQ .Mult) (rI CMul λi j=>.int (i*j)):=opI λ_ _ _ _ _ _ _ hc q=>mul_int q hc.ok
theorem qgJ:OpR X (uQ .FloorDiv) (rI CDiv λi j=>.int (i/j)):=opI λi j _ _ _ _ _ hc q=>by
 have h1:(0:Int)<j:=hc.1;have h2:j<1073741824:=hc.2;exact floordiv_int ∅ (by rw[Int.fdiv_eq_ediv_of_nonneg i ∅];exact q) (.inl (PyProof.noPylong_small ∅))
theorem qhz:OpR X (uQ .Mod) (rI (λ_ j=>0<j) λi j=>.int (i%j)):=opI λi j _ _ _ _ _ hc q=>by
 have h1:(0:Int)<j:=hc;exact mod_int' ∅ (by rw[Int.fmod_eq_emod_of_nonneg i ∅];exact q)
theorem qho:OpR X (uQ .Pow) (rI CPow λi j=>.int (i^j.toNat)):=opI λ_ _ _ _ _ _ _ hc q=>pow_int_small hc.1 hc.2.1 hc.2.2 q
theorem unI{f:vB->Sem vB}{g:Int->Int}(rule:∀(i:Int)(t:Tok)(s:vC)(Q:vB->vC->Prop)(E:vB->vC->Prop),Q (.int (g i) s.toks) { s with toks:=s.toks+1 }->vL (model X.prog X.w) X.A (f (.int i t)) Q E s):
  UnR X f (rU λi=>.int (g i)):=by
 intro pins s σ H x v Q I rx h;obtain⟨i,rfl,q⟩:=h;obtain⟨t,rfl⟩:=rx;exact rule i t s _ _ ⟨.int (g i),H,I.tok _,⟨_,rfl⟩,q⟩
theorem qhO:UnR X (unaryOp .USub) (rU λi=>.int (-i)):=unI λ_ _ _ _ _ q=>neg_int q
end
section
variable{X:Cx}{a b c:vP}{ta tb tc:TE}{pos:Pos}
theorem qfD:OpR X (uK .Lt) (rI0 λi j=>.bl (decide (i<j))):=opB0 λ_ _ _ _ _ _ _ q=>lt_int q
theorem qhR:OpR X (uK .GtE) (rI0 λi j=>.bl (decide (j<=i))):=opB0 λ_ _ _ _ _ _ _ q=>ge_int q
theorem OpR.or{f:vB->vB->Sem vB}{r r':R2}(h:OpR X f r)(h':OpR X f r'):OpR X f (λx y H Q=>r x y H Q\/r' x y H Q):=by
 intro pins s σ H x y v u Q I rx ry q;rcases q with q|q
 ·exact h pins s σ H x y v u Q I rx ry q
 ·exact h' pins s σ H x y v u Q I rx ry q
theorem X0(b:vP){op:sD}(h:op≠.In:=by decide)(h2:op≠.NotIn:=by decide):v6 op b=false:=by
 have e1:(op==CmpOp.In)=false:=by cases op <;> first|rfl|exact vN rfl h
 have e2:(op==CmpOp.NotIn)=false:=by cases op <;> first|rfl|exact vN rfl h2
 cases b <;> simp[v6,e1,e2]
theorem qgn{op:sD}{r:R2}(ho:OpR X (uK op) r)(ha:PE X a ta)(hb:PE X b tb)(hm:v6 op b=false):PE X (.Compare a [op] [b] pos) (tOp r ta tb):=by
 intro pins s σ H Q I h;exact wpAny_Compare1 (binT ha hb I h λv u s2 x y H2 I2 rx ry q=>ho pins s2 σ H2 x y v u Q I2 rx ry q) hm
noncomputable def tTest(t:TE):TT:=λσ H Q=>t σ H λx H'=>∃k,x=.bl k/\Q k H'
theorem qge{op:sD}{r:R2}(ho:OpR X (uK op) r)(ha:PE X a ta)(hb:PE X b tb)(hm:v6 op b=false):PT X (.Compare a [op] [b] pos) (tTest (tOp r ta tb)):=by
 intro pins s σ H Q I h;refine tU (thn (ha pins s σ H _ I h) λv s1 ⟨x,H1,I1,r1,q1⟩=>thn (hb pins s1 σ H1 _ I1 q1) λu s2 ⟨y,H2,I2,r2,q2⟩=>
  thn (ho pins s2 σ H2 x y v u _ I2 r1 r2 q2) λc s3 ⟨z,H3,I3,r3,k,e,q3⟩=>?_) hm
 subst e;cases r3;exact uI ⟨H3,I3,q3⟩
def TruV(K:zC)(x:V)(H:Hp)(k:Bool):Prop :=
 match x with
 | .non=>k=false
 | .bl b=>k=b
 | .int i=>k=(i != 0)
 | .str y=>y.length<=sizeLine/\k=((y.length:Int) != 0)
 | .byt y=>y.size<=sizeLine/\k=((y.size:Int) != 0)
 | .ref p=>(∃xs,SqL K H p xs/\k=!xs.isEmpty)\/(∃xs,SqT K H p xs/\k=!xs.isEmpty)\/∃kvs,H p=some (.dK kvs)/\k=!kvs.isEmpty
 | _=>False
theorem qbN{κ:Type}{kvs:List (κ×V)}{vs:List (κ×vB)}(r:KV kvs vs):(!vs.isEmpty)=!kvs.isEmpty:=by
 cases r <;> rfl
theorem q6a{xs:List V}{its:List vB}(r:YZ xs its):(!its.toArray.isEmpty)=!xs.isEmpty:=by
 cases r <;> simp
theorem Xk:(sizeLine:Nat)<2^63:=by rw[vX];decide
theorem qhm:TruR X (λx H Q=>∃k,TruV X.K x H k/\Q k H):=by
 intro pins s σ H x v Q I rx h;obtain⟨k,e,q⟩:=h;have hl:=Xk;have hs:sizeLine=16777216:=vX;cases x with
 | non=>
  cases rx;have e':k=false:=e;subst e';exact truthy_none ⟨H,I,q⟩
 | bl b=>
  cases rx;have e':k=b:=e;subst e';exact uI ⟨H,I,q⟩
 | int i=>
  obtain⟨t,rfl⟩:=rx;have e':k=(i != 0):=e;subst e';exact PySem.P.truthy_int ⟨H,I,q⟩
 | str y=>
  obtain⟨t,rfl⟩:=rx;obtain⟨hy,e'⟩:y.length<=sizeLine/\k=((y.length:Int) != 0):=e;subst e';exact PySem.P.truthy_str ∅ ⟨H,I.tok _,q⟩
 | byt y=>
  obtain⟨t,rfl⟩:=rx;obtain⟨hy,e'⟩:y.size<=sizeLine/\k=((y.size:Int) != 0):=e;subst e';exact PySem.W.truthy_bytes ∅ ⟨H,I.tok _,q⟩
 | ref p=>
  cases rx;have e':(∃xs,SqL X.K H p xs/\k=!xs.isEmpty)\/(∃xs,SqT X.K H p xs/\k=!xs.isEmpty)\/∃kvs,H p=some (.dK kvs)/\k=!kvs.isEmpty:=e;rcases e' with⟨xs,hx,e'⟩|⟨xs,hx,e'⟩|⟨kvs,hx,e'⟩
  ·subst e'
   obtain⟨its,r,pl,hz⟩:=I.list hx;have hlen:=r.length;exact wpAny_truthy_list pl.isList (by simp only[zM];omega) ⟨H,I.tok _,by rw[q6a r];exact q⟩
  ·subst e'
   obtain⟨its,r,pl,hz⟩:=I.tuple hx;have hlen:=r.length;exact truthy_tuple pl (by simp only[zM];omega) ⟨H,I.tok _,by rw[q6a r];exact q⟩
  ·subst e'
   obtain⟨hz,hS,vs,r,m⟩:kvs.length<=sizeLine/\(p==uD)=false/\∃vs,KV kvs vs/\s.heap.DictOf (Yb X.prog X.w) p vs:=I.hok p _ hx;have hlen:kvs.length=vs.length:=Paired.length r;exact wpAny_truthy_dict hS m ∅ ⟨H,I.tok _,by rw[qbN r];exact q⟩
 | _=>exact(show False from e).elim
theorem q9E(ha:PE X a ta)(he:∀whole,sJ a X.env whole=(do let v <- whole;tu a.pos;holding [v] (truthy v))):
  PT X a (λσ H Q=>ta σ H λx H'=>∃k,TruV X.K x H' k/\Q k H'):=by
 intro pins s σ H Q I h;exact isTrue_plain (thn (ha pins s σ H _ I h) λv s1 ⟨x,H1,I1,r1,q1⟩=>qhm pins s1 σ H1 x v Q I1 r1 q1) (he _)
theorem vals1{x:V}{us:List vB}(r:YZ [x] us):∃u,us=[u]/\RelV x u:=by
 cases r with
 | cons r1 r2=>cases r2;exact⟨_,rfl,r1⟩
theorem vals2{x y:V}{us:List vB}(r:YZ [x,y] us):∃u w',us=[u,w']/\RelV x u/\RelV y w':=by
 cases r with
 | cons r1 r2=>
  cases r2 with
  | cons r3 r4=>cases r4;exact⟨_,_,rfl,r1,r3⟩
theorem q8r:Yy X (.builtin "abs") (λxs H Q=>∃i,xs=[.int i]/\Q (.int (if i<0 then -i else i)) H):=by
 intro pins s σ H xs us Q I r h;obtain⟨i,rfl,q⟩:=h;obtain⟨u,rfl,t,rfl⟩:=vals1 r;exact call_abs_int λu tk=>⟨.int (if i<0 then -i else i),H,I.tok _,⟨_,rfl⟩,q⟩
theorem qdm:Yy X (.type "int") (λxs H Q=>(∃i,xs=[.int i]/\Q (.int i) H)\/∃k,xs=[.bl k]/\Q (.int (if k then 1 else 0)) H):=by
 intro pins s σ H xs us Q I r h;rcases h with⟨i,rfl,q⟩|⟨k,rfl,q⟩
 ·obtain⟨u,rfl,t,rfl⟩:=vals1 r
  exact call_int_int ⟨.int i,H,I,⟨_,rfl⟩,q⟩
 ·obtain⟨u,rfl,r1⟩:=vals1 r
  cases r1;exact call_int_bool ⟨.int (if k then 1 else 0),H,I.tok _,⟨_,rfl⟩,q⟩
end
structure ObjM (h:vY) (x dx C:vF) (mA:Str->Option vB):Prop where
 obj:h.get? x=some (wj C dx)
 ns:h.Ns1 dx mA
 ne:dx≠x
theorem qcC{h:vY}{dx:vF}{mA:Str->Option vB}(n:h.Ns1 dx mA):∃od,h.get? dx=some od/\∀name,wv name od=some (mA name):=by
 obtain⟨o,es,ep,ho,hd,hk,_,hm⟩:=n;refine⟨o,ho,λname=>?_⟩;have e:=hm name;unfold nsFind findBy at e;rw[<- Array.find?_toList]at e;unfold wv;rw[hd]
 dsimp only
 split
 ·rename_i y q
  rw[q]at e;exact vq some e
 ·rename_i q
  rw[q]at e;have a:es.toList.any (·.refKey)=false:=by
   rw[List.any_eq_false];intro y hy;obtain⟨z,t,hkey⟩:=hk y (Array.mem_toList_iff.mp hy);simp[DictEntry.refKey,hkey]
  have a':¬es.toList.any (·.refKey)=true:=by rw[a];exact yJ
  rw[vJ a'];exact vq some e
theorem ObjM.look{h:vY}{x dx C:vF}{mA:Str->Option vB}(I:ObjM h x dx C mA):∃od,PySem.W.InstAt h x (wj C dx) C (some od)/\∀name,wv name od=some (mA name) :=
 let ⟨od,ho,hl⟩:=qcC I.ns
 ⟨od,⟨I.obj,rfl,rfl,ho⟩,hl⟩
section
variable{prog:vO}{w:vU}{A:vZ}{E:vB->vC->Prop}{s:vC}{K:zC}{x dx C f:vF}{mA:Str->Option vB}{name:Str}{v:vB}
end
theorem zAM.some_of{v:V}{o:Option vB}(r:zAM (some v) o):∃u,o=some u/\RelV v u:=by
 cases o with
 | none=>exact(show False from r).elim
 | some u=>exact⟨u,rfl,r⟩
section
variable{P:vO}{w:vU}{H H':Hp}{h h':vY}{a C dx:vF}{fs fs':List (Str×V)}
theorem qgD(hok:HOk P w H h)(e:H a=some (.ins C dx fs)):∃mA,ObjM h a dx C mA/\(∀f,zAM (fs.lookup f) (mA f))/\PySem.Within mA (fs.map (·.1))/\fs.length<=1000/\H dx=some (.own a):=by
 obtain⟨d,z,ne,ob,mA,n,r,q⟩:=(show Yc P w H h a (.ins C dx fs)from hok a _ e);exact⟨mA,⟨ob,n,ne⟩,r,q,z,d⟩
end
structure Cls (K:zC) (C:vF):Prop where
 pg:Zm K C Str.empty=true
 hd:PySem.W.hasDictIn K C=true
 po:PySem.W.plainOver K C=true
 sa:Zz K (.ref C) "__setattr__" = some (some (.builtin "object.__setattr__"))
theorem Cls.get{K:zC}{C:vF}(c:Cls K C)(f:Str):Zm K C f=true:=c.pg
section
variable{X:Cx}{pins:List (vF×Obj)}{σ:St}{H:Hp}{s:vC}{a C dx:vF}{fs:List (Str×V)}{f:Str}{v:V}{A:vZ}{E:vB->vC->Prop}
end
section
variable{X:Cx}{o e value:vP}{f:Str}{pos pos' tpos:Pos}{ta tv:TE}
end
section
variable{X:Cx}{pins:List (vF×Obj)}{σ:St}{H:Hp}{s:vC}{A:vZ}{E:vB->vC->Prop}{Q:vB->vC->Prop}{c:vB}{b:Bool}
inductive TyOf (K:zC) (H:Hp):V->vB->Prop where
 | non:TyOf K H .non (.type "NoneType")
 | bl (x:Bool):TyOf K H (.bl x) (.type "bool")
 | int (i:Int):TyOf K H (.int i) (.type "int")
 | str (x:Str):TyOf K H (.str x) (.type "str")
 | flt (x:UInt64):TyOf K H (.flt x) (.type "float")
 | lst {a:vF} {xs:List V} (e:H a=some (.lst xs)):TyOf K H (.ref a) (.type "list")
 | frz {a:vF} {o:Obj} {xs:List V} (e:H a=some (.frz o (.lst xs))):TyOf K H (.ref a) (.type "list")
 | tup {a:vF} {xs:List V} (e:H a=some (.tup xs)):TyOf K H (.ref a) (.type "tuple")
 | dK {a:vF} {kvs:List (Key×V)} (e:H a=some (.dK kvs)):TyOf K H (.ref a) (.type "dict")
 | dT {a:vF} {kvs:List (List Key×V)} (e:H a=some (.dT kvs)):TyOf K H (.ref a) (.type "dict")
 | ins {a C dx:vF} {fs:List (Str×V)} (e:H a=some (.ins C dx fs)) (cl:Cls K C) (ha:Zz K (.ref C) "__class__" = some (some (.builtin "object.__class__")))
   (hn:PySem.W.specialIn K (.builtin "object.__class__") "__get__" = some (some (.builtin "getset_descriptor.__get__"))) (htk:PySem.W.takesIn K (.builtin "object.__class__")=some true)
   (hm:PySem.W.mroIn K C (.type "object")=some true):TyOf K H (.ref a) (.ref C)
theorem qdG{x:V}{u t:vB}(I:Inv X pins σ H s)(rx:RelV x u)(ty:TyOf X.K H x t)(e:ww X.K t c=some b)(h:∀tk,Q (.bool b) { s with toks:=tk }):
  vL (model X.prog X.w) A (call (.builtin "isinstance") [u,c]) Q E s:=by
 cases ty with
 | non=>cases (show u=Value.none from rx);exact yU PySem.W.kitx_none I.kIn True.intro e (λz=>nomatch z) h
 | bl y=>cases (show u=Value.bool y from rx);exact yU PySem.W.kitx_bool I.kIn True.intro e (λz=>nomatch z) h
 | int i=>obtain⟨t,q⟩:=(show ∃t,u=Value.int i t from rx);cases q;exact yU PySem.W.kitx_int I.kIn True.intro e (λz=>nomatch z) h
 | str y=>obtain⟨t,q⟩:=(show ∃t,u=Value.str y t from rx);cases q;exact yU PySem.W.kitx_str I.kIn True.intro e (λz=>nomatch z) h
 | flt y=>obtain⟨t,q⟩:=(show ∃t,u=Value.float y t from rx);cases q;exact yU PySem.W.kitx_float I.kIn True.intro e (λz=>nomatch z) h
 | @lst a xs ea=>
  cases (show u=Value.ref a from rx);obtain⟨_,_,n,_,h1⟩:=(show Yc X.prog X.w H s.heap a (.lst xs)from I.hok a _ ea);exact yU ZW I.kIn ⟨_,h1,rfl⟩ e (λz=>nomatch z) h
 | @frz a ob xs ea=>
  cases (show u=Value.ref a from rx);obtain⟨_,_,_,n,_,h1⟩:=(show Yc X.prog X.w H s.heap a (.frz ob (.lst xs))from I.hok a _ ea);exact yU ZW I.kIn ⟨_,h1,rfl⟩ e (λz=>nomatch z) h
 | @tup a xs ea=>
  cases (show u=Value.ref a from rx);obtain⟨_,_,_,p⟩:=(show Yc X.prog X.w H s.heap a (.tup xs)from I.hok a _ ea);obtain⟨o,h1,h2,_⟩:=p;exact yU PySem.W.kitx_tuple I.kIn ⟨o,h1,h2⟩ e (λz=>nomatch z) h
 | @dK a kvs ea=>
  cases (show u=Value.ref a from rx);obtain⟨_,_,vs,_,p⟩:=(show Yc X.prog X.w H s.heap a (.dK kvs)from I.hok a _ ea);obtain⟨o,es,ep,h1,h2,_⟩:=p;exact yU ZX I.kIn ⟨o,h1,h2.1⟩ e (λz=>nomatch z) h
 | @dT a kvs ea=>
  cases (show u=Value.ref a from rx);obtain⟨_,_,xs,_,o,es,ep,h1,h2,_⟩:=(show Yc X.prog X.w H s.heap a (.dT kvs)from I.hok a _ ea);exact yU ZX I.kIn ⟨o,h1,h2.1⟩ e (λz=>nomatch z) h
 | @ins a C dx fs ea cl ha hn htk hm=>
  cases (show u=Value.ref a from rx);obtain⟨mA,O,_⟩:=qgD I.hok ea;obtain⟨od,J,_⟩:=O.look;exact yU (PySem.W.kitx_own (cl.get _) cl.hd ha hn htk hm) I.kIn J e (λz=>nomatch z) h
end
structure Room (k:Nat) (A:vZ):Prop where
 hd:A.handled=none
 dp:A.depth+3*k+5<recursionLimit
 un:A.units+16*k+200<um
theorem Room.mono{j k:Nat}{A:vZ}(r:Room k A)(h:j<=k):Room j A:=⟨r.hd,by have:=r.dp;omega,by have:=r.un;omega⟩
theorem Room.deeper{k:Nat}{A:vZ}(r:Room (k+1) A)(env:Env):Room k (A.deeper env) :=
 ⟨r.hd,by have:=r.dp;show A.depth+1+3*k+5<_;omega,by have:=r.un;show A.units+3+16*k+200<_;omega⟩
theorem Room.in1{k:Nat}{A:vZ}(r:Room (k+1) A):Room k A.in1 :=
 ⟨r.hd,by have:=r.dp;show A.depth+3*k+5<_;omega,by have:=r.un;show A.units+1+16*k+200<_;omega⟩
theorem Room.depth{k:Nat}{A:vZ}(r:Room k A):A.depth<recursionLimit:=by have:=r.dp;omega
theorem Room.units{k:Nat}{A:vZ}(r:Room k A):A.units+64<um:=by have:=r.un;omega
noncomputable def tNil:TA:=λ_ H Q=>Q [] H
noncomputable def WF(ta:TE)(tr:TA):TA:=λσ H Q=>ta σ H λx H1=>tr σ H1 λxs H2=>Q (x::xs) H2
section
variable{X:Cx}{e:vP}{es:List vP}{te:TE}{t:TA}{pos:Pos}
theorem qI:PA X [] tNil:=λ_ _ _ _ H Q I h=>Calls.spliced_nil ⟨[],H,I,.nil,h⟩
theorem qq(ha:PE X e te)(hr:PA X es t)(hs:vK (e::es) X.env=(false,eval e X.env)::vK es X.env:=by rfl):PA X (e::es) (WF te t):=by
 intro pos pins s σ H Q I h;rw[hs];show vL _ _ (spliced ((false,eval e X.env)::vn pos (vK es X.env))) _ _ s;refine Calls.spliced_cons (thn (ha pins s σ H _ I h) λu s1 ⟨x,H1,I1,r1,q1⟩=>?_);exact thn (hr pos pins s1 σ H1 _ I1 q1) λus s2 ⟨xs,H2,I2,r2,q2⟩=>⟨x::xs,H2,I2,.cons r1 r2,q2⟩
noncomputable def tTup(t:TA):TE:=λσ H Q=>t σ H λxs H1=>xs.length<=sizeLine/\∀p,H1 p=none->Q (.ref p) (upd H1 p (.tup xs))
noncomputable def tLst(t:TA):TE:=λσ H Q=>t σ H λxs H1=>xs.length<=sizeLine/\∀p,H1 p=none->Q (.ref p) (upd H1 p (.lst xs))
theorem qhC{x1}(h:PA X es t):PE X (.Tuple es x1 pos) (tTup t):=by
 intro pins s σ H Q I hq;refine wpAny_Tuple_spliced (thn (h pos pins s σ H _ I hq) λus s1 ⟨xs,H1,I1,r,z,q⟩=>⟨by rw[<- r.length];exact z,?_⟩);have hf:H1 s1.heap.objs.size=none:=I1.hok.fresh (zI _);refine⟨.ref s1.heap.objs.size,upd H1 s1.heap.objs.size (.tup xs),I1.laid (t':=s1.toks) (λb u e=>zD _ e) (zI _) ?_,rfl,q _ hf⟩;exact⟨z,us,r,⟨_,zR _ rfl,rfl,_,rfl⟩⟩
theorem q8x(h:PA X es t):PE X (.List es pos) (tLst t):=by
 intro pins s σ H Q I hq;refine wpAny_List_spliced (thn (h pos pins s σ H _ I hq) λus s1 ⟨xs,H1,I1,r,z,q⟩=>⟨by rw[<- r.length];exact z,?_⟩);have hf:H1 s1.heap.objs.size=none:=I1.hok.fresh (zI _);refine⟨.ref s1.heap.objs.size,upd H1 s1.heap.objs.size (.lst xs),I1.laid (t':=s1.toks) (λb u e=>zD _ e) (zI _) ?_,rfl,q _ hf⟩;exact⟨z,us,0,r,zR _ rfl⟩
end
abbrev Sp:=List V->Hp->VK->XK->Prop
abbrev CXT:=List Env->Hp->vC->XK->vB->vC->Prop
structure Env0 (P:vO) (w:vU) (K:zC) (mg:Str->Option vB) (base:vY) (A:vZ) (outer:List Env) (s:vC) (H:Hp):Prop where
 frames:A.frames=some outer
 mod:Mod K mg base
 bs:∀b o,base.get? b=some o->s.heap.get? b=some o/\H b=none
 bsz:base.objs.size<=s.heap.objs.size
 funs:s.heap.FunFrames base outer
 frf:∀b∈frs outer,H b=none
 hok:HOk P w H s.heap
 bare:tD s.gens
def CE(outer:List Env)(P:vO)(w:vU)(H:Hp)(s:vC)(Q:VK)(u:vB)(s':vC):Prop :=
 ∃v H',s'.os=s.os/\tD s'.gens/\Un (frs outer) [] H H' s.heap s'.heap/\HOk P w H' s'.heap/\RelV v u/\Q v H'
def CR(CX:CXT)(outer:List Env)(P:vO)(w:vU)(H:Hp)(s:vC)(Q:VK)(E:XK)(r:sK)(s':vC):Prop :=
 match r with
 | .ok (.ret u)=>CE outer P w H s Q u s'
 | .ok _=>False
 | .error e=>CX outer H s E e s'
structure FnOk (P:vO) (w:vU) (K:zC) (mg:Str->Option vB) (base:vY) (CX:CXT) (k:Nat) (f:vF) (fd:vM) (ps:List Str) (sp:Sp):Prop where
 len:∀vs H Q E,sp vs H Q E->vs.length=ps.length
 run:∀(A:vZ)(outer:List Env)(s:vC)(H:Hp)(args:Args)(us:List vB)(vs:List V)(Q:VK)(E:XK),Room k A->Env0 P w K mg base A outer s H->sE s fd args (ps.zip us)->YZ vs us->sp vs H Q E ->
  uW (model P w) A (.call (.ref f) args) (CR CX outer P w H s Q E) s
theorem Env0.in1{P:vO}{w:vU}{K:zC}{mg:Str->Option vB}{base:vY}{A:vZ}{outer:List Env}{s:vC}{H:Hp}(e:Env0 P w K mg base A outer s H):
  Env0 P w K mg base A.in1 outer s H:=⟨e.frames,e.mod,e.bs,e.bsz,e.funs,e.frf,e.hok,e.bare⟩
section
variable{X:Cx}{pins:List (vF×Obj)}{σ:St}{H:Hp}{s s':vC}
theorem Inv.env0(I:Inv X pins σ H s):Env0 X.prog X.w X.K X.mg X.base X.A X.stack s H :=
 ⟨I.ok.frames,I.ok.mod,I.bs,yA I.ok.bsz I.sz,I.stack,I.stkFree,I.hok,I.bare⟩
theorem Inv.after{Q:VK}{u:vB}(I:Inv X pins σ H s)(h:CE X.stack X.prog X.w H s Q u s'):EP X pins σ Q u s':=by
 obtain⟨v,H',os,bare,un,hok,r,q⟩:=h;obtain⟨hh,g,d,t,os'⟩:=s';obtain rfl:os'=s.os:=os;exact⟨v,H',I.call (h':=hh) (g':=g) (d':=d) (t':=t) (ch:=[]) un hok bare (λb z=>vN z (by simp)),r,q⟩
end
noncomputable def zA6(sp:Sp)(dvs:List V)(E:XK)(t:TA):TE:=λσ H Q=>t σ H λvs H1=>sp (vs++dvs) H1 Q E
def Binds(K:zC)(fd:vM)(ps:List Str)(ds:List vB):Prop :=
 ∀(s:vC)(us:List vB),K.In s.heap->(us++ds).length=ps.length->sE s fd ⟨us,[]⟩ (ps.zip (us++ds))
theorem Binds.all{K:zC}{fd:vM}{ps:List Str}(h:∀us:List vB,us.length=ps.length->bindArgs fd ⟨us,[]⟩=pure (ps.zip us)):Binds K fd ps []:=λs us _ hl=>by
 rw[za]at hl ⊢;exact .of_eq (h us hl)
def WW(CX:CXT)(X:Cx)(E:XK):Prop:=∀(pins:List (vF×Obj))(σ:St)(H:Hp)(s:vC)(e:vB)(s':vC),Inv X pins σ H s->CX X.stack H s E e s'->X.xe e s'
section
variable{X:Cx}{CX:CXT}{k:Nat}{f C:vF}{fd:vM}{ps:List Str}{sp:Sp}{dvs:List V}{ds:List vB}{E:XK}{x m:Str}{p pos apos:Pos}{e o:vP}{es:List vP}{ta:TE}{t:TA}
theorem qhI{pins:List (vF×Obj)}{σ:St}{H:Hp}{s:vC}{Q:VK}{us:List vB}{vs:List V}(F:FnOk X.prog X.w X.K X.mg X.base CX k f fd ps sp)(hr:Room k X.A)(hb:Binds X.K fd ps ds)(hd:YZ dvs ds)(hx:WW CX X E)(I:Inv X pins σ H s)(r:YZ vs us)(h:sp (vs++dvs) H Q E):vL (model X.prog X.w) X.A (call (.ref f) us) (EP X pins σ Q) X.xe s:=by
 have r2:YZ (vs++dvs) (us++ds):=r.append hd;have hl:(us++ds).length=ps.length:=by rw[<- r2.length];exact F.len _ _ _ _ h
 refine wpAny_call (uX (F.run X.A X.stack s H ⟨us,[]⟩ (us++ds) (vs++dvs) Q E hr I.env0 (hb s us I.kIn hl) r2 h) λr s' hq=>?_);cases r with
 | error e=>exact hx pins σ H s e s' I hq
 | ok fl=>
  cases fl with
  | ret u=>exact I.after hq
  | next=>exact False.elim hq
  | brk=>exact False.elim hq
  | cont=>exact False.elim hq
theorem q3y(F:FnOk X.prog X.w X.K X.mg X.base CX k f fd ps sp)(hr:Room k X.A)(hg:Gl X x)(hm:X.mg x=some (.ref f))(hk:xD X.K (.ref f)=true)(hb:Binds X.K fd ps ds)(hd:YZ dvs ds)(hx:WW CX X E)(ha:PA X (e::es) t)(hdb:(x==("__debug__" : Str))=false:=by decide)(he:vK (e::es) X.env=(false,eval e X.env)::vK es X.env:=by rfl)(hpl:(vn pos (vK es X.env)).any (·.1)=false:=by rfl):
  PE X (.Call (.Name x p) (e::es) [] pos) (zA6 sp dvs E t):=by
 intro pins s σ H Q I h;refine uF (qb8 I hg hm ?_ hdb);refine PySem.W.callWith_K (h₀:=X.base) I.ok.mod.kin hk (thn (ha pos pins s σ H _ I h) λus s1 ⟨vs,H1,I1,r,q⟩=>⟨I1.kIn,?_⟩) he hpl;exact qhI F hr hb hd hx I1 r q
end
def PK(X:Cx)(kws:List uY)(t:TA):Prop :=
 ∀(pos:Pos)(pins:List (vF×Obj))(s:vC)(σ:St)(H:Hp)(Q:List V->Hp->Prop),Inv X pins σ H s->t σ H Q->vL (model X.prog X.w) X.A (evalAll ((uM pos (vz kws X.env)).map (·.2))) (AP X pins σ Q) X.xe s
section
variable{X:Cx}{CX:CXT}{k:Nat}{f C:vF}{fd:vM}{ps ks:List Str}{sp:Sp}{E:XK}{x m:Str}{p pos apos kpos:Pos}{e o:vP}{es:List vP}{kws:List uY}{te ta:TE}{t tk:TA}{nm:Option Str}
theorem qhF:PK X [] tNil:=λ_ _ _ _ H Q I h=>wpAny_evalAll_nil ⟨[],H,I,.nil,h⟩
theorem qgo(ha:PE X e te)(hr:PK X kws t):PK X (⟨nm,e,kpos⟩::kws) (WF te t):=by
 intro pos pins s σ H Q I h;show vL _ _ (evalAll ((do let v <- eval e X.env;tu pos;pure v)::(uM pos (vz kws X.env)).map (·.2))) _ _ s;refine wpAny_evalAll_cons (vA (thn (ha pins s σ H _ I h) λu s1 ⟨x,H1,I1,r1,q1⟩=>vA (tH (vH ?_))));exact thn (hr pos pins s1 σ H1 _ I1 q1) λus s2 ⟨xs,H2,I2,r2,q2⟩=>⟨x::xs,H2,I2,.cons r1 r2,q2⟩
variable{g:List vB->List vB->List vB}{gV:List V->List V->List V}
end
structure FnScope (N P:List Str) (sc:uk):Prop where
 kind:sc.kind=.function
 co:sc.isCoroutine=false
 gen:sc.isGenerator=false
 nd:N.Nodup
 pre:N.take P.length=P
 par:∀x∈P,sc.names.lookup x=some .local\/sc.names.lookup x=some .cell
 nofree:∀y∈sc.names,y.2≠.free
theorem q7F{kindOf:Str->Option uR}{x:Str}:∀{binds:List (Str×vB)}{m:Str->Option vB},(∀v,(x,v)∉binds)->bindL kindOf binds m x=m x
 | [],_,_=>rfl
 | (n,v)::r,m,h=>by
  unfold bindL;rw[q7F λw hw=>h w (zJ _ hw)]
  split
  ·have:x≠n:=by rintro rfl;exact h v zH
   simp[this]
  ·rfl
theorem q7s{kindOf:Str->Option uR}{x:Str}:∀{binds:List (Str×vB)}{m:Str->Option vB},(∀v,(x,v)∉binds)->bindC kindOf binds m x=m x
 | [],_,_=>rfl
 | (n,v)::r,m,h=>by
  unfold bindC;rw[q7s λw hw=>h w (zJ _ hw)]
  split
  ·rfl
  ·have:x≠n:=by rintro rfl;exact h v zH
   simp[this]
theorem q7T{kindOf:Str->Option uR}{x:Str}{v:vB}:∀{P:List Str}{vs:List vB}{i:Nat}{m:Str->Option vB},P.Nodup->P[i]?=some x->vs[i]?=some v->kindOf x=some .local ->
  bindL kindOf (P.zip vs) m x=some v
 | [],_,_,_,_,h,_,_=>by simp at h
 | _::_,[],_,_,_,_,h,_=>by simp at h
 | p::P,w::vs,0,m,nd,h1,h2,hk=>by
  simp at h1 h2;subst h1;subst h2;show bindL kindOf ((p,w)::P.zip vs) m p=_;unfold bindL;rw[q7F λv hv=>(yb.mp nd).1 (xb hv).1,vG hk];simp
 | p::P,w::vs,i+1,m,nd,h1,h2,hk=>by
  show bindL kindOf ((p,w)::P.zip vs) m x=_;unfold bindL;exact q7T (i:=i) (yb.mp nd).2 ⇑h1 ⇑h2 hk
theorem q7U{kindOf:Str->Option uR}{x:Str}{v:vB}:∀{P:List Str}{vs:List vB}{i:Nat}{m:Str->Option vB},P.Nodup->P[i]?=some x->vs[i]?=some v->kindOf x≠some .local ->
  bindC kindOf (P.zip vs) m x=some v
 | [],_,_,_,_,h,_,_=>by simp at h
 | _::_,[],_,_,_,_,h,_=>by simp at h
 | p::P,w::vs,0,m,nd,h1,h2,hk=>by
  simp at h1 h2;subst h1;subst h2;show bindC kindOf ((p,w)::P.zip vs) m p=_;unfold bindC;rw[q7s λv hv=>(yb.mp nd).1 (xb hv).1,vJ hk];simp
 | p::P,w::vs,i+1,m,nd,h1,h2,hk=>by
  show bindC kindOf ((p,w)::P.zip vs) m x=_;unfold bindC;exact q7U (i:=i) (yb.mp nd).2 ⇑h1 ⇑h2 hk
noncomputable def start(N:List Str)(vs:List V):St:=vs.map some++xl (N.length-vs.length) none
noncomputable def zAv(CX:CXT)(P:vO)(w:vU)(K:zC)(mg:Str->Option vB)(base:vY)(N:List Str)(qual:Str)(scope:uk)(f:vF)(cd:vB)(A:vZ)(outer:List Env)(s:vC)(H:Hp)(E:XK):Cx where
 prog:=P
 w:=w
 K:=K
 mg:=mg
 base:=base
 A:=A.deeper (tX qual scope s.heap.objs.size f cd)
 N:=N
 s₀:=s
 H₀:=H
 env:=tX qual scope s.heap.objs.size f cd
 outer:=outer
 stack:=tX qual scope s.heap.objs.size f cd::outer
 ex:=[]
 calm:=true
 fn:=λ_=>true
 pn:=[]
 xe:=λe s'=>vL (model P w) (A.deeper (tX qual scope s.heap.objs.size f cd)) (leaving (tX qual scope s.heap.objs.size f cd) e) (λ_ s''=>CX outer H s E e s'') (λe' s''=>CX outer H s E e' s'') s'
theorem q8C{sc:uk}{n:Nat}{x:Str}(h:sc.names.lookup x=some .cell):∃c,(cellsFrom n sc.names []).lookup x=some c:=by
 have q:=wc sc.names n [] (.inl h);exact ya.mp q
theorem qd1{CX:CXT}{P:vO}{w:vU}{K:zC}{mg:Str->Option vB}{base:vY}{N ps:List Str}{qual:Str}{scope:uk}{f:vF}{cd:vB}{A:vZ}{outer:List Env}{s s1:vC}{H:Hp}{E:XK}{us:List vB}{vs:List V}(S:FnScope N ps scope)(hd:A.handled=none)(e0:Env0 P w K mg base A outer s H)(hl:vs.length=ps.length)(r:YZ vs us)(x:InCallC s s.heap.objs.size (bindL (tX qual scope s.heap.objs.size f cd).kindOf (ps.zip us) λ_=>none) (cellsFrom (s.heap.objs.size+1) scope.names []) (bindC (tX qual scope s.heap.objs.size f cd).kindOf (ps.zip us) λ_=>none) s1):
  Inv (zAv CX P w K mg base N qual scope f cd A outer s H E) [] (start N vs) H s1:=by
 have hpl:ps.length<=N.length:=by have:=vq yd S.pre;rw[zY]at this;omega
 obtain⟨h1,tk,rfl,hk⟩:=x.done;have noA:∀b:vF,b∉(zAv CX P w K mg base N qual scope f cd A outer s H E).ex:=λb z=>vN (show b∈([]:List vF)from z) (by simp);refine⟨⟨e0.mod,S.kind,rfl,rfl,zI _,λy z c h1 h2=>?_,λy hy=>?_,λy c _ h=>?_,λ_=>hd,Around.frames_deeper e0.frames,.inr ⟨rfl,rfl⟩,λb z=>vN z (noA b),e0.bs,e0.bsz,λb _ _=>noA b,λb z=>vN z (noA b),e0.funs,e0.frf⟩,
  rfl,e0.bare,Un.kept hk,⟨_,x.toInCall.ns,λi y v h1 h2 h3=>?_⟩,λy c h=>⟨_,x.cell y c h⟩,e0.hok.fresh (zI _),λy c h=>?_,λp hp=>vN (show p∈([]:List (vF×Obj))from hp) (by simp),e0.hok.kept hk,?_⟩
 ·exact name_of_addr x.apart (PySem.mem_of_lookup h1) (PySem.mem_of_lookup h2)
 ·have hy:scope.names.lookup y=some .cell\/scope.names.lookup y=some .free:=hy
  rcases hy with hy|hy
  ·exact q8C hy
  ·exact vN rfl (S.nofree _ (PySem.mem_of_lookup hy))
 ·exact yL (x.above y c (PySem.mem_of_lookup h))
 ·have hi:i<vs.length:=by
   unfold start at h2
   by_cases hi:i<vs.length
   ·exact hi
   ·rw[zP ⇑hi]at h2
    rw[yT]at h2
    split at h2 <;> cases h2
  have ha:vs[i]?=some v:=by
   unfold start at h2;rw[zV ⇑hi,zK]at h2;cases e:vs[i]? with
   | none=>rw[e]at h2;cases h2
   | some a=>rw[e]at h2;cases h2;rfl
  obtain⟨u,hu,rv⟩:=r.get ha;have hp:ps[i]?=some y:=by
   rw[<- S.pre,List.getElem?_take_of_lt ∅];exact h1
  have ndP:ps.Nodup:=by rw[<- S.pre];exact S.nd.sublist (ZY _ _)
  refine⟨u,rv,?_⟩;rcases S.par y (zg hp)with k|k
  ·exact .inl ⟨k,q7T ndP hp hu k⟩
  ·obtain⟨c,e⟩:=q8C (n:=s.heap.objs.size+1) k
   refine .inr ⟨.inl k,c,e,?_⟩;have q:=x.cell y c e;rw[q7U ndP hp hu (by show scope.names.lookup y≠_;rw[k];decide)]at q;exact q
 ·exact e0.hok.fresh (yL (x.above y c (PySem.mem_of_lookup h)))
 ·unfold start
  show _=N.length;rw[zE,zA,yZ];omega
theorem qhS{CX:CXT}{P:vO}{w:vU}{K:zC}{mg:Str->Option vB}{base:vY}{k:Nat}{f:vF}{name qual:Str}{params:Arguments}{body:List vo}{scope:uk}{dV kV doc pm cdv ct oc:vB}{an od:Option vF}{osl:Array (Option vB)}{N ps:List Str}{sp:Sp}(lk:K.lookup f=some ⟨oc,od,.func (y8 name qual params body scope dV kV doc pm an cdv ct),osl⟩)(hcd:wI K cdv qual=true)(S:FnScope N ps scope)(len:∀vs H Q E,sp vs H Q E->vs.length=ps.length)(hbody:∀(A:vZ)(outer:List Env)(s:vC)(H:Hp)(vs:List V)(Q:VK)(E:XK),Room k (A.deeper (tX qual scope s.heap.objs.size f cdv))->sp vs H Q E ->
   ∃t,PSs (zAv CX P w K mg base N qual scope f cdv A outer s H E) body t/\t { nx:=λ_ H'=>Q .non H',rt:=Q } (start N vs) H) :
  FnOk P w K mg base CX (k+1) f (y8 name qual params body scope dV kV doc pm an cdv ct) ps sp:=by
 refine⟨len,λA outer s H args us vs Q E hr e0 hb r hsp=>?_⟩;have hl:=len _ _ _ _ hsp;have KX:K.In s.heap:=e0.mod.kin.keeps λb o e=>(e0.bs b o e).1;have lim:s.heap.NoLimit:=e0.mod.nolimit.keeps λb o e=>(e0.bs b o e).1;have hkind:∀y∈ps.zip us,scope.names.lookup y.1=some .local\/(scope.names.lookup y.1=some .cell/\((cellsFrom (s.heap.objs.size+1) scope.names []).lookup y.1).isSome=true):=λ⟨n,v⟩ hy=>by
  rcases S.par n (xb hy).1 with q|q
  ·exact .inl q
  ·exact .inr ⟨q,wc _ _ _ (.inl q)⟩
 refine codeAny_call_function hr.depth (KX _ _ lk) rfl S.co S.gen rfl (PySem.W.codeRec_of KX hcd) (hb _ _ _ _ ?_);refine wpAny_newFunctionEnv_cells S.kind hkind λenv he s1 x=>?_;subst he;refine⟨lim.keeps x.toInCall.keep,codeAny_func ?_⟩;obtain⟨t,ht,hq⟩:=hbody A outer s H vs Q E (hr.deeper _) hsp;have I:Inv (zAv CX P w K mg base N qual scope f cdv A outer s H E) [] (start N vs) H s1:=qd1 S hr.hd e0 hl r x;refine vm (ht [] s1 (start N vs) H _ I hq) (λfl s' hs=>?_) λe s' hs=>hs;have fin:∀{σ':St}{H':Hp}{v:V}{u:vB},Inv (zAv CX P w K mg base N qual scope f cdv A outer s H E) [] σ' H' s'->RelV v u->Q v H'->CE outer P w H s Q u s' :=
  λ{σ' H' v u} J rv q=>⟨v,H',J.os,J.bare,J.base,J.hok,rv,q⟩
 cases fl with
 | ret u=>
  obtain⟨v,σ',H',J,rv,q⟩:=hs;exact fin J rv q
 | next=>
  obtain⟨σ',H',J,q⟩:=hs;exact fin (v:=V.non) (u:=Value.none) J rfl q
 | brk=>
  obtain⟨_,_,_,q⟩:=hs;exact False.elim q
 | cont=>
  obtain⟨_,_,_,q⟩:=hs;exact False.elim q
section
variable{X:Cx}{x:Str}{p pos:Pos}{e:vP}{es:List vP}{t:TA}{id T:String}{r:List V->Hp->VK->Prop}
noncomputable def tCB(r:List V->Hp->VK->Prop)(t:TA):TE:=λσ H Q=>t σ H λvs H1=>r vs H1 Q
theorem q1H(hc:Yy X (.builtin id) r)(hg:Gl X x)(hm:X.mg x=none)(hv:vc x=some (.builtin id))(ha:PA X (e::es) t)(hn:x ≠ "__name__" := by decide)(hdb:(x==("__debug__" : Str))=false:=by decide)(he:vK (e::es) X.env=(false,eval e X.env)::vK es X.env:=by rfl)(hpl:(vn pos (vK es X.env)).any (·.1)=false:=by rfl):PE X (.Call (.Name x p) (e::es) [] pos) (tCB r t):=by
 intro pins s σ H Q I h;refine uF (q0S I hg hm hv ?_ hn hdb);exact PyProof.Rows.callWith_builtin1 (thn (ha pos pins s σ H _ I h) λus s1 ⟨vs,H1,I1,r1,q1⟩=>hc pins s1 σ H1 vs us Q I1 r1 q1) he hpl
theorem q7H(hc:Yy X (.type T) r)(hg:Gl X x)(hm:X.mg x=none)(hv:vc x=some (.type T))(ha:PA X (e::es) t)(hn:x ≠ "__name__" := by decide)(hdb:(x==("__debug__" : Str))=false:=by decide)(he:vK (e::es) X.env=(false,eval e X.env)::vK es X.env:=by rfl)(hpl:(vn pos (vK es X.env)).any (·.1)=false:=by rfl):PE X (.Call (.Name x p) (e::es) [] pos) (tCB r t):=by
 intro pins s σ H Q I h;refine uF (q0S I hg hm hv ?_ hn hdb);exact PyProof.Rows.callWith_type1 (thn (ha pos pins s σ H _ I h) λus s1 ⟨vs,H1,I1,r1,q1⟩=>hc pins s1 σ H1 vs us Q I1 r1 q1) he hpl
end
end L2
namespace HT
open PySem PyProof.Rows
section
open PySem.SeqAt
open PySem.AutoSeq1 (wpAny_loadPart')
open PySem.MeetsSeq PySem.MeetsSeq2 PySem.MeetsSeq3
end
section
variable{prog:vO}{w:vU}{A:vZ}{E:vB->vC->Prop}{s:vC}
theorem qfL{t b:vF}{vs ws:List vB}{Q:vB->vC->Prop}(ht:IsTup s.heap t vs.toArray)(hb:IsTup s.heap b ws.toArray)(hv:vs≠[])(h1:ws=[]->Q (.ref t) s)(h2:ws≠[]->Q (.ref s.heap.objs.size) { s with heap:=s.heap.push { cls:=.type "tuple", data:=.seq (vs++ws).toArray } })(hsz:vs.length+ws.length<=sizeLine):vL (model prog w) A (uQ .Add (.ref t) (.ref b)) Q E s:=by
 obtain⟨⟨cls,dd,data,sl⟩,ho,hc,n,hd⟩:=id ht;obtain⟨⟨cls2,dd2,data2,sl2⟩,ho2,hc2,n2,hd2⟩:=id hb;simp only at hc hd hc2 hd2;subst hc hd hc2 hd2;have e:vs.toArray++ws.toArray=(vs++ws).toArray:=by simp
 by_cases hw:ws=[]
 ·exact concat_meets ⟨_,ho,rfl⟩ ⟨_,ho2,rfl⟩ noFill_tuple_add seq_tuple_add PySem.F.slot_tuple_add PySem.F.entry_tuple_add (PySem.F.args_tuple_add_2 _ _)
   (tuple_addW1 t b vs.toArray ws.toArray n n2 dd dd2 sl sl2 ⇑hv (by simp[hw])) ⟨ho,ho2,h1 hw⟩
 ·refine concat_meets ⟨_,ho,rfl⟩ ⟨_,ho2,rfl⟩ noFill_tuple_add seq_tuple_add PySem.F.slot_tuple_add PySem.F.entry_tuple_add (PySem.F.args_tuple_add_2 _ _)
   (tuple_addW2 t b vs.toArray ws.toArray n n2 dd dd2 sl sl2 ⇑hv ⇑hw (by rw[zM,zM];exact hsz)) ⟨ho,ho2,?_⟩
  rw[e];exact h2 hw
noncomputable def sIx(n d:Nat):Option Int->Nat
 | none=>d
 | some v=>if v<0 then (v+(n:Int)).toNat else min v.toNat n
theorem q9r(n d:Nat):sIx n d none=d:=rfl
theorem q4E(n d k:Nat):sIx n d (some (k:Int))=min k n:=by
 show (if (k:Int)<0 then ((k:Int)+(n:Int)).toNat else min (k:Int).toNat n)=min k n;rw[vJ ∅,yH]
theorem qh0(n d:Nat)(hd:d<=n)(o:Option Int):sIx n d o<=n:=by
 cases o with
 | none=>exact hd
 | some v=>
  show (if v<0 then (v+(n:Int)).toNat else min v.toNat n)<=n
  by_cases hv:v<0
  ·rw[vG hv];omega
  ·rw[vJ hv];exact Zn _ _
theorem qaT(v:Int)(n d:Nat):(if v<0 then max (v+(n:Int)) 0 else min v (n:Int))=((sIx n d (some v):Nat):Int):=by
 show (if v<0 then max (v+(n:Int)) 0 else min v (n:Int))=(((if v<0 then (v+(n:Int)).toNat else min v.toNat n):Nat):Int)
 by_cases hv:v<0
 ·simp only[vG hv];omega
 ·simp only[vJ hv];omega
theorem qbx(lo hi:Option Int)(n:Nat):Builtin.Slice.sliceAdjust lo hi 1 (n:Int)=(((sIx n 0 lo:Nat):Int),((sIx n n hi:Nat):Int)):=by
 have h1:¬((1:Int)<0):=∅
 unfold Builtin.Slice.sliceAdjust;simp only[h1,if_false];refine Prod.ext ?_ ?_
 ·cases lo with
  | none=>rfl
  | some v=>exact qaT v n 0
 ·cases hi with
  | none=>rfl
  | some v=>exact qaT v n n
theorem qc8(i j:Nat):Builtin.Slice.slicePlaces (i:Int) (j:Int) 1=j-i:=by
 unfold Builtin.Slice.slicePlaces;have h1:(1:Int)>0:=∅
 simp only[h1,if_true,Int.ediv_one]
 split <;> omega
theorem q6b{v:vB}{o:Option Int}{Q:Option Int->vC->Prop}(p:tN v o)(h:Q o s):vL (model prog w) A (Builtin.Slice.slicePartIndex v) Q E s:=by
 cases p with
 | none=>exact slicePart_none h
 | int i t=>exact slicePart_int h
theorem q2m{sl:vF}{vl vu:vB}{lo hi:Option Int}{n:Nat}{Q:Int×Int×Nat->vC->Prop}(hs:s.heap.IsSliceOf sl vl vu .none)(pl:tN vl lo)(pu:tN vu hi)(h:Q (((sIx n 0 lo:Nat):Int),1,sIx n n hi-sIx n 0 lo) s):vL (model prog w) A (Builtin.Slice.sliceApplied (.ref sl) (pure (n:Int))) Q E s:=by
 obtain⟨os,hos,hcs,hds⟩:=id hs;unfold Builtin.Slice.sliceApplied Builtin.Slice.sliceFields;refine vA (vA (uN hos hds (x:=vl) rfl (vA (uN hos hds (x:=vu) rfl (vA (uN hos hds (x:=.none) rfl (vH ?_)))))));refine vA (slicePart_none ?_);show vL _ _ (if ((1:Int)==0)=true then _ else _) _ _ s;rw[vJ (by decide)];refine vA (q6b pl (vA (q6b pu (vA (vH ?_)))));show vL _ _ (match Builtin.Slice.sliceAdjust lo hi 1 (n:Int)with|(lo,hi)=>pure (lo,(1:Int),Builtin.Slice.slicePlaces lo hi 1)) _ _ s;rw[qbx lo hi n];show vL _ _ (pure (((sIx n 0 lo:Nat):Int),(1:Int),Builtin.Slice.slicePlaces ((sIx n 0 lo:Nat):Int) ((sIx n n hi:Nat):Int) 1)) _ _ s;rw[qc8];exact vH h
theorem qfl(xs:Array vB)(i k:Nat):((zO k).filterMap λ(m:Nat)=>xs[((i:Int)+(m:Int)*1).toNat]?).toArray=((xs.toList.drop i).take k).toArray:=by
 have e:(λ(m:Nat)=>xs[((i:Int)+(m:Int)*1).toNat]?)=λm=>xs[i+m]?:=by
  funext m
  have:((i:Int)+(m:Int)*1).toNat=i+m:=∅
  rw[this]
 rw[e];have:=pick_run xs i k;rw[ZS]at this;have e2:((λx=>xs[x]?) ∘ λx=>i+x)=λm=>xs[i+m]?:=rfl;rw[e2]at this;rw[this]
theorem q4V{t sl:vF}{items:Array vB}{vl vu:vB}{lo hi:Option Int}{Q:vB->vC->Prop}(ht:IsTup s.heap t items)(hs:s.heap.IsSliceOf sl vl vu .none)(pl:tN vl lo)(pu:tN vu hi)(hw:¬(sIx items.size 0 lo=0/\sIx items.size items.size hi=items.size))(h:Q (.ref s.heap.objs.size) { s with heap:=s.heap.push { cls:=.type "tuple", data:=.seq ((items.toList.drop (sIx items.size 0 lo)).take (sIx items.size items.size hi-sIx items.size 0 lo)).toArray } })(hsz:items.size<=sizeLine):vL (model prog w) A (uy (.ref t) (.ref sl)) Q E s:=by
 have htake:sizeOk (.seq ((items.toList.drop (sIx items.size 0 lo)).take (sIx items.size items.size hi-sIx items.size 0 lo)).toArray):=by
  show ((items.toList.drop (sIx items.size 0 lo)).take (sIx items.size items.size hi-sIx items.size 0 lo)).toArray.size<=sizeLine;rw[zM,zY,yG,zL];omega
 have hj:sIx items.size items.size hi<=items.size:=qh0 _ _ (zI _) hi;obtain⟨os,hos,hcs,hds⟩:=id hs;have hTs:s.TypeIs (.ref sl) "slice" := ⟨os,hos,hcs⟩;unfold uy
 try with_reducible refine ve ?_
 first|refine vA (vH ?_)|skip
 refine vA (wpAny_sequenceKey ht.typeIs (by decide) ?_);refine vA (wpAny_callSpecial?_slot (name:=Str.ofString "__getitem__") ht.typeIs PyProof.Rows.slot_tuple_getitem
  (vh PyProof.Rows.slot_tuple_getitem ht.typeIs entry_tuple_getitem ?_ (sA _ _)))
 show vL _ _ (Builtin.Tuple.tupleItemsOf (.ref t) >>= _) _ _ s;refine vA (tupleItemsOf_ ht ?_);refine vA (ue hTs ?_);rw[vG (by decide)];refine vA (q2m hs pl pu ?_);have hno:¬((((sIx items.size 0 lo:Nat):Int)==0&&(1:Int)==1&&(sIx items.size items.size hi-sIx items.size 0 lo)==items.size)=true):=by
  intro q;rw[zr,zr]at q;have q1:((sIx items.size 0 lo:Nat):Int)=0:=eq_of_beq q.1.1;have q2:sIx items.size items.size hi-sIx items.size 0 lo=items.size:=eq_of_beq q.2;exact hw ⟨∅,∅⟩
 show vL _ _ (if (((sIx items.size 0 lo:Nat):Int)==0&&(1:Int)==1&&(sIx items.size items.size hi-sIx items.size 0 lo)==items.size)=true then _ else _) _ _ s;rw[vJ hno,qfl]
 first
  | exact vA (m:=Builtin.Tuple.tupleExact _) (vg (vH ⟨_,rfl,vH h⟩) htake)
  | exact vA (m:=Builtin.Tuple.tupleExact _) (vg (vA (vH (vH ⟨_,rfl,vH h⟩))) htake)
  | exact vA (vA (m:=Builtin.Tuple.tupleExact _) (vg (vH (vH ⟨_,rfl,vH h⟩)) htake))
  | exact vA (vA (m:=Builtin.Tuple.tupleExact _) (vg (vH ⟨_,rfl,vH h⟩) htake))
end
end HT
namespace L2
open PySem PySem.Spec PyProof.Rows
abbrev TO:=St->Hp->(Option Int->Hp->Prop)->Prop
def PO(X:Cx)(e:Option vP)(t:TO):Prop :=
 ∀(pins:List (vF×Obj))(s:vC)(σ:St)(H:Hp)(Q:Option Int->Hp->Prop),Inv X pins σ H s->t σ H Q ->
  vL (model X.prog X.w) X.A (evalPart e X.env) (λu s'=>∃o H',Inv X pins σ H' s'/\tN u o/\Q o H') X.xe s
noncomputable def zA8:TO:=λ_ H Q=>Q none H
noncomputable def tPart(t:TE):TO:=λσ H Q=>t σ H λx H1=>∃i,x=.int i/\Q (some i) H1
theorem q1n{ns:List Int}:∀{us:List vB},YZ (ns.map V.int) us->uA us ns:=by
 induction ns with
 | nil=>intro us r;rw[yh]at r;cases r;exact .nil
 | cons n ns ih=>
  intro us r;rw[zi]at r;cases r with
  | cons r1 r2=>
   obtain⟨t,e⟩:=r1;subst e;exact .cons n t (ih r2)
section
variable{X:Cx}{e:vP}{te:TE}{lo hi:Option vP}{tl th:TO}{pos p2:Pos}
theorem qfI:PO X none zA8:=by
 intro pins s σ H Q I h;rw[evalPart_none];exact vH ⟨none,H,I,.none,h⟩
theorem qfO(h:PE X e te):PO X (some e) (tPart te):=by
 intro pins s σ H Q I hw;rw[evalPart_some];refine thn (h pins s σ H _ I hw) λu s1 ⟨x,H1,I1,r1,q1⟩=>?_;obtain⟨i,rfl,q⟩:=q1;obtain⟨t,rfl⟩:=r1;exact⟨some i,H1,I1,.int i t,q⟩
def SlR(X:Cx)(r:V->Option Int->Option Int->Hp->VK->Prop):Prop :=
 ∀(pins:List (vF×Obj))(s:vC)(σ:St)(H:Hp)(x:V)(v vl vu:vB)(lo hi:Option Int)(sl:vF)(Q:VK),Inv X pins σ H s->RelV x v->s.heap.IsSliceOf sl vl vu .none->tN vl lo->tN vu hi->r x lo hi H Q ->
  ∃T id,tO (.type T) "__getitem__" = pure (some (.builtin id))/\s.TypeIs v T/\vL (model X.prog X.w) X.A (uy v (.ref sl)) (EP X pins σ Q) X.xe s
theorem SlR.or{r r':V->Option Int->Option Int->Hp->VK->Prop}(h:SlR X r)(h':SlR X r'):SlR X (λx lo hi H Q=>r x lo hi H Q\/r' x lo hi H Q):=by
 intro pins s σ H x v vl vu lo hi sl Q I rx hs pl pu q;rcases q with q|q
 ·exact h pins s σ H x v vl vu lo hi sl Q I rx hs pl pu q
 ·exact h' pins s σ H x v vl vu lo hi sl Q I rx hs pl pu q
noncomputable def tSl(r:V->Option Int->Option Int->Hp->VK->Prop)(te:TE)(tl th:TO):TE:=λσ H Q=>te σ H λx H1=>tl σ H1 λl H2=>th σ H2 λu H3=>r x l u H3 Q
theorem qfn{r:V->Option Int->Option Int->Hp->VK->Prop}(hr:SlR X r)(he:PE X e te)(hl:PO X lo tl)(hu:PO X hi th):PE X (.Subscript e (.Slice lo hi none p2) pos) (tSl r te tl th):=by
 intro pins s σ H Q I h;refine Subscript_ (thn (he pins s σ H _ I h) λv s1 ⟨x,H1,I1,r1,q1⟩=>?_);refine wpAny_Slice (thn (hl pins s1 σ H1 _ I1 q1) λvl s2 ⟨l,H2,I2,pl,q2⟩=>thn (hu pins s2 σ H2 _ I2 q2) λvu s3 ⟨u,H3,I3,pu,q3⟩=>?_);rw[evalPart_none];refine vH ?_;have I4:Inv X pins σ H3 { s3 with heap:=s3.heap.push { cls:=.type "slice", data:=.fields #[vl,vu,.none] } }:=I3.kept (t':=s3.toks) λb ob q=>zD _ q;obtain⟨T,id,hT,ht,hg⟩:=hr pins { s3 with heap:=s3.heap.push { cls:=.type "slice", data:=.fields #[vl,vu,.none] } } σ H3 x v vl vu l u s3.heap.objs.size Q I4 r1 (YG ..) pl pu q3;show vL (model X.prog X.w) X.A (t8 e (.Slice lo hi none p2) v (.ref s3.heap.objs.size)) (EP X pins σ Q) X.xe { s3 with heap:=s3.heap.push { cls:=.type "slice", data:=.fields #[vl,vu,.none] } };exact tail_any (ops:=[.ref s3.heap.objs.size,v]) ht hT hg (by with_unfolding_all rfl)
noncomputable def Wx(xs:List V)(lo hi:Option Int):List V:=(xs.drop (HT.sIx xs.length 0 lo)).take (HT.sIx xs.length xs.length hi-HT.sIx xs.length 0 lo)
theorem q50(xs:List V)(lo hi:Option Int):(Wx xs lo hi).length<=xs.length:=by
 unfold Wx;rw[zY,yG];omega
def rSlT(K:zC):V->Option Int->Option Int->Hp->VK->Prop:=λx lo hi H Q=>∃a xs,x=.ref a/\SqT K H a xs /\
 ¬(HT.sIx xs.length 0 lo=0/\HT.sIx xs.length xs.length hi=xs.length)/\∀p,H p=none->Q (.ref p) (upd H p (.tup (Wx xs lo hi)))
theorem qhE:SlR X (rSlT X.K):=by
 intro pins s σ H x v vl vu lo hi sl Q I rx hs pl pu h;obtain⟨a,xs,rfl,hx,hw,q⟩:=h;cases rx;obtain⟨its,r,ht,hz⟩:=I.tuple hx;have hlen:its.toArray.size=xs.length:=by rw[zM];exact r.length.symm
 refine⟨"tuple", _,PyProof.Rows.slot_tuple_getitem.lookup,ht.typeIs,?_⟩;refine HT.q4V ht hs pl pu (by rw[hlen];exact hw) ?_ (by rw[hlen];exact hz);rw[hlen];refine⟨.ref s.heap.objs.size,_,I.laid (t':=s.toks) (o:=.tup (Wx xs lo hi)) (λb ob q=>zD _ q) (zI _) ?_,rfl,q _ (I.hok.fresh (zI _))⟩;exact⟨yA (q50 xs lo hi) hz,_,(r.drop (HT.sIx xs.length 0 lo)).take (HT.sIx xs.length xs.length hi-HT.sIx xs.length 0 lo),IsTup.new _ _⟩
noncomputable def rCatT(K:zC):R2:=λx y H Q=>∃a b xs ys,x=.ref a/\y=.ref b/\SqT K H a xs/\SqT K H b ys/\xs≠[]/\xs.length+ys.length<=sizeLine /\
 (ys=[]->Q (.ref a) H)/\(ys≠[]->∀p,H p=none->Q (.ref p) (upd H p (.tup (xs++ys))))
theorem YZ.nil_iff{xs:List V}{us:List vB}(r:YZ xs us):us=[]↔xs=[]:=by
 cases r with
 | nil=>simp
 | cons _ _=>simp
theorem qgC:OpR X (uQ .Add) (rCatT X.K):=by
 intro pins s σ H x y v u Q I rx ry h;obtain⟨a,b,xs,ys,rfl,rfl,ha,hb,hx,hz,q1,q2⟩:=h;cases rx;cases ry;obtain⟨its,r1,p1,_⟩:=I.tuple ha;obtain⟨its2,r2,p2,_⟩:=I.tuple hb;refine HT.qfL p1 p2 (λz=>hx (r1.nil_iff.mp z)) (λz=>⟨.ref a,H,I,rfl,q1 (r2.nil_iff.mp z)⟩) (λz=>?_) (by rw[<- r1.length,<- r2.length];exact hz);refine⟨.ref s.heap.objs.size,_,I.laid (t':=s.toks) (o:=.tup (xs++ys)) (λb ob q=>zD _ q) (zI _) ?_,rfl,q2 (λw=>z (r2.nil_iff.mpr w)) _ (I.hok.fresh (zI _))⟩;exact⟨by rw[zE];exact hz,_,r1.append r2,IsTup.new _ _⟩
end
noncomputable def ixN(n:Nat)(i:Int):Option Nat:=if 0<=i then (if i<n then some i.toNat else none)else if -(n:Int)<=i then some (i+n).toNat else none
noncomputable def atI{α:Type}(xs:List α)(i:Int):Option α:=(ixN xs.length i).bind λj=>xs[j]?
theorem qaJ{n:Nat}{i:Int}{j:Nat}(h:ixN n i=some j):seqIndex? i n=some j/\j<n/\-(n:Int)<=i/\i<n:=by
 unfold ixN at h
 by_cases h0:0<=i
 ·rw[vG h0]at h
  by_cases h1:i<n
  ·rw[vG h1]at h
   have e:i.toNat=j:=zn h;exact⟨by rw[sM h0 h1,e],∅,∅,h1⟩
  ·rw[vJ h1]at h;cases h
 ·rw[vJ h0]at h
  by_cases h1:-(n:Int)<=i
  ·rw[vG h1]at h
   have e:(i+n).toNat=j:=zn h;exact⟨by rw[seqIndex_neg ∅ h1,e],∅,h1,∅⟩
  ·rw[vJ h1]at h;cases h
theorem q6R{α:Type}{xs:List α}{i:Int}{v:α}(h:atI xs i=some v):∃j,seqIndex? i xs.length=some j/\xs[j]?=some v/\j<xs.length/\-(xs.length:Int)<=i/\i<xs.length:=by
 unfold atI at h;cases e:ixN xs.length i with
 | none=>rw[e]at h;cases h
 | some j=>
  rw[e]at h;obtain⟨h1,h2,h3,h4⟩:=qaJ e;exact⟨j,h1,h,h2,h3,h4⟩
theorem q1E{α:Type}{xs:List α}{j:Nat}{v:α}(h:xs[j]?=some v):atI xs (j:Int)=some v:=by
 have hj:j<xs.length:=(zS.mp h).1;have e:ixN xs.length (j:Int)=some j:=by
  unfold ixN;rw[vG ∅,vG ∅];simp
 unfold atI;rw[e];exact h
def WN(b:vP):Prop:=∀o i,subscripted b false o i=operate [o,i] (uy o i)
def IxR(X:Cx)(r:R2):Prop :=
 ∀(value slice:vP)(pins:List (vF×Obj))(s:vC)(σ:St)(H:Hp)(x y:V)(v u:vB)(Q:VK),Inv X pins σ H s->RelV x v->RelV y u->r x y H Q ->
  subscripted slice false v u=operate [v,u] (uy v u)->vL (model X.prog X.w) X.A (t8 value slice v u) (EP X pins σ Q) X.xe s
def MtR(X:Cx)(id:String)(r:V->List V->Hp->VK->Prop):Prop :=
 ∀(pins:List (vF×Obj))(s:vC)(σ:St)(H:Hp)(x:V)(xs:List V)(v:vB)(us:List vB)(Q:VK),Inv X pins σ H s->RelV x v->YZ xs us->r x xs H Q ->
  vL (model X.prog X.w) X.A (call (.builtin id) (v::us)) (EP X pins σ Q) X.xe s
section
variable{X:Cx}{a b:vP}{ta tb:TE}{pos:Pos}
theorem IxR.or{r r':R2}(h:IxR X r)(h':IxR X r'):IxR X (λx y H Q=>r x y H Q\/r' x y H Q):=by
 intro value slice pins s σ H x y v u Q I rx ry q hs;rcases q with q|q
 ·exact h value slice pins s σ H x y v u Q I rx ry q hs
 ·exact h' value slice pins s σ H x y v u Q I rx ry q hs
theorem q3K{r:R2}(hr:IxR X r)(ha:PE X a ta)(hb:PE X b tb)(hs:WN b):PE X (.Subscript a b pos) (tOp r ta tb):=by
 intro pins s σ H Q I h;exact Subscript_ (binT ha hb I h λv u s2 x y H2 I2 rx ry q=>hr a b pins s2 σ H2 x y v u Q I2 rx ry q (hs _ _))
noncomputable def rIxL(K:zC):R2:=λx y H Q=>∃p xs i v,x=.ref p/\y=.int i/\SqL K H p xs/\atI xs i=some v/\Q v H
noncomputable def rIxT(K:zC):R2:=λx y H Q=>∃p xs i v,x=.ref p/\y=.int i/\SqT K H p xs/\atI xs i=some v/\Q v H
noncomputable def rIxS:R2:=λx y H Q=>∃z i c,x=.str z/\y=.int i/\z.length<=sizeLine/\atI z.cps.toList i=some c/\Q (.str ⟨#[c]⟩) H
theorem q1M:IxR X (rIxL X.K):=by
 intro value slice pins s σ H x y v u Q I rx ry h hs;obtain⟨p,xs,i,z,rfl,rfl,hq,he,q⟩:=h;cases rx;obtain⟨t,rfl⟩:=ry;obtain⟨its,r,pl,hz⟩:=I.list hq;obtain⟨j,h1,h2,h3,h4,h5⟩:=q6R he;obtain⟨w,ew,rw'⟩:=r.get h2;have hl:=r.length;have hn:=Xk;have fin:EP X pins σ Q w s:=⟨z,H,I,rw',q⟩
 by_cases h0:0<=i
 ·have hj:i.toNat=j:=by
   rw[sM h0 h5]at h1;exact zn h1
  exact item_listR pl.isList h0 ∅ (by rw[hj];simpa using ew) fin hs
 ·have hj:(i+(its.toArray.size:Int)).toNat=j:=by
   rw[seqIndex_neg ∅ h4]at h1;rw[zM,<- hl];exact zn h1
  exact tP (x:=w) pl.isList.typeIs slot_list_getitem.lookup
   (wpAny_getItem_list_neg (Q:=λr s'=>r=w/\EP X pins σ Q r s') pl.isList ∅ (by rw[zM] <;> omega) ∅ (by rw[hj];simpa using ew) ⟨rfl,fin⟩) hs
theorem qhk:IxR X (rIxT X.K):=by
 intro value slice pins s σ H x y v u Q I rx ry h hs;obtain⟨p,xs,i,z,rfl,rfl,hq,he,q⟩:=h;cases rx;obtain⟨t,rfl⟩:=ry;obtain⟨its,r,pl,hz⟩:=I.tuple hq;obtain⟨j,h1,h2,h3,h4,h5⟩:=q6R he;obtain⟨w,ew,rw'⟩:=r.get h2;have hl:=r.length;have hn:=Xk;have fin:EP X pins σ Q w s:=⟨z,H,I,rw',q⟩;exact tP (x:=w) pl.typeIs slot_tuple_getitem.lookup
  (getItem_tuple (j:=j) (Q:=λr s'=>r=w/\EP X pins σ Q r s') pl ∅ ∅ (by rw[zM,<- hl];exact h1) ⇑ew ⟨rfl,fin⟩) hs
theorem qhQ:IxR X rIxS:=by
 intro value slice pins s σ H x y v u Q I rx ry h hs;obtain⟨z,i,c,rfl,rfl,hz,he,q⟩:=h;obtain⟨t,rfl⟩:=rx;obtain⟨t',rfl⟩:=ry;obtain⟨j,h1,h2,h3,h4,h5⟩:=q6R he;have hl:z.cps.toList.length=z.length:=by simp[Str.length]
 rw[hl]at h1 h4 h5;have hn:=Xk;exact tail_any (typeIs_str s z t) slot_str_getitem.lookup (getItem_str (c:=c) (by
  have e1:decide (i < -(2^63:Int))=false:=vS ∅;have e2:decide (i>=2^63)=false:=vS ∅;rw[e1,e2,xZ]) (by rw[h1];simpa using h2) ⟨.str ⟨#[c]⟩,H,I.tok _,⟨_,rfl⟩,q⟩) hs
noncomputable def rIx(K:zC):R2:=λx y H Q=>rIxL K x y H Q\/rIxT K x y H Q\/rIxS x y H Q
theorem qhw:IxR X (rIx X.K):=q1M.or (qhk.or qhQ)
theorem qc2(its:List vB)(n j:Nat)(u:vB):Obj.mapSeq (·.setIfInBounds j u) { cls:=.type "list", data:=.seq its.toArray n }={ cls:=.type "list", data:=.seq (its.set j u).toArray n }:=by
 simp[Obj.mapSeq]
theorem Inv.lst{pins:List (vF×Obj)}{σ:St}{H:Hp}{s:vC}{p:vF}{xs:List V}(I:Inv X pins σ H s)(h:H p=some (.lst xs)):
  ∃(its:List vB) (n:Nat),YZ xs its/\s.heap.get? p=some { cls:=.type "list", data:=.seq its.toArray n }/\xs.length<=sizeLine:=by
 obtain⟨z,its,n,r,e⟩:=I.hok p _ h;exact⟨its,n,r,e,z⟩
theorem Inv.lstUpd{pins:List (vF×Obj)}{σ:St}{H:Hp}{s:vC}{p:vF}{xs ys:List V}{its its':List vB}{n n':Nat}{f:Obj->Obj}(I:Inv X pins σ H s)(h:H p=some (.lst xs))(ho:s.heap.get? p=some { cls:=.type "list", data:=.seq its.toArray n })(hf:f { cls:=.type "list", data:=.seq its.toArray n }={ cls:=.type "list", data:=.seq its'.toArray n' })(r:YZ ys its')(hz:ys.length<=sizeLine)(t:Nat):
  Inv X pins σ (upd H p (.lst ys)) { s with heap:=s.heap.update p f,toks:=t }:=by
 have e:(s.heap.update p f).get? p=some { cls:=.type "list", data:=.seq its'.toArray n' }:=by
  rw[ym f ho (by rw[hf] <;> rfl),hf]
 refine I.write (x:=p) (e:=p) (by rw[h];trivial) (.inl rfl) (λb u hb q=>(zj _ _ (Ne.symm hb)).trans q) ⟨_,e⟩ ?_;exact⟨hz,its',n',r,e⟩
def rSetL:V->V->V->Hp->(Hp->Prop)->Prop:=λo i v H Q=>∃p xs k j,o=.ref p/\i=.int k/\H p=some (.lst xs)/\ixN xs.length k=some j/\Q (upd H p (.lst (xs.set j v)))
theorem q3Q:PSet X rSetL:=by
 intro pins s σ H o i v ov iv u Q I ro ri rv h;obtain⟨p,xs,k,j,rfl,rfl,hp,hj,q⟩:=h;cases ro;obtain⟨t,rfl⟩:=ri;obtain⟨its,n,r,ho,hz⟩:=I.lst hp;obtain⟨h1,h2,h3,h4⟩:=qaJ hj;have hl:=r.length;have hn:=Xk;have I':Inv X pins σ (upd H p (.lst (xs.set j v))) { s with heap:=s.heap.update p (Obj.mapSeq (·.setIfInBounds j u)) } :=
  I.lstUpd hp ho (qc2 its n j u) (r.set rv j) (by rw[yF];exact hz) s.toks
 by_cases h0:0<=k
 ·have hk:k.toNat=j:=by
   rw[sM h0 h4]at h1;exact zn h1
  exact PySem.W.ki_setAt ho h0 ∅ (by rw[zM,<- hl];exact h4) (by rw[hk];exact⟨_,I',q⟩)
 ·have hk:(k+(its.toArray.size:Int)).toNat=j:=by
   rw[seqIndex_neg ∅ h3]at h1;rw[zM,<- hl];exact zn h1
  exact PySem.W.ki_setBack ho ∅ (by rw[zM,<- hl];exact h3) ∅ (by rw[hk];exact⟨_,I',q⟩)
theorem q8d(lo hi:Option Int)(n:Nat):(uc lo hi none n).1=((HT.sIx n 0 lo:Nat):Int)/\(uc lo hi none n).2.1=((HT.sIx n n hi:Nat):Int)/\(uc lo hi none n).2.2=1:=by
 refine⟨?_,?_,rfl⟩
 ·cases lo with
  | none=>simp[uc,HT.sIx]
  | some i=>
   simp only[uc,HT.sIx,Zo,show (1:Int)>0 by decide,if_true]
   by_cases h:i<0
   ·simp only[h,if_true] <;> omega
   ·simp only[h,if_false] <;> omega
 ·cases hi with
  | none=>simp[uc,HT.sIx]
  | some i=>
   simp only[uc,HT.sIx,Zo,show (1:Int)>0 by decide,if_true]
   by_cases h:i<0
   ·simp only[h,if_true] <;> omega
   ·simp only[h,if_false] <;> omega
theorem q80(its:List vB)(lo hi:Option Int):slicePick its.toArray lo hi none=((its.drop (HT.sIx its.length 0 lo)).take (HT.sIx its.length its.length hi-HT.sIx its.length 0 lo)).toArray:=by
 obtain⟨h1,h2,h3⟩:=q8d lo hi its.toArray.size;unfold slicePick;rw[h1,h2,h3];simp only[sliceRange_one,pick_run,zM] <;> rfl
def rSlL(K:zC):V->Option Int->Option Int->Hp->VK->Prop:=λx lo hi H Q=>∃a xs,x=.ref a/\SqL K H a xs/\∀p,H p=none->Q (.ref p) (upd H p (.lst (Wx xs lo hi)))
theorem qgF:SlR X (rSlL X.K):=by
 intro pins s σ H x v vl vu lo hi sl Q I rx hs pl pu h;obtain⟨a,xs,rfl,hx,q⟩:=h;cases rx;obtain⟨its,r,ht,hz⟩:=I.list hx;have hlen:=r.length;refine⟨"list", _,slot_list_getitem.lookup,ht.isList.typeIs,?_⟩;refine wpAny_getItem_list_slice ht.isList hs pl pu .none (by simp) ?_ (by rw[zM] <;> omega);rw[q80,<- hlen];refine⟨.ref s.heap.objs.size,_,I.laid (t':=s.toks) (o:=.lst (Wx xs lo hi)) (λb ob q=>zD _ q) (zI _) ?_,rfl,q _ (I.hok.fresh (zI _))⟩;exact⟨yA (q50 xs lo hi) hz,_,0,(r.drop (HT.sIx xs.length 0 lo)).take (HT.sIx xs.length xs.length hi-HT.sIx xs.length 0 lo),zR _ rfl⟩
noncomputable def Xv:V->Bool
 | .non=>true
 | .bl _=>true
 | .int _=>true
 | .str _=>true
 | _=>false
noncomputable def eqV:V->V->Bool
 | .non,.non=>true
 | .bl a,.bl b=>a==b
 | .bl a,.int b=>(if a then 1 else 0)==b
 | .int a,.bl b=>a==(if b then 1 else 0)
 | .int a,.int b=>a==b
 | .str a,.str b=>a==b
 | _,_=>false
theorem qhy{A:vZ}{s:vC}{y x:V}{u v:vB}(ry:RelV y u)(rx:RelV x v)(fy:Xv y=true)(fx:Xv x=true):SeqAt.EqAt A s u v (eqV y x):=by
 cases y with
 | non=>
  cases ry;cases x with
  | non=>cases rx;exact SeqAt.EqAt.same _
  | bl b=>cases rx;exact SeqAt.EqAt.none_bool b
  | int b=>obtain⟨t,rfl⟩:=rx;exact SeqAt.EqAt.none_int b t
  | str b=>obtain⟨t,rfl⟩:=rx;exact SeqAt.EqAt.none_str b t
  | _=>exact vN (show false=true from fx) yJ
 | bl a=>
  cases ry;cases x with
  | non=>cases rx;exact SeqAt.EqAt.bool_none a
  | bl b=>cases rx;exact SeqAt.EqAt.bool_bool a b
  | int b=>obtain⟨t,rfl⟩:=rx;exact SeqAt.EqAt.bool_int a b t
  | str b=>obtain⟨t,rfl⟩:=rx;exact SeqAt.EqAt.bool_str a b t
  | _=>exact vN (show false=true from fx) yJ
 | int a=>
  obtain⟨t',rfl⟩:=ry;cases x with
  | non=>cases rx;exact SeqAt.EqAt.int_none a t'
  | bl b=>cases rx;exact SeqAt.EqAt.int_bool a t' b
  | int b=>obtain⟨t,rfl⟩:=rx;exact SeqAt.EqAt.int_int a t' b t
  | str b=>obtain⟨t,rfl⟩:=rx;exact SeqAt.EqAt.int_str a t' b t
  | _=>exact vN (show false=true from fx) yJ
 | str a=>
  obtain⟨t',rfl⟩:=ry;cases x with
  | non=>cases rx;exact SeqAt.EqAt.str_none a t'
  | bl b=>cases rx;exact SeqAt.EqAt.str_bool a t' b
  | int b=>obtain⟨t,rfl⟩:=rx;exact SeqAt.EqAt.str_int a t' b t
  | str b=>obtain⟨t,rfl⟩:=rx;exact SeqAt.EqAt.str_str a t' b t
  | _=>exact vN (show false=true from fx) yJ
 | _=>exact vN (show false=true from fy) yJ
noncomputable def eqU(x:V)(u:vB):Bool:=match u with
 | .none=>eqV .non x
 | .bool b=>eqV (.bl b) x
 | .int i _=>eqV (.int i) x
 | .str z _=>eqV (.str z) x
 | _=>false
theorem qeh{x y:V}{u:vB}(r:RelV y u)(f:Xv y=true):eqU x u=eqV y x:=by
 cases y with
 | non=>cases r;rfl
 | bl b=>cases r;rfl
 | int i=>obtain⟨t,rfl⟩:=r;rfl
 | str z=>obtain⟨t,rfl⟩:=r;rfl
 | _=>exact vN (show false=true from f) yJ
theorem q6X{x:V}:∀{xs:List V}{us:List vB},YZ xs us->xs.all Xv=true->us.any (eqU x)=xs.any λy=>eqV y x
 | _,_,.nil,_=>rfl
 | y::xs,u::us,.cons r t,f=>by
  rw[xK,zr]at f;rw[xa,xa,qeh r f.1,q6X t f.2]
theorem q5o{A:vZ}{s:vC}{x:V}{v:vB}(rx:RelV x v)(fx:Xv x=true):∀{xs:List V}{us:List vB},YZ xs us->xs.all Xv=true->∀u∈us,SeqAt.EqAt A s u v (eqU x u)
 | _,_,.nil,_=>λu hu=>by cases hu
 | y::xs,u::us,.cons r t,f=>λu' hu=>by
  rw[xK,zr]at f;rcases zF.mp hu with rfl|hu
  ·rw[qeh r f.1];exact qhy r rx f.1 fx
  ·exact q5o rx fx t f.2 u' hu
noncomputable def inV(x:V)(xs:List V):Bool:=xs.any λy=>eqV y x
noncomputable def rIn(K:zC)(neg:Bool):R2:=λx y H Q=>∃p xs,y=.ref p/\(SqL K H p xs\/SqT K H p xs)/\Xv x=true/\xs.all Xv=true/\Q (.bl (if neg then !inV x xs else inV x xs)) H
theorem qeb:OpR X (uK .In) (rIn X.K false):=by
 intro pins s σ H x y v u Q I rx ry h;obtain⟨p,xs,rfl,hq,fx,fs,q⟩:=h;cases ry;rcases hq with hq|hq
 ·obtain⟨its,r,pl,hz⟩:=I.list hq
  refine SeqAt.in_listAt (eqU x) pl.isList (λw hw=>q5o rx fx r fs w ⇑hw) ⟨.bl _,H,I,rfl,?_⟩;rw[show its.toArray.any (eqU x)=its.any (eqU x) by simp,q6X r fs];exact q
 ·obtain⟨its,r,pl,hz⟩:=I.tuple hq
  refine SeqAt.in_tupleAt (eqU x) pl (λw hw=>q5o rx fx r fs w ⇑hw) ⟨.bl _,H,I,rfl,?_⟩;rw[show its.toArray.any (eqU x)=its.any (eqU x) by simp,q6X r fs];exact q
theorem qo:Yy X (.builtin "len") (λxs H Q=>∃p ys,xs=[.ref p]/\(SqL X.K H p ys\/SqT X.K H p ys)/\Q (.int ys.length) H):=by
 intro pins s σ H xs us Q I r h;obtain⟨p,ys,rfl,hq,q⟩:=h;obtain⟨u,rfl,rx⟩:=vals1 r;cases rx;have hn:=Xk;rcases hq with hq|hq
 ·obtain⟨its,r',pl,hz⟩:=I.list hq
  have hlen:=r'.length;exact Calls.call_len_list pl.isList (by simp only[zM] <;> omega) ⟨.int ys.length,H,I.tok _,⟨s.toks+1,by rw[zM,hlen]⟩,q⟩
 ·obtain⟨its,r',pl,hz⟩:=I.tuple hq
  have hlen:=r'.length;exact len_tuple pl (by simp only[zM] <;> omega) ⟨.int ys.length,H,I.tok _,⟨s.toks+1,by rw[zM,hlen]⟩,q⟩
theorem q4u:Yy X (.type "list") (λxs H Q=>∃p ys,xs=[.ref p]/\(SqL X.K H p ys\/SqT X.K H p ys)/\∀l,H l=none->Q (.ref l) (upd H l (.lst ys))):=by
 intro pins s σ H xs us Q I r h;obtain⟨p,ys,rfl,hq,q⟩:=h;obtain⟨u,rfl,rx⟩:=vals1 r;cases rx;have fin:∀(its:List vB),YZ ys its->ys.length<=sizeLine->∀(h':vY)(c':Nat),(∀b o',s.heap.get? b=some o'->h'.get? b=some o') ->
   h'.get? s.heap.objs.size=some { cls:=.type "list", dict:=none,data:=.seq its.toArray c',slots:=#[] }->EP X pins σ Q (.ref s.heap.objs.size) { s with heap:=h' }:=λits r' hz h' c' kp e=>
  ⟨.ref s.heap.objs.size,_,I.laid (t':=s.toks) kp (zI _) (show Yc X.prog X.w _ h' _ (.lst ys)from ⟨hz,its,c',r',e⟩),rfl,q _ (I.hok.fresh (zI _))⟩
 rcases hq with hq|hq
 ·obtain⟨its,r',pl,hz⟩:=I.list hq
  have hlen:=r'.length;obtain⟨o,ho,hc,n,hd⟩:=pl.isList;exact call_list_seq p (.inl rfl) ho hc hd (λh' c' kp e=>fin its r' hz h' c' kp e) (by simp only[zM] <;> omega)
 ·obtain⟨its,r',pl,hz⟩:=I.tuple hq
  have hlen:=r'.length;obtain⟨o,ho,hc,n,hd⟩:=pl;exact call_list_seq p (.inr rfl) ho hc hd (λh' c' kp e=>fin its r' hz h' c' kp e) (by simp only[zM] <;> omega)
def tyV(K:zC)(T:String)(x:V)(H:Hp):Prop:=match x with
 | .str _=>T = "str"
 | .int _=>T = "int"
 | .ref p=>(T = "list" /\ ∃xs,SqL K H p xs)\/(T = "tuple" /\ ∃o,K.lookup p=some o/\o.cls=.type "tuple" /\ o.dict=none) \/
   (T = "dict" /\ ((∃kvs,H p=some (.dK kvs))\/∃kvs,H p=some (.dT kvs)))\/(T = "set" /\ ∃S n,H p=some (.set S n))
 | _=>False
theorem qdz{pins:List (vF×Obj)}{σ:St}{H:Hp}{s:vC}{T:String}{x:V}{v:vB}(I:Inv X pins σ H s)(r:RelV x v)(ty:tyV X.K T x H):
  s.TypeIs v T/\∀a,v=.ref a->∃ob,s.heap.get? a=some ob/\ob.dict=none:=by
 cases x with
 | str z=>
  obtain⟨t,rfl⟩:=r;cases (show T = "str" from ty);exact⟨typeIs_str s z t,λ_ e=>nomatch e⟩
 | int i=>
  obtain⟨t,rfl⟩:=r;cases (show T = "int" from ty);exact⟨typeIs_int s i t,λ_ e=>nomatch e⟩
 | ref p=>
  cases r;rcases ty with⟨rfl,xs,hq⟩|⟨rfl,o,hk,hc,hd⟩|⟨rfl,hk⟩|⟨rfl,S,n,hk⟩
  ·obtain⟨its,_,pl,_⟩:=I.list hq
   refine⟨pl.isList.typeIs,λa e=>?_⟩;cases e;obtain⟨o,n,e,c,hd,_⟩:=pl;exact⟨o,e,hd⟩
  ·refine⟨⟨o,I.kIn p o hk,hc⟩,λa e=>?_⟩
   cases e;exact⟨o,I.kIn _ o hk,hd⟩
  ·have z:∃o,s.heap.get? p=some o/\o.ExactDict:=by
    rcases hk with⟨kvs,hk⟩|⟨kvs,hk⟩
    ·obtain⟨_,_,_,_,o,_,_,e,ex,_⟩:=I.hok p _ hk
     exact⟨o,e,ex⟩
    ·obtain⟨_,_,_,_,o,_,_,e,ex,_⟩:=I.hok p _ hk
     exact⟨o,e,ex⟩
   obtain⟨o,e,ex⟩:=z;refine⟨⟨o,e,ex.1⟩,λa e2=>?_⟩;cases e2;exact⟨o,e,ex.2.1⟩
  ·obtain⟨o,_,_,_,e,ex,_⟩:=I.hok p _ hk
   refine⟨⟨o,e,ex.1⟩,λa e2=>?_⟩;cases e2;exact⟨o,e,ex.2.1⟩
 | _=>exact False.elim ty
noncomputable def tBM0(K:zC)(T:String)(r:V->List V->Hp->VK->Prop)(to:TE):TE:=λσ H Q=>to σ H λx H1=>tyV K T x H1/\r x [] H1 Q
noncomputable def tBM(K:zC)(T:String)(r:V->List V->Hp->VK->Prop)(to:TE)(t:TA):TE:=λσ H Q=>to σ H λx H1=>tyV K T x H1/\t σ H1 λxs H2=>r x xs H2 Q
variable{o e:vP}{es:List vP}{to:TE}{t:TA}{name:Str}{apos cpos:Pos}{T id:String}{r:V->List V->Hp->VK->Prop}
theorem qhM(pa:PlainAttrs T)(slot:Slot T name id)(hty:typeOf (.builtin id)=pure (.type "method_descriptor"))(hm:MtR X id r)(ho:PE X o to)(hbase:uT o name X.env (eval o X.env)=eval o X.env:=by rfl)(hline:(apos.endLine==cpos.line)=true:=by rfl):PE X (.Call (.Attribute o name apos) [] [] cpos) (tBM0 X.K T r to):=by
 intro pins s σ H Q I h;refine wpAny_Call_method0_late hbase hline (thn (ho pins s σ H _ I h) λv s1 ⟨x,H1,I1,r1,ty,q1⟩=>?_);obtain⟨h1,h2⟩:=qdz I1 r1 ty;exact⟨T,id,pa,slot,hty,h1,h2,Calls.callWith_builtin rfl (PySem.evalArgs_none (hm pins s1 σ H1 x [] v [] Q I1 r1 .nil q1))⟩
theorem q5B(pa:PlainAttrs T)(slot:Slot T name id)(hty:typeOf (.builtin id)=pure (.type "method_descriptor"))(hm:MtR X id r)(ho:PE X o to)(ha:PA X (e::es) t)(hbase:uT o name X.env (eval o X.env)=eval o X.env:=by rfl)(hfew:((vn cpos (vK (e::es) X.env)).all (λx=>!x.1)&&(uM cpos (vz [] X.env)).all (λx=>x.1.isSome)
   && decide ((e::es).length+([]:List uY).length+(if ([]:List uY).isEmpty then 0 else 1)<30))=true:=by rfl)
  (hline:(apos.endLine==cpos.line)=true:=by rfl) (hs:vK (e::es) X.env=(false,eval e X.env)::vK es X.env:=by rfl) (hplain:(vn cpos (vK es X.env)).any (·.1)=false:=by rfl) :
  PE X (.Call (.Attribute o name apos) (e::es) [] cpos) (tBM X.K T r to t):=by
 intro pins s σ H Q I h;refine wpAny_Call_method_late hbase hfew hline rfl (thn (ho pins s σ H _ I h) λv s1 ⟨x,H1,I1,r1,ty,q1⟩=>?_);obtain⟨h1,h2⟩:=qdz I1 r1 ty;refine⟨T,id,pa,slot,hty,h1,h2,?_⟩;have hA:=ha cpos pins s1 σ H1 _ I1 q1;rw[hs]at hA ⊢;refine Calls.callWith_builtin (by show (false || (vn cpos (vK es X.env)).any (·.1))=false;rw[hplain] <;> rfl) (Calls.evalArgs_plain ?_);exact thn hA λus s2 ⟨vs,H2,I2,r2,q2⟩=>hm pins s2 σ H2 x vs v us Q I2 r1 r2 q2
end
def MtM(X:Cx)(id:String)(r:V->List V->Hp->VK->Prop):Prop :=
 ∀(pins:List (vF×Obj))(s:vC)(σ:St)(H:Hp)(x:V)(xs:List V)(v:vB)(us:List vB)(Q:VK),Inv X pins σ H s->RelV x v->YZ xs us->r x xs H Q ->
  vL (model X.prog X.w) X.A (call (.builtin id) (v::us)) (EP X pins σ Q) X.xe s
theorem YZ.one:∀{x:V}{us:List vB},YZ [x] us->∃u,us=[u]/\RelV x u
 | _,_,.cons r .nil=>⟨_,rfl,r⟩
theorem YZ.zero:∀{us:List vB},YZ [] us->us=[]
 | _,.nil=>rfl
theorem YZ.dropLast{xs:List V}{us:List vB}(h:YZ xs us):YZ xs.dropLast us.dropLast:=by
 induction h with
 | nil=>exact .nil
 | cons r t ih=>
  cases t with
  | nil=>exact .nil
  | cons q t'=>exact .cons r ih
theorem qc4{α:Type}(l:List α):l.eraseIdx (l.length-1)=l.dropLast:=by
 induction l with
 | nil=>rfl
 | cons a r ih=>
  cases r with
  | nil=>rfl
  | cons b r=>
   have e:(a::b::r).length-1=((b::r).length-1)+1:=by
    have h1:(a::b::r).length=r.length+2:=rfl;have h2:(b::r).length=r.length+1:=rfl;omega
   rw[e,List.eraseIdx_cons_succ,ih]
   all_goals rfl
section
variable{X:Cx}{pins:List (vF×Obj)}{σ:St}{H:Hp}{s:vC}{l b:vF}{xs ys zs:List V}
theorem Inv.lset{its its':List vB}{n:Nat}{f:Array vB->Array vB}{t':Nat}(I:Inv X pins σ H s)(hH:H l=some (.lst xs))(e:s.heap.get? l=some { cls:=.type "list", data:=.seq its.toArray n })(hf:f its.toArray=its'.toArray)(hv:YZ ys its')(hz:ys.length<=sizeLine):
  Inv X pins σ (upd H l (.lst ys)) { s with heap:=s.heap.update l (Obj.mapSeq f),toks:=t' }:=by
 have q:=PySem.IsL.update e f;rw[hf]at q;refine I.write (x:=l) (e:=l) (by rw[hH];exact trivial) (.inl rfl) (λb' u hb hu=>(zj s.heap (Obj.mapSeq f) (Ne.symm hb)).trans hu) ⟨_,q⟩ ?_;exact⟨hz,its',_,hv,q⟩
theorem Inv.lnew{its:List vB}{t':Nat}(I:Inv X pins σ H s)(hv:YZ ys its)(hz:ys.length<=sizeLine):
  Inv X pins σ (upd H s.heap.objs.size (.lst ys)) { s with heap:=s.heap.push { cls:=.type "list", data:=.seq its.toArray },toks:=t' } :=
 I.laid (λ_ _ q=>zD _ q) (zI _) ⟨hz,its,0,hv,zR _ rfl⟩
theorem Inv.fresh(I:Inv X pins σ H s):H s.heap.objs.size=none:=I.hok.fresh (zI _)
theorem Inv.lstM(I:Inv X pins σ H s)(hH:H l=some (.lst xs)):xs.length<=sizeLine/\∃(its:List vB) (n:Nat),YZ xs its/\xs.length=its.length/\s.heap.get? l=some { cls:=.type "list", data:=.seq its.toArray n }:=by
 obtain⟨z,its,n,r,e⟩:=I.hok l _ hH;exact⟨z,its,n,r,r.length,e⟩
theorem Wd{n:Nat}(h:n<=sizeLine):Builtin.List.listTooLong n=false:=by
 unfold Builtin.List.listTooLong;exact vS ∅
end
section
variable{X:Cx}
def W8:V->List V->Hp->VK->Prop:=λx vs H Q=>∃l xs y,x=.ref l/\vs=[y]/\H l=some (.lst xs)/\xs.length<sizeLine/\Q .non (upd H l (.lst (xs++[y])))
theorem q2R:MtM X "list.append" W8:=by
 intro pins s σ H x vs v us Q I rx rv h;obtain⟨l,xs,y,rfl,rfl,hH,hz,q⟩:=h;cases rx;obtain⟨u,rfl,ru⟩:=rv.one;obtain⟨z,its,n,r,hl,e⟩:=I.lstM hH;refine tQ F.slot_list_append ⟨_,e,rfl⟩ F.entry_list_append (F.args_list_append_2 _ _) (PySem.list_append l its.toArray n u (by rw[zM];omega)) ⟨e,?_⟩;refine⟨.non,_,I.lset (its':=its++[u]) hH e (by simp) (r.append (.cons ru .nil)) ?_,rfl,q⟩;rw[zE,z9];omega
def W3:V->List V->Hp->VK->Prop:=λx vs H Q=>∃l b xs zs,x=.ref l/\vs=[.ref b]/\H l=some (.lst xs)/\H b=some (.lst zs)/\xs.length+zs.length<=sizeLine/\Q .non (upd H l (.lst (xs++zs)))
theorem qdH:MtM X "list.extend" W3:=by
 intro pins s σ H x vs v us Q I rx rv h;obtain⟨l,b,xs,zs,rfl,rfl,hH,hB,hz,q⟩:=h;cases rx;obtain⟨u,rfl,ru⟩:=rv.one;cases ru;obtain⟨z,its,n,r,hl,e⟩:=I.lstM hH;obtain⟨z2,its2,n2,r2,hl2,e2⟩:=I.lstM hB;have hsz:its.toArray.size+its2.toArray.size<=sizeLine:=by rw[zM,zM];omega
 have hlong:¬(!its.toArray.isEmpty&&Builtin.List.listTooLong (its.toArray.size+its2.toArray.size))=true:=by
  rw[Wd hsz,xm];exact yJ
 refine tQ F.slot_list_extend ⟨_,e,rfl⟩ F.entry_list_extend (F.args_list_extend_2 _ _)
  (AutoSeq1.list_extend_list_list_0 l its.toArray n b its2.toArray n2 hlong (by rw[zM];omega) ∅) ⟨e,e2,?_⟩
 refine⟨.non,_,I.lset (its':=its++its2) hH e (by simp) (r.append r2) ?_,rfl,q⟩;rw[zE];omega
def rPop:V->List V->Hp->VK->Prop:=λx vs H Q=>∃l xs y,x=.ref l/\vs=[]/\H l=some (.lst xs)/\xs[xs.length-1]?=some y/\Q y (upd H l (.lst xs.dropLast))
theorem qhG:MtM X "list.pop" rPop:=by
 intro pins s σ H x vs v us Q I rx rv h;obtain⟨l,xs,y,rfl,rfl,hH,hy,q⟩:=h;cases rx;have hus:=rv.zero;subst hus;obtain⟨z,its,n,r,hl,e⟩:=I.lstM hH;obtain⟨u,hu,ru⟩:=r.get hy;have hy':its.toArray[its.toArray.size-1]?=some u:=by
  show its.toArray[its.length-1]?=some u;rw[<- zZ,<- hl];exact hu
 refine tQ F.slot_list_pop ⟨_,e,rfl⟩ F.entry_list_pop (F.args_list_pop_1 _) (MeetsSeq.list_pop_last l its.toArray n u hy' (by rw[zM];omega)) ⟨e,?_⟩;refine⟨y,_,I.lset (its':=its.dropLast) hH e ?_ r.dropLast ?_,ru,q⟩
 ·show its.toArray.eraseIdxIfInBounds (its.toArray.size-1)=its.dropLast.toArray
  rw[zM,List.eraseIdxIfInBounds_toArray,qc4]
 ·rw[List.length_dropLast]
  omega
noncomputable def rCat:R2:=λx y H Q=>∃l b xs zs,x=.ref l/\y=.ref b/\H l=some (.lst xs)/\H b=some (.lst zs)/\xs.length+zs.length<=sizeLine/\∀p,H p=none->Q (.ref p) (upd H p (.lst (xs++zs)))
theorem qhh:OpR X (uQ .Add) rCat:=by
 intro pins s σ H x y v u Q I rx ry h;obtain⟨l,b,xs,zs,rfl,rfl,hH,hB,hz,q⟩:=h;cases rx;cases ry;obtain⟨z,its,n,r,hl,e⟩:=I.lstM hH;obtain⟨z2,its2,n2,r2,hl2,e2⟩:=I.lstM hB;refine PySem.P.add_list e e2 ?_ (by rw[zM,zM];omega);have ea:its.toArray++its2.toArray=(its++its2).toArray:=by simp
 rw[ea];exact⟨.ref _,_,I.lnew (t':=s.toks) (r.append r2) (by rw[zE];omega),rfl,q _ I.fresh⟩
end
section
variable{prog:vO}{w:vU}{A:vZ}{E:vB->vC->Prop}{s:vC}
end
section
variable{X:Cx}
end
end L2
namespace Att
open PySem PySem.W PySem.Calls PyProof.Rows
theorem Xn{P:Params}{h:vY}:∀(ns:List Int)(vs:List vB),WellAll P h vs (ns.map WData.int)->uA vs ns:=by
 intro ns
 induction ns with
 | nil=>
  intro vs w;rw[yh]at w;cases w;exact .nil
 | cons n ns ih=>
  intro vs w;rw[zi]at w;cases w with
  | cons a b=>
   cases a;exact .cons _ _ (ih _ b)
theorem zAO{l:OpenLaw}{n:Nat}(hn:l.most=some n){P:Params}{h:vY}{args:List WData}{vals:List vB}(hpre:l.row.toRowW.claim.pre args=true)(hwl:WellAll P h vals args):
  ∃a vs ns,vals=[Value.ref a]/\args=[WData.list (ns.map WData.int)]/\h.get? a=some { cls:=.type "list", data:=.seq vs.toArray }/\uA vs ns/\ns.length<=n:=by
 have hsh:WShape.hasAll [] args [.list .int]=true:=(pre_splitW hpre).1;have hc:l.pre.holds [] { args:=args }=true:=(pre_splitW hpre).2;obtain⟨d,r,rfl,h1,h2⟩:=hasAllW_cons hsh;obtain rfl:=hasAllW_nil h2;obtain⟨xs,rfl,h3⟩:=hasW_list h1;obtain⟨ns,rfl⟩:=items_int h3;have hlen:ns.length<=n:=by
  unfold OpenLaw.pre at hc;have h4:(WTm.not (.lt (.lit (.int (n:Int))) (.len (.arg 0)))).holds [] { args:=[.list (ns.map .int)] }=true:=by
   have h4:=(holds_andW hc).1;rw[hn]at h4;exact h4
  have h5:=condW_of h4 (w_not (w_lt w_lit (w_len_list (w_arg rfl))));rw[zA]at h5;refine Nat.le_of_not_lt λq=>?_;have q':(n:Int)<((ns.length:Nat):Int):=∅
  first
   | (rw[vW q']at h5;exact vN h5 (by decide))
   | (simp at h5;omega)
 cases hwl with
 | cons w1 w2=>
  cases w2;cases w1 with
  | list ho hall=>exact⟨_,_,ns,rfl,rfl,ho,Xn ns _ hall,hlen⟩
theorem zAF(l:OpenLaw)(args:List WData):l.row.toRowW.claim.post args (.bool true) args=true :=
 postW_of (r:=l.row.toRowW) (X:=(true==true))
  (show WShape.has [] (.bool true) .bool=true by first|rfl|decide|simp[WShape.has,WShape.arms,WShape.armsAll])
  (show (WTm.eq .res (.lit (.bool true))).value [] { args:=args,res:=some (.bool true),after:=args }=some (.bool (true==true))from w_eq_bool (w_res rfl) w_lit) rfl
theorem attach_call{l:OpenLaw}{n:Nat}{q:vO}{loose:List Str}{XP:(Str->Option vB)->vY->Prop}{YP:vU->vY->Prop}{d:DefRec}(hn:l.most=some n)(hdf:d.params.defaults=[])(call:∀(w:vU)(s₀ s₁:vC)(mg mb:Str->Option vB)(fa:vF)(o:Obj)(pm cd doc:vB)(a:vF)(vs:List vB)(ns:List Int),
   Ground q loose [] XP w s₀ mg mb s₁.heap->YP w s₁.heap ->
   s₁.heap.get? fa=some o->o.data=.func (docDef d.name d.params d.body d.scope pm cd doc)->s₁.heap.CodeRec cd d.name->mg d.name=some (.ref fa) ->
   s₁.heap.get? a=some { cls:=.type "list", data:=.seq vs.toArray }->uA vs ns->ns.length<=n->s₁.gens=#[] ->
   uW (model l.prog w) t4 (.call (.ref fa) ⟨[.ref a],[]⟩) (λr s'=>r=.ok (.ret (.bool true))/\OldK s₁.heap s'.heap/\s'.os=s₁.os/\tD s'.gens) s₁) :
  WalkO q loose XP YP l.row.toRowW d [] (λf vs=>PySem.call f vs):=by
 intro w s₀ s₁ mg mb G Y fa o pm cd doc dV kV ho hd hcd hD hmg hg args vals as hpre hlay hrd hwl hlo;obtain rfl:dV=.none:=Dflts.none hD hdf;obtain rfl:kV=.none:=Dflts.noKw hD;obtain⟨a,vs,ns,rfl,rfl,hobj,Wl,hlen⟩:=zAO hn hpre hwl;refine enter_call (uX (call w s₀ s₁ mg mb fa o pm cd doc a vs ns G Y ho (fd_plain hd) hcd hmg hobj Wl hlen hg) λr s' hq=>?_);obtain⟨rfl,h2,h3,h4⟩:=hq;exact⟨.inl ⟨.bool true,.bool true,[],rfl,λ_=>rfl,.bool true,zAF l _,λ_=>⟨xL,λ_ hm=>(nomatch hm)⟩⟩,h2,h3,h4⟩
section
variable{prog:vO}{w:vU}{A:vZ}{E:vB->vC->Prop}{s:vC}{K:Frag}
end
end Att
namespace L2
open PySem PySem.Spec PyProof.Rows
theorem q20:∀{vs:List vB}{ns:List Int},uA vs ns->YZ (ns.map V.int) vs
 | _,_,.nil=>.nil
 | _,_,.cons n t h=>.cons ⟨t,rfl⟩ (q20 h)
def Only(H:Hp):Prop:=∀b,H b=none\/∃o xs,H b=some (.frz o (.lst xs))
theorem qeJ{P:vO}{w:vU}{K:zC}{mg mb:Str->Option vB}{CX:CXT}{k:Nat}{fa a:vF}{fd:vM}{x:Str}{sp:Sp}{s₁:vC}{vs:List vB}{ns:List Int}(KX:K.In s₁.heap)(hns:s₁.heap.Ns vQ mg)(hb:s₁.heap.Ns builtinsNs mb)(hbb:∀x:Str,x ≠ "__name__" -> mb x=vc x)(hlim:s₁.heap.NoLimit)(hg:s₁.gens=#[])(ha:s₁.heap.get? a=some { cls:=.type "list", data:=.seq vs.toArray })(hi:uA vs ns)(hl:ns.length<=sizeLine)(hr:Room k t4)(F:∀base:vY,K.In base->base.Ns vQ mg->FnOk P w K mg base CX k fa fd [x] sp)(hbind:∀(s:vC)(u:vB),sE s fd ⟨[u],[]⟩ [(x,u)])(hsp:∀H:Hp,Only H->SqL K H a (ns.map V.int)->sp [.ref a] H (λv _=>v=.bl true) λ_ _ _=>False)(hCX:∀H e s',CX [] H s₁ (λ_ _ _=>False) e s'->False):
  uW (model P w) t4 (.call (.ref fa) ⟨[.ref a],[]⟩) (λr s'=>r=.ok (.ret (.bool true))/\OldK s₁.heap s'.heap/\s'.os=s₁.os/\tD s'.gens) s₁:=by
 have rv:=q20 hi;have lenV:=hi.length;have core:∀H:Hp,Only H->SqL K H a (ns.map V.int)->HOk P w H s₁.heap->(∀b,H b≠none->b=a)->(H a≠none->K.lookup a=none) ->
   uW (model P w) t4 (.call (.ref fa) ⟨[.ref a],[]⟩) (λr s'=>r=.ok (.ret (.bool true))/\OldK s₁.heap s'.heap/\s'.os=s₁.os/\tD s'.gens) s₁:=by
  intro H hO hS hok hA hK;have base_of:∀{b:vF}{o:Obj},s₁.heap.get? b=some o->H b=none->(zAf s₁.heap H).get? b=some o:=λe n=>qex e n;have noA:∀{b:vF}{o:Obj}{es:Array DictEntry}{ep:Nat},s₁.heap.get? b=some o->o.data=.dict es ep->H b=none:=λ{b o es ep} e d=>by
   cases q:H b with
   | none=>rfl
   | some u=>
    have e':b=a:=hA b (by rw[q];simp);subst e';rw[ha]at e;cases e;have d':Data.seq vs.toArray _=Data.dict es ep:=d;cases d'
  have nsK:∀{b:vF}{m:Str->Option vB},s₁.heap.Ns b m->(zAf s₁.heap H).Ns b m:=λ{b m} ⟨o,es,ep,e,d,r⟩=>⟨o,es,ep,base_of e (noA e d),d,r⟩;have hKb:K.In (zAf s₁.heap H):=λb o e=>base_of (KX b o e) (by
   cases q:H b with
   | none=>rfl
   | some u=>
    have e':b=a:=hA b (by rw[q];simp);subst e';rw[hK (by rw[q];simp)]at e;cases e)
  have hM:Mod K mg (zAf s₁.heap H):=⟨hKb,nsK hns,⟨mb,nsK hb,hbb⟩,let ⟨mc,h1,h2⟩:=hlim;⟨mc,nsK h1,h2⟩⟩;have e0:Env0 P w K mg (zAf s₁.heap H) t4 [] s₁ H:=⟨rfl,hM,λb o e=>qgj e,Nat.le_of_eq (qdB _ _),trivial,λb hb=>vN (show b∈([]:List vF)from hb) (by simp),hok,.of_eq hg⟩;refine uX ((F _ hKb (nsK hns)).run t4 [] s₁ H ⟨[.ref a],[]⟩ [.ref a] [.ref a] _ _ hr e0 (hbind s₁ (.ref a)) (.cons rfl .nil) (hsp H hO hS)) λr s' h=>?_;cases r with
  | error e=>exact(hCX H e s' h).elim
  | ok fl=>
   cases fl with
   | next=>exact False.elim h
   | brk=>exact False.elim h
   | cont=>exact False.elim h
   | ret u=>
    obtain⟨v,H',os,bare,un,hok',r',q⟩:=h;have q':v=.bl true:=q;subst q';obtain rfl:u=Value.bool true:=r';refine⟨rfl,OldK.of_keep λb o e=>?_,os,bare⟩;cases q:H b with
    | none=>exact un.keep b o e q (by intro z;exact vN (show b∈([]:List vF)from z) (by simp)) (by simp)
    | some u=>
     rcases hO b with z|⟨ob,xs,z⟩
     ·rw[q]at z;cases z
     ·have z2:=un.frzs b ob _ z
      obtain⟨e1,_⟩:=hok b _ z;obtain⟨e2,_⟩:=hok' b _ z2;rw[e]at e1;cases e1;exact e2
 cases hk:K.lookup a with
 | some o=>
  have e:=KX a o hk;rw[ha]at e;cases e;refine core (λ_=>none) (λ_=>.inl rfl) (.inr ⟨_,vs.toArray,_,hk,rfl,rfl,rfl,by rw[zM,lenV];exact hl,by simpa using rv⟩) (λb u z=>by have z':(none:Option HO)=some u:=z;cases z') (λb z=>vN rfl z) λz=>vN rfl z
 | none=>
  refine core (λb=>if b=a then some (.frz { cls:=.type "list", data:=.seq vs.toArray } (.lst (ns.map V.int)))else none) (λb=>?_) (.inl (.inr ⟨{ cls:=.type "list", data:=.seq vs.toArray },vG rfl⟩)) (λb u z=>?_) (λb z=>?_) λ_=>hk
  ·by_cases hb:b=a
   ·exact .inr ⟨_,_,vG hb⟩
   ·exact .inl (vJ hb)
  ·by_cases hb:b=a
   ·have z':=(vG hb).symm.trans z
    cases z';subst hb;exact⟨ha,by rw[zA];exact hl,vs,_,rv,ha⟩
   ·have z':=(vJ hb).symm.trans z
    cases z'
  ·by_cases hb:b=a
   ·exact hb
   ·exact vN (vJ hb) z
noncomputable abbrev KOf{K:zC}{h:vY}(_:K.In h):zC:=K
theorem qaI{l:wk}{n k:Nat}{q:vO}{loose:List Str}{XP:(Str->Option vB)->vY->Prop}{YP:vU->vY->Prop}{d:DefRec}{K:Params->zC}{CX:vU->CXT}{sp:vU->Sp}{x:Str}(hn:l.most=some n)(hn2:n<=sizeLine)(hdf:d.params.defaults=[])(hr:Room k t4)(hY:∀(w:vU)(h:vY),YP w h->(K w.params).In h)(F:∀(w:vU)(mg:Str->Option vB)(fa:vF)(h:vY),(K w.params).In h->h.Ns vQ mg->mg d.name=some (.ref fa) ->
   ∃fd:vM,(∀(s:vC)(u:vB),sE s fd ⟨[u],[]⟩ [(x,u)]) /\
    ∀base:vY,(K w.params).In base->base.Ns vQ mg->FnOk l.prog w (K w.params) mg base (CX w) k fa fd [x] (sp w))
  (hsp:∀(w:vU)(H:Hp)(a:vF)(ns:List Int),ns.length<=n->Only H->SqL (K w.params) H a (ns.map V.int)->sp w [.ref a] H (λv _=>v=.bl true) λ_ _ _=>False)
  (hCX:∀(w:vU)(H:Hp)(s:vC)(e:vB)(s':vC),CX w [] H s (λ_ _ _=>False) e s'->False) :
  Z8 q loose XP YP l.row.toRowW d [] (λf vs=>PySem.call f vs):=by
 refine Att.attach_call hn hdf λw s₀ s₁ mg mb fa o pm cd doc a vs ns G Y ho hd hcd hmg hobj Wl hlen hg=>?_;have KX:=hY w _ Y;obtain⟨fd,hb,hF⟩:=F w mg fa _ KX G.T.g hmg;exact qeJ KX G.T.g G.T.b G.T.builtins G.T.nolimit hg hobj Wl (yA hlen hn2) hr hF hb (λH hO hS=>hsp w H a ns hlen hO hS) λH e s'=>hCX w H s₁ e s'
end L2
namespace L2
open PySem PySem.Spec PyProof.Rows
noncomputable def XB(s:vo):Arguments:=match s with
 | .FunctionDef _ a _ _ _ _ _ _ _ _=>a
 | _=>{ posonlyargs:=[],args:=[],vararg:=none,kwonlyargs:=[],kw_defaults:=[],kwarg:=none,defaults:=[] }
noncomputable def Ys(s:vo):List vo:=match s with
 | .FunctionDef _ _ b _ _ _ _ _ _ _=>b
 | _=>[]
noncomputable def YL(s:vo):uk:=match s with
 | .FunctionDef _ _ _ _ _ _ sc _ _ _=>sc
 | _=>{ kind:=.function,names:=[],isGenerator:=false,isCoroutine:=false }
noncomputable abbrev CX0:CXT:=λ_ _ _ _ _ _=>False
noncomputable abbrev E0:XK:=λ_ _ _=>False
theorem zAK{X:Cx}:WW CX0 X E0:=λ_ _ _ _ _ _ _ h=>h.elim
structure Fun (K:zC) (x qual:Str) (st:vo) (f:vF) (fd:vM):Prop where
 ex:∃(oc:vB) (od:Option vF) (kV doc pm:vB) (an:Option vF) (cdv ct:vB) (osl:Array (Option vB)),
  fd=y8 x qual (XB st) (Ys st) (YL st) .none kV doc pm an cdv ct/\K.lookup f=some ⟨oc,od,.func fd,osl⟩/\wI K cdv qual=true
 kp:xD K (.ref f)=true
section
variable{P:vO}{w:vU}{K:zC}{mg:Str->Option vB}{base:vY}
theorem Fun.ok{x qual:Str}{st:vo}{f:vF}{fd:vM}{N ps:List Str}{k:Nat}{sp:Sp}(F:Fun K x qual st f fd)(S:FnScope N ps (YL st))(len:∀vs H Q E,sp vs H Q E->vs.length=ps.length)(hbody:∀(cdv:vB)(A:vZ)(outer:List Env)(s:vC)(H:Hp)(vs:List V)(Q:VK)(E:XK),Room k (A.deeper (tX qual (YL st) s.heap.objs.size f cdv))->sp vs H Q E ->
   ∃t,PSs (zAv CX0 P w K mg base N qual (YL st) f cdv A outer s H E).nox (Ys st) t/\t { nx:=λ_ H'=>Q .non H',rt:=Q } (start N vs) H):FnOk P w K mg base CX0 (k+1) f fd ps sp:=by
 obtain⟨oc,od,kV,doc,pm,an,cdv,ct,osl,rfl,lk,hcd⟩:=F.ex;refine qhS lk hcd S len λA outer s H vs Q E hr hsp=>?_;obtain⟨t,h,q⟩:=hbody cdv A outer s H vs Q E hr hsp;exact⟨t,h.nox,q⟩
theorem Fun.binds{x qual:Str}{st:vo}{f:vF}{fd:vM}{ps:List Str}(F:Fun K x qual st f fd)(h:∀(kV doc pm:vB)(an:Option vF)(cdv ct:vB)(us:List vB),us.length=ps.length->bindArgs (y8 x qual (XB st) (Ys st) (YL st) .none kV doc pm an cdv ct) ⟨us,[]⟩=pure (ps.zip us)):Binds K fd ps []:=by
 obtain⟨oc,od,kV,doc,pm,an,cdv,ct,osl,rfl,lk,hcd⟩:=F.ex;exact .all (h kV doc pm an cdv ct)
theorem qh6{x qual:Str}{st:vo}{f:vF}{oc:vB}{od an:Option vF}{osl:Array (Option vB)}{kV doc pm cdv ct:vB}(l:K.lookup f=some ⟨oc,od,.func (y8 x qual (XB st) (Ys st) (YL st) .none kV doc pm an cdv ct),osl⟩)(c:wI K cdv qual=true)(k:xD K (.ref f)=true):Fun K x qual st f (y8 x qual (XB st) (Ys st) (YL st) .none kV doc pm an cdv ct):=⟨⟨oc,od,kV,doc,pm,an,cdv,ct,osl,rfl,l,c⟩,k⟩
end
theorem zAG{n:Nat}(h:n<=1000):n<sizeLine:=wJ h (by decide)
section
variable{X:Cx}
theorem pv(i:Nat){x:Str}{pos:Pos}(hN:X.N[i]?=some x:=by rfl)(hv:Vis X.env.scope x:=by first|exact Or.inl rfl|exact Or.inr (Or.inl rfl)|exact Or.inr (Or.inr rfl))(hd:(x==("__debug__" : Str))=false:=by decide)(hcd:(x==("__classdict__" : Str))=false:=by decide):PE X (.Name x pos) (Yz i):=qhN hN hv hd hcd
end
def YX(H H':Hp):Prop:=∀b o,H b=some o->H' b=some o
theorem YX.refl(H:Hp):YX H H:=λ_ _ h=>h
theorem YX.trans{H H1 H2:Hp}(a:YX H H1)(b:YX H1 H2):YX H H2:=λc o h=>b c o (a c o h)
theorem YX.free{H H':Hp}(e:YX H H'){l:vF}(h:H' l=YF):H l=YF:=by
 cases q:H l with
 | none=>rfl
 | some o=>
  rw[e l o q]at h;cases h
theorem YX.seq{K:zC}{H H':Hp}{a:vF}{xs:List V}(e:YX H H')(h:SqL K H a xs):SqL K H' a xs:=by
 rcases h with (h|⟨o,h⟩)|h
 ·exact .inl (.inl (e _ _ h))
 ·exact .inl (.inr ⟨o,e _ _ h⟩)
 ·exact .inr h
end L2
namespace Hk
open PySem
def Wo(xs:Array Nat):Prop:=xs.toList.Pairwise (· < ·)
theorem q4P{l:List Nat}(h:l.Pairwise (· < ·)){i j:Nat}(hi:i<l.length)(hj:j<l.length)(hij:i<j):l[i]<l[j]:=zq.mp h i j hi hj hij
theorem qen{xs:Array Nat}{j:Nat}(h:Wo xs):∀(fuel lo hi:Nat),lo<=hi->hi<=xs.size->hi-lo<=fuel->(∀k(z:k<xs.toList.length),k<lo->xs.toList[k]<j)->(∀k(z:k<xs.toList.length),hi<=k->j<=xs.toList[k]) ->
  SetTable.below.go xs j fuel lo hi<=xs.size/\(∀k(z:k<xs.toList.length),k<SetTable.below.go xs j fuel lo hi->xs.toList[k]<j)/\(∀k(z:k<xs.toList.length),SetTable.below.go xs j fuel lo hi<=k->j<=xs.toList[k]):=by
 intro fuel
 induction fuel with
 | zero=>
  intro lo hi h1 h2 h3 h4 h5;have e:lo=hi:=∅
  subst e;exact⟨h2,h4,h5⟩
 | succ n ih=>
  intro lo hi h1 h2 h3 h4 h5;unfold SetTable.below.go
  by_cases hl:lo<hi
  ·rw[vG hl]
   have hm:(lo+hi)/2<xs.toList.length:=by rw[zL];omega
   have hg:xs.getD ((lo+hi)/2) j=xs.toList[(lo+hi)/2]:=by
    rw[yg,<- zZ,zB hm];rfl
   by_cases hc:xs.getD ((lo+hi)/2) j<j
   ·simp only[hc,if_true]
    refine ih _ _ ∅ h2 ∅ (λk z hk=>?_) h5
    by_cases e:k=(lo+hi)/2
    ·subst e;rw[hg]at hc;exact hc
    ·have:=q4P h z hm ∅
     rw[hg]at hc;omega
   ·simp only[hc,if_false]
    refine ih _ _ ∅ ∅ ∅ h4 (λk z hk=>?_)
    by_cases e:k=(lo+hi)/2
    ·subst e;rw[hg]at hc;omega
    ·have:=q4P h hm z ∅
     rw[hg]at hc;omega
  ·rw[vJ hl]
   have e:lo=hi:=∅
   subst e;exact⟨h2,h4,h5⟩
theorem q8H{xs:Array Nat}(h:Wo xs)(j:Nat):SetTable.below xs j<=xs.size/\(∀k(z:k<xs.toList.length),k<SetTable.below xs j->xs.toList[k]<j)/\(∀k(z:k<xs.toList.length),SetTable.below xs j<=k->j<=xs.toList[k]) :=
 qen h xs.size 0 xs.size (zy _) (zI _) ∅ (λk z hk=>vN hk (xH _)) (λk z hk=>by rw[zL]at z;omega)
theorem q3Z{α:Type}(xs:Array α)(p:Nat)(x:α):(SetTable.insertAt xs p x).toList=xs.toList.take p++x::xs.toList.drop p:=by
 unfold SetTable.insertAt;simp[Array.toList_extract,wd]
theorem q9V{xs:Array Nat}(h:Wo xs){j:Nat}(hn:xs[SetTable.below xs j]?≠some j):Wo (SetTable.insertAt xs (SetTable.below xs j) j):=by
 obtain⟨h1,h2,h3⟩:=q8H h j;unfold Wo;rw[q3Z,xO];have lt:∀y∈xs.toList.drop (SetTable.below xs j),j<y:=by
  intro y hy;obtain⟨k,hk,e⟩:=zv.mp hy;rw[yG]at hk;rw[List.getElem_drop]at e;have hb:SetTable.below xs j<xs.toList.length:=∅
  have hh:=h3 _ hb (zI _);have ne:xs.toList[SetTable.below xs j]≠j:=λz=>hn (by rw[<- zZ,zB hb,z]);have hle:xs.toList[SetTable.below xs j]<=y:=by
   by_cases e0:k=0
   ·subst e0;rw[<- e];simp
   ·rw[<- e];exact yL (q4P h hb ∅ ∅)
  omega
 refine⟨xt (ZY _ _) h,zW.mpr ⟨lt,xt (List.drop_sublist _ _) h⟩,λa ha b hb=>?_⟩;have haj:a<j:=by
  obtain⟨k,hk,e⟩:=zv.mp ha;rw[zY]at hk;rw[ZZ]at e;rw[<- e];exact h2 k ∅ ∅
 rcases zF.mp hb with rfl|hb
 ·exact haj
 ·exact Za haj (lt b hb)
structure Tb (t:SetTable) (n:Nat):Prop where
 fits:t.fits n=true
 rise:Wo t.place
 dum:t.dummies=#[]
theorem q8q{t:SetTable}(hd:t.dummies=#[])(j:Nat):t.slot j≠.dummy:=by
 unfold SetTable.slot;rw[hd]
 dsimp only
 split
 ·exact λz=>nomatch z
 ·have:SetTable.has #[] j=false:=by simp[SetTable.has]
  rw[this];exact λz=>nomatch z
theorem qad{t:SetTable}(hd:t.dummies=#[]){h:Int}:∀(fuel:Nat)(p:SetTable.Probe)(m:SetTable.Met),p.dummy=none->SetTable.probe.go t (λ_=>h+1) h fuel p=some m->∃j,m=.empty j none/\t.slot j=.empty:=by
 intro fuel
 induction fuel with
 | zero=>intro p m _ e;cases e
 | succ n ih=>
  intro p m hp e;unfold SetTable.probe.go at e;cases hs:t.slot p.j with
  | empty=>
   rw[hs]at e;cases e;exact⟨p.j,by rw[hp],hs⟩
  | dummy=>exact vN hs (q8q hd _)
  | live i=>
   rw[hs]at e;have hne:(h+1==h)=false:=by simp only[beq_eq_false_iff_ne,ne_eq];omega
   dsimp only at e
   rw[hne]at e;refine ih _ m ?_ e;unfold SetTable.advance
   split
   ·exact hp
   ·exact hp
theorem q9R{t:SetTable}(hd:t.dummies=#[]){h:Int}{slot:Nat}{b:Bool}(e:t.freeSlot h=some (slot,b)):b=false/\t.place[SetTable.below t.place slot]?≠some slot:=by
 unfold SetTable.freeSlot at e;cases q:t.probe (λ_=>h+1) h (t.probeStart h)with
 | none=>rw[q]at e;cases e
 | some m=>
  rw[q]at e;obtain⟨j,rfl,hs⟩:=qad hd _ _ m (by rfl) q;cases e;refine⟨rfl,λz=>?_⟩;unfold SetTable.slot at hs
  dsimp only at hs
  have:(t.place[SetTable.below t.place j]?==some j)=true:=by
   rw[show t.place[SetTable.below t.place j]?=some j from z];simp
  rw[vG this]at hs;cases hs
theorem qby(n:Nat):Wo (Array.range n):=by
 unfold Wo;rw[Array.toList_range];exact xF
theorem q2g(t:SetTable)(n:Nat):Tb (t.standIn n) n:=by
 refine⟨?_,qby n,rfl⟩;unfold SetTable.fits SetTable.standIn SetTable.fill;simp;omega
theorem qi7{t:SetTable}{n:Nat}(h:Wo t.place)(hd:t.dummies=#[]):Tb (t.orStandIn n) n:=by
 unfold SetTable.orStandIn
 by_cases z:t.fits n=true
 ·rw[vG z];exact⟨z,h,hd⟩
 ·rw[vJ z];exact q2g t n
theorem qhn(t:SetTable)(n:Nat):(t.orStandIn n).led=t.led:=by
 unfold SetTable.orStandIn
 split <;> rfl
theorem qdI{t:SetTable}{es:Array (Int×vB)}{h:Int}{x:vB}(T:Tb t es.size):
  (layNew t es h x).2.2.1=false/\Tb (layNew t es h x).2.1 (layNew t es h x).1.size/\(layNew t es h x).2.1.led=t.led/\(layNew t es h x).1.toList.Perm ((h,x)::es.toList):=by
 unfold layNew;cases q:t.freeSlot h with
 | none=>
  refine⟨rfl,?_,rfl,?_⟩
  ·rw[wm];exact q2g t _
  ·rw[Zb]
   exact List.perm_append_singleton _ _
 | some p=>
  obtain⟨slot,b⟩:=p;obtain⟨rfl,hn⟩:=q9R T.dum q;have hd:(t.put slot).1.dummies=#[]:=by
   unfold SetTable.put
   dsimp only
   rw[T.dum];simp[SetTable.has]
  refine⟨rfl,qi7 (q9V T.rise hn) hd,(qhn _ _).trans rfl,?_⟩;rw[q3Z];refine wo List.perm_middle ?_;rw[yy]
theorem q5n{α:Type}{f:α->Option α}(h:∀x y,f x=some y->y=x):∀l:List α,(l.filterMap f).Sublist l
 | []=>by simp
 | a::r=>by
  rw[xA];cases q:f a with
  | none=>exact(q5n h r).cons a
  | some b=>rw[h a b q];exact(q5n h r).cons_cons a
theorem q5A{α:Type}:∀l:List α,(zO l.length).filterMap (λi=>l[i]?)=l
 | []=>rfl
 | a::r=>by
  rw[zG,we,xA];simp only[ye];rw[ZS];have e:((λi=>(a::r)[i]?) ∘ Nat.succ)=λi=>r[i]?:=by funext i;simp
  rw[e,q5A r]
theorem qfU{mask finger moves:Nat}{led plain:Bool}{hs:Array Int}{t:SetTable}{o:Array Nat}(e:SetTable.laid mask finger moves led plain hs=some (t,o)):Wo t.place/\t.dummies=#[]/\t.led=led:=by
 unfold SetTable.laid at e;cases q:SetTable.layClean mask hs with
 | none=>rw[q]at e;cases e
 | some owner=>
  rw[q]at e;cases e;refine⟨?_,rfl,rfl⟩;unfold Wo
  dsimp only
  rw[List.map_filterMap];refine xt (q5n (λx y z=>?_) _) xF;cases q2:owner.getD x none with
  | none=>rw[q2]at z;cases z
  | some c=>rw[q2]at z;exact(zn z).symm
theorem qfi{t:SetTable}{es:Array (Int×vB)}(w:Nat):Tb (relayAll t es w).2.1 (relayAll t es w).1.size/\(relayAll t es w).2.1.led=t.led/\(relayAll t es w).1.toList.Perm es.toList:=by
 unfold relayAll;cases q:t.relaid (es.map (·.1)) w with
 | none=>exact⟨q2g t _,rfl,xP _⟩
 | some p=>
  obtain⟨t',order⟩:=p
  dsimp only
  obtain⟨h1,h2,h3⟩:=qfU q
  by_cases z:(coversAll order es.size&&t'.fits (order.filterMap (es[·]?)).size)=true
  ·rw[vG z]
   rw[zr]at z;refine⟨⟨z.2,h1,h2⟩,h3,?_⟩;have hp:order.toList.Perm (zO es.size):=List.isPerm_iff.mp z.1;rw[Array.toList_filterMap];have e:(λ(i:Nat)=>es[i]?)=λ(i:Nat)=>es.toList[i]?:=by funext i;simp
   rw[e];have q2:=hp.filterMap λi=>es.toList[i]?;rw[<- zL,q5A]at q2;exact q2
  ·rw[vJ z]
   exact⟨q2g t _,rfl,xP _⟩
end Hk
namespace Hk
open PySem PySem.Spec PyProof.Rows
noncomputable def vI:vB->Int
 | .int i _=>i
 | _=>0
def X6(e:Int×vB):Prop:=∃x t,e=(sP x,Value.int x t)
theorem qbk{prog:vO}{w:vU}{l:List (Int×vB)}(h:∀e∈l,X6 e):ElemsOf (ux prog w) l:=λe he=>by
 obtain⟨x,t,rfl⟩:=h e he;exact⟨⟨x,intKind_is _ _ _ _,rfl⟩,rfl⟩
def WK(h:vY)(a:vF)(led:Bool)(xs:List Int):Prop:=∃o es ep t,h.get? a=some o/\o.ExactSet/\o.data=.set es ep t/\Tb t es.size/\t.led=led/\es.size<uZ /\
 (∀e∈es.toList,X6 e)/\es.toList.map (λe=>vI e.2)=xs/\xs.Nodup
theorem WK.len{h:vY}{a:vF}{led:Bool}{xs:List Int}(S:WK h a led xs):xs.length<uZ:=by
 obtain⟨o,es,ep,t,_,_,_,_,_,z,_,e,_⟩:=S;rw[<- e,zA,zL];exact z
theorem WK.at{h h':vY}{a:vF}{led:Bool}{xs:List Int}(S:WK h a led xs)(k:∀o,h.get? a=some o->h'.get? a=some o):WK h' a led xs:=by
 obtain⟨o,es,ep,t,e,r⟩:=S;exact⟨o,es,ep,t,k o e,r⟩
theorem qaW{prog:vO}{w:vU}{e:Int×vB}(h:X6 e)(x:Int):(ux prog w).is x e.2=decide (vI e.2=x):=by
 obtain⟨y,t,rfl⟩:=h;show Value.isInt x (.int y t)=decide (y=x)
 by_cases z:y=x
 ·subst z;simp[Value.isInt]
 ·simp[Value.isInt,z]
theorem qdC{prog:vO}{w:vU}{l:List (Int×vB)}(h:∀e∈l,X6 e){x:Int}(q:l.findIdx? (λe=>(ux prog w).is x e.2)=none):x∉l.map (λe=>vI e.2):=λz=>by
 obtain⟨e,he,ex⟩:=yM.mp z;have:=List.findIdx?_eq_none_iff.mp q e he;rw[qaW (h e he),ex]at this;simp at this
theorem qcR{prog:vO}{w:vU}{l:List (Int×vB)}(h:∀e∈l,X6 e){x:Int}{j:Nat}(q:l.findIdx? (λe=>(ux prog w).is x e.2)=some j):x∈l.map (λe=>vI e.2):=by
 obtain⟨hj,hp,_⟩:=List.findIdx?_eq_some_iff_getElem.mp q;rw[qaW (h _ (zk hj))]at hp;exact yM.mpr ⟨_,zk hj,of_decide_eq_true hp⟩
section
variable{prog:vO}{w:vU}{A:vZ}{E:vB->vC->Prop}{s:vC}
theorem qaz{h:vY}{a:vF}{o:Obj}{es es':Array (Int×vB)}{ep:Nat}{t t':SetTable}{led:Bool}{xs:List Int}(go:h.get? a=some o)(gx:o.ExactSet)(gd:o.data=.set es ep t)(T:Tb t' es'.size)(gl:t'.led=led)(gb:es'.size<uZ)(gg:∀e∈es'.toList,X6 e)(gv:es'.toList.map (λe=>vI e.2)=xs)(gn:xs.Nodup):
  (h.update a (Obj.putSet es' t')).get? a=some { o with data:=.set es' (ep+1) t' }/\WK (h.update a (Obj.putSet es' t')) a led xs:=by
 have q:=ym (Obj.putSet es' t') go (by rw[putSet_of es' t' gd];rfl);rw[putSet_of es' t' gd]at q;exact⟨q,_,es',ep+1,t',q,gx,rfl,T,gl,gb,gg,gv,gn⟩
theorem qcX{g:Bool->Sem Unit}(gw:∀(b:Bool)(s1:vC)(Q':Unit->vC->Prop),Q' () s1->vL (model prog w) A (g b) Q' E s1){a:vF}{o:Obj}{es es1:Array (Int×vB)}{ep:Nat}{t t2:SetTable}{led:Bool}{xs:List Int}(go:s.heap.get? a=some o)(gx:o.ExactSet)(gd:o.data=.set es ep t)(T:Tb t2 es1.size)(gl:t2.led=led)(gb:es1.size<uZ)(gg:∀e∈es1.toList,X6 e)(gv:es1.toList.map (λe=>vI e.2)=xs)(gn:xs.Nodup){dm:Bool}{R:Option Bool->vC->Prop}(k:∀h' ys,y0 a s.heap h'->WK h' a led ys->ys.Perm xs->R (some true) { s with heap:=h' }):
  vL (model prog w) A (do
    storeSet a es1 t2
    if (!dm&&t2.tooFull)=true then do
      g (relayAll t2 es1 (SetTable.grown es1.size)).2.2
      storeSet a (relayAll t2 es1 (SetTable.grown es1.size)).1 (relayAll t2 es1 (SetTable.grown es1.size)).2.1
      pure (some true)
     else pure (some true)) R E s:=by
 refine vA (wpAny_storeSet_of go gd ?_ (fits_of_scanBound gb));obtain⟨g1,S1⟩:=qaz go gx gd T gl gb gg gv gn;have sb:=w9 s.heap a (Obj.putSet es1 t2)
 split
 ·obtain⟨T2,l2,p2⟩:=qfi (t:=t2) (es:=es1) (SetTable.grown es1.size)
  generalize relayAll t2 es1 (SetTable.grown es1.size)=rl at T2 l2 p2 ⊢;obtain⟨es2,t3,gv2⟩:=rl
  dsimp only at T2 l2 p2 ⊢
  have hz:es2.size=es1.size:=by rw[<- zL,p2.length_eq,zL]
  have gb2:es2.size<uZ:=by rw[hz];exact gb
  have pv:(es2.toList.map λe=>vI e.2).Perm xs:=by rw[<- gv];exact p2.map _
  refine vA (gw _ _ _ ?_);refine vA (wpAny_storeSet_of g1 rfl ?_ (fits_of_scanBound gb2));obtain⟨_,S2⟩:=qaz g1 gx rfl T2 (l2.trans gl) gb2 (λe he=>gg e (p2.mem_iff.mp he)) rfl (pv.nodup_iff.mpr gn);exact vH (k _ _ (sb.trans (w9 _ a _)) S2 pv)
 ·exact vH (k _ _ sb S1 (xP _))
theorem qhU{a:vF}{led:Bool}{xs:List Int}{x:Int}{tk:Tok}{Q:Bool->vC->Prop}(S:WK s.heap a led xs)(room:xs.length+1<uZ)(k:∀b h' ys,y0 a s.heap h'->WK h' a led ys->(x∈xs->ys=xs)->(x∉xs->ys.Perm (x::xs))->Q b { s with heap:=h' }):
  vL (model prog w) A (setAddHashed a (.int x tk) (sP x)) Q E s:=by
 obtain⟨o,es,ep,t,go,gx,gd,T,gl,gb,gg,gv,gn⟩:=id S;have hl:es.size=xs.length:=by rw[<- gv,zA,zL]
 have el:ElemsOf (ux prog w) es.toList:=qbk gg;unfold setAddHashed setAddHashedIn;refine ve (vA (vt go gd T.fits ?_))
 dsimp only
 rw[byScan_of (knd:=ux prog w) (x:=.int x tk) rfl gb el];simp only[↓reduceIte];unfold setAddByScan;refine vA (vA (uP (vA (wpAny_setScan_of (knd:=ux prog w) (k:=x) (intKind_is _ _ _ _) go gd T.fits el ?_))));cases q:List.findIdx? (λe=>(ux prog w).is x e.2) es.toList with
 | some j=>
  dsimp only
  have hx:x∈xs:=by rw[<- gv];exact qcR gg q
  refine vH (vH ?_);exact k false s.heap xs (Zc a s.heap) S (λ_=>rfl) λz=>vN hx z
 | none=>
  dsimp only
  have hx:x∉xs:=by rw[<- gv];exact qdC gg q
  obtain⟨d0,T1,l1,p1⟩:=qdI (t:=t) (es:=es) (h:=sP x) (x:=.int x tk) T;generalize layNew t es (sP x) (.int x tk)=ly at d0 T1 l1 p1 ⊢;obtain⟨es1,t1,dm,gave⟩:=ly
  dsimp only at d0 T1 l1 p1 ⊢
  have gg1:∀e∈es1.toList,X6 e:=λe he=>by
   rcases zF.mp (p1.mem_iff.mp he)with rfl|he
   ·exact⟨x,tk,rfl⟩
   ·exact gg e he
  have pv:(es1.toList.map λe=>vI e.2).Perm (x::xs):=by rw[<- gv];exact p1.map _
  have gn1:(es1.toList.map λe=>vI e.2).Nodup:=pv.nodup_iff.mpr (yb.mpr ⟨hx,gn⟩);have gb1:es1.size<uZ:=by
   have:=pv.length_eq;rw[zA,zL,zG]at this;omega
  have gw:∀(b:Bool)(s1:vC)(Q':Unit->vC->Prop),Q' () s1->vL (model prog w) A (match b with|true=>rule "set.scan.the-table-gave-way" | false=>pure ()) Q' E s1 :=
   λb s1 Q' z=>by cases b <;> first|exact vH z|exact uP z
  refine vA (gw _ _ _ ?_);have fin:∀h' ys,y0 a s.heap h'->WK h' a led ys->ys.Perm (es1.toList.map λe=>vI e.2)->Q true { s with heap:=h' }:=λh' ys sb S' p=>k true h' ys sb S' (λz=>vN z hx) λ_=>p.trans pv
  split
  ·refine vA ?_
   rw[hashByValue_scannable 8 (x:=Value.int x tk) rfl];refine vH ?_;refine qcX (λb s1 Q' z=>by cases b <;> first|exact vH z|exact uP z) go gx gd T1 (l1.trans gl) gb1 gg1 rfl gn1 λh' ys sb S' p=>?_;exact vH (fin h' ys sb S' p)
  ·refine vA (vH ?_)
   simp only[↓reduceIte];refine qcX (λb s1 Q' z=>by cases b <;> first|exact vH z|exact uP z) go gx gd T1 (l1.trans gl) gb1 gg1 rfl gn1 λh' ys sb S' p=>?_;exact vH (fin h' ys sb S' p)
end
def zAZ(h:vY)(S:vF)(led:Bool)(val:Nat->Int)(m:Nat):Prop:=∃xs,WK h S led xs/\xs.length<=m/\∀x,x∈xs↔∃i,i<m/\val i=x
theorem zAZ.at{h h':vY}{a:vF}{led:Bool}{val:Nat->Int}{m:Nat}(S:zAZ h a led val m)(k:∀o,h.get? a=some o->h'.get? a=some o):zAZ h' a led val m:=by
 obtain⟨xs,q,r⟩:=S;exact⟨xs,q.at k,r⟩
section
variable{prog:vO}{w:vU}{A:vZ}{R:sK->vC->Prop}{I:vF}{fp wr:List vF}{G:Array sC->Array sC->Prop}{n:Nat}{P:Nat->vB->Prop}{St:Nat->vC->Prop}
theorem zAy(W:WalksS prog w A.in1 I fp wr G n P St)(S:vF)(hS:S∉fp){led:Bool}(val:Nat->Int)(hv:∀i v,P i v->∃t,v=.int (val i) t)(hb:n+1<uZ):
  ∀(k i:Nat)(s:vC),n-i=k->i<=n->St i s->zAZ s.heap S led val i->(∀s',Moved (S::wr) G s s'->zAZ s'.heap S led val n->R (.ok (.ret .none)) s') ->
   uW (model prog w) A (.builtin "set.update.loop" ⟨[.ref S,.ref I],[]⟩) R s:=by
 have hw:S∉wr:=λz=>hS (W.sub _ z);have hsub:∀b∈wr,b∈S::wr:=λb z=>zJ _ z;intro k
 induction k with
 | zero=>
  intro i s hk hi st SV hR;have hin:i=n:=∅
  subst hin;refine uB PyProof.Rows.F.entry_set_update_loop ?_;rw[Around.under_plainId PyProof.Rows.F.plain_set_update_loop _];show vL _ A.in1 (uL (.ref I) >>= _) _ _ s;refine vA (W.done s _ _ st λs' hm=>?_);show vL _ A.in1 (ret Value.none) _ _ s';exact vH (hR s' (hm.mono hsub) (SV.at λo e=>hm.heap S o hw e))
 | succ k ih=>
  intro i s hk hi st SV hR;have hlt:i<n:=∅
  refine uB PyProof.Rows.F.entry_set_update_loop ?_;rw[Around.under_plainId PyProof.Rows.F.plain_set_update_loop _];show vL _ A.in1 (uL (.ref I) >>= _) _ _ s;refine vA (W.item i s _ _ hlt st λv s1 hP st1 hm=>?_);obtain⟨t,rfl⟩:=hv i v hP;obtain⟨xs,S1,hl,hx⟩:=SV.at (h':=s1.heap) λo e=>hm.heap S o hw e;show vL _ A.in1 (holding [Value.int (val i) t] (setAdd S (.int (val i) t)) >>= _) _ _ s1;refine vA (ve ?_);unfold setAdd;refine ve ?_;refine vA ((ux prog w).pyHash (k:=val i) (intKind_is _ _ _ _) ?_);refine qhU (s:={ s1 with toks:=s1.toks+1 }) (x:=val i) S1 ∅ λb h' ys sb S2 y1 y2=>?_;have SV2:zAZ h' S led val (i+1):=by
   refine⟨ys,S2,?_,λx=>?_⟩
   ·by_cases z:val i∈xs
    ·rw[y1 z];omega
    ·rw[(y2 z).length_eq,zG];omega
   ·by_cases z:val i∈xs
    ·rw[y1 z,hx]
     refine⟨λ⟨j,h1,h2⟩=>⟨j,∅,h2⟩,λ⟨j,h1,h2⟩=>?_⟩
     by_cases e:j=i
     ·subst e;exact(hx x).mp (by rw[<- h2];exact z)
     ·exact⟨j,∅,h2⟩
    ·rw[(y2 z).mem_iff,zF,hx]
     refine⟨λh=>?_,λ⟨j,h1,h2⟩=>?_⟩
     ·rcases h with h|⟨j,h1,h2⟩
      ·exact⟨i,∅,h.symm⟩
      ·exact⟨j,∅,h2⟩
     ·by_cases e:j=i
      ·subst e;exact .inl h2.symm
      ·exact .inr ⟨j,∅,h2⟩
  refine vH ⟨uJ PyProof.Rows.F.plain_set_update_loop _,ih (i+1) _ ∅ hlt (W.frame _ s1 _ _ st1 (yt _) λb z o e=>?_) SV2 λs2 hm2 S3=>?_⟩
  ·rw[sb.2 b (λy:b=S=>hS (by rw[<- y];exact z))];exact e
  ·refine hR s2 (Moved.trans W.gtrans ((hm.mono hsub).then_heap (yt _) λb o z e=>?_) hm2) S3
   rw[sb.2 b (λy:b=S=>z (by rw[y];exact zH))];exact e
end
noncomputable abbrev Yx(w:vU):Bool:=!w.params.followText "set-order"
section
variable{prog:vO}{w:vU}{A:vZ}{E:vB->vC->Prop}{s:vC}
theorem qfE(a:vB){Q1:vB->vC->Prop}(h:Q1 (.ref s.heap.objs.size) { s with heap:=s.heap.push { cls:=.type "set", data:=.set #[] 0 (.fresh 0 0 (Yx w)) } }):
  uW (model prog w) A (.call (.builtin "set.__new__") ⟨[.type "set", a],[]⟩) (wants Q1 E) s:=by
 refine codeAny_of_tree ?_;show vL _ A.in1 (checkBuiltinCall "set.__new__" ⟨[.type "set", a],[]⟩ >>= λ_=>again (.builtin "set.__new__" ⟨[.type "set", a],[]⟩)) _ _ s;refine vA (sN (PySem.F.newCall_set_1 a) (vH ⟨uJ PySem.F.plain_set_new _,uB PySem.F.entry_set_new ?_⟩));rw[Around.under_plainId PySem.F.plain_set_new _];unfold Builtin.«set.__new__» Builtin.Frozenset.newClass;have p1:=sub_set_self;obtain⟨hp,g,d,tk,os⟩:=s
 dsimp only
 wp_walk
 refine tK (vH ?_)
 dsimp only
 simp only[newObj];refine vA (wpAny_alloc (vH ?_));exact vH h
set_option maxHeartbeats 3200000 in
theorem q9Q{l:vF}{items:Array vB}{ns:List Int}{Q:vB->vC->Prop}(hh:A.handled=none)(il:s.heap.IsList l items)(ia:uA items.toList ns)(hb:items.size+1<uZ)(k:∀(h':vY)(tk:Nat),zAZ h' s.heap.objs.size (Yx w) (λi=>ns.getD i 0) items.size->(∀b o,b<s.heap.objs.size->s.heap.get? b=some o->h'.get? b=some o)->Q (.ref s.heap.objs.size) { s with heap:=h',toks:=tk }):
  vL (model prog w) A (call (.type "set") [.ref l]) Q E s:=by
 obtain⟨c,tl,c1⟩:=PySem.F.called_set.mro;have c2:=PySem.F.called_set.made;have c3:=PySem.F.called_set.sub;refine wpAny_call (codeAny_of_tree ?_);show vL _ _ (callAny (.type "set") _) _ _ _;refine vH ⟨Code.quiet_builtin _ ⋯,uB PySem.F.entry_type_call ?_⟩;rw[Around.under_plain (weight_type_call_type "set" [.ref l] []) rfl];have c4:=PySem.F.called_set.notType;have c5:=PySem.F.called_set.canCreate;have c6:=PySem.F.typeCall_set_1 (.ref l)
 repeat (any_goals (first|assumption|wp_step))
 refine uX (qfE (.ref l) (E:=E) (Q1:=λobj s1=>obj=.ref s.heap.objs.size/\s1={ s with heap:=s.heap.push { cls:=.type "set", data:=.set #[] 0 (.fresh 0 0 (Yx w)) } }) ⟨rfl,rfl⟩) λr s1 hr=>?_;cases r with
 | error e=>exact hr
 | ok fl=>
  cases fl with
  | ret obj=>
   obtain⟨rfl,rfl⟩:=hr;have hS:(s.heap.push { cls:=.type "set", data:=.set #[] 0 (.fresh 0 0 (Yx w)) }).get? s.heap.objs.size=some { cls:=.type "set", data:=.set #[] 0 (.fresh 0 0 (Yx w)) }:=zR _ rfl;have hT:Shared.TypeIs { s with heap:=s.heap.push { cls:=.type "set", data:=.set #[] 0 (.fresh 0 0 (Yx w)) } } (.ref s.heap.objs.size) "set" := ⟨_,hS,rfl⟩;have c7:=PySem.F.called_set.init.lookup;have c8:=PySem.F.called_set.init.bind (.ref s.heap.objs.size)
   repeat (any_goals (first|assumption|wp_step))
   refine uX (codeAny_call_builtin (R:=wants (λr s2=>r=.none/\∃h' tk,s2={ s with heap:=h',toks:=tk }/\zAZ h' s.heap.objs.size (Yx w) (λi=>ns.getD i 0) items.size /\
     (∀b o,b<s.heap.objs.size->s.heap.get? b=some o->h'.get? b=some o)) E) PySem.F.called_set.init.plain PySem.F.entry_set_init (check_set_init_1 hT ?_)) λr2 s2 hr2=>?_
   ·obtain⟨ol,e1,e2,nl,e3⟩:=il
    obtain⟨ocls,odict,odata,oslots⟩:=ol;simp only at e2 e3;subst e2;subst e3;have e1':(s.heap.push { cls:=.type "set", data:=.set #[] 0 (.fresh 0 0 (Yx w)) }).get? l=some { cls:=.type "list", dict:=odict,data:=.seq items nl,slots:=oslots }:=zD _ e1;have d1:=PySem.F.sub_list_set;have d2:=PySem.F.sub_list_frozenset;have d3:(Value.type "list" == Value.type "dict")=false:=by decide
    have il1:(s.heap.push { cls:=.type "set", data:=.set #[] 0 (.fresh 0 0 (Yx w)) }).IsList l items:=⟨_,e1',rfl,nl,rfl⟩;unfold Builtin.«set.__init__» noKeywords Builtin.Frozenset.updateFrom;generalize hPI:sR=PI
    wp_walk
    subst hPI;refine ud il1 ?_;refine vA (wpAny_runValue ?_);have lS:l<s.heap.objs.size:=zN e1;have h3:A.in1.in1.in1.handled=none:=by simp[hh]
    have nI:l≠(s.heap.push { cls:=.type "set", data:=.set #[] 0 (.fresh 0 0 (Yx w)) }).objs.size:=by rw[yP];exact zm (yI lS)
    have nS:s.heap.objs.size∉[(s.heap.push { cls:=.type "set", data:=.set #[] 0 (.fresh 0 0 (Yx w)) }).objs.size,l]:=by
     rw[yP];simp only[zF,zT,zh,or_false,not_or];exact⟨zm (yW _),xU lS⟩
    have hv:∀(i:Nat)(v:vB),items[i]?=some v->∃t,v=.int ((λi=>ns.getD i 0) i) t:=λi v z=>IntsAre.int_at ia i v (by rw[zZ];exact z);refine zAy ((Walks.list h3 _ l nI items).toS) s.heap.objs.size nS (led:=Yx w) (λi=>ns.getD i 0) hv hb (items.size-0) 0 _ ∅ (zy _) ⟨⟨_,zR _ rfl,rfl,rfl⟩,(il1.push _)⟩ ?S0 ?RR
    case S0=>
     refine⟨[],⟨_,#[],0,.fresh 0 0 (Yx w),zD _ hS,⟨rfl,rfl,rfl⟩,rfl,⟨rfl,xL,rfl⟩,rfl,by show 0<uZ;decide,λe z=>by simp at z,rfl,xQ⟩,zI _,λx=>⟨λz=>(by cases z),λ⟨i,z,_⟩=>vN z (xH _)⟩⟩
    case RR=>
     intro s' hm S';obtain⟨h',g',d',tk',os'⟩:=s';have eg:g'=s.gens:=hm.gens;have ed:d'=s.drawn:=hm.drawn;have eos:os'=s.os:=hm.os;subst eg;subst ed;subst eos;show vL _ _ _ _ _ _;refine vH ?_;show vL _ _ (ret Value.none) _ _ _;refine vH ⟨rfl,h',tk',rfl,S',λb o z y=>?_⟩;refine hm.heap b o ?_ (zD _ (zD _ y));simp only[zF,zT,zh,or_false,not_or];exact⟨zm z,by rw[yP];exact zm (yI z)⟩
   ·cases r2 with
    | error e=>exact hr2
    | ok fl2=>
     cases fl2 with
     | ret r=>
      obtain⟨rfl,h',tk,rfl,S',kp⟩:=hr2
      repeat (any_goals (first|assumption|wp_step))
      exact k _ _ S' kp
     | next=>exact hr2.elim
     | brk=>exact hr2.elim
     | cont=>exact hr2.elim
  | next=>exact hr.elim
  | brk=>exact hr.elim
  | cont=>exact hr.elim
end
end Hk
namespace PySem.F
theorem slotSetNext:Slot "set_iterator" "__next__" "set_iterator.__next__" := .of (owner := "set_iterator") (n := "__next__") (by rw[uS,v8];kernel_rfl) ⋯ ⋯ ⋯ (by first|exact .inl ⋯|exact .inr ⋯) (by rw[u4];kernel_rfl)
theorem slotSetIt:Slot "set_iterator" "__iter__" "set_iterator.__iter__" := .of (owner := "set_iterator") (n := "__iter__") (by rw[uS,v8];kernel_rfl) ⋯ ⋯ ⋯ (by first|exact .inl ⋯|exact .inr ⋯) (by rw[u4];kernel_rfl)
theorem WT:Manifest.owners.lookup (String.ofList ['r','o','t','a','r','e','t','i','_','t','e','s'].reverse)=some Manifest.sig_set_iterator:=by kernel_rfl
theorem argsSetNext(a:vB):sS "set_iterator.__next__" ⟨[a],[]⟩:=by
 unfold sS;rw[signature?_of (id := "set_iterator.__next__") (n:=['_','_','t','x','e','n','_','_']) (o:=['r','o','t','a','r','e','t','i','_','t','e','s']) (by kernel_rfl) WT]
 kernel_rfl
theorem argsSetIt(a:vB):sS "set_iterator.__iter__" ⟨[a],[]⟩:=by
 unfold sS;rw[signature?_of (id := "set_iterator.__iter__") (n:=['_','_','r','e','t','i','_','_']) (o:=['r','o','t','a','r','e','t','i','_','t','e','s']) (by kernel_rfl) WT]
 kernel_rfl
theorem entSetNext:entryFor table "set_iterator.__next__" = some Builtin.«set_iterator.__next__»:=entryFor_of_tree (by kernel_rfl)
theorem entSetIter:entryFor table "set.__iter__" = some Builtin.«frozenset.__iter__»:=entryFor_alias (id' := "frozenset.__iter__") (by kernel_rfl) rfl ⋯ (by kernel_rfl)
theorem entSetIt:entryFor table "set_iterator.__iter__" = some Builtin.«dict_keyiterator.__iter__»:=entryFor_alias (id' := "dict_keyiterator.__iter__") (by kernel_rfl) rfl ⋯ (by kernel_rfl)
end PySem.F
namespace Hk
open PySem PySem.Spec PyProof.Rows
section
variable{prog:vO}{w:vU}{A:vZ}{E:vB->vC->Prop}{s:vC}
theorem q3P{α:Type}:∀(l:List α)(k:Nat)(h:k<l.length),(l[k]::l.eraseIdx k).Perm l
 | a::r,0,_=>xP _
 | a::r,k+1,h=>by
  have h':k<r.length:=by simpa using h
  show (r[k]::a::r.eraseIdx k).Perm (a::r);exact(List.Perm.swap a r[k] _).trans ((q3P r k h').cons a)
theorem qaw{α:Type}(next:Nat->Nat):∀(fuel k:Nat)(left:List α)(out:Array α),left.length=fuel->(pickOrder.go next fuel k left out).toList.Perm (out.toList++left)
 | 0,k,left,out,h=>by
  have e:left=[]:=yu h;subst e;unfold pickOrder.go;rw[za]
 | fuel+1,k,left,out,h=>by
  unfold pickOrder.go;have hlt:next k%left.length<left.length:=Nat.mod_lt _ ∅
  rw[zB hlt]
  dsimp only
  refine(qaw next fuel (k+1) _ _ (by rw[wK hlt,h];rfl)).trans ?_;rw[Zb,yB];exact List.Perm.append_left _ (q3P left _ hlt)
theorem qd3{α:Type}(next:Nat->Nat)(xs:Array α):(uo next xs).toList.Perm xs.toList:=by
 have:=qaw next xs.size 0 xs.toList #[] (by simp)
 simpa [uo]using this
theorem qcL{M:Model}{src:Source}{n:Nat}{Q:Nat->vC->Prop}(hn:n≠0)(h:Q (M.w.draws src (s.drawn.get src)%n) { s with drawn:=s.drawn.bump src }):vL M A (choose src n) Q E s:=λ_ _ _=>⟨hn,h⟩
theorem q4e{M:Model}{α:Type}:∀(n:Nat)(xs:List α)(s:vC)(Q:List α->vC->Prop),xs.length=n->(∀ys d,ys.Perm xs->Q ys { s with drawn:=d })->vL M A (drawOrder n xs) Q E s
 | 0,xs,s,Q,hl,h=>by
  have e:xs=[]:=yu hl;subst e;exact vH (h [] s.drawn (xP _))
 | n+1,[],s,Q,hl,h=>by cases hl
 | n+1,x::r,s,Q,hl,h=>by
  unfold drawOrder;refine vA (qcL (by simp) ?_);generalize hk:M.w.draws Source.order (s.drawn.get Source.order)%(x::r).length=k;have hlt:k<(x::r).length:=by rw[<- hk];exact Nat.mod_lt _ (by simp)
  rw[zB hlt]
  dsimp only
  have hl2:((x::r).eraseIdx k).length=n:=by rw[wK hlt,hl];rfl
  refine vA (q4e n _ _ _ hl2 λys d p=>vH (h _ d ?_));refine wo (p.cons _) ?_;exact q3P _ k hlt
end
noncomputable abbrev XU(f:vB)(i:Nat)(a:vF)(n ep:Nat):Obj:={ cls:=.type "set_iterator", data:=.fields #[f,.int i 0,.ref a,.int n 0,.int ep 0] }
section
variable{prog:vO}{w:vU}{A:vZ}{E:vB->vC->Prop}{s:vC}
theorem q1k{a:vF}{o:Obj}{es:Array (Int×vB)}{ep:Nat}{t:SetTable}{Q:Array (Int×vB)->vC->Prop}(go:s.heap.get? a=some o)(gd:o.data=.set es ep t)(gf:t.fits es.size=true)(h:Q es s):vL (model prog w) A (setEntries a) Q E s:=by
 unfold setEntries;exact vA (vt go gd gf (vH h))
theorem qd8{it a:vF}{slot i n ep:Nat}{o:Obj}{es:Array (Int×vB)}{t:SetTable}{x:vB}{nxt:Nat}{Q:Option vB->vC->Prop}(e:s.heap.get? it=some (XU (.int slot 0) i a n ep))(go:s.heap.get? a=some o)(gd:o.data=.set es ep t)(gf:t.fits es.size=true)(hn:es.size=n)(hnext:∀A' Q' E',Q' (some (x,nxt)) s->vL (model prog w) A' (uz a slot i ep) Q' E' s)(k:∀h',h'.get? it=some (XU (.int nxt 0) (i+1) a n ep)->y0 it s.heap h'->Q (some x) { s with heap:=h' }):
  vL (model prog w) A (uL (.ref it)) Q E s:=by
 have hT:s.TypeIs (.ref it) "set_iterator" := ⟨_,e,rfl⟩;unfold uL;refine vA (uU (wpAny_callSpecial?_slot (name:=Str.ofString "__next__") hT F.slotSetNext (vh F.slotSetNext hT F.entSetNext ?_ (F.argsSetNext _))));unfold Builtin.«set_iterator.__next__»;refine vA (m:=sF "__next__" 0 ⟨[.ref it],[]⟩) (vH ?_);refine vA (u5 e rfl ?_)
 dsimp only
 refine vA (q1k go gd gf ?_);rw[vJ (by rw[hn];simp)];simp only[yH];refine vA (hnext _ _ _ ?_)
 dsimp only
 refine vA (v9 e (by simp) λh1 e1 sb1=>?_);refine vA (v9 (s:={ s with heap:=h1 }) e1 (by simp) λh2 e2 sb2=>?_);refine vH ⟨_,rfl,vH (k h2 ?_ (sb1.trans sb2))⟩;rw[e2];simp[uO]
theorem qdW{it a:vF}{slot i n ep:Nat}{o:Obj}{es:Array (Int×vB)}{t:SetTable}{Q:Option vB->vC->Prop}(hh:A.handled=none)(e:s.heap.get? it=some (XU (.int slot 0) i a n ep))(go:s.heap.get? a=some o)(gd:o.data=.set es ep t)(gf:t.fits es.size=true)(hn:es.size=n)(hnext:∀A' Q' E',Q' none s->vL (model prog w) A' (uz a slot i ep) Q' E' s)(k:∀h',Heap.ExtBut it s.heap h'->Q none { s with heap:=h' }):
  vL (model prog w) A (uL (.ref it)) Q E s:=by
 have hT:s.TypeIs (.ref it) "set_iterator" := ⟨_,e,rfl⟩;unfold uL;refine vA (uU (wpAny_callSpecial?_slot (name:=Str.ofString "__next__") hT F.slotSetNext (vh F.slotSetNext hT F.entSetNext ?_ (F.argsSetNext _))));unfold Builtin.«set_iterator.__next__»;refine vA (m:=sF "__next__" 0 ⟨[.ref it],[]⟩) (vH ?_);refine vA (u5 e rfl ?_)
 dsimp only
 refine vA (q1k go gd gf ?_);rw[vJ (by rw[hn];simp)];simp only[yH];refine vA (hnext _ _ _ ?_)
 dsimp only
 refine vA (v9 e (by simp) λh1 e1 sb1=>?_);show vL _ _ (newExc (.type "StopIteration") [] >>= λx=>sT x) _ _ _;refine vA ?_;simp only[newExc,newTuple];refine vA (vg ?_ (by size_fits));refine vA (m:=u6 _ _) (sN (a:=Value.none) (by first|rfl|(simp only[u6];rfl)) ?_);refine vg ?_ (by size_fits);simp only[sT];refine vA (wpAny_handled ?_);rw[show A.in1.handled=none from hh];refine vA (vH (wpAny_throw ?_));refine vA (ua (T := "StopIteration") (b:=true) ⟨_,zR _ rfl,rfl⟩ u7 ?_);exact vH (k _ ((sb1.extBut.push _).push _))
end
section
variable{prog:vO}{w:vU}{A:vZ}{E:vB->vC->Prop}{s:vC}
theorem q2T{Q:Bool->vC->Prop}(h:Q (w.params.followText "set-order") s):vL (model prog w) A setsByText Q E s:=by
 unfold setsByText;exact vA (tK (vH h))
theorem q5Q{a:vF}{o:Obj}{es:Array (Int×vB)}{ep:Nat}{t:SetTable}{slot i:Nat}{r:Option (vB×Nat)}{Q:Option (vB×Nat)->vC->Prop}(go:s.heap.get? a=some o)(gd:o.data=.set es ep t)(gf:t.fits es.size=true)(hB:w.params.followText "set-order" = false)(hl:t.led=true)(hd:(!t.plain&&decide (es.size>1))=false)(hr:(match es[SetTable.below t.place slot]?,t.place[SetTable.below t.place slot]? with|some (_,x),some j=>some (x,j+1)|_,_=>none)=r)(h:Q r s):vL (model prog w) A (uz a slot i ep) Q E s:=by
 unfold uz;refine vA (vt go gd gf ?_)
 dsimp only
 refine vA (q2T ?_);rw[hB];refine vi (λz=>vN z (by decide)) (λ_=>?_);refine vi (λz=>vN ((show (!t.plain&&decide (es.size>1))=true from z).symm.trans hd) (by decide)) (λ_=>?_);refine vA ?_;refine vi (λz=>?_) (λ_=>?_)
 ·have z':(!t.led && !es.isEmpty)=true:=z
  rw[hl]at z';exact vN z' (by simp)
 ·refine vH ?_
  refine vH ?_;rw[<- hr]at h;exact h
theorem qdd{a:vF}{o:Obj}{es:Array (Int×vB)}{ep:Nat}{t:SetTable}{Q:Array (Int×vB)->vC->Prop}(go:s.heap.get? a=some o)(gd:o.data=.set es ep t)(gf:t.fits es.size=true)(hB:w.params.followText "set-order" = true)(h:Q (uo (w.params.setOrder a ep) es) s):vL (model prog w) A (setWalk a) Q E s:=by
 unfold setWalk;refine vA (vt go gd gf ?_)
 dsimp only
 refine vA (q2T ?_);rw[hB];refine vi (λ_=>?_) (λz=>vN rfl z);exact vA (tK (vH h))
theorem q7x{a:vF}{o:Obj}{es:Array (Int×vB)}{ep:Nat}{t:SetTable}{slot i:Nat}{Q:Option (vB×Nat)->vC->Prop}(go:s.heap.get? a=some o)(gd:o.data=.set es ep t)(gf:t.fits es.size=true)(hB:w.params.followText "set-order" = true)(h:Q (((uo (w.params.setOrder a ep) es)[i]?).map λe=>(e.2,slot)) s):vL (model prog w) A (uz a slot i ep) Q E s:=by
 unfold uz;refine vA (vt go gd gf ?_)
 dsimp only
 refine vA (q2T ?_);rw[hB];refine vi (λ_=>?_) (λz=>vN rfl z);refine vi (λz=>vN z (by simp)) (λ_=>?_);exact vA (qdd go gd gf hB (vH h))
theorem qb7{it:vF}{f:vB}{i:Nat}{a:vF}{n ep:Nat}{Q:vB->vC->Prop}(e:s.heap.get? it=some (XU f i a n ep))(h:Q (.ref it) s):vL (model prog w) A (sR (.ref it)) Q E s:=by
 have hT:s.TypeIs (.ref it) "set_iterator" := ⟨_,e,rfl⟩;refine wpAny_pyIter_slot hT F.slotSetIt (vh F.slotSetIt hT F.entSetIt ?_ (F.argsSetIt _));show vL _ _ (ret (.ref it)) _ _ s;exact vH ⟨_,rfl, "set_iterator", _,hT,F.slotSetNext.lookup,h⟩
theorem qbM(hh:A.handled=none){I a:vF}(hne:a≠I){o:Obj}{es:Array (Int×vB)}{ep:Nat}{t:SetTable}(gd:o.data=.set es ep t)(gf:t.fits es.size=true)(slot:Nat->Nat)(val:Nat->vB)(hn:∀(i:Nat)(s:vC),i<es.size->s.heap.get? a=some o->∀A' Q' E',Q' (some (val i,slot (i+1))) s->vL (model prog w) A' (uz a (slot i) i ep) Q' E' s)(hz:∀(s:vC),s.heap.get? a=some o->∀A' Q' E',Q' none s->vL (model prog w) A' (uz a (slot es.size) es.size ep) Q' E' s):
  Walks prog w A I [I,a] [I] es.size (λi v=>v=val i) (λi h=>h.get? I=some (XU (.int (slot i) 0) i a es.size ep)/\h.get? a=some o) where
 sub:=λb hb=>by simp at hb;simp[hb]
 frame:=λ_ _ _ st hk=>⟨hk I (by simp) _ st.1,hk a (by simp) _ st.2⟩
 item:=λi s Q E hi st hQ=>by
  refine qd8 st.1 st.2 gd gf rfl (hn i s hi st.2) λh' e' sb=>?_;exact hQ _ h' s.toks rfl ⟨e',sb.extBut a o hne st.2⟩ λb u hb e=>sb.extBut b u (λz=>hb (by simp[z])) e
 done:=λs Q E st hQ=>qdW hh st.1 st.2 gd gf rfl (hz s st.2) λh' eb=>hQ h' s.toks λb u hb e=>eb b u (λz=>hb (by simp[z])) e
 self:=λ_ _ _ _ st hQ=>qb7 st.1 hQ
theorem qbt{it a tp:vF}{i n ep p:Nat}{o:Obj}{es:Array (Int×vB)}{t:SetTable}{x:Int×vB}{ps:Array vB}{ot:Obj}{nt:Nat}{Q:Option vB->vC->Prop}(e:s.heap.get? it=some (XU (.ref tp) i a n ep))(go:s.heap.get? a=some o)(gd:o.data=.set es ep t)(gf:t.fits es.size=true)(hn:es.size=n)(gt:s.heap.get? tp=some ot)(gtd:ot.data=.seq ps nt)(hp:ps[i]?=some (.int p 0))(hx:es[p]?=some x)(k:∀h',h'.get? it=some (XU (.ref tp) (i+1) a n ep)->y0 it s.heap h'->Q (some x.2) { s with heap:=h' }):
  vL (model prog w) A (uL (.ref it)) Q E s:=by
 have hT:s.TypeIs (.ref it) "set_iterator" := ⟨_,e,rfl⟩;unfold uL;refine vA (uU (wpAny_callSpecial?_slot (name:=Str.ofString "__next__") hT F.slotSetNext (vh F.slotSetNext hT F.entSetNext ?_ (F.argsSetNext _))));unfold Builtin.«set_iterator.__next__»;refine vA (m:=sF "__next__" 0 ⟨[.ref it],[]⟩) (vH ?_);refine vA (u5 e rfl ?_)
 dsimp only
 refine vA (q1k go gd gf ?_);rw[vJ (by rw[hn];simp)];refine vA (uf gt gtd ?_)
 dsimp only
 simp only[yH];rw[hp]
 dsimp only
 unfold setNextDrawn;refine vA (vA (vt go gd gf ?_))
 dsimp only
 refine vi (λz=>vN z (by simp)) (λ_=>?_);simp only[yH];rw[hx];refine vH ?_;refine vA (v9 e (by simp) λh1 e1 sb1=>?_);refine vH ⟨_,rfl,vH (k h1 ?_ sb1)⟩;rw[e1];simp[uO]
theorem qbZ{it a tp:vF}{i n ep:Nat}{o:Obj}{es:Array (Int×vB)}{t:SetTable}{ps:Array vB}{ot:Obj}{nt:Nat}{Q:Option vB->vC->Prop}(hh:A.handled=none)(e:s.heap.get? it=some (XU (.ref tp) i a n ep))(go:s.heap.get? a=some o)(gd:o.data=.set es ep t)(gf:t.fits es.size=true)(hn:es.size=n)(gt:s.heap.get? tp=some ot)(gtd:ot.data=.seq ps nt)(hp:ps[i]?=none)(k:∀h',Heap.ExtBut it s.heap h'->Q none { s with heap:=h' }):
  vL (model prog w) A (uL (.ref it)) Q E s:=by
 have hT:s.TypeIs (.ref it) "set_iterator" := ⟨_,e,rfl⟩;unfold uL;refine vA (uU (wpAny_callSpecial?_slot (name:=Str.ofString "__next__") hT F.slotSetNext (vh F.slotSetNext hT F.entSetNext ?_ (F.argsSetNext _))));unfold Builtin.«set_iterator.__next__»;refine vA (m:=sF "__next__" 0 ⟨[.ref it],[]⟩) (vH ?_);refine vA (u5 e rfl ?_)
 dsimp only
 refine vA (q1k go gd gf ?_);rw[vJ (by rw[hn];simp)];refine vA (uf gt gtd ?_)
 dsimp only
 simp only[yH];rw[hp]
 dsimp only
 refine vA (v9 e (by simp) λh1 e1 sb1=>?_);refine vA (v9 (s:={ s with heap:=h1 }) e1 (by simp) λh2 e2 sb2=>?_);show vL _ _ (newExc (.type "StopIteration") [] >>= λx=>sT x) _ _ _;refine vA ?_;simp only[newExc,newTuple];refine vA (vg ?_ (by size_fits));refine vA (m:=u6 _ _) (sN (a:=Value.none) (by first|rfl|(simp only[u6];rfl)) ?_);refine vg ?_ (by size_fits);simp only[sT];refine vA (wpAny_handled ?_);rw[show A.in1.handled=none from hh];refine vA (vH (wpAny_throw ?_));refine vA (ua (T := "StopIteration") (b:=true) ⟨_,zR _ rfl,rfl⟩ u7 ?_);exact vH (k _ (((sb1.trans sb2).extBut.push _).push _))
theorem qa7(hh:A.handled=none){I a tp:vF}(hne:a≠I)(htp:tp≠I){o:Obj}{es:Array (Int×vB)}{ep:Nat}{t:SetTable}(gd:o.data=.set es ep t)(gf:t.fits es.size=true){ot:Obj}{nt:Nat}(ord:List Nat)(hp:ord.Perm (zO es.size))(gtd:ot.data=.seq (ord.map λ(i:Nat)=>uO i).toArray nt):
  Walks prog w A I [I,a,tp] [I] es.size (λi v=>∃p x,ord[i]?=some p/\es[p]?=some x/\v=x.2) (λi h=>h.get? I=some (XU (.ref tp) i a es.size ep)/\h.get? a=some o/\h.get? tp=some ot) where
 sub:=λb hb=>by simp at hb;simp[hb]
 frame:=λ_ _ _ st hk=>⟨hk I (by simp) _ st.1,hk a (by simp) _ st.2.1,hk tp (by simp) _ st.2.2⟩
 item:=λi s Q E hi st hQ=>by
  have hl:ord.length=es.size:=by rw[hp.length_eq,zX]
  have ho:ord[i]?=some (ord[i]'∅):=zB _;have hlt:ord[i]'∅<es.size:=zw.mp (hp.mem_iff.mp (zk _));refine qbt (p:=ord[i]'∅) (x:=es[ord[i]'∅]) st.1 st.2.1 gd gf rfl st.2.2 gtd (by simp[uO,ho]) (by simp[hlt]) λh' e' sb=>?_;exact hQ _ h' s.toks ⟨_,_,ho,by simp[hlt],rfl⟩ ⟨e',sb.extBut a o hne st.2.1,sb.extBut tp ot htp st.2.2⟩ λb u hb e=>sb.extBut b u (λz=>hb (by simp[z])) e
 done:=λs Q E st hQ=>qbZ hh st.1 st.2.1 gd gf rfl st.2.2 gtd (by simp[hp.length_eq]) λh' eb=>hQ h' s.toks λb u hb e=>eb b u (λz=>hb (by simp[z])) e
 self:=λ_ _ _ _ st hQ=>qb7 st.1 hQ
end
end Hk
namespace PySem.F
theorem slotSetLen:tO (.type "set") "__len__" = pure (some (.builtin "set.__len__")):=by rw[uS,v8];kernel_rfl
theorem slotSetIter:Slot "set" "__iter__" "set.__iter__" := .of (owner := "set") (n := "__iter__") (by rw[uS,v8];kernel_rfl) ⋯ ⋯ ⋯ (by first|exact .inl ⋯|exact .inr ⋯) (by rw[u4];kernel_rfl)
theorem argsSetIter(a:vB):sS "set.__iter__" ⟨[a],[]⟩:=by
 unfold sS;kernel_rfl
end PySem.F
namespace Hk
open PySem PySem.Spec PyProof.Rows
noncomputable def slotAt(xs:Array Nat):Nat->Nat
 | 0=>0
 | i+1=>xs.toList.getD i 0+1
theorem q5L{xs:Array Nat}(h:Wo xs):∀i,i<=xs.size->SetTable.below xs (slotAt xs i)=i:=by
 intro i hi;obtain⟨h1,h2,h3⟩:=q8H h (slotAt xs i);have hz:xs.toList.length=xs.size:=zL;cases i with
 | zero=>
  rcases Nat.eq_zero_or_pos (SetTable.below xs (slotAt xs 0))with z|z
  ·exact z
  ·exact vN (h2 0 ∅ z) (xH _)
 | succ i=>
  have hlt:i<xs.toList.length:=∅
  have e:slotAt xs (i+1)=xs.toList[i]+1:=by
   show xs.toList.getD i 0+1=_;rw[zQ,zB hlt];rfl
  rw[e]at h2 h3 h1 ⊢;generalize SetTable.below xs (xs.toList[i]+1)=b at h1 h2 h3 ⊢;have a1:i<b:=by
   rcases zo i b with z|z
   ·exact z
   ·have:=h3 i hlt z;omega
  have a2:b<=i+1:=by
   rcases zo (i+1) b with z|z
   ·have y:=h2 (i+1) ∅ z
    have y':=q4P h hlt (show i+1<xs.toList.length by omega) (yW i);omega
   ·exact z
  omega
theorem qdN{val:Nat->vB}{n:Nat}{acc:Array vB}(h:ItemsOf (λi v=>v=val i) acc n):acc.toList=(zO n).map val:=by
 apply yY;intro i;rw[zZ,zK];rcases zo i n with z|z
 ·rw[yX z]
  have hz:i<acc.size:=by rw[h.1];exact z
  have:acc[i]?=some acc[i]:=zx hz;rw[this,h.2 i _ this];rfl
 ·rw[ze (by rw[zX];exact z),yi (by rw[h.1];exact z)];rfl
theorem q7D:∀{l:List (Int×vB)},(∀e∈l,X6 e)->uA (l.map (·.2)) (l.map λe=>vI e.2)
 | [],_=>.nil
 | e::r,h=>by
  obtain⟨x,t,rfl⟩:=h e zH;exact .cons _ _ (q7D λe he=>h e (zJ _ he))
section
variable{prog:vO}{w:vU}{A:vZ}{E:vB->vC->Prop}{s:vC}
theorem qeF{r:vF}{Q:Bool->vC->Prop}(hT:s.TypeIs (.ref r) "set")(h:Q false s):vL (model prog w) A (Builtin.List.listLengthHint (.ref r)) Q E s:=by
 unfold Builtin.List.listLengthHint;refine vA (uw hT F.slotSetLen ?_);generalize hid:("set.__len__" : String)=id0
 wp_delta
 rw[show splitId id0=some ("set", "__len__")from by subst hid;decide +kernel];subst hid;refine vA (ua (T := "set") (b:=true) hT (by rw[u4];kernel_rfl) ?_);refine vi (λhab=>vN hab (by decide)) (λ_=>?_);refine vi (λ_=>?_) (λhab=>vN ⋯ hab);refine vA (ue hT ?_);exact vH h
theorem qeo{a:vF}{xs:List Int}{Q:vB->vC->Prop}(S:WK s.heap a (Yx w) xs)(k:∀(h':vY)(d:Drawn)(I:vF)(fp:List vF)(P:Nat->vB->Prop)(St:Nat->vY->Prop),(∀b o,s.heap.get? b=some o->h'.get? b=some o)->s.heap.objs.size<=I->(∀b∈fp,b=a\/s.heap.objs.size<=b) ->
   (∀A:vZ,A.handled=none->Walks prog w A I fp [I] xs.length P St)->St 0 h'->(∀acc:Array vB,ItemsOf P acc xs.length->∃ys,uA acc.toList ys/\ys.Perm xs)->(∀b∈fp,b<h'.objs.size)->Q (.ref I) { s with heap:=h',drawn:=d }) :
  vL (model prog w) A (sR (.ref a)) Q E s:=by
 obtain⟨o,es,ep,t,go,gx,gd,T,gl,gb,gg,gv,gn⟩:=id S;have hl:es.size=xs.length:=by rw[<- gv,zA,zL]
 have hlt:a<s.heap.objs.size:=zN go;have hps:t.place.size=es.size:=by
  have:=T.fits;unfold SetTable.fits at this;simp only[zr,beq_iff_eq]at this;exact this.1
 have hT:s.TypeIs (.ref a) "set" := ⟨o,go,gx.1⟩;refine wpAny_pyIter_slot hT F.slotSetIter (vh F.slotSetIter hT F.entSetIter ?_ (F.argsSetIter _));unfold Builtin.«frozenset.__iter__» Builtin.Frozenset.slot0 Builtin.Frozenset.sizeOf;refine vA ?_;refine vA (m:=sF "__iter__" 0 ⟨[.ref a],[]⟩) (vH ?_);show vL _ _ (pure a) _ _ s;refine vH ?_;refine vA (vA (q1k go gd T.fits (vH ?_)));refine vA ?_;unfold setDrawn;refine vA (vt go gd T.fits ?_)
 dsimp only
 refine vA (q2T (vH ?_));have perm_ok:∀(l:List (Int×vB)),l.Perm es.toList->∃ys,uA (l.map (·.2)) ys/\ys.Perm xs:=λl p=>
  ⟨_,q7D λe he=>gg e (p.mem_iff.mp he),by rw[<- gv];exact p.map _⟩
 have slots:∀(slot:Nat->Nat)(l:List (Int×vB)),slot 0=0->l.Perm es.toList ->
   (∀(i:Nat)(s:vC),i<es.size->s.heap.get? a=some o->∀A' Q' E',Q' (some ((l.map (·.2)).getD i .none,slot (i+1))) s->vL (model prog w) A' (uz a (slot i) i ep) Q' E' s) ->
   (∀(s:vC),s.heap.get? a=some o->∀A' Q' E',Q' none s->vL (model prog w) A' (uz a (slot es.size) es.size ep) Q' E' s) ->
   Q (.ref s.heap.objs.size) { s with heap:=s.heap.push (XU (.int (slot 0:Nat) 0) 0 a es.size ep) }:=λslot l h0 p hn hz=>by
  have:=k (s.heap.push (XU (.int (slot 0:Nat) 0) 0 a es.size ep)) s.drawn s.heap.objs.size [s.heap.objs.size,a] (λi v=>v=(l.map (·.2)).getD i .none) (λi h=>h.get? s.heap.objs.size=some (XU (.int (slot i) 0) i a es.size ep)/\h.get? a=some o)
   (λb u e=>zD _ e) (zI _) (λb hb=>by
    simp only[zF,zh,or_false]at hb;rcases hb with rfl|rfl
    ·exact .inr (zI _)
    ·exact .inl rfl) (λA hh=>by rw[<- hl];exact qbM hh (zm hlt) gd T.fits slot _ hn hz) ⟨zR _ rfl,zD _ go⟩ (λacc hacc=>by
    rw[qdN hacc];obtain⟨ys,y1,y2⟩:=perm_ok l p;have e:(zO xs.length).map (λi=>(l.map (·.2)).getD i .none)=l.map (·.2):=by
     apply yY;intro i;have hll:l.length=xs.length:=by rw[p.length_eq,zL,hl]
     rw[zK];rcases zo i xs.length with z|z
     ·rw[yX z]
      show some ((l.map (·.2)).getD i .none)=_;rw[zQ,zB (by rw[zA,hll];exact z)];rfl
     ·rw[ze (by rw[zX];exact z),ze (by rw[zA,hll];exact z)];rfl
    rw[e];exact⟨ys,y1,y2⟩) (λb hb=>by
    rw[yP];simp only[zF,zh,or_false]at hb;rcases hb with rfl|rfl
    ·exact yW _
    ·exact yI hlt)
  exact this
 have getD_at:∀(l:List (Int×vB))(i:Nat)(e:Int×vB),l[i]?=some e->(l.map (·.2)).getD i .none=e.2:=λl i e h=>by
  rw[zQ,zK,h];rfl
 cases hB:w.params.followText "set-order" with
 | true=>
  refine vA (vH ?_);refine vA ?_;unfold setEpoch;refine vA (vt go gd T.fits (vH ?_));refine vA (vg (vH ⟨_,rfl, "set_iterator", _,⟨_,zR _ rfl,rfl⟩,F.slotSetNext.lookup,?_⟩));have pp:=qd3 (w.params.setOrder a ep) es;have hpl:(uo (w.params.setOrder a ep) es).size=es.size:=by rw[<- zL,pp.length_eq,zL]
  refine slots (λ_=>0) _ rfl pp (λi s hi go' A' Q' E' q=>?_) λs go' A' Q' E' q=>?_
  ·refine q7x go' gd T.fits hB ?_
   have hz:i<(uo (w.params.setOrder a ep) es).size:=by rw[hpl];exact hi
   rw[zx hz];have:=getD_at (uo (w.params.setOrder a ep) es).toList i (uo (w.params.setOrder a ep) es)[i] (by rw[zZ,zx hz]);rw[this]at q;exact q
  ·refine q7x go' gd T.fits hB ?_
   rw[yi (by rw[hpl];exact zI _)];exact q
 | false=>
  have led:t.led=true:=by rw[gl];unfold Yx;rw[hB];rfl
  cases hD:(!t.plain&&decide (es.size>1))with
  | false=>
   refine vi (λz=>vN ((show (!false&&(!t.plain&&decide (es.size>1)))=true from z)) (by rw[hD];decide)) (λ_=>?_);refine vA (vH ?_);refine vA ?_;unfold setEpoch;refine vA (vt go gd T.fits (vH ?_));refine vA (vg (vH ⟨_,rfl, "set_iterator", _,⟨_,zR _ rfl,rfl⟩,F.slotSetNext.lookup,?_⟩));refine slots (slotAt t.place) es.toList rfl (xP _) (λi s hi go' A' Q' E' q=>?_) λs go' A' Q' E' q=>?_
   ·refine q5Q go' gd T.fits hB led hD rfl ?_
    rw[q5L T.rise i ∅,zx hi,zx (show i<t.place.size by omega)];have:=getD_at es.toList i es[i] (by rw[zZ,zx hi]);rw[this]at q;have e2:slotAt t.place (i+1)=t.place[i]'∅+1:=by
     show t.place.toList.getD i 0+1=_;rw[zQ,zZ,zx (show i<t.place.size by omega)];rfl
    rw[e2]at q;exact q
   ·refine q5Q go' gd T.fits hB led hD rfl ?_
    rw[q5L T.rise es.size ∅,yi (zI _)];exact q
  | true=>
   refine vi (λ_=>?_) (λz=>vN (show (!false&&(!t.plain&&decide (es.size>1)))=true by rw[hD];rfl) z);refine vA (q4e es.size (zO es.size) _ _ zX λord d po=>?_);have hol:ord.length=es.size:=by rw[po.length_eq,zX]
   refine vA (u8 ?_ (by rw[zA,hol];exact yA (yL gb) (by decide)));refine vA ?_;unfold setEpoch;have go2:(s.heap.push { cls:=.type "tuple", data:=.seq (ord.map λ(i:Nat)=>uO i).toArray }).get? a=some o:=zD _ go;refine vA (vt go2 gd T.fits (vH ?_));refine vA (vg (vH ⟨_,rfl, "set_iterator", _,⟨_,zR _ rfl,rfl⟩,F.slotSetNext.lookup,?_⟩));have hs1:(s.heap.push { cls:=.type "tuple", data:=.seq (ord.map λ(i:Nat)=>uO i).toArray }).objs.size=s.heap.objs.size+1:=yP _ _;have ht1:(s.heap.push { cls:=.type "tuple", data:=.seq (ord.map λ(i:Nat)=>uO i).toArray }).get? s.heap.objs.size=some { cls:=.type "tuple", data:=.seq (ord.map λ(i:Nat)=>uO i).toArray }:=zR _ rfl;refine k _ d _ [(s.heap.push { cls:=.type "tuple", data:=.seq (ord.map λ(i:Nat)=>uO i).toArray }).objs.size,a,s.heap.objs.size] (λi v=>∃p x,ord[i]?=some p/\es[p]?=some x/\v=x.2)
    (λi h=>h.get? (s.heap.push { cls:=.type "tuple", data:=.seq (ord.map λ(i:Nat)=>uO i).toArray }).objs.size=some (XU (.ref s.heap.objs.size) i a es.size ep)/\h.get? a=some o/\h.get? s.heap.objs.size=some { cls:=.type "tuple", data:=.seq (ord.map λ(i:Nat)=>uO i).toArray }) (λb u e=>zD _ (zD _ e)) (by rw[hs1];exact yt _) (λb hb=>?_) (λA hh=>by
    rw[<- hl];exact qa7 (tp:=s.heap.objs.size) hh (by rw[hs1];exact zm (yI hlt)) (by rw[hs1];exact zm (yW _)) gd T.fits ord po rfl)
    ⟨zR _ rfl,zD _ go2,zD _ ht1⟩ (λacc hacc=>?_) (λb hb=>?_)
   ·simp only[zF,zh,or_false]at hb
    rcases hb with rfl|rfl|rfl
    ·exact .inr (by rw[hs1];exact yt _)
    ·exact .inl rfl
    ·exact .inr (zI _)
   ·have e:acc.toList=(ord.map λp=>es.toList.getD p (0,.none)).map (·.2):=by
     apply yY;intro i;rw[zZ,zK,zK];rcases zo i acc.size with z|z
     ·obtain⟨p,x,h1,h2,h3⟩:=hacc.2 i acc[i] (zx z)
      rw[zx z,h1,h3];show _=some (es.toList.getD p (0,.none)).2;rw[zQ,zZ,h2];rfl
     ·rw[yi z,ze (by rw[hol,hl,<- hacc.1];exact z)];rfl
    have p2:(ord.map λp=>es.toList.getD p (0,.none)).Perm es.toList:=by
     refine(po.map _).trans ?_;have:(zO es.size).map (λp=>es.toList.getD p (0,Value.none))=es.toList:=by
      apply yY;intro i;rw[zK];rcases zo i es.size with z|z
      ·rw[yX z]
       show some (es.toList.getD i (0,Value.none))=_;rw[zQ,zB (by rw[zL];exact z)];rfl
      ·rw[ze (by rw[zX];exact z),ze (by rw[zL];exact z)];rfl
     rw[this]
    rw[e];exact perm_ok _ p2
   ·rw[yP,hs1]
    simp only[zF,zh,or_false]at hb;rcases hb with rfl|rfl|rfl
    ·rw[hs1];exact yW _
    ·exact yI (yI hlt)
    ·exact yI (yW _)
end
section
variable{prog:vO}{w:vU}{A:vZ}{E:vB->vC->Prop}{s:vC}
theorem qbP{R:sK->vC->Prop}{a:vF}{xs:List Int}(hh:A.handled=none)(SI:WK s.heap a (Yx w) xs)(S:vF)(hSa:S≠a)(res:vB)(c₀:Nat)(hS:s.heap.get? S=some { cls:=.type "list", data:=.seq #[] c₀ })(hR:∀h' tk d acc' c',(∀b o,b≠S->s.heap.get? b=some o->h'.get? b=some o)->h'.get? S=some { cls:=.type "list", dict:=none,data:=.seq acc' c',slots:=#[] }->(∃ys,uA acc'.toList ys/\ys.Perm xs)->R (.ok (.ret res)) { s with heap:=h',toks:=tk,drawn:=d }):
  vL (model prog w) A.in1 (Builtin.List.listExtendWith (.ref S) (.ref a) res)
   (λfin s'=>match fin with|.done f=>R (.ok f) s'|.again c'=>c'.quiet=true/\uW (model prog w) A c' R s') (λe s'=>R (.error e) s') s:=by
 have hn:xs.length<=sizeLine:=yA (yL SI.len) (by decide);obtain⟨o,es,ep,t,go,gx,gd,T,gl,gb,gg,gv,gn⟩:=id SI;have hTy:∀h:vY,h.get? a=some o->Shared.TypeIs { s with heap:=h } (.ref a) "set" := λh e=>⟨o,e,gx.1⟩;unfold Builtin.List.listExtendWith;refine vA (ue (T := "set") ⟨o,go,gx.1⟩ ?_);have h1:Builtin.List.listSameRef (.ref S) (.ref a)=false:=by simp[Builtin.List.listSameRef,hSa]
 have h2:(Value.type "set" == Value.type "list")=false:=by decide
 have h3:(Value.type "set" == Value.type "tuple")=false:=by decide
 simp only[h1,h2,h3,xZ,yC,if_false];refine vA (qeo SI λh1 d I fp P St keep hI hfp W st items hlt=>?_);have hS1:h1.get? S=some { cls:=.type "list", data:=.seq #[] c₀ }:=keep _ _ hS;have hSlt:S<s.heap.objs.size:=zN hS;have hSf:S∉fp:=λhm=>by
  rcases hfp S hm with z|z
  ·exact hSa z
  ·exact vN hSlt (Z1.mpr z)
 have key:∀(h:vY)(c₁ tk:Nat),St 0 h->(∀b o,b≠S->s.heap.get? b=some o->h.get? b=some o) ->
   h.get? S=some { cls:=.type "list", data:=.seq #[] c₁ }->uW (model prog w) A (.builtin "list.extend.loop" ⟨[.ref S,.ref I,res],[]⟩) R { s with heap:=h,toks:=tk,drawn:=d }:=by
  intro h c₁ tk hst hk hS₁;refine codeAny_extend_loopS (W A.in1 hh).toS hn S hSf res xs.length 0 _ #[] c₁ rfl (zy _) hst hS₁ (ItemsOf.nil _) λs' acc' c' hm hS' hacc=>?_;rw[Moved.eq_with hm];refine hR s'.heap s'.toks d acc' c' (λb o hb e=>hm.heap b o (λhmem=>?_) (hk b o hb e)) hS' (items acc' hacc);rcases zF.mp hmem with e'|hmem
  ·exact hb e'
  ·exact vN (zN e) (by rw[zT.mp hmem];exact Z1.mpr hI)
 refine vA (ve (qeF ⟨o,keep _ _ go,gx.1⟩ ?_));refine vi (λ_=>?_) (λ_=>vH ⟨uJ PySem.F.plain_extend_loop _,key _ c₀ _ st (λb o _ e=>keep b o e) hS1⟩);refine vA (uP ?_);refine vA ?_;show vL _ _ (tL S (·.push .none) >>= λ_=>tL S (·.pop)) _ _ _;refine vA (uH hS1 rfl ?_);have hS₂:=ym (Obj.mapSeq (·.push Value.none)) hS1 rfl;refine uH (hz:=by seq_fits) hS₂ rfl ?_;have hS₃:=ym (Obj.mapSeq (·.pop)) hS₂ rfl;refine vH ⟨uJ PySem.F.plain_extend_loop _,key _ _ _ ?_ (λb o hb e=>?_) hS₃⟩
 ·refine(W A.in1 hh).frame 0 _ _ st λb hb o e=>?_
  have hbS:b≠S:=λh=>hSf (h▸hb);exact(zj _ _ (Ne.symm hbS)).trans ((zj _ _ (Ne.symm hbS)).trans e)
 ·exact(zj _ _ (Ne.symm hb)).trans ((zj _ _ (Ne.symm hb)).trans (keep b o e))
theorem q9T{R:List vB->vC->Prop}{a:vF}{xs:List Int}(hh:A.handled=none)(SI:WK s.heap a (Yx w) xs)(h:∀(h':vY)(tk:Nat)(d:Drawn)(vs:List vB)(ys:List Int),(∀b o,s.heap.get? b=some o->h'.get? b=some o)->s.heap.objs.size<h'.objs.size->uA vs ys->ys.Perm xs->R vs { s with heap:=h',toks:=tk,drawn:=d }):
  vL (model prog w) A (collect (.ref a)) R E s:=by
 obtain⟨o,es,ep,t,go,gx,gd,T,gl,gb,gg,gv,gn⟩:=id SI;have hlt:a<s.heap.objs.size:=zN go;unfold collect;refine vA (wpAny_runValue (uB entry_proto_collect' ?_));rw[Around.under_plainId PySem.F.plain_proto_collect _];show vL _ A.in1 (newList [] >>= λl=>again (.builtin "list.__iadd__" ⟨[l,.ref a],[]⟩)) _ _ s;refine vA (vg ?_);refine vH ⟨uJ PySem.F.plain_list_iadd _,uB entry_list_iadd' ?_⟩;rw[Around.under_plainId PySem.F.plain_list_iadd _];have hS₁:(s.heap.push { cls:=.type "list", data:=.seq ([]:List vB).toArray }).get? s.heap.objs.size=some { cls:=.type "list", data:=.seq #[] }:=zR _ rfl;show vL _ A.in1 (Builtin.List.listExtendWith (.ref s.heap.objs.size) (.ref a) (.ref s.heap.objs.size)) _ _ _;have key:=qbP (prog:=prog) (A:=A) (s:={ s with heap:=s.heap.push { cls:=.type "list", data:=.seq ([]:List vB).toArray } })
  (R:=λ(q:sK) (s':vC)=>∃(h':vY) (tk:Nat) (d:Drawn) (acc':Array vB) (c':Nat),q=.ok (.ret (.ref s.heap.objs.size))/\s'={ s with heap:=h',toks:=tk,drawn:=d } /\
   (∀b o,s.heap.get? b=some o->h'.get? b=some o)/\h'.get? s.heap.objs.size=some { cls:=.type "list", dict:=none,data:=.seq acc' c',slots:=#[] }/\∃ys,uA acc'.toList ys/\ys.Perm xs)
  hh (SI.at λo e=>zD _ e) s.heap.objs.size (xU hlt) (.ref s.heap.objs.size) 0 hS₁
  (λh' tk d acc' c' hk hS' hacc=>⟨h',tk,d,acc',c',rfl,rfl,λb o e=>hk b o (zm (zN e)) (zD _ e),hS',hacc⟩)
 refine vm key (λfin s' x=>?_) λe s' x=>?_
 ·cases fin with
  | done f=>
   obtain⟨h',tk,d,acc',c',e,rfl,hk,hS',ys,y1,y2⟩:=x;cases e;show vL _ A (load s.heap.objs.size >>= _) _ _ _;refine vA (wpAny_load hS' ?_);exact vH (h h' tk d _ ys hk (zN hS') y1 y2)
  | again c₁=>
   refine⟨x.1,uX x.2 λq s₂ y=>?_⟩;obtain⟨h',tk,d,acc',c',rfl,rfl,hk,hS',ys,y1,y2⟩:=y;show vL _ A (load s.heap.objs.size >>= _) _ _ _;refine vA (wpAny_load hS' ?_);exact vH (h h' tk d _ ys hk (zN hS') y1 y2)
 ·obtain⟨_,_,_,_,_,e',_⟩:=x
  cases e'
theorem qc9{a:vF}{xs:List Int}{Q:vB->vC->Prop}(hh:A.handled=none)(SI:WK s.heap a (Yx w) xs)(h64:xs.length<64)(h:∀(D:vF)(h':vY)(tk:Nat)(d:Drawn)(vs:List vB)(ys:List Int)(n:Nat),(∀b o,s.heap.get? b=some o->h'.get? b=some o)->s.heap.objs.size<=D->h'.get? D=some (vf "list" vs.toArray n)->uA vs ys->ys.Perm xs->ys.Pairwise (· <= ·)->Q (.ref D) { s with heap:=h',toks:=tk,drawn:=d }):
  vL (model prog w) A (call (.builtin "sorted") [.ref a]) Q E s:=by
 refine Calls.call_function_entry tY tS tT (sG _) ?_;unfold Builtin.«sorted»;refine vA (m:=sB "sorted" 1 1 _) (vH ?_);refine vA (q9T (A:=A.in1) hh SI λh1 tk d vs ys hk hz y1 y2=>?_);have hlen:vs.length=xs.length:=by rw[IntsAre.length y1,y2.length_eq]
 refine vA (ub ?_ (yA (by rw[hlen];exact yL h64) (by decide)));have hoL:(h1.push (vf "list" vs.toArray 0)).get? h1.objs.size=some (vf "list" vs.toArray 0):=zR _ rfl;refine vA (ve (vh slot_list_sort ⟨_,hoL,rfl⟩ entry_list_sort (list_sort_tree hoL y1 (by rw[hlen];exact h64) λout ns' a1 a2 a3=>⟨_,rfl,?_⟩) (tZ _)));obtain⟨n,hn⟩:=sortedHeap_at (vs:=vs) (out:=out) hoL;refine vH ⟨_,rfl,h h1.objs.size _ tk d out.toList ns' n (λb o e=>?_) ?_ ?_ a1 (a2.trans y2) a3⟩
 ·have e1:=hk b o e
  rw[sortedHeap_old (zm (zN e1)) (by rw[yP];exact yI (zN e1))];exact zD _ e1
 ·exact yL hz
 ·rw[xR];exact hn
end
end Hk
namespace L2
open PySem PySem.Spec PyProof.Rows
noncomputable def Xh(names:List (Str×uR))(cells:List (Str×vF))(cs:List (Str×vF)):List (Str×vF) :=
 match names with
 | []=>cs
 | p::r=>Xh r cells (if p.2 == .free then (p.1,(cells.lookup p.1).getD 0)::cs else cs)
theorem q40{scope:uk}{env:Env}(h:∀p∈scope.names,p.2=NameKind.free->(env.cells.lookup p.1).isSome=true):
  closureFor scope env=pure (Xh scope.names env.cells []):=by
 simp only[closureFor];generalize scope.names=l at h ⊢;have key:∀(l:List (Str×uR))(cs:List (Str×vF)),(∀p∈l,p.2=NameKind.free->(env.cells.lookup p.1).isSome=true) ->
   (forIn l cs (λ(p:Str×uR) (r:List (Str×vF))=>if (p.2==NameKind.free)=true then (do let a <- cellOf env p.1;pure (ForInStep.yield ((p.1,a)::r)))else pure (ForInStep.yield r)):Sem _)=pure (Xh l env.cells cs):=by
  intro l
  induction l with
  | nil=>intro cs _;rfl
  | cons p r ih=>
   intro cs hp;rw[wp];have hr:=λq hq=>hp q (zJ _ hq)
   by_cases hf:p.2=NameKind.free
   ·have hs:=hp p zH hf
    obtain⟨a,ha⟩:=ya.mp hs;have e:cellOf env p.1=pure a:=by unfold cellOf;rw[ha]
    have hb:(p.2==NameKind.free)=true:=by rw[hf];rfl
    rw[vG hb,e,pure_bind,pure_bind];show forIn r _ _=_;rw[ih _ hr];show _=pure (Xh r env.cells (if p.2 == .free then _ else _));rw[vG hb,ha];rfl
   ·have hb:¬(p.2==NameKind.free)=true:=by intro z;exact hf (by cases hk:p.2 <;> simp_all)
    rw[vJ hb,pure_bind];show forIn r _ _=_;rw[ih _ hr];show _=pure (Xh r env.cells (if p.2 == .free then _ else _));rw[vJ hb]
 rw[key l [] h];rfl
theorem qaS{k:uR}(h:(k==NameKind.free)=true):k=NameKind.free:=by cases k <;> first|rfl|cases h
theorem q4n{cells:List (Str×vF)}:∀(l:List (Str×uR))(cs:List (Str×vF)),(∀p∈l,p.2=NameKind.free->(cells.lookup p.1).isSome=true) ->
  (∀x c,cs.lookup x=some c->cells.lookup x=some c)->∀x c,(Xh l cells cs).lookup x=some c->cells.lookup x=some c
 | [],cs,_,h,x,c,e=>h x c e
 | p::r,cs,hp,h,x,c,e=>by
  refine q4n r _ (λq hq=>hp q (zJ _ hq)) (λy d hy=>?_) x c e
  by_cases hb:(p.2==NameKind.free)=true
  ·rw[vG hb,yp]at hy
   cases hyp:y==p.1 with
   | true=>
    rw[hyp]at hy;have hy':(cells.lookup p.1).getD 0=d:=zn hy;obtain⟨a,ha⟩:=ya.mp (hp p zH (qaS hb));rw[ha]at hy';rw[eq_of_beq hyp,ha,<- hy'];rfl
   | false=>rw[hyp]at hy;exact h y d hy
  ·rw[vJ hb]at hy;exact h y d hy
theorem q4t{cells:List (Str×vF)}:∀(l:List (Str×uR))(cs:List (Str×vF))(x:Str),((x,NameKind.free)∈l\/(cs.lookup x).isSome=true)->((Xh l cells cs).lookup x).isSome=true
 | [],cs,x,h=>by
  rcases h with h|h
  ·cases h
  ·exact h
 | p::r,cs,x,h=>by
  refine q4t r _ x ?_;rcases h with h|h
  ·rcases zF.mp h with rfl|h
   ·right
    show (List.lookup x (if (NameKind.free==NameKind.free)=true then _ else _)).isSome=true;rw[vG (by rfl),yp,beq_self_eq_true];rfl
   ·exact .inl h
  ·right
   by_cases hb:(p.2==NameKind.free)=true
   ·rw[vG hb,yp]
    cases hx:x==p.1 with
    | true=>rfl
    | false=>exact h
   ·rw[vJ hb];exact h
noncomputable def Y8(X:Cx)(N:List Str)(scope:uk)(C:vF)(s:vC)(H:Hp)(fp:List vF):Cx :=
 { X with N:=N,s₀:=s,H₀:=H,env:=compEnvC scope (Xh scope.names X.env.cells []) C X.env,outer:=X.stack,stack:=X.stack,ex:=fp,fn:=λ_=>false,pn:=[],xe:=λ_ _=>False }
noncomputable def zAR(M:Nat)(frees:List Nat)(σ:St):St:=xl M none++frees.map λj=>(σ[j]?).getD none
structure BlkOk (X:Cx) (N:List Str) (M:Nat) (frees:List Nat) (scope:uk):Prop where
 kind:scope.kind=.function
 nocell:∀y∈scope.names,y.2≠.cell
 own:∀y∈scope.names,y.2=.local->scope.names.lookup y.1=some .local
 cells:∀p∈scope.names,p.2=NameKind.free->(X.env.cells.lookup p.1).isSome=true
 fr:∀(k:Nat)(x:Str),N[M+k]?=some x->∃j,frees[k]?=some j/\X.N[j]?=some x/\(X.env.kindOf x=some .cell\/X.env.kindOf x=some .free)/\scope.names.lookup x=some .free
 len:N.length=M+frees.length
theorem q2B{env:Env}{x:Str}:∀{names:List (Str×uR)}{k:uR},(∀y∈names,y.2≠.cell)->(k=.cell\/k=.free) ->
  (names.map λ(n,k)=>if (k==NameKind.free&&env.scope.kind == .function&&env.kindOf n==some .cell)then (n,NameKind.cell)else (n,k)).lookup x=some k->(x,NameKind.free)∈names
 | [],_,_,_,h=>by cases h
 | (n,k0)::r,k,hc,hk,h=>by
  have ih:=@q2B env x r k (λy hy=>hc y (zJ _ hy)) hk;rw[zi]at h
  by_cases hb:(k0==NameKind.free&&env.scope.kind == .function&&env.kindOf n==some .cell)=true
  ·have hf:k0=NameKind.free:=qaS (by rw[zr,zr]at hb;exact hb.1.1)
   dsimp only at h
   rw[vG hb,yp]at h;cases hx:x==n with
   | true=>rw[eq_of_beq hx,hf];exact zH
   | false=>rw[hx]at h;exact zJ _ (ih h)
  ·dsimp only at h
   rw[vJ hb,yp]at h;cases hx:x==n with
   | true=>
    rw[hx]at h;have e:k0=k:=zn h;have z:=hc (n,k0) zH;rw[eq_of_beq hx];rcases hk with rfl|rfl
    ·exact vN e z
    ·rw[e];exact zH
   | false=>rw[hx]at h;exact zJ _ (ih h)
theorem q4i{env:Env}{x:Str}:∀{names:List (Str×uR)},names.lookup x=some .free ->
  (names.map λ(n,k)=>if (k==NameKind.free&&env.scope.kind == .function&&env.kindOf n==some .cell)then (n,NameKind.cell)else (n,k)).lookup x=some .cell \/
  (names.map λ(n,k)=>if (k==NameKind.free&&env.scope.kind == .function&&env.kindOf n==some .cell)then (n,NameKind.cell)else (n,k)).lookup x=some .free
 | [],h=>by cases h
 | (n,k0)::r,h=>by
  have ih:=@q4i env x r;rw[zi]
  dsimp only
  rw[yp]at h
  by_cases hb:(k0==NameKind.free&&env.scope.kind == .function&&env.kindOf n==some .cell)=true
  ·rw[vG hb,yp]
   cases hx:x==n with
   | true=>exact .inl rfl
   | false=>rw[hx]at h;exact ih h
  ·rw[vJ hb,yp]
   cases hx:x==n with
   | true=>rw[hx]at h;exact .inr h
   | false=>rw[hx]at h;exact ih h
section
variable{X:Cx}{pins:List (vF×Obj)}{σ:St}{H:Hp}{s:vC}{N:List Str}{M:Nat}{frees:List Nat}{scope:uk}{fp:List vF}
theorem Inv.enter{h1:vY}{C D tk:Nat}{m1:Str->Option vB}(I:Inv X pins σ H s)(B:BlkOk X N M frees scope)(f:∀b∈fp,Xe X pins H b)(lt:∀b∈fp,b<s.heap.objs.size)(hC:s.heap.objs.size<C)(hD:s.heap.objs.size<=D)(hDC:C≠D)(k:∀b u,s.heap.get? b=some u->h1.get? b=some u)(hns:h1.Ns C m1)(hl:h1.get? D=some { cls:=.type "list", data:=.seq ([]:List vB).toArray }):
  Inv (Y8 X N scope C s H fp) [] (zAR M frees σ) (upd H D (.lst [])) { s with heap:=h1,toks:=tk }:=by
 have sub:=q4n (cells:=X.env.cells) scope.names [] B.cells (λx c e=>by cases e);have hfr:H D=none:=I.hok.fresh hD;have hfc:H C=none:=I.hok.fresh (yL hC);have clt:∀x c,(Xh scope.names X.env.cells []).lookup x=some c->c<s.heap.objs.size:=λx c e=>by
  obtain⟨v,q⟩:=I.cell x c (sub x c e);exact q.lt
 refine⟨⟨I.ok.mod,B.kind,I.ok.glob,I.ok.blt,yL hC,λx y c e1 e2=>I.ok.inj x y c (sub x c e1) (sub y c e2),λx hx=>?_,λx c e=>vN e (by intro z;cases z),I.ok.hd,I.ok.frames,.inl rfl,λb hb=>?_,I.bs,yA I.ok.bsz I.sz,λb o e hb=>?_,
  λb hb hf=>?_,I.stack,I.stkFree⟩,rfl,I.bare,Un.laid k hD hfr,⟨m1,hns,λi x v e1 e2 e3=>?_⟩,λx c e=>?_,?_,λx c e=>?_,λp hp=>vN (show p∈([]:List (vF×Obj))from hp) (by simp),I.hok.laid k hD ⟨zy _,[],0,.nil,hl⟩,?_⟩
 ·have hm:(x,NameKind.free)∈scope.names:=by
   rcases hx with hx|hx
   ·exact q2B B.nocell (.inl rfl) hx
   ·exact q2B B.nocell (.inr rfl) hx
  exact ya.mp (q4t scope.names [] x (.inl hm))
 ·exact⟨zm (Za (lt b hb) hC),λx c e=>(f b hb).2.2.2.2.1 x c (sub x c e)⟩
 ·rcases (f b hb).2.2.2.1 with z|z
  ·exact I.ok.noex b o e z
  ·exact vN (zp (zN e) (yA I.ok.bsz z)) (yv _)
 ·rcases zF.mp (I.stkSub b hf)with z|z
  ·exact(f b hb).2.1 z
  ·exact(f b hb).2.2.1 z
 ·have hi:M<=i:=by
   rcases zo i M with z|z
   ·unfold zAR at e2
    rw[zV ⇑z,yT,vG z]at e2;cases e2
   ·exact z
  obtain⟨q,rfl⟩:∃q,i=M+q:=⟨i-M,∅⟩;obtain⟨j,h1',h2',h3',h4'⟩:=B.fr q x e1;have ev:σ[j]?=some (some v):=by
   unfold zAR at e2;rw[zP (by simp),yZ,wV,zK,h1']at e2;cases e:σ[j]? with
   | none=>rw[yj,e]at e2;cases e2
   | some o=>rw[yj,e]at e2;exact e2
  obtain⟨m,hn,hl'⟩:=I.loc;have vis:Vis X.env.scope x:=by
   rcases h3' with z|z
   ·exact .inr (.inl z)
   ·exact .inr (.inr z)
  obtain⟨u,ru,lk⟩:=hl' j x v h2' ev vis;refine⟨u,ru,.inr ?_⟩;rcases lk with⟨z,_⟩|⟨_,c,ec,ic⟩
  ·rcases h3' with y|y <;> (rw[z]at y;cases y)
  ·obtain⟨c',ec'⟩:=ya.mp (q4t (cells:=X.env.cells) scope.names [] x (.inl (PySem.mem_of_lookup h4')))
   have:c'=c:=zn ((sub x c' ec').symm.trans ec);subst this;exact⟨q4i h4',c',ec',ic.keeps k⟩
 ·obtain⟨v,q⟩:=I.cell x c (sub x c e)
  exact⟨v,q.keeps k⟩
 ·show upd H D (.lst []) C=none
  rw[qc hDC];exact hfc
 ·show upd H D (.lst []) c=none
  rw[qc (zm (zp (clt x c e) hD))];exact I.freeC x c (sub x c e)
 ·show (zAR M frees σ).length=N.length
  unfold zAR;rw[zE,yZ,zA,B.len]
end
section
variable{prog:vO}{w:vU}{A:vZ}{R:sK->vC->Prop}{s:vC}
theorem qa8{elt target iter:vP}{ifs:List vP}{scope:uk}{pos:Pos}{it acc:vB}{env:Env}(J:Nat->vC->Prop)(turn:∀n s,J n s->vL (model prog w) A (uL it) (λr s1=>match r with
   | none=>R (.ok .next) s1
   | some v=>vL (model prog w) A (uv target it v) (λ_ s2=>vL (model prog w) A (assign target env v) (λ_ s3=>
     vL (model prog w) A (forIn ifs true λc r=>if r=true then do let ok <- sJ c env (eval c env);pure (ForInStep.yield ok)else pure (ForInStep.yield r)) (λok s4=>
      if ok=true then vL (model prog w) A (eval elt env) (λx s5=>vL (model prog w) A (call (.builtin "list.append") [acc,x]) (λ_ s6=>∃m,m<n/\J m s6) (λ_ _=>False) s5) (λ_ _=>False) s4
      else ∃m,m<n/\J m s4) (λ_ _=>False) s3) (λ_ _=>False) s2) (λ_ _=>False) s1) (λ_ _=>False) s)
  (n:Nat) (h:J n s):uW (model prog w) A (.compLoop (.ListComp elt [⟨target,iter,ifs,0⟩] scope pos) 0 it acc env) R s:=by
 refine codeAny_loop rfl J (λn s hJ=>?_) n h;show vL _ A ((compTurn (.ListComp elt [⟨target,iter,ifs,0⟩] scope pos) 0 it acc env).onRaise (λx=>do noteFrame x env;theTreesLotGoes x)) _ _ s;refine wpAny_noted (vm (Q:=λfin s'=>match fin with|.done f=>R (.ok f) s'|.again c'=>c'=.compLoop (.ListComp elt [⟨target,iter,ifs,0⟩] scope pos) 0 it acc env/\∃m,m<n/\J m s') ?_ (λ_ _ q=>q) λ_ _ (z:False)=>z.elim);rw[compTurn_list];refine vA (tH (vA (vm (turn n s hJ) (λr s1 h1=>?_) λ_ _ q=>q)));cases r with
 | none=>exact vH h1
 | some v=>
  refine vA (vm h1 (λ_ s2 h2=>vA (vm h2 (λ_ s3 h3=>vA (vm h3 (λok s4 h4=>?_) λ_ _ q=>q)) λ_ _ q=>q)) λ_ _ q=>q);cases ok with
  | false=>exact vH ⟨rfl,h4⟩
  | true=>exact vA (vA (vm h4 (λx s5 h5=>vA (vm h5 (λ_ s6 h6=>vH (vH ⟨rfl,h6⟩)) λ_ _ q=>q)) λ_ _ q=>q))
end
def PTs(X:Cx)(ifs:List vP)(t:TT):Prop :=
 ∀(pins:List (vF×Obj))(s:vC)(σ:St)(H:Hp)(Q:Bool->Hp->Prop),Inv X pins σ H s->t σ H Q ->
  vL (model X.prog X.w) X.A (forIn ifs true λc r=>if r=true then do let ok <- sJ c X.env (eval c X.env);pure (ForInStep.yield ok)else pure (ForInStep.yield r)) (TP X pins σ Q) X.xe s
theorem qaH{X:Cx}:PTs X [] (λ_ H Q=>Q true H):=λ_ _ _ H _ I q=>wpAny_tests_nil ⟨H,I,q⟩
theorem qfK{X:Cx}{c:vP}{t:TT}(h:PT X c t):PTs X [c] t:=λpins s σ H Q I q=>wpAny_tests_one (h pins s σ H Q I q)
noncomputable def zAc(M:Nat)(frees:List Nat)(wi:TI)(g:TG)(tc:TT)(te:TE):TE:=λσ H Q=>wi σ H λJ H1=>∀D,H1 D=none ->
 ∃W:Nat->Nat->St->Hp->Prop,(∃m,W 0 m (zAR M frees σ) (upd H1 D (.lst [])))/\∀i m σ' H',W i m σ' H' ->
  (J.stop i H'/\Q (.ref D) H')\/(J.go i H'/\∀x H2,J.yld i H' x H2->g x σ' H2 λσ2 H3=>tc σ2 H3 λb H4=>
   if b=true then te σ2 H4 λv H5=>∃acc,H5 D=some (.lst acc)/\acc.length<sizeLine/\∃m',m'<m/\W (i+1) m' σ2 (upd H5 D (.lst (acc++[v])))
   else ∃m',m'<m/\W (i+1) m' σ2 H4)
section
variable{X:Cx}{N:List Str}{M:Nat}{frees:List Nat}{scope:uk}{tg iter elt:vP}{ifs:List vP}{pos:Pos}{wi:TI}{g:TG}{tc:TT}{te:TE}
theorem q9q(hc:X.calm=true)(B:BlkOk X N M frees scope)(hb:∀C s H fp,PG (Y8 X N scope C s H fp) tg g/\PTs (Y8 X N scope C s H fp) ifs tc/\PE (Y8 X N scope C s H fp) elt te){pins:List (vF×Obj)}{σ:St}{Q:VK}{s2:vC}{itv:vB}{E:vB->vC->Prop}{RR:vB->vF->sK->vC->Prop}(h2:PIE X pins σ tg (λJ H1=>∀D,H1 D=none ->
   ∃W:Nat->Nat->St->Hp->Prop,(∃m,W 0 m (zAR M frees σ) (upd H1 D (.lst [])))/\∀i m σ' H',W i m σ' H' ->
    (J.stop i H'/\Q (.ref D) H')\/(J.go i H'/\∀x H2,J.yld i H' x H2->g x σ' H2 λσ2 H3=>tc σ2 H3 λb H4=>
     if b=true then te σ2 H4 λv H5=>∃acc,H5 D=some (.lst acc)/\acc.length<sizeLine/\∃m',m'<m/\W (i+1) m' σ2 (upd H5 D (.lst (acc++[v])))
     else ∃m',m'<m/\W (i+1) m' σ2 H4)) itv s2)
  (hR:∀D C s' H' m,Inv X pins σ H' s'->Q (.ref D) H'->s'.heap.Ns C m->H' C=none->C≠X.env.locals->X.s₀.heap.objs.size<=C->(∀x c,X.env.cells.lookup x=some c->c≠C)->(∀p∈X.pn++pins,p.1≠C)->RR (.ref D) C (.ok .next) s') :
  vL (model X.prog X.w) X.A (newList []) (λacc s3=>vL (model X.prog X.w) X.A (newFunctionEnv scope X.env.globals (Xh scope.names X.env.cells []) [] X.env.qual none .none (some X.env)) (λcenv s4=>
   uW (model X.prog X.w) X.A (.compStart (.ListComp elt [⟨tg,iter,ifs,0⟩] scope pos) 0 itv acc { cenv with scope:=relabel scope X.env }) (RR acc cenv.locals) s4) E s3) E s2:=by
 obtain⟨it,fp,tn,J,H2,e,I2,T,st2,f2,q⟩:=h2;subst e;refine vg (wpAny_newFunctionEnv B.nocell (by intro y hy;simp at hy) (λh1 hns hsb=>?_) B.kind)
 dsimp only at hns hsb ⊢
 generalize hP:s2.heap.push { cls:=.type "list", dict:=none,data:=.seq ([]:List vB).toArray }=P1 at hns hsb ⊢;have hsz:P1.objs.size=s2.heap.objs.size+1:=by rw[<- hP,yP]
 have below:∀b,b<s2.heap.objs.size->b≠P1.objs.size:=λb z=>by rw[hsz];exact zm (yI z)
 have keep:∀b u,s2.heap.get? b=some u->h1.get? b=some u:=λb u z=>hsb.extBut b u (below b (zN z)) (zD _ (hP▸zD _ z));have hne:s2.heap.objs.size≠P1.objs.size:=by rw[hsz];exact zm (yW _)
 have hl:h1.get? s2.heap.objs.size=some { cls:=.type "list", data:=.seq ([]:List vB).toArray }:=hsb.extBut _ _ hne (zD _ (hP▸zR _ rfl));have lt2:∀b∈fp,b<s2.heap.objs.size:=λb z=>by
  obtain⟨o,eo,_⟩:=T.obj _ _ st2 b z;exact zN eo
 have hD0:H2 s2.heap.objs.size=none:=I2.hok.fresh (zI _);obtain⟨W,⟨m0,w0⟩,turn⟩:=q s2.heap.objs.size hD0;have I4:=I2.enter (N:=N) (M:=M) (frees:=frees) (scope:=scope) (fp:=fp) (h1:=h1) (C:=P1.objs.size) (D:=s2.heap.objs.size) (tk:=s2.toks+([]:List (Str×vB)).length) B f2 lt2 (by rw[hsz];exact yW _) (zI _) (Ne.symm hne) keep hns hl;have hcx:∀(C:vF),(Y8 X N scope C s2 H2 fp).calm=true:=λ_=>hc;have stat:∀{H':Hp},(∀b∈fp,H' b=none)->∀b∈fp,Xe (Y8 X N scope P1.objs.size s2 H2 fp) [] H' b:=λ{H'} hn b z=>by
  refine⟨hn b z,below b (lt2 b z),λy=>?_,.inl z,λx c y=>?_,λp y=>vN (show p∈([]:List (vF×Obj))from y) (by simp)⟩
  ·rcases zF.mp (I2.stkSub b y)with u|u
   ·exact(f2 b z).2.1 u
   ·exact(f2 b z).2.2.1 u
  ·exact(f2 b z).2.2.2.2.1 x c (q4n (cells:=X.env.cells) scope.names [] B.cells (λx c e=>by cases e) x c y)
 have fr4:∀b∈fp,(upd H2 s2.heap.objs.size (HO.lst [])) b=none:=λb z=>by
  rw[qc (zm (lt2 b z))];exact(f2 b z).1
 have st4:tn 0 h1:=T.keep _ _ _ st2 λb _ o z=>keep b o z;have fin:∀(s':vC)(σ':St)(H':Hp),Inv (Y8 X N scope P1.objs.size s2 H2 fp) [] σ' H' s'->Q (.ref s2.heap.objs.size) H'->RR (.ref s2.heap.objs.size) P1.objs.size (.ok .next) s':=λs' σ' H' I' q'=>by
  obtain⟨m,hm,_⟩:=I'.loc;have u':Un (frs X.stack) fp H2 H' s2.heap s'.heap:=I'.base;have I0:Inv X pins σ H' s':=I2.call' (ch:=fp) I'.os u' I'.hok I'.bare λb z=>⟨(f2 b z).2.2.2.1,(f2 b z).2.1,(f2 b z).2.2.2.2.1,(f2 b z).2.2.2.2.2⟩;refine hR _ _ s' H' m I0 q' hm I'.free (xU (zp I2.lt (by rw[hsz];exact yt _))) (yA I2.sz (by rw[hsz];exact yt _)) (λx c z=>?_) λp z=>?_
  ·obtain⟨v,y⟩:=I2.cell x c z
   exact below c y.lt
  ·exact below p.1 (zN (I2.pin p z).1)
 have loop:∀s4:vC,s4={ s2 with heap:=h1,toks:=s2.toks+([]:List (Str×vB)).length } ->
   uW (model X.prog X.w) X.A (.compLoop (.ListComp elt [⟨tg,iter,ifs,0⟩] scope pos) 0 (.ref it) (.ref s2.heap.objs.size) (compEnvC scope (Xh scope.names X.env.cells []) P1.objs.size X.env)) (RR (.ref s2.heap.objs.size) P1.objs.size) s4:=by
  rintro s4 rfl;refine qa8 (λn s'=>∃i σ' H',Inv (Y8 X N scope P1.objs.size s2 H2 fp) [] σ' H' s'/\tn i s'.heap/\(∀b∈fp,H' b=none)/\W i n σ' H') ?_ m0 ⟨0,_,_,I4,st4,fr4,w0⟩;rintro n s5 ⟨i,σ5,H5,I5,st5,fr5,w5⟩;rcases turn i n σ5 H5 w5 with⟨stop,qn⟩|⟨go,step⟩
  ·refine thn (T.done (Y8 X N scope P1.objs.size s2 H2 fp) rfl rfl rfl hc i [] s5 σ5 H5 _ I5 (stat fr5) st5 stop) λr s6 ⟨hr,I6⟩=>?_
   subst hr;exact fin s6 σ5 H5 I6 qn
  ·refine thn (T.item (Y8 X N scope P1.objs.size s2 H2 fp) rfl rfl rfl hc i [] s5 σ5 H5 _ I5 (stat fr5) st5 go) λr s6 ⟨u,hr,h6⟩=>?_
   subst hr;refine thn h6 λ_ s7 ⟨x,H7,I7,r7,y7,st7,fr7⟩=>?_;have I7':=I7.pinned (stat fr7) (T.obj _ _ st7);have B7:=hb P1.objs.size s2 H2 fp;refine thn (B7.1 _ s7 σ5 H7 x u _ I7' r7 (step x H7 y7)) λ_ s8 ⟨σ8,H8,I8,q8⟩=>?_;refine thn (B7.2.1 _ s8 σ8 H8 _ I8 q8) λok s9 ⟨H9,I9,q9⟩=>?_;have again:∀{σa:St}{Ha:Hp}{sa:vC},Inv (Y8 X N scope P1.objs.size s2 H2 fp) ([]++WI fp s7.heap) σa Ha sa->(∃m',m'<n/\W (i+1) m' σa Ha) ->
     ∃m,m<n/\∃i σ' H',Inv (Y8 X N scope P1.objs.size s2 H2 fp) [] σ' H' sa/\tn i sa.heap/\(∀b∈fp,H' b=none)/\W i m σ' H':=λ{σa Ha sa} Ia ⟨m',hm,wa⟩=>by
    refine⟨m',hm,i+1,σa,Ha,Ia.unpinned,T.keep _ _ _ st7 λb z o eo=>(Ia.pin (b,o) (zd _ (zd _ (q2e z eo)))).1,λb z=>?_,wa⟩;obtain⟨o,eo,d⟩:=T.obj _ _ st7 b z;exact(Ia.pin (b,o) (zd _ (zd _ (q2e z eo)))).2.1
   cases ok with
   | false=>exact again I9 q9
   | true=>
    rw[vG rfl];refine thn (B7.2.2 _ s9 σ8 H9 _ I9 q9) λy s10 ⟨v,H10,I10,r10,acc,ha,hz,m',hm,wn⟩=>?_;refine thn (q2R (X:=Y8 X N scope P1.objs.size s2 H2 fp) _ s10 σ8 H10 (.ref s2.heap.objs.size) [v] (.ref s2.heap.objs.size) [y] (λ_ Hn=>∃m',m'<n/\W (i+1) m' σ8 Hn) I10 rfl (.cons r10 .nil) ⟨_,acc,v,rfl,rfl,ha,hz,m',hm,wn⟩) λ_ s11 ⟨_,H11,I11,_,q11⟩=>?_;exact again I11 q11
 exact codeAny_compStart_list (loop _ rfl) (T.self _ 0 _ _ _ st4 (loop _ rfl))
theorem qg9(hc:X.calm=true)(B:BlkOk X N M frees scope)(hi:PI X tg iter wi)(hb:∀C s H fp,PG (Y8 X N scope C s H fp) tg g/\PTs (Y8 X N scope C s H fp) ifs tc/\PE (Y8 X N scope C s H fp) elt te)(hs:∀x,v7 iter X.env x=pure x:=by intro _;rfl):PE X (.ListComp elt [⟨tg,iter,ifs,0⟩] scope pos) (zAc M frees wi g tc te):=by
 intro pins s σ H Q I h;rw[eval_ListComp];refine tI (use:=none) rfl hs (q40 B.cells) B.kind B.own (vm (hi pins s σ H _ I h) (λv s1 h1=>vm h1 (λitv s2 h2=>?_) λ_ _ q=>q) λ_ _ q=>q);refine q9q (RR:=λacc C=>compPost (model X.prog X.w) X.A X.xe none (EP X pins σ Q) acc C) hc B hb h2 λD C s' H' m I' q' hm hC h1 h3 h4 h5=>?_;exact⟨m,hm,λh' hs'=>⟨.ref D,H',I'.turned (t':=s'.toks) (λb o z y=>hs'.extBut b o z y) hC h1 (.inr h3) h4 h5,rfl,q'⟩⟩
theorem qaO{i:Nat}{x:Str}{pos' spos:Pos}(hc:X.calm=true)(hN:X.N.Nodup)(hi':X.N[i]?=some x)(hx:X.env.scope.names.lookup x=some .local)(B:BlkOk X N M frees scope)(hi:PI X tg iter wi)(hb:∀C s H fp,PG (Y8 X N scope C s H fp) tg g/\PTs (Y8 X N scope C s H fp) ifs tc/\PE (Y8 X N scope C s H fp) elt te)(hsw:vv (.ListComp elt [⟨tg,iter,ifs,0⟩] scope pos) (some (.Name x pos')) spos.line X.env=pure true:=by rfl)(hs:∀x,v7 iter X.env x=pure x:=by intro _;rfl):PS X (.Assign [.Name x pos'] (.ListComp elt [⟨tg,iter,ifs,0⟩] scope pos) spos) (zBG (zAc M frees wi g tc te) (Xb i)):=by
 intro pins s σ H D I h;rw[exec_Assign_Name_used _ _ _ _ hsw];refine vA (tH (vA ?_));show vL _ X.A (do let _ <- comprehension (.ListComp elt [⟨tg,iter,ifs,0⟩] scope pos) scope X.env _ (newList []) false (eval iter X.env) (some (assign (.Name x pos') X.env))) _ _ s;refine vA (vm (tI (use:=some (assign (.Name x pos') X.env)) (Q:=λ_ s'=>SP X pins D .next s') rfl hs (q40 B.cells) B.kind B.own
  (vm (hi pins s σ H _ I h) (λv s1 h1=>vm h1 (λitv s2 h2=>?_) λ_ _ q=>q) λ_ _ q=>q)) (λ_ s' hq=>vH (vH hq)) λ_ _ q=>q)
 refine q9q (Q:=λy H1=>Xb i y σ H1 D.nx) (RR:=λacc C=>compPost (model X.prog X.w) X.A X.xe (some (assign (.Name x pos') X.env)) (λ_ s'=>SP X pins D .next s') acc C) hc B hb h2 λDd C s' H' m I' q' hm hC h1 h3 h4 h5=>?_;show vL _ X.A (assign (.Name x pos') X.env (.ref Dd)) _ _ _;refine wpAny_assign_Name (q7C I' hN hi' (.inl hx) (v:=.ref Dd) (u:=.ref Dd) rfl (λs'' I'' ⟨a,hsb,ha⟩=>?_) (.inr hx));have hCa:C≠a:=by
  rcases ha with rfl|ha
  ·exact h1
  ·exact Ne.symm (h4 x a ha)
 refine⟨m,hm.sameBut hsb hCa,λh' hs'=>⟨_,H',I''.turned (t':=s''.toks) (λb o z y=>hs'.extBut b o z y) hC h1 (.inr h3) h4 h5,q'⟩⟩
end
end L2
namespace Hk
open PySem L2
inductive D where
 | non|bl (b:Bool)|int (i:Int)|str (x:Str)|lst (xs:List D)|tup (xs:List D)|scr (ns:List Int)|exc (c:Str)|dic (ks:List Int) (xs:List D)
noncomputable def kvsOf:List Int->List V->List (Key×V)
 | k::ks,v::vs=>(.inl k,v)::kvsOf ks vs
 | _,_=>[]
def excP(a C:vF)(h:vY):Prop:=∃o,h.get? a=some o/\o.cls=.ref C
mutual
def Rep(K:zC)(H:Hp):D->V->Prop
 | .non,v=>v=.non
 | .bl b,v=>v=.bl b
 | .int i,v=>v=.int i
 | .str x,v=>v=.str x
 | .lst ds,v=>∃a vs,v=.ref a/\H a=some (.lst vs)/\YQ K H ds vs
 | .tup ds,v=>∃a vs,v=.ref a/\H a=some (.tup vs)/\YQ K H ds vs
 | .scr ns,v=>∃a,v=.ref a/\SqL K H a (ns.map V.int)
 | .exc c,v=>∃a C,v=.ref a/\yK K vQ c=some (some (.ref C))/\H a=some (.ext (excP a C))
 | .dic ks ds,v=>∃a vs,v=.ref a/\(∃o,H a=some (.frz o (.dK (kvsOf ks vs))))/\ks.length=ds.length/\YQ K H ds vs
def YQ(K:zC)(H:Hp):List D->List V->Prop
 | [],vs=>vs=[]
 | d::ds,vs=>∃v r,vs=v::r/\Rep K H d v/\YQ K H ds r
end
mutual
theorem Rep.mono{K:zC}{H H':Hp}(e:YX H H'):∀{d:D}{v:V},Rep K H d v->Rep K H' d v
 | .non,_,h=>h
 | .bl _,_,h=>h
 | .int _,_,h=>h
 | .str _,_,h=>h
 | .lst _,_,⟨a,vs,h1,h2,h3⟩=>⟨a,vs,h1,e _ _ h2,YQ.mono e h3⟩
 | .tup _,_,⟨a,vs,h1,h2,h3⟩=>⟨a,vs,h1,e _ _ h2,YQ.mono e h3⟩
 | .scr _,_,⟨a,h1,h2⟩=>⟨a,h1,e.seq h2⟩
 | .exc _,_,⟨a,C,h1,h2,h3⟩=>⟨a,C,h1,h2,e _ _ h3⟩
 | .dic _ _,_,⟨a,vs,h1,⟨o,h2⟩,h4,h3⟩=>⟨a,vs,h1,⟨o,e _ _ h2⟩,h4,YQ.mono e h3⟩
theorem YQ.mono{K:zC}{H H':Hp}(e:YX H H'):∀{ds:List D}{vs:List V},YQ K H ds vs->YQ K H' ds vs
 | [],_,h=>h
 | _::_,_,⟨v,r,h1,h2,h3⟩=>⟨v,r,h1,Rep.mono e h2,YQ.mono e h3⟩
end
section
variable{K:zC}{H:Hp}
theorem YQ.nil:YQ K H [] []:=rfl
theorem YQ.cons{d:D}{ds:List D}{v:V}{vs:List V}(h:Rep K H d v)(t:YQ K H ds vs):YQ K H (d::ds) (v::vs):=⟨v,vs,rfl,h,t⟩
theorem YQ.len:∀{ds:List D}{vs:List V},YQ K H ds vs->ds.length=vs.length
 | [],_,h=>by cases (show _=_ from h);rfl
 | _::_,_,⟨v,r,h1,_,h3⟩=>by rw[h1,zG,zG,YQ.len h3]
theorem YQ.app:∀{ds es:List D}{vs us:List V},YQ K H ds vs->YQ K H es us->YQ K H (ds++es) (vs++us)
 | [],_,_,_,h,t=>by cases (show _=_ from h);exact t
 | _::_,_,_,_,⟨v,r,h1,h2,h3⟩,t=>by rw[h1];exact⟨v,_,rfl,h2,YQ.app h3 t⟩
theorem YQ.get:∀{ds:List D}{vs:List V}{i:Nat}{d:D},YQ K H ds vs->ds[i]?=some d->∃v,vs[i]?=some v/\Rep K H d v
 | [],_,_,_,_,e=>by simp at e
 | _::_,_,0,_,⟨v,r,h1,h2,h3⟩,e=>by simp at e;subst e;rw[h1];exact⟨v,rfl,h2⟩
 | _::_,_,i+1,d,⟨v,r,h1,h2,h3⟩,e=>by
  obtain⟨u,e1,e2⟩:=YQ.get (i:=i) (d:=d) h3 ⇑e;exact⟨u,by rw[h1];simpa using e1,e2⟩
theorem YQ.take:∀{ds:List D}{vs:List V}(n:Nat),YQ K H ds vs->YQ K H (ds.take n) (vs.take n)
 | _,_,0,_=>rfl
 | [],_,_+1,h=>by cases (show _=_ from h);rfl
 | _::_,_,n+1,⟨v,r,h1,h2,h3⟩=>by rw[h1];exact⟨v,_,rfl,h2,YQ.take n h3⟩
theorem YQ.drop:∀{ds:List D}{vs:List V}(n:Nat),YQ K H ds vs->YQ K H (ds.drop n) (vs.drop n)
 | _,_,0,h=>h
 | [],_,_+1,h=>by cases (show _=_ from h);rfl
 | _::_,_,n+1,⟨v,r,h1,h2,h3⟩=>by rw[h1];exact YQ.drop n h3
theorem YQ.ints:∀(ns:List Int),YQ K H (ns.map D.int) (ns.map V.int)
 | []=>rfl
 | n::r=>⟨.int n,_,rfl,rfl,YQ.ints r⟩
theorem YQ.of_ints:∀{ns:List Int}{vs:List V},YQ K H (ns.map D.int) vs->vs=ns.map V.int
 | [],_,h=>h
 | n::r,_,⟨v,vs,h1,h2,h3⟩=>by
  have:=YQ.of_ints h3;have e:v=.int n:=h2;rw[h1,this,e];rfl
theorem YQ.one{d:D}{vs:List V}(h:YQ K H [d] vs):∃v,vs=[v]/\Rep K H d v:=by
 obtain⟨v,r,h1,h2,h3⟩:=h;cases (show r=[]from h3);exact⟨v,h1,h2⟩
theorem YQ.two{d e:D}{vs:List V}(h:YQ K H [d,e] vs):∃v u,vs=[v,u]/\Rep K H d v/\Rep K H e u:=by
 obtain⟨v,r,h1,h2,h3⟩:=h;obtain⟨u,rfl,h4⟩:=YQ.one h3;exact⟨v,u,h1,h2,h4⟩
end
structure Ext (G H G' H':Hp):Prop where
 gg:YX G G'
 gh:YX G' H'
 hh:YX H H'
 new:∀b,G b=none->H b≠none->G' b=none
theorem Ext.refl{G H:Hp}(h:YX G H):Ext G H G H:=⟨YX.refl _,h,YX.refl _,λ_ e _=>e⟩
theorem Ext.trans{G H G1 H1 G2 H2:Hp}(a:Ext G H G1 H1)(b:Ext G1 H1 G2 H2):Ext G H G2 H2:=by
 refine⟨a.gg.trans b.gg,b.gh,a.hh.trans b.hh,λc h1 h2=>?_⟩;have e1:=a.new c h1 h2;refine b.new c e1 λz=>h2 ?_;exact a.hh.free z
theorem Yq{H:Hp}{p:vF}(h:H p=none)(o:HO):YX H (upd H p o):=λb u q=>by rw[qc (q0m q h)];exact q
theorem WH{G H:Hp}{p:vF}(e:YX G H)(o:HO):YX (upd G p o) (upd H p o):=λb u q=>by
 by_cases z:b=p
 ·subst z;rw[qe]at q ⊢;exact q
 ·rw[qc z]at q ⊢;exact e b u q
theorem YW{G H:Hp}{p:vF}(e:YX G H)(h:G p=none)(o:HO):YX G (upd H p o):=λb u q=>by rw[qc (q0m q h)];exact e b u q
theorem Ext.lay{G H:Hp}{p:vF}(e:YX G H)(h:H p=none)(o:HO):Ext G H (upd G p o) (upd H p o):=by
 have g:G p=none:=e.free h;refine⟨Yq g o,WH e o,Yq h o,λb h1 h2=>?_⟩
 by_cases z:b=p
 ·subst z;exact vN h h2
 ·rw[qc z];exact h1
theorem Ext.hide{G H:Hp}{p:vF}(e:YX G H)(h:H p=none)(o:HO):Ext G H G (upd H p o) :=
 ⟨YX.refl _,YW e (e.free h) o,Yq h o,λ_ z _=>z⟩
inductive W where
 | sh (d:D)|ow (ds:List D)|od (ks:List Int) (ds:List D)|pw (ds:List D)
noncomputable abbrev WSt:=List (Option W)
structure Fr where
 hp:Hp
 pin:Nat->vF
noncomputable instance:CoeFun Fr λ_=>Hp:=⟨Fr.hp⟩
noncomputable instance:Coe Fr Hp:=⟨Fr.hp⟩
noncomputable def fr(H:Hp):Fr:=⟨H,λ_=>0⟩
def Y4(K:zC)(F:Fr)(G:Hp)(ω:WSt)(σ:St)(H:Hp):Prop:=∀(i:Nat)ds,ω[i]?=some (some (.pw ds))->∃vs,σ[i]?=some (some (.ref (F.pin i)))/\H (F.pin i)=some (.lst vs)/\G (F.pin i)=none/\F.hp (F.pin i)=none/\YQ K G ds vs /\
 (∀(j:Nat)es,ω[j]?=some (some (.pw es))->F.pin j=F.pin i->j=i)/\∀(j:Nat)es,ω[j]?=some (some (.ow es))->σ[j]?≠some (some (.ref (F.pin i)))
theorem Y4.keep{K:zC}{F:Fr}{G G':Hp}{ω:WSt}{σ:St}{H H':Hp}(o:Y4 K F G ω σ H)(e:Ext G H G' H'):Y4 K F G' ω σ H':=λi ds h=>by
 obtain⟨vs,h1,h2,h3,h4,h5,h6⟩:=o i ds h;exact⟨vs,h1,e.hh _ _ h2,e.new _ h3 (by rw[h2];exact λz=>by cases z),h4,h5.mono e.gg,h6⟩
theorem Y4.no{K:zC}{F:Fr}{G:Hp}{ω:WSt}{σ:St}{H:Hp}(h:∀(i:Nat)ds,ω[i]?≠some (some (.pw ds))):Y4 K F G ω σ H:=λi ds e=>vN e (h i ds)
structure Own (K:zC) (G0:Hp) (H0:Fr) (G:Hp) (ω:WSt) (σ:St) (H:Hp):Prop where
 ext:Ext G0 H0.hp G H
 len:ω.length=σ.length
 sh:∀(i:Nat)d,ω[i]?=some ↥d->∃v,σ[i]?=some (some v)/\Rep K G d v
 ow:∀(i:Nat)ds,ω[i]?=some (some (.ow ds))->∃l vs,σ[i]?=some (some (.ref l))/\H l=some (.lst vs)/\G l=none/\H0 l=none/\YQ K G ds vs
 nd:∀(i j:Nat)ds es l,ω[i]?=some (some (.ow ds))->ω[j]?=some (some (.ow es))->σ[i]?=some (some (.ref l))->σ[j]?=some (some (.ref l))->i=j
 od:∀(i:Nat)ks ds,ω[i]?=some (some (.od ks ds))->∃p vs,σ[i]?=some (some (.ref p))/\H p=some (.dK (kvsOf ks vs))/\G p=none/\H0 p=none/\ks.length=ds.length/\YQ K G ds vs /\
  ∀(j:Nat)ks' es,ω[j]?=some (some (.od ks' es))->σ[j]?=some (some (.ref p))->i=j
 pw:Y4 K H0 G ω σ H
inductive R where
 | sh (d:D)|fr (ds:List D)|vw (ds:List D)
noncomputable def R.d:R->D
 | .sh d=>d
 | .fr ds=>.lst ds
 | .vw ds=>.lst ds
def zAk(K:zC)(H G' H':Hp):R->V->Prop
 | .sh d,v=>Rep K G' d v
 | .fr ds,v=>∃l vs,v=.ref l/\H l=none/\G' l=none/\H' l=some (.lst vs)/\YQ K G' ds vs
 | .vw ds,v=>∃l vs,v=.ref l/\H' l=some (.lst vs)/\YQ K G' ds vs
def Vw(K:zC)(G H:Hp)(d:D)(v:V):Prop:=Rep K G d v\/∃ds l vs,d=.lst ds/\v=.ref l/\H l=some (.lst vs)/\YQ K G ds vs
theorem Own.keep{K:zC}{G0:Hp}{H0:Fr}{G G':Hp}{ω:WSt}{σ:St}{H H':Hp}(o:Own K G0 H0 G ω σ H)(e:Ext G H G' H'):Own K G0 H0 G' ω σ H':=by
 refine⟨o.ext.trans e,o.len,λi d h=>?_,λi ds h=>?_,o.nd,λi ks ds h=>?_,o.pw.keep e⟩
 ·obtain⟨v,h1,h2⟩:=o.sh i d h
  exact⟨v,h1,h2.mono e.gg⟩
 ·obtain⟨l,vs,h1,h2,h3,h4,h5⟩:=o.ow i ds h
  exact⟨l,vs,h1,e.hh _ _ h2,e.new l h3 (by rw[h2];exact λz=>by cases z),h4,h5.mono e.gg⟩
 ·obtain⟨l,vs,h1,h2,h3,h4,h6,h5,h7⟩:=o.od i ks ds h
  exact⟨l,vs,h1,e.hh _ _ h2,e.new l h3 (by rw[h2];exact λz=>by cases z),h4,h6,h5.mono e.gg,h7⟩
theorem Own.gh{K:zC}{G0:Hp}{H0:Fr}{G:Hp}{ω:WSt}{σ:St}{H:Hp}(o:Own K G0 H0 G ω σ H):YX G H:=o.ext.gh
noncomputable abbrev FE:=WSt->Option R
noncomputable abbrev FD:=WSt->Option D
noncomputable abbrev FT:=WSt->Option Bool
noncomputable abbrev FA:=WSt->Option (List D)
def zBE(K:zC)(t:TE)(f:FE):Prop:=∀G0 H0 G ω σ H r(Q:VK),Own K G0 H0 G ω σ H->f ω=some r ->
 (∀v G' H',Ext G H G' H'->zAk K H G' H' r v->Q v H')->t σ H Q
def zBJ(K:zC)(t:TE)(f:FD):Prop:=∀G0 H0 G ω σ H d(Q:VK),Own K G0 H0 G ω σ H->f ω=some d ->
 (∀v G' H',Ext G H G' H'->Rep K G' d v->Q v H')->t σ H Q
def SimV(K:zC)(t:TE)(f:FD):Prop:=∀G0 H0 G ω σ H d(Q:VK),Own K G0 H0 G ω σ H->f ω=some d ->
 (∀v G' H',Ext G H G' H'->Vw K G' H' d v->Q v H')->t σ H Q
def Wc(K:zC)(t:TT)(f:FT):Prop:=∀G0 H0 G ω σ H b(Q:Bool->Hp->Prop),Own K G0 H0 G ω σ H->f ω=some b ->
 (∀G' H',Ext G H G' H'->Q b H')->t σ H Q
def SimA(K:zC)(t:TA)(f:FA):Prop:=∀G0 H0 G ω σ H ds(Q:List V->Hp->Prop),Own K G0 H0 G ω σ H->f ω=some ds ->
 (∀vs G' H',Ext G H G' H'->YQ K G' ds vs->Q vs H')->t σ H Q
def XE(X:Cx)(e:vP)(f:FE):Prop:=∃t,PE X e t/\zBE X.K t f
def XD(X:Cx)(e:vP)(f:FD):Prop:=∃t,PE X e t/\zBJ X.K t f
def XV(X:Cx)(e:vP)(f:FD):Prop:=∃t,PE X e t/\SimV X.K t f
def XT(X:Cx)(e:vP)(f:FT):Prop:=∃t,PT X e t/\Wc X.K t f
def XW(X:Cx)(e:vP)(f:FT):Prop:=∃t,PW X e t/\Wc X.K t f
def XA(X:Cx)(es:List vP)(f:FA):Prop:=(∃t,PA X es t/\SimA X.K t f)/\∀ω ds,f ω=some ds->ds.length=es.length
noncomputable def eOf(f:FD):FE:=λω=>(f ω).map R.sh
noncomputable def dOf(f:FE):FD:=λω=>match f ω with
 | ↥d=>some d
 | some (.fr ds)=>some (.lst ds)
 | _=>none
noncomputable def vOf(f:FE):FD:=λω=>(f ω).map R.d
section
variable{X:Cx}{e:vP}
theorem XD.toE{f:FD}(h:XD X e f):XE X e (eOf f):=by
 obtain⟨t,h1,h2⟩:=h;refine⟨t,h1,λG0 H0 G ω σ H r Q o e k=>?_⟩;unfold eOf at e;cases q:f ω with
 | none=>rw[q]at e;cases e
 | some d=>rw[q]at e;cases e;exact h2 G0 H0 G ω σ H d Q o q k
theorem XE.toD{f:FE}(h:XE X e f):XD X e (dOf f):=by
 obtain⟨t,h1,h2⟩:=h;refine⟨t,h1,λG0 H0 G ω σ H d Q o e k=>?_⟩;unfold dOf at e;cases q:f ω with
 | none=>rw[q]at e;cases e
 | some r=>
  rw[q]at e;cases r with
  | sh d'=>cases e;exact h2 G0 H0 G ω σ H _ Q o q k
  | fr ds=>
   cases e;refine h2 G0 H0 G ω σ H _ Q o q λv G' H' x ⟨l,vs,e1,e2,e3,e4,e5⟩=>?_;have s1:YX G' (upd G' l (.lst vs)):=Yq e3 _;refine k v (upd G' l (.lst vs)) H' ⟨x.gg.trans s1,λb u z=>?_,x.hh,λb z1 z2=>?_⟩ ⟨l,vs,e1,qe,e5.mono s1⟩
   ·by_cases hb:b=l
    ·subst hb;rw[qe]at z;rw[e4];exact z
    ·rw[qc hb]at z;exact x.gh b u z
   ·rw[qc (λhb=>z2 (by rw[hb];exact e2))];exact x.new b z1 z2
  | vw ds=>cases e
theorem XE.toV{f:FE}(h:XE X e f):XV X e (vOf f):=by
 obtain⟨t,h1,h2⟩:=h;refine⟨t,h1,λG0 H0 G ω σ H d Q o e k=>?_⟩;unfold vOf at e;cases q:f ω with
 | none=>rw[q]at e;cases e
 | some r=>
  rw[q]at e;have e':r.d=d:=zn e;subst e';refine h2 G0 H0 G ω σ H r Q o q λv G' H' x y=>k v G' H' x ?_;cases r with
  | sh d'=>exact .inl y
  | fr ds=>obtain⟨l,vs,e1,e2,e3,e4,e5⟩:=y;exact .inr ⟨ds,l,vs,rfl,e1,e4,e5⟩
  | vw ds=>obtain⟨l,vs,e1,e2,e3⟩:=y;exact .inr ⟨ds,l,vs,rfl,e1,e2,e3⟩
theorem XD.toV{f:FD}(h:XD X e f):XV X e f:=by
 obtain⟨t,h1,h2⟩:=h;exact⟨t,h1,λG0 H0 G ω σ H d Q o e k=>h2 G0 H0 G ω σ H d Q o e λv G' H' x y=>k v G' H' x (.inl y)⟩
end
noncomputable def YJ(i:Nat):FE:=λω=>match ω[i]? with
 | some ↥d=>↥d
 | some (some (.ow ds))=>some (.vw ds)
 | some (some (.pw ds))=>some (.vw ds)
 | _=>none
noncomputable def fC(d:D):FD:=λ_=>some d
section
variable{X:Cx}
theorem zAH{e:vP}(i:Nat)(h:PE X e (Yz i)):XE X e (YJ i):=by
 refine⟨_,h,λG0 H0 G ω σ H r Q o e k=>?_⟩;unfold YJ at e;cases q:ω[i]? with
 | none=>rw[q]at e;cases e
 | some w=>
  rw[q]at e;cases w with
  | none=>cases e
  | some w=>
   cases w with
   | sh d=>
    cases e;obtain⟨v,h1,h2⟩:=o.sh i d q;exact⟨v,h1,k v G H (Ext.refl o.gh) h2⟩
   | ow ds=>
    cases e;obtain⟨l,vs,h1,h2,h3,h4,h5⟩:=o.ow i ds q;exact⟨_,h1,k _ G H (Ext.refl o.gh) ⟨l,vs,rfl,h2,h5⟩⟩
   | od ks ds=>cases e
   | pw ds=>
    cases e;obtain⟨vs,h1,h2,h3,h4,h5,_⟩:=o.pw i ds q;exact⟨_,h1,k _ G H (Ext.refl o.gh) ⟨_,vs,rfl,h2,h5⟩⟩
theorem xd_c{e:vP}{v:V}{d:D}(h:PE X e (tC v))(hr:∀K H,Rep K H d v):XD X e (fC d):=by
 refine⟨_,h,λG0 H0 G ω σ H r Q o e k=>?_⟩;cases e;exact k v G H (Ext.refl o.gh) (hr _ _)
theorem YK{i j pos}:XD X (.Constant (.int i) j pos) (fC (.int i)):=xd_c q0T λ_ _=>rfl
theorem Xw{b j pos}:XD X (.Constant (.bool b) j pos) (fC (.bl b)):=xd_c qi0 λ_ _=>rfl
end
theorem bnd{α β:Type}{o:Option α}{f:α->Option β}{r:β}(h:o.bind f=some r):∃a,o=some a/\f a=some r:=Option.bind_eq_some_iff.mp h
theorem mpd{α β:Type}{o:Option α}{f:α->β}{r:β}(h:o.map f=some r):∃a,o=some a/\f a=r:=xn.mp h
noncomputable def YS:FA:=λ_=>some []
noncomputable def YI(f:FD)(g:FA):FA:=λω=>(f ω).bind λd=>(g ω).map λds=>d::ds
section
variable{X:Cx}{e:vP}{es:List vP}
theorem YM:XA X [] YS:=⟨⟨_,qI,λG0 H0 G ω σ H ds Q o e k=>by cases e;exact k [] G H (Ext.refl o.gh) rfl⟩,λω ds e=>by cases e;rfl⟩
theorem YH{f:FD}{g:FA}(h:XD X e f)(hr:XA X es g)(hs:vK (e::es) X.env=(false,eval e X.env)::vK es X.env:=by rfl):XA X (e::es) (YI f g):=by
 obtain⟨t,h1,h2⟩:=h;obtain⟨⟨u,h3,h4⟩,h5⟩:=hr;refine⟨⟨_,qq h1 h3 hs,λG0 H0 G ω σ H ds Q o e k=>?_⟩,λω ds e=>?_⟩
 ·obtain⟨d,q,e⟩:=bnd e
  obtain⟨r,q2,e⟩:=mpd e;subst e;refine h2 G0 H0 G ω σ H d _ o q λv G1 H1 x1 y1=>?_;refine h4 G0 H0 G1 ω σ H1 r _ (o.keep x1) q2 λvs G2 H2 x2 y2=>?_;exact k _ G2 H2 (x1.trans x2) (YQ.cons (y1.mono x2.gg) y2)
 ·obtain⟨d,q,e⟩:=bnd e
  obtain⟨r,q2,e⟩:=mpd e;subst e;rw[zG,zG,h5 ω r q2]
noncomputable def zAi(g:FA):FD:=λω=>(g ω).map D.tup
noncomputable def WD(g:FA):FE:=λω=>(g ω).map R.fr
theorem W6{n:Nat}(h:n<=1000):n<=sizeLine:=yL (zAG h)
theorem Xl{x1 pos}{g:FA}(h:XA X es g)(hl:es.length<=1000:=by decide):XD X (.Tuple es x1 pos) (zAi g):=by
 obtain⟨⟨t,h1,h2⟩,h5⟩:=h;refine⟨_,qhC h1,λG0 H0 G ω σ H d Q o e k=>?_⟩;obtain⟨ds,q,e⟩:=mpd e;subst e;refine h2 G0 H0 G ω σ H ds _ o q λvs G1 H1 x1 y1=>⟨W6 (by rw[<- y1.len,h5 ω ds q];exact hl),λp hp=>?_⟩;have x2:=Ext.lay x1.gh hp (.tup vs);exact k _ _ _ (x1.trans x2) ⟨p,vs,rfl,qe,y1.mono x2.gg⟩
theorem Yo{pos}{g:FA}(h:XA X es g)(hl:es.length<=1000:=by decide):XE X (.List es pos) (WD g):=by
 obtain⟨⟨t,h1,h2⟩,h5⟩:=h;refine⟨_,q8x h1,λG0 H0 G ω σ H d Q o e k=>?_⟩;obtain⟨ds,q,e⟩:=mpd e;subst e;refine h2 G0 H0 G ω σ H ds _ o q λvs G1 H1 x1 y1=>⟨W6 (by rw[<- y1.len,h5 ω ds q];exact hl),λp hp=>?_⟩;have x2:=Ext.hide x1.gh hp (.lst vs);exact k _ _ _ (x1.trans x2) ⟨p,vs,rfl,x1.hh.free hp,x1.gh.free hp,qe,y1⟩
inductive O where
 | sh (d:D)|fr (ds:List D)
noncomputable def O.r:O->R
 | .sh d=>.sh d
 | .fr ds=>.fr ds
noncomputable def spD(K:zC)(n:Nat)(m:List D->Option O):Sp:=λvs H Q _=>∃G ds r,m ds=some r/\ds.length=n/\YX G H/\YQ K G ds vs/\∀v G' H',Ext G H G' H'->zAk K H G' H' r.r v->Q v H'
noncomputable def YR(m:List D->Option O)(g:FA):FE:=λω=>(g ω).bind λds=>(m ds).map O.r
theorem zAz{CX:CXT}{k:Nat}{f:vF}{fd:vM}{ps:List Str}{m:List D->Option O}{E:XK}{x:Str}{p pos:Pos}{g:FA}(F:FnOk X.prog X.w X.K X.mg X.base CX k f fd ps (spD X.K (e::es).length m))(hr:Room k X.A)(hg:Gl X x)(hm:X.mg x=some (.ref f))(hk:xD X.K (.ref f)=true)(hb:Binds X.K fd ps [])(hx:WW CX X E)(ha:XA X (e::es) g)(hdb:(x==("__debug__" : Str))=false:=by decide)(he:vK (e::es) X.env=(false,eval e X.env)::vK es X.env:=by rfl)(hpl:(vn pos (vK es X.env)).any (·.1)=false:=by rfl):
  XE X (.Call (.Name x p) (e::es) [] pos) (YR m g):=by
 obtain⟨⟨t,h1,h2⟩,h5⟩:=ha;refine⟨_,q3y F hr hg hm hk hb .nil hx h1 hdb he hpl,λG0 H0 G ω σ H r Q o e k=>?_⟩;obtain⟨ds,q,e⟩:=bnd e;obtain⟨r',q2,e⟩:=mpd e;subst e;refine h2 G0 H0 G ω σ H ds _ o q λvs G1 H1 x1 y1=>?_;refine⟨G1,ds,r',q2,h5 ω ds q,x1.gh,by rw[za];exact y1,λv G2 H2 x2 y2=>k v G2 H2 (x1.trans x2) ?_⟩;cases r' with
 | sh d=>exact y2
 | fr ds=>obtain⟨l,vs,e1,e2,e3⟩:=y2;exact⟨l,vs,e1,x1.hh.free e2,e3⟩
end
open PySem.Spec PyProof.Rows PySem.SeqAt PySem.MeetsSeq PySem.MeetsSeq2 PySem.MeetsSeq3 in
theorem q83{prog:vO}{w:vU}{A:vZ}{E:vB->vC->Prop}{s:vC}{t sl:vF}{items:Array vB}{vl vu:vB}{lo hi:Option Int}{Q:vB->vC->Prop}(ht:IsTup s.heap t items)(hs:s.heap.IsSliceOf sl vl vu .none)(pl:tN vl lo)(pu:tN vu hi)(hw:HT.sIx items.size 0 lo=0/\HT.sIx items.size items.size hi=items.size)(h:Q (.ref t) s):vL (model prog w) A (uy (.ref t) (.ref sl)) Q E s:=by
 obtain⟨os,hos,hcs,hds⟩:=id hs;have hTs:s.TypeIs (.ref sl) "slice" := ⟨os,hos,hcs⟩;unfold uy
 try with_reducible refine ve ?_
 first|refine vA (vH ?_)|skip
 refine vA (wpAny_sequenceKey ht.typeIs (by decide) ?_);refine vA (wpAny_callSpecial?_slot (name:=Str.ofString "__getitem__") ht.typeIs PyProof.Rows.slot_tuple_getitem
  (vh PyProof.Rows.slot_tuple_getitem ht.typeIs entry_tuple_getitem ?_ (sA _ _)))
 show vL _ _ (Builtin.Tuple.tupleItemsOf (.ref t) >>= _) _ _ s;refine vA (tupleItemsOf_ ht ?_);refine vA (ue hTs ?_);rw[vG (by decide)];refine vA (HT.q2m hs pl pu ?_);have hy:(((HT.sIx items.size 0 lo:Nat):Int)==0&&(1:Int)==1&&(HT.sIx items.size items.size hi-HT.sIx items.size 0 lo)==items.size)=true:=by
  rw[hw.1,hw.2];simp
 show vL _ _ (if (((HT.sIx items.size 0 lo:Nat):Int)==0&&(1:Int)==1&&(HT.sIx items.size items.size hi-HT.sIx items.size 0 lo)==items.size)=true then _ else _) _ _ s;rw[vG hy];have hb:∀{R:Bool->vC->Prop},R true s->vL (model prog w) A.in1 (Builtin.Tuple.tupleIsExact (.ref t)) R E s:=λr=>by
  unfold Builtin.Tuple.tupleIsExact;refine vA (ue ht.typeIs ?_);exact vH r
 refine vA (hb ?_);rw[vG rfl];refine vA (uP ?_);exact vH ⟨_,rfl,vH h⟩
section
variable{X:Cx}
def rSlW(K:zC):V->Option Int->Option Int->Hp->VK->Prop:=λx lo hi H Q=>∃a xs,x=.ref a/\SqT K H a xs /\
 (HT.sIx xs.length 0 lo=0/\HT.sIx xs.length xs.length hi=xs.length)/\Q (.ref a) H
theorem qfm:SlR X (rSlW X.K):=by
 intro pins s σ H x v vl vu lo hi sl Q I rx hs pl pu h;obtain⟨a,xs,rfl,hx,hw,q⟩:=h;cases rx;obtain⟨its,r,ht,hz⟩:=I.tuple hx;have hlen:its.toArray.size=xs.length:=by rw[zM];exact r.length.symm
 refine⟨"tuple", _,PyProof.Rows.slot_tuple_getitem.lookup,ht.typeIs,?_⟩;exact q83 ht hs pl pu (by rw[hlen];exact hw) ⟨.ref a,H,I,rfl,q⟩
end
theorem Vw.rep{K:zC}{G H:Hp}{d:D}{v:V}(h:Vw K G H d v)(e:YX G H):Rep K H d v:=by
 rcases h with h|⟨ds,l,vs,rfl,rfl,h1,h2⟩
 ·exact h.mono e
 ·exact⟨l,vs,rfl,h1,h2.mono e⟩
theorem Vw.keep{K:zC}{G H G' H':Hp}{d:D}{v:V}(h:Vw K G H d v)(e:Ext G H G' H'):Vw K G' H' d v:=by
 rcases h with h|⟨ds,l,vs,h0,h1,h2,h3⟩
 ·exact .inl (h.mono e.gg)
 ·exact .inr ⟨ds,l,vs,h0,h1,e.hh _ _ h2,h3.mono e.gg⟩
theorem Vw.lst{K:zC}{G H:Hp}{ds:List D}{v:V}(h:Vw K G H (.lst ds) v)(e:YX G H):∃a vs,v=.ref a/\H a=some (.lst vs)/\YQ K G ds vs:=by
 rcases h with⟨a,vs,h1,h2,h3⟩|⟨ds',l,vs,h0,h1,h2,h3⟩
 ·exact⟨a,vs,h1,e _ _ h2,h3⟩
 ·cases h0;exact⟨l,vs,h1,h2,h3⟩
theorem Vw.of_ne{K:zC}{G H:Hp}{d:D}{v:V}(h:Vw K G H d v)(n:∀ds,d≠.lst ds):Rep K G d v:=by
 rcases h with h|⟨ds',l,vs,h0,h1,h2,h3⟩
 ·exact h
 ·exact vN h0 (n _)
def VwA(K:zC)(G H:Hp):List D->List V->Prop
 | [],vs=>vs=[]
 | d::ds,vs=>∃v r,vs=v::r/\Vw K G H d v/\VwA K G H ds r
def SimVA(K:zC)(t:TA)(f:FA):Prop:=∀G0 H0 G ω σ H ds(Q:List V->Hp->Prop),Own K G0 H0 G ω σ H->f ω=some ds ->
 (∀vs G' H',Ext G H G' H'->VwA K G' H' ds vs->Q vs H')->t σ H Q
def XVA(X:Cx)(es:List vP)(f:FA):Prop:=∃t,PA X es t/\SimVA X.K t f
section
variable{X:Cx}{e:vP}{es:List vP}
theorem qh:XVA X [] YS:=⟨_,qI,λG0 H0 G ω σ H ds Q o e k=>by cases e;exact k [] G H (Ext.refl o.gh) rfl⟩
theorem qf{f:FD}{g:FA}(h:XV X e f)(hr:XVA X es g)(hs:vK (e::es) X.env=(false,eval e X.env)::vK es X.env:=by rfl):XVA X (e::es) (YI f g):=by
 obtain⟨t,h1,h2⟩:=h;obtain⟨u,h3,h4⟩:=hr;refine⟨_,qq h1 h3 hs,λG0 H0 G ω σ H ds Q o e k=>?_⟩;obtain⟨d,q,e⟩:=bnd e;obtain⟨r,q2,e⟩:=mpd e;subst e;refine h2 G0 H0 G ω σ H d _ o q λv G1 H1 x1 y1=>?_;refine h4 G0 H0 G1 ω σ H1 r _ (o.keep x1) q2 λvs G2 H2 x2 y2=>?_;exact k _ G2 H2 (x1.trans x2) ⟨v,vs,rfl,y1.keep x2,y2⟩
noncomputable def YO(op:D->D->Option R)(f g:FD):FE:=λω=>(f ω).bind λx=>(g ω).bind λy=>op x y
def OpV(K:zC)(r:R2)(op:D->D->Option R):Prop:=∀G H x y d v u(Q:VK),YX G H->op x y=some d->Vw K G H x v->Vw K G H y u ->
 (∀w G' H',Ext G H G' H'->zAk K H G' H' d w->Q w H')->r v u H Q
theorem q4F{r:R2}{o:D->D->Option R}{f g:FD}{t u:TE}(hd:OpV X.K r o)(h2:SimV X.K t f)(h4:SimV X.K u g):zBE X.K (tOp r t u) (YO o f g):=by
 intro G0 H0 G ω σ H d Q ow e k;obtain⟨x,q,e⟩:=bnd e;obtain⟨y,q2,e⟩:=bnd e;refine h2 G0 H0 G ω σ H x _ ow q λv G1 H1 x1 y1=>?_;refine h4 G0 H0 G1 ω σ H1 y _ (ow.keep x1) q2 λv2 G2 H2 x2 y2=>?_;refine hd G2 H2 x y d v v2 Q x2.gh e (y1.keep x2) y2 λw G3 H3 x3 z=>k w G3 H3 ((x1.trans x2).trans x3) ?_;cases d with
 | sh d=>exact z
 | fr ds=>obtain⟨l,vs,e1,e2,e3⟩:=z;exact⟨l,vs,e1,(x1.trans x2).hh.free e2,e3⟩
 | vw ds=>exact z
variable{a b:vP}{pos:Pos}{f g:FD}
theorem q3w{op:Operator}{r:R2}{o:D->D->Option R}(ho:OpR X (uQ op) r)(hd:OpV X.K r o)(ha:XV X a f)(hb:XV X b g):XE X (.BinOp a op b pos) (YO o f g):=by
 obtain⟨t,h1,h2⟩:=ha;obtain⟨u,h3,h4⟩:=hb;exact⟨_,qi8 ho h1 h3,q4F hd h2 h4⟩
theorem q5D{op:sD}{r:R2}{o:D->D->Option R}(ho:OpR X (uK op) r)(hd:OpV X.K r o)(ha:XV X a f)(hb:XV X b g)(hm:v6 op b=false):XE X (.Compare a [op] [b] pos) (YO o f g):=by
 obtain⟨t,h1,h2⟩:=ha;obtain⟨u,h3,h4⟩:=hb;exact⟨_,qgn ho h1 h3 hm,q4F hd h2 h4⟩
theorem qi5{r:R2}{o:D->D->Option R}(ho:IxR X r)(hd:OpV X.K r o)(ha:XV X a f)(hb:XV X b g)(hs:WN b):XE X (.Subscript a b pos) (YO o f g):=by
 obtain⟨t,h1,h2⟩:=ha;obtain⟨u,h3,h4⟩:=hb;exact⟨_,q3K ho h1 h3 hs,q4F hd h2 h4⟩
noncomputable def tOf(f:FE):FT:=λω=>match f ω with
 | ↥(.bl k)=>some k
 | _=>none
theorem qe1{t:TE}{f:FE}(h:zBE X.K t f):Wc X.K (tTest t) (tOf f):=by
 intro G0 H0 G ω σ H b Q o e k;unfold tOf at e;cases q:f ω with
 | none=>rw[q]at e;cases e
 | some r=>
  rw[q]at e;cases r with
  | sh d=>
   cases d with
   | bl c=>
    cases e;refine h G0 H0 G ω σ H _ _ o q λv G' H' x y=>?_;cases (show v=V.bl b from y);exact⟨b,rfl,k G' H' x⟩
   | _=>cases e
  | _=>cases e
theorem q9F{op:sD}{r:R2}{o:D->D->Option R}(ho:OpR X (uK op) r)(hd:OpV X.K r o)(ha:XV X a f)(hb:XV X b g)(hm:v6 op b=false):XT X (.Compare a [op] [b] pos) (tOf (YO o f g)):=by
 obtain⟨t,h1,h2⟩:=ha;obtain⟨u,h3,h4⟩:=hb;exact⟨_,qge ho h1 h3 hm,qe1 (q4F hd h2 h4)⟩
noncomputable def zAS(c:Int->Int->Bool)(g:Int->Int->D):D->D->Option R
 | .int i,.int j=>if c i j=true then ↥(g i j)else none
 | _,_=>none
theorem Vw.int{K:zC}{G H:Hp}{i:Int}{v:V}(h:Vw K G H (.int i) v):v=.int i:=h.of_ne (λ_ z=>by cases z)
theorem Vw.bl{K:zC}{G H:Hp}{i:Bool}{v:V}(h:Vw K G H (.bl i) v):v=.bl i:=h.of_ne (λ_ z=>by cases z)
theorem Vw.str{K:zC}{G H:Hp}{i:Str}{v:V}(h:Vw K G H (.str i) v):v=.str i:=h.of_ne (λ_ z=>by cases z)
theorem Vw.non{K:zC}{G H:Hp}{v:V}(h:Vw K G H .non v):v=.non:=h.of_ne (λ_ z=>by cases z)
theorem Vw.tup{K:zC}{G H:Hp}{ds:List D}{v:V}(h:Vw K G H (.tup ds) v):∃a vs,v=.ref a/\G a=some (.tup vs)/\YQ K G ds vs:=h.of_ne (λ_ z=>by cases z)
theorem Vw.scr{K:zC}{G H:Hp}{ns:List Int}{v:V}(h:Vw K G H (.scr ns) v):∃a,v=.ref a/\SqL K G a (ns.map V.int):=h.of_ne (λ_ z=>by cases z)
theorem q4O{K:zC}{C:Int->Int->Prop}{c:Int->Int->Bool}{gV:Int->Int->V}{g:Int->Int->D}(hc:∀i j,c i j=true->C i j)(hg:∀H i j,Rep K H (g i j) (gV i j)):OpV K (rI C gV) (zAS c g):=by
 intro G H x y d v u Q s e hx hy k;cases x with
 | int i=>
  cases y with
  | int j=>
   cases hx.int;cases hy.int;unfold zAS at e
   dsimp only at e
   by_cases z:c i j=true
   ·rw[vG z]at e
    cases e;exact⟨i,j,rfl,rfl,hc i j z,k _ G H (Ext.refl s) (hg _ i j)⟩
   ·rw[vJ z]at e;cases e
  | _=>cases e
 | _=>cases e
theorem q3O{K:zC}{gV:Int->Int->V}{g:Int->Int->D}(hg:∀H i j,Rep K H (g i j) (gV i j)):OpV K (rI0 gV) (zAS (λ_ _=>true) g):=by
 intro G H x y d v u Q s e hx hy k;cases x with
 | int i=>
  cases y with
  | int j=>
   cases hx.int;cases hy.int;cases e;exact⟨i,j,rfl,rfl,k _ G H (Ext.refl s) (hg _ i j)⟩
  | _=>cases e
 | _=>cases e
noncomputable def zAx(i j:Int):Bool:=(decide (-(2^64)<i)&&decide (i<2^64)) || (decide (-(2^64)<j)&&decide (j<2^64))
noncomputable def cDiv(_ j:Int):Bool:=decide (0<j)&&decide (j<1073741824)
noncomputable def cMod(_ j:Int):Bool:=decide (0<j)
noncomputable def cPow(i j:Int):Bool:=decide (0<=j)&&decide (j<=1000000)&&decide (i.natAbs<2^64)
noncomputable abbrev Wk:D->D->Option R:=zAS (λ_ _=>true) λi j=>.int (i-j)
noncomputable abbrev WS:D->D->Option R:=zAS zAx λi j=>.int (i*j)
noncomputable abbrev oDiv:D->D->Option R:=zAS cDiv λi j=>.int (i/j)
noncomputable abbrev oMod:D->D->Option R:=zAS cMod λi j=>.int (i%j)
noncomputable abbrev oPow:D->D->Option R:=zAS cPow λi j=>.int (i^j.toNat)
noncomputable abbrev oLt:D->D->Option R:=zAS (λ_ _=>true) λi j=>.bl (decide (i<j))
noncomputable abbrev oGe:D->D->Option R:=zAS (λ_ _=>true) λi j=>.bl (decide (j<=i))
noncomputable def Yw:D->D->Option R
 | .int i,.int j=>↥(.int (i+j))
 | .lst xs,.lst ys=>if xs.length+ys.length<=1000000 then some (.fr (xs++ys))else none
 | .tup [],.tup ys=>↥(.tup ys)
 | .tup (x::xs),.tup ys=>if (x::xs).length+ys.length<=1000000 then ↥(.tup ((x::xs)++ys))else none
 | _,_=>none
theorem q59{n:Nat}(h:n<=1000000):n<=sizeLine:=by rw[vX];omega
noncomputable def rCat0(K:zC):R2:=λx y H Q=>∃a b ys,x=.ref a/\y=.ref b/\SqT K H a []/\SqT K H b ys/\Q (.ref b) H
theorem qfV:OpR X (uQ .Add) (rCat0 X.K):=by
 intro pins s σ H x y v u Q I rx ry h;obtain⟨a,b,ys,rfl,rfl,ha,hb,q⟩:=h;cases rx;cases ry;obtain⟨its,r1,p1,_⟩:=I.tuple ha;obtain⟨its2,r2,p2,_⟩:=I.tuple hb;have e0:its=[]:=r1.nil_iff.mpr rfl;subst e0;obtain⟨⟨cls,dd,data,sl⟩,ho,hc,n,hd⟩:=id p1;obtain⟨⟨cls2,dd2,data2,sl2⟩,ho2,hc2,n2,hd2⟩:=id p2;simp only at hc hd hc2 hd2;subst hc hd hc2 hd2;exact PySem.concat_meets ⟨_,ho,rfl⟩ ⟨_,ho2,rfl⟩ PySem.noFill_tuple_add PySem.seq_tuple_add PySem.F.slot_tuple_add PySem.F.entry_tuple_add (PySem.F.args_tuple_add_2 _ _)
  (PyProof.Rows.tuple_addW0 a b _ its2.toArray n n2 dd dd2 sl sl2 (by simp)) ⟨ho,ho2,⟨.ref b,H,I,rfl,q⟩⟩
noncomputable def zAN(K:zC):R2:=λx y H Q=>rI0 (λi j=>.int (i+j)) x y H Q\/rCat x y H Q\/rCatT K x y H Q\/rCat0 K x y H Q
theorem qcW:OpR X (uQ .Add) (zAN X.K):=qgZ.or (qhh.or (qgC.or qfV))
theorem qgv{K:zC}:OpV K (zAN K) Yw:=by
 intro G H x y d v u Q s e hx hy k;cases x with
 | int i=>
  cases y with
  | int j=>
   cases hx.int;cases hy.int;cases e;exact .inl ⟨i,j,rfl,rfl,k _ G H (Ext.refl s) rfl⟩
  | _=>cases e
 | lst xs=>
  cases y with
  | lst ys=>
   unfold Yw at e
   dsimp only at e
   by_cases z:xs.length+ys.length<=1000000
   ·rw[vG z]at e
    cases e;obtain⟨a,vs,rfl,h1,h2⟩:=hx.lst s;obtain⟨b,us,rfl,h3,h4⟩:=hy.lst s;refine .inr (.inl ⟨a,b,vs,us,rfl,rfl,h1,h3,q59 (by rw[<- h2.len,<- h4.len];exact z),λp hp=>?_⟩);exact k _ G _ (Ext.hide s hp _) ⟨p,_,rfl,hp,s.free hp,qe,h2.app h4⟩
   ·rw[vJ z]at e;cases e
  | _=>cases e
 | tup xs=>
  cases y with
  | tup ys=>
   obtain⟨a,vs,rfl,h1,h2⟩:=hx.tup;obtain⟨b,us,rfl,h3,h4⟩:=hy.tup;cases xs with
   | nil=>
    cases e;have ev:vs=[]:=yu h2.len.symm;subst ev;exact .inr (.inr (.inr ⟨a,b,us,rfl,rfl,SqT.of (s _ _ h1),SqT.of (s _ _ h3),k _ G H (Ext.refl s) ⟨b,us,rfl,h3,h4⟩⟩))
   | cons x0 xs=>
    unfold Yw at e
    dsimp only at e
    by_cases z:(x0::xs).length+ys.length<=1000000
    ·rw[vG z]at e
     cases e;refine .inr (.inr (.inl ⟨a,b,vs,us,rfl,rfl,SqT.of (s _ _ h1),SqT.of (s _ _ h3),λw=>?_,q59 (by rw[<- h2.len,<- h4.len];exact z),λw=>?_,λ_ p hp=>?_⟩))
     ·have:=h2.len
      rw[w]at this;cases this
     ·have:=h4.len
      rw[w]at this;have ey:ys=[]:=yu this;subst ey;rw[za]at k;exact k _ G H (Ext.refl s) ⟨a,vs,rfl,h1,h2⟩
     ·have x2:=Ext.lay s hp (.tup (vs++us))
      exact k _ _ _ x2 ⟨p,_,rfl,qe,(h2.app h4).mono x2.gg⟩
    ·rw[vJ z]at e;cases e
  | _=>cases xs <;> cases e
 | _=>cases e
theorem qt(ha:XV X a f)(hb:XV X b g):XE X (.BinOp a .Add b pos) (YO Yw f g):=q3w qcW qgv ha hb
theorem q0x(ha:XV X a f)(hb:XV X b g):XE X (.BinOp a .Sub b pos) (YO Wk f g):=q3w qhl (q3O λ_ _ _=>rfl) ha hb
theorem mulOk{i j:Int}(h:zAx i j=true):CMul i j:=by
 unfold zAx at h;rw[Bool.or_eq_true,zr,zr,decide_eq_true_iff,decide_eq_true_iff,decide_eq_true_iff,decide_eq_true_iff]at h;exact h
theorem divOk{i j:Int}(h:cDiv i j=true):CDiv i j:=by
 unfold cDiv at h;rw[zr,decide_eq_true_iff,decide_eq_true_iff]at h;exact h
theorem powOk{i j:Int}(h:cPow i j=true):CPow i j:=by
 unfold cPow at h;rw[zr,zr,decide_eq_true_iff,decide_eq_true_iff,decide_eq_true_iff]at h;exact⟨h.1.1,h.1.2,h.2⟩
theorem q4p(ha:XV X a f)(hb:XV X b g):XE X (.BinOp a .Mult b pos) (YO WS f g):=q3w qh3 (q4O (λ_ _ h=>mulOk h) λ_ _ _=>rfl) ha hb
theorem q0d(ha:XV X a f)(hb:XV X b g):XE X (.BinOp a .FloorDiv b pos) (YO oDiv f g):=q3w qgJ (q4O (λ_ _ h=>divOk h) λ_ _ _=>rfl) ha hb
theorem qR(ha:XV X a f)(hb:XV X b g):XE X (.BinOp a .Mod b pos) (YO oMod f g):=q3w qhz (q4O (λ_ _ h=>of_decide_eq_true h) λ_ _ _=>rfl) ha hb
theorem qhu(ha:XV X a f)(hb:XV X b g):XE X (.BinOp a .Pow b pos) (YO oPow f g):=q3w qho (q4O (λ_ _ h=>powOk h) λ_ _ _=>rfl) ha hb
noncomputable def oNeg:D->Option R
 | .int i=>↥(.int (-i))
 | _=>none
noncomputable def zA1(f:FD):FE:=λω=>(f ω).bind oNeg
theorem q4h(ha:XV X a f):XE X (.UnaryOp .USub a pos) (zA1 f):=by
 obtain⟨t,h1,h2⟩:=ha;refine⟨_,qi6 qhO h1,λG0 H0 G ω σ H d Q ow e k=>?_⟩;obtain⟨x,q,e⟩:=bnd e;refine h2 G0 H0 G ω σ H x _ ow q λv G1 H1 x1 y1=>?_;cases x with
 | int i=>cases e;cases y1.int;exact⟨i,rfl,k _ G1 H1 x1 rfl⟩
 | _=>cases e
theorem qfz(ha:XV X a f)(hb:XV X b g):XE X (.Compare a [.Lt] [b] pos) (YO oLt f g):=q5D qfD (q3O λ_ _ _=>rfl) ha hb (X0 _)
theorem qi3(ha:XV X a f)(hb:XV X b g):XE X (.Compare a [.GtE] [b] pos) (YO oGe f g):=q5D qhR (q3O λ_ _ _=>rfl) ha hb (X0 _)
theorem qfA(ha:XV X a f)(hb:XV X b g):XT X (.Compare a [.Lt] [b] pos) (tOf (YO oLt f g)):=q9F qfD (q3O λ_ _ _=>rfl) ha hb (X0 _)
end
mutual
noncomputable def D.py:D->PyData
 | .non=>.none
 | .bl b=>.bool b
 | .int i=>.int i
 | .str x=>.str x
 | .lst xs=>.list (D.pys xs)
 | .tup xs=>.tuple (D.pys xs)
 | .scr ns=>.list (ns.map PyData.int)
 | .exc _=>.dict []
 | .dic _ _=>.dict []
noncomputable def D.pys:List D->List PyData
 | []=>[]
 | d::ds=>d.py::D.pys ds
end
section
variable{X:Cx}{pins:List (vF×Obj)}{σ:St}{H:Hp}{s:vC}
theorem Xx{h:vY}:∀{ns:List Int}{us:List vB},YZ (ns.map V.int) us->∃as,ReadsAll h us (ns.map PyData.int) as
 | [],_,r=>by cases r;exact⟨_,.nil⟩
 | n::ns,_,r=>by
  rw[zi]at r;cases r with
  | cons r1 r2=>
   obtain⟨t,rfl⟩:=r1;obtain⟨as,q⟩:=Xx (h:=h) r2;exact⟨_,.cons (.int n t) q⟩
mutual
theorem XQ(I:Inv X pins σ H s):∀{d:D}{v:V}{u:vB},d.py.canLay0=true->Rep X.K H d v->RelV v u->∃as,Reads s.heap u d.py as
 | .non,_,_,_,h,r=>by cases (show _=V.non from h);cases r;exact⟨_,.none⟩
 | .bl b,_,_,_,h,r=>by cases (show _=V.bl b from h);cases r;exact⟨_,.bool b⟩
 | .int i,_,_,_,h,r=>by cases (show _=V.int i from h);obtain⟨t,rfl⟩:=r;exact⟨_,.int i t⟩
 | .str x,_,_,_,h,r=>by cases (show _=V.str x from h);obtain⟨t,rfl⟩:=r;exact⟨_,.str x t⟩
 | .lst ds,_,_,hc,⟨a,vs,rfl,h2,h3⟩,r=>by
  cases r;obtain⟨its,n,rv,e,_⟩:=I.lst h2;obtain⟨as,q⟩:=Xg I (show PyData.canLayAll0 (D.pys ds)=true from hc) h3 rv;exact⟨_,.list e rfl rfl ⇑q⟩
 | .tup ds,_,_,hc,⟨a,vs,rfl,h2,h3⟩,r=>by
  cases r;obtain⟨its,rv,⟨o,e,c,n,dd⟩,_⟩:=I.tuple (SqT.of h2);obtain⟨as,q⟩:=Xg I (show PyData.canLayAll0 (D.pys ds)=true from hc) h3 rv;exact⟨_,.tuple e c dd ⇑q⟩
 | .exc _,_,_,hc,_,_=>by cases hc
 | .dic _ _,_,_,hc,_,_=>by cases hc
 | .scr ns,_,_,_,⟨a,rfl,h2⟩,r=>by
  cases r;obtain⟨its,rv,pl,_⟩:=I.list h2;obtain⟨o,e,c,n,dd⟩:=pl.isList;obtain⟨as,q⟩:=Xx (h:=s.heap) rv;exact⟨_,.list e c dd ⇑q⟩
theorem Xg(I:Inv X pins σ H s):∀{ds:List D}{vs:List V}{us:List vB},PyData.canLayAll0 (D.pys ds)=true->YQ X.K H ds vs->YZ vs us->∃as,ReadsAll s.heap us (D.pys ds) as
 | [],_,_,_,h,r=>by cases (show _=[]from h);cases r;exact⟨_,.nil⟩
 | d::ds,_,_,hc,⟨v,vr,h1,h2,h3⟩,r=>by
  have hc':=wx.mp (show (d.py.canLay0&&PyData.canLayAll0 (D.pys ds))=true from hc);subst h1;cases r with
  | cons r1 r2=>
   obtain⟨as,q1⟩:=XQ I hc'.1 h2 r1;obtain⟨bs,q2⟩:=Xg I hc'.2 h3 r2;exact⟨_,.cons q1 q2⟩
end
end
noncomputable def shp(d:D):Bool:=SeqAt.shaped d.py
noncomputable def eqD(x y:D):Bool:=PyData.eqv x.py y.py
noncomputable def rEqD(K:zC)(neg:Bool):R2:=λx y H Q=>∃d e,Rep K H d x/\Rep K H e y/\shp d=true/\shp e=true/\Q (.bl (if neg then !eqD d e else eqD d e)) H
noncomputable def oEq(neg:Bool):D->D->Option R:=λx y=>if shp x&&shp y then ↥(.bl (if neg then !eqD x y else eqD x y))else none
section
variable{X:Cx}{a b:vP}{pos:Pos}{f g:FD}
theorem zAt(hu:X.A.units+64<um):OpR X (uK .Eq) (rEqD X.K false):=by
 intro pins s σ H x y v u Q I rx ry h;obtain⟨d,e,h1,h2,h3,h4,q⟩:=h;obtain⟨as,ra⟩:=XQ I (SeqAt.canLay_of_shaped h3) h1 rx;obtain⟨bs,rb⟩:=XQ I (SeqAt.canLay_of_shaped h4) h2 ry;exact SeqAt.compareEq_shaped ra rb h3 h4 hu ⟨.bl _,H,I,rfl,q⟩
theorem op_neD(hu:X.A.units+64<um):OpR X (uK .NotEq) (rEqD X.K true):=by
 intro pins s σ H x y v u Q I rx ry h;obtain⟨d,e,h1,h2,h3,h4,q⟩:=h;obtain⟨as,ra⟩:=XQ I (SeqAt.canLay_of_shaped h3) h1 rx;obtain⟨bs,rb⟩:=XQ I (SeqAt.canLay_of_shaped h4) h2 ry;exact SeqAt.compareNe_shaped ra rb h3 h4 hu ⟨.bl _,H,I,rfl,q⟩
theorem W5{K:zC}{neg:Bool}:OpV K (rEqD K neg) (oEq neg):=by
 intro G H x y d v u Q s e hx hy k;unfold oEq at e
 by_cases z:(shp x&&shp y)=true
 ·rw[vG z]at e
  cases e;rw[zr]at z;exact⟨x,y,hx.rep s,hy.rep s,z.1,z.2,k _ G H (Ext.refl s) rfl⟩
 ·rw[vJ z]at e;cases e
theorem zA7(hu:X.A.units+64<um)(ha:XV X a f)(hb:XV X b g):XE X (.Compare a [.Eq] [b] pos) (YO (oEq false) f g):=q5D (zAt hu) W5 ha hb (X0 _)
theorem WL(hu:X.A.units+64<um)(ha:XV X a f)(hb:XV X b g):XT X (.Compare a [.Eq] [b] pos) (tOf (YO (oEq false) f g)):=q9F (zAt hu) W5 ha hb (X0 _)
theorem Wg(hu:X.A.units+64<um)(ha:XV X a f)(hb:XV X b g):XT X (.Compare a [.NotEq] [b] pos) (tOf (YO (oEq true) f g)):=q9F (op_neD hu) W5 ha hb (X0 _)
noncomputable def Y0:D->Bool
 | .non=>true
 | .bl _=>true
 | .int _=>true
 | .str _=>true
 | _=>false
noncomputable def D.v:D->V
 | .bl b=>.bl b
 | .int i=>.int i
 | .str x=>.str x
 | _=>.non
theorem X7{K:zC}{H:Hp}{d:D}{v:V}(h:Rep K H d v)(f:Y0 d=true):v=d.v/\Xv v=true:=by
 cases d with
 | non=>cases (show v=V.non from h);exact⟨rfl,rfl⟩
 | bl b=>cases (show v=V.bl b from h);exact⟨rfl,rfl⟩
 | int b=>cases (show v=V.int b from h);exact⟨rfl,rfl⟩
 | str b=>cases (show v=V.str b from h);exact⟨rfl,rfl⟩
 | _=>cases f
theorem Xm{K:zC}{H:Hp}:∀{ds:List D}{vs:List V},YQ K H ds vs->ds.all Y0=true->vs=ds.map D.v/\vs.all Xv=true
 | [],_,h,_=>by cases (show _=[]from h);exact⟨rfl,rfl⟩
 | d::ds,_,⟨v,r,h1,h2,h3⟩,f=>by
  rw[xK,zr]at f;obtain⟨e1,e2⟩:=X7 h2 f.1;obtain⟨e3,e4⟩:=Xm h3 f.2;subst h1;refine⟨by rw[zi,<- e1,<- e3],by rw[xK,e2,e4];rfl⟩
noncomputable def inD(x:D)(ds:List D):Bool:=inV x.v (ds.map D.v)
noncomputable def oIn(neg:Bool):D->D->Option R
 | x,.lst ys=>if Y0 x&&ys.all Y0 then ↥(.bl (if neg then !inD x ys else inD x ys))else none
 | x,.tup ys=>if Y0 x&&ys.all Y0 then ↥(.bl (if neg then !inD x ys else inD x ys))else none
 | _,_=>none
theorem opv_in{K:zC}{neg:Bool}:OpV K (rIn K neg) (oIn neg):=by
 intro G H x y d v u Q s e hx hy k;cases y with
 | lst ys=>
  unfold oIn at e
  dsimp only at e
  by_cases z:(Y0 x&&ys.all Y0)=true
  ·rw[vG z]at e
   cases e;rw[zr]at z;obtain⟨p,vs,rfl,h1,h2⟩:=hy.lst s;obtain⟨e1,e2⟩:=X7 (hx.rep s) z.1;obtain⟨e3,e4⟩:=Xm h2 z.2;refine⟨p,vs,rfl,.inl (SqL.of h1),e2,e4,?_⟩;rw[e1,e3];exact k _ G H (Ext.refl s) rfl
  ·rw[vJ z]at e;cases e
 | tup ys=>
  unfold oIn at e
  dsimp only at e
  by_cases z:(Y0 x&&ys.all Y0)=true
  ·rw[vG z]at e
   cases e;rw[zr]at z;obtain⟨p,vs,rfl,h1,h2⟩:=hy.tup;obtain⟨e1,e2⟩:=X7 (hx.rep s) z.1;obtain⟨e3,e4⟩:=Xm h2 z.2;refine⟨p,vs,rfl,.inr (SqT.of (s _ _ h1)),e2,e4,?_⟩;rw[e1,e3];exact k _ G H (Ext.refl s) rfl
  ·rw[vJ z]at e;cases e
 | _=>cases x <;> cases e
theorem xe_in(ha:XV X a f)(hb:XV X b g)(hm:v6 .In b=false:=by with_unfolding_all rfl):XE X (.Compare a [.In] [b] pos) (YO (oIn false) f g):=q5D qeb opv_in ha hb hm
noncomputable def oIx:D->D->Option R
 | .lst ds,.int i=>(atI ds i).map R.sh
 | .tup ds,.int i=>(atI ds i).map R.sh
 | .scr ns,.int i=>(atI ns i).map λn=>.sh (.int n)
 | _,_=>none
theorem Wa{K:zC}{H:Hp}{ds:List D}{vs:List V}{i:Int}{d:D}(h:YQ K H ds vs)(e:atI ds i=some d):∃v,atI vs i=some v/\Rep K H d v:=by
 unfold atI at e ⊢;rw[<- h.len];cases q:ixN ds.length i with
 | none=>rw[q]at e;cases e
 | some j=>
  rw[q]at e;obtain⟨v,e1,e2⟩:=h.get e;exact⟨v,e1,e2⟩
theorem zAh{ns:List Int}{i n:Int}(e:atI ns i=some n):atI (ns.map V.int) i=some (.int n):=by
 unfold atI at e ⊢;rw[zA];cases q:ixN ns.length i with
 | none=>rw[q]at e;cases e
 | some j=>
  rw[q]at e;have e':ns[j]?=some n:=e;show (ns.map V.int)[j]?=_;rw[zK,e'];rfl
theorem opv_ix{K:zC}:OpV K (rIx K) oIx:=by
 intro G H x y d v u Q s e hx hy k;cases y with
 | int i=>
  cases hy.int;cases x with
  | lst ds=>
   obtain⟨d',q,e'⟩:=mpd e;subst e';obtain⟨p,vs,rfl,h1,h2⟩:=hx.lst s;obtain⟨w,e1,e2⟩:=Wa h2 q;exact .inl ⟨p,vs,i,w,rfl,rfl,SqL.of h1,e1,k _ G H (Ext.refl s) e2⟩
  | tup ds=>
   obtain⟨d',q,e'⟩:=mpd e;subst e';obtain⟨p,vs,rfl,h1,h2⟩:=hx.tup;obtain⟨w,e1,e2⟩:=Wa h2 q;exact .inr (.inl ⟨p,vs,i,w,rfl,rfl,SqT.of (s _ _ h1),e1,k _ G H (Ext.refl s) e2⟩)
  | scr ns=>
   obtain⟨n,q,e'⟩:=mpd e;subst e';obtain⟨p,rfl,h1⟩:=hx.scr;exact .inl ⟨p,_,i,.int n,rfl,rfl,s.seq h1,zAh q,k _ G H (Ext.refl s) rfl⟩
  | _=>cases e
 | _=>cases x <;> cases e
theorem YN(ha:XV X a f)(hb:XV X b g)(hs:WN b:=by exact λ_ _=>rfl):XE X (.Subscript a b pos) (YO oIx f g):=qi5 qhw opv_ix ha hb hs
noncomputable abbrev FO:=WSt->Option (Option Int)
def SimO(K:zC)(t:TO)(f:FO):Prop:=∀G0 H0 G ω σ H o(Q:Option Int->Hp->Prop),Own K G0 H0 G ω σ H->f ω=some o->(∀G' H',Ext G H G' H'->Q o H')->t σ H Q
def XO(X:Cx)(e:Option vP)(f:FO):Prop:=∃t,PO X e t/\SimO X.K t f
noncomputable def pNo:FO:=λ_=>some none
noncomputable def pAt(f:FD):FO:=λω=>(f ω).bind λd=>match d with|.int i=>some (some i)|_=>none
theorem X9:XO X none pNo:=⟨_,qfI,λG0 H0 G ω σ H o Q ow e k=>by cases e;exact k G H (Ext.refl ow.gh)⟩
theorem XR(h:XV X a f):XO X (some a) (pAt f):=by
 obtain⟨t,h1,h2⟩:=h;refine⟨_,qfO h1,λG0 H0 G ω σ H o Q ow e k=>?_⟩;obtain⟨d,q,e⟩:=bnd e;refine h2 G0 H0 G ω σ H d _ ow q λv G1 H1 x1 y1=>?_;cases d with
 | int i=>cases e;cases y1.int;exact⟨i,rfl,k G1 H1 x1⟩
 | _=>cases e
noncomputable def cutD{α:Type}(xs:List α)(lo hi:Option Int):List α:=(xs.drop (HT.sIx xs.length 0 lo)).take (HT.sIx xs.length xs.length hi-HT.sIx xs.length 0 lo)
theorem We{K:zC}{H:Hp}{ds:List D}{vs:List V}(h:YQ K H ds vs)(lo hi:Option Int):YQ K H (cutD ds lo hi) (Wx vs lo hi):=by
 unfold cutD Wx;rw[h.len];exact(h.drop _).take _
theorem zAU(ns:List Int)(lo hi:Option Int):Wx (ns.map V.int) lo hi=(cutD ns lo hi).map V.int:=by
 unfold cutD Wx;rw[zA,Z9,YA]
noncomputable def oSl:D->Option Int->Option Int->Option R
 | .lst ds,lo,hi=>some (.fr (cutD ds lo hi))
 | .scr ns,lo,hi=>some (.fr ((cutD ns lo hi).map D.int))
 | .tup ds,lo,hi=>if HT.sIx ds.length 0 lo=0/\HT.sIx ds.length ds.length hi=ds.length then ↥(.tup ds)else ↥(.tup (cutD ds lo hi))
 | _,_,_=>none
noncomputable def fSl(f:FD)(l h:FO):FE:=λω=>(f ω).bind λd=>(l ω).bind λlo=>(h ω).bind λhi=>oSl d lo hi
theorem XJ{lo hi:Option vP}{l h:FO}{p2:Pos}(ha:XV X a f)(hl:XO X lo l)(hh:XO X hi h):XE X (.Subscript a (.Slice lo hi none p2) pos) (fSl f l h):=by
 obtain⟨t,h1,h2⟩:=ha;obtain⟨tl,h3,h4⟩:=hl;obtain⟨th,h5,h6⟩:=hh;refine⟨_,qfn (qgF.or (qhE.or qfm)) h1 h3 h5,λG0 H0 G ω σ H r Q ow e k=>?_⟩;obtain⟨d,q,e⟩:=bnd e;obtain⟨lo',q2,e⟩:=bnd e;obtain⟨hi',q3,e⟩:=bnd e;refine h2 G0 H0 G ω σ H d _ ow q λv G1 H1 x1 y1=>?_;refine h4 G0 H0 G1 ω σ H1 lo' _ (ow.keep x1) q2 λG2 H2 x2=>?_;refine h6 G0 H0 G2 ω σ H2 hi' _ ((ow.keep x1).keep x2) q3 λG3 H3 x3=>?_;have y3:=(y1.keep x2).keep x3;have x13:=(x1.trans x2).trans x3;cases d with
 | lst ds=>
  cases e;obtain⟨p,vs,rfl,h1,h2⟩:=y3.lst x3.gh;refine .inl ⟨p,vs,rfl,SqL.of h1,λn hn=>?_⟩;exact k _ G3 _ (x13.trans (Ext.hide x3.gh hn _)) ⟨n,_,rfl,x13.hh.free hn,x3.gh.free hn,qe,We h2 _ _⟩
 | scr ns=>
  cases e;obtain⟨p,rfl,h1⟩:=y3.scr;refine .inl ⟨p,_,rfl,x3.gh.seq h1,λn hn=>?_⟩;refine k _ G3 _ (x13.trans (Ext.hide x3.gh hn _)) ⟨n,_,rfl,x13.hh.free hn,x3.gh.free hn,qe,?_⟩;rw[zAU];exact YQ.ints _
 | tup ds=>
  unfold oSl at e
  dsimp only at e
  obtain⟨p,vs,rfl,h1,h2⟩:=y3.tup
  by_cases z:HT.sIx ds.length 0 lo'=0/\HT.sIx ds.length ds.length hi'=ds.length
  ·rw[vG z]at e
   cases e;exact .inr (.inr ⟨p,vs,rfl,SqT.of (x3.gh _ _ h1),by rw[<- h2.len];exact z,k _ G3 H3 x13 ⟨p,vs,rfl,h1,h2⟩⟩)
  ·rw[vJ z]at e
   cases e;refine .inr (.inl ⟨p,vs,rfl,SqT.of (x3.gh _ _ h1),by rw[<- h2.len];exact z,λn hn=>?_⟩);have x4:=Ext.lay x3.gh hn (.tup (Wx vs lo' hi'));exact k _ _ _ (x13.trans x4) ⟨n,_,rfl,qe,(We h2 _ _).mono x4.gg⟩
 | _=>cases e
end
section
variable{X:Cx}{a b c:vP}{pos:Pos}{rest:List vP}{f g:FT}
noncomputable def zAJ(f g:FT):FT:=λω=>(f ω).bind λc=>if c=true then g ω else some false
noncomputable def zAP(f g:FT):FT:=λω=>(f ω).bind λc=>if c=true then some true else g ω
noncomputable def XC(f:FT):FT:=λω=>(f ω).map (!·)
theorem qeQ{t u:TT}(h:Wc X.K t f)(h':Wc X.K u g):Wc X.K (tAnd t u) (zAJ f g):=by
 intro G0 H0 G ω σ H b Q o e k;obtain⟨c,q,e⟩:=bnd e;refine h G0 H0 G ω σ H c _ o q λG1 H1 x1=>?_;cases c with
 | true=>rw[vG rfl]at e ⊢;exact h' G0 H0 G1 ω σ H1 b Q (o.keep x1) e λG2 H2 x2=>k G2 H2 (x1.trans x2)
 | false=>cases e;exact k G1 H1 x1
theorem qfR{t u:TT}(h:Wc X.K t f)(h':Wc X.K u g):Wc X.K (tOr t u) (zAP f g):=by
 intro G0 H0 G ω σ H b Q o e k;obtain⟨c,q,e⟩:=bnd e;refine h G0 H0 G ω σ H c _ o q λG1 H1 x1=>?_;cases c with
 | true=>cases e;exact k G1 H1 x1
 | false=>exact h' G0 H0 G1 ω σ H1 b Q (o.keep x1) e λG2 H2 x2=>k G2 H2 (x1.trans x2)
theorem qb4(h:XT X a f):XW X (.BoolOp .And [a] pos) f:=let ⟨t,h1,h2⟩:=h;⟨t,qgQ h1,h2⟩
theorem q5K(h:XT X a f):XW X (.BoolOp .Or [a] pos) f:=let ⟨t,h1,h2⟩:=h;⟨t,qhB h1,h2⟩
theorem qdi(h:XT X a f)(h':XW X (.BoolOp .And (b::rest) pos) g):XW X (.BoolOp .And (a::b::rest) pos) (zAJ f g):=let ⟨_,h1,h2⟩:=h;let ⟨_,h3,h4⟩:=h';⟨_,qhs h1 h3,qeQ h2 h4⟩
theorem q34(h:XT X a f)(h':XW X (.BoolOp .Or (b::rest) pos) g):XW X (.BoolOp .Or (a::b::rest) pos) (zAP f g):=let ⟨_,h1,h2⟩:=h;let ⟨_,h3,h4⟩:=h';⟨_,qhT h1 h3,qfR h2 h4⟩
theorem XW.toT(h:XW X a f):XT X a f:=let ⟨t,h1,h2⟩:=h;⟨t,h1.pt,h2⟩
theorem q0e(h:XT X a f):XT X (.UnaryOp .Not a pos) (XC f):=by
 obtain⟨t,h1,h2⟩:=h;refine⟨_,qgW h1,λG0 H0 G ω σ H b Q o e k=>?_⟩;obtain⟨c,q,e⟩:=mpd e;subst e;exact h2 G0 H0 G ω σ H c _ o q k
noncomputable def truD:D->Option Bool
 | .non=>some false
 | .bl b=>some b
 | .int i=>some (i != 0)
 | .lst xs=>some (!xs.isEmpty)
 | .tup xs=>some (!xs.isEmpty)
 | _=>none
noncomputable def X5(f:FD):FT:=λω=>(f ω).bind truD
theorem q52{α β:Type}{xs:List α}{ys:List β}(h:xs.length=ys.length):xs.isEmpty=ys.isEmpty:=by
 cases xs <;> cases ys <;> first|rfl|cases h
theorem qQ{f:FD}(h:XV X a f)(he:∀whole,sJ a X.env whole=(do let v <- whole;tu a.pos;holding [v] (truthy v)):=by intro _;rfl):XT X a (X5 f):=by
 obtain⟨t,h1,h2⟩:=h;refine⟨_,q9E h1 he,λG0 H0 G ω σ H b Q o e k=>?_⟩;obtain⟨d,q,e⟩:=bnd e;refine h2 G0 H0 G ω σ H d _ o q λv G1 H1 x1 y1=>⟨b,?_,k G1 H1 x1⟩;cases d with
 | non=>cases e;cases y1.non;rfl
 | bl c=>cases e;cases y1.bl;rfl
 | int i=>cases e;cases y1.int;rfl
 | lst xs=>
  cases e;obtain⟨p,vs,rfl,h1,h2⟩:=y1.lst x1.gh;exact .inl ⟨vs,SqL.of h1,by rw[q52 h2.len]⟩
 | tup xs=>
  cases e;obtain⟨p,vs,rfl,h1,h2⟩:=y1.tup;exact .inr (.inl ⟨vs,SqT.of (x1.gh _ _ h1),by rw[q52 h2.len]⟩)
 | _=>cases e
noncomputable def blOf:D->Option Bool
 | .bl b=>some b
 | _=>none
noncomputable def WM(f g:FD):FD:=λω=>(f ω).bind λd=>(blOf d).bind λc=>if c=true then g ω else some (.bl false)
noncomputable def vNot(f:FD):FD:=λω=>(f ω).bind λd=>(blOf d).map λc=>.bl (!c)
noncomputable def fIte(c:FT)(f g:FE):FE:=λω=>(c ω).bind λk=>if k=true then f ω else g ω
variable{fa fb:FD}
theorem q1U{op}(h:XD X a fa):XD X (.BoolOp op [a] pos) fa:=let ⟨t,h1,h2⟩:=h;⟨t,qgU h1,h2⟩
theorem q0f(h:XD X a fa)(h':XD X (.BoolOp .And (b::rest) pos) fb):XD X (.BoolOp .And (a::b::rest) pos) (WM fa fb):=by
 obtain⟨t,h1,h2⟩:=h;obtain⟨u,h3,h4⟩:=h';refine⟨_,qh4 h1 h3,λG0 H0 G ω σ H d Q o e k=>?_⟩;obtain⟨x,q,e⟩:=bnd e;obtain⟨c,q2,e2⟩:=bnd e;clear e;refine h2 G0 H0 G ω σ H x _ o q λv G1 H1 x1 y1=>?_;cases x with
 | bl z=>
  cases q2;cases (show v=V.bl c from y1);refine⟨c,rfl,?_⟩;cases c with
  | true=>rw[vG rfl]at e2 ⊢;exact h4 G0 H0 G1 ω σ H1 d Q (o.keep x1) e2 λv G2 H2 x2 y2=>k v G2 H2 (x1.trans x2) y2
  | false=>cases e2;exact k _ G1 H1 x1 rfl
 | _=>cases q2
theorem qdo(h:XD X a fa):XD X (.UnaryOp .Not a pos) (vNot fa):=by
 obtain⟨t,h1,h2⟩:=h;refine⟨_,qhd h1,λG0 H0 G ω σ H d Q o e k=>?_⟩;obtain⟨x,q,e⟩:=bnd e;obtain⟨c,q2,e⟩:=mpd e;subst e;refine h2 G0 H0 G ω σ H x _ o q λv G1 H1 x1 y1=>?_;cases x with
 | bl z=>cases q2;cases (show v=V.bl c from y1);exact⟨c,rfl,k _ G1 H1 x1 rfl⟩
 | _=>cases q2
theorem zAk.after{K:zC}{G H G1 H1 G2 H2:Hp}{r:R}{v:V}(x:Ext G H G1 H1)(y:zAk K H1 G2 H2 r v):zAk K H G2 H2 r v:=by
 cases r with
 | sh d=>exact y
 | fr ds=>obtain⟨l,vs,e1,e2,e3⟩:=y;exact⟨l,vs,e1,x.hh.free e2,e3⟩
 | vw ds=>exact y
theorem q9H{fc:FT}{f g:FE}(hc:XT X c fc)(ha:XE X a f)(hb:XE X b g):XE X (.IfExp c a b pos) (fIte fc f g):=by
 obtain⟨t,h1,h2⟩:=hc;obtain⟨u,h3,h4⟩:=ha;obtain⟨w,h5,h6⟩:=hb;refine⟨_,qes h1 h3 h5,λG0 H0 G ω σ H r Q o e k=>?_⟩;obtain⟨z,q,e⟩:=bnd e;refine h2 G0 H0 G ω σ H z _ o q λG1 H1 x1=>?_;cases z with
 | true=>rw[vG rfl]at e ⊢;exact h4 G0 H0 G1 ω σ H1 r Q (o.keep x1) e λv G2 H2 x2 y2=>k v G2 H2 (x1.trans x2) (y2.after x1)
 | false=>exact h6 G0 H0 G1 ω σ H1 r Q (o.keep x1) e λv G2 H2 x2 y2=>k v G2 H2 (x1.trans x2) (y2.after x1)
end
def Xc(K:zC)(r:List V->Hp->VK->Prop)(op:List D->Option R):Prop:=∀G H ds vs d(Q:VK),YX G H->op ds=some d->VwA K G H ds vs ->
 (∀w G' H',Ext G H G' H'->zAk K H G' H' d w->Q w H')->r vs H Q
noncomputable def Yv(op:List D->Option R)(g:FA):FE:=λω=>(g ω).bind op
section
variable{X:Cx}{e:vP}{es:List vP}{x:Str}{p pos:Pos}{r:List V->Hp->VK->Prop}{op:List D->Option R}{g:FA}{id T:String}
theorem q76{t:TA}(hd:Xc X.K r op)(h:SimVA X.K t g):zBE X.K (tCB r t) (Yv op g):=by
 intro G0 H0 G ω σ H d Q o e k;obtain⟨ds,q,e⟩:=bnd e;refine h G0 H0 G ω σ H ds _ o q λvs G1 H1 x1 y1=>?_;exact hd G1 H1 ds vs d Q x1.gh e y1 λw G2 H2 x2 y2=>k w G2 H2 (x1.trans x2) (y2.after x1)
theorem qr(hc:Yy X (.builtin id) r)(hd:Xc X.K r op)(hg:Gl X x)(hm:X.mg x=none)(hv:vc x=some (.builtin id))(ha:XVA X (e::es) g)(hn:x ≠ "__name__" := by decide)(hdb:(x==("__debug__" : Str))=false:=by decide)(he:vK (e::es) X.env=(false,eval e X.env)::vK es X.env:=by rfl)(hpl:(vn pos (vK es X.env)).any (·.1)=false:=by rfl):XE X (.Call (.Name x p) (e::es) [] pos) (Yv op g):=by
 obtain⟨t,h1,h2⟩:=ha;exact⟨_,q1H hc hg hm hv h1 hn hdb he hpl,q76 hd h2⟩
theorem qbe(hc:Yy X (.type T) r)(hd:Xc X.K r op)(hg:Gl X x)(hm:X.mg x=none)(hv:vc x=some (.type T))(ha:XVA X (e::es) g)(hn:x ≠ "__name__" := by decide)(hdb:(x==("__debug__" : Str))=false:=by decide)(he:vK (e::es) X.env=(false,eval e X.env)::vK es X.env:=by rfl)(hpl:(vn pos (vK es X.env)).any (·.1)=false:=by rfl):XE X (.Call (.Name x p) (e::es) [] pos) (Yv op g):=by
 obtain⟨t,h1,h2⟩:=ha;exact⟨_,q7H hc hg hm hv h1 hn hdb he hpl,q76 hd h2⟩
theorem VwA.one{K:zC}{G H:Hp}{d:D}{vs:List V}(h:VwA K G H [d] vs):∃v,vs=[v]/\Vw K G H d v:=by
 obtain⟨v,r,h1,h2,h3⟩:=h;cases (show r=[]from h3);exact⟨v,h1,h2⟩
theorem VwA.two{K:zC}{G H:Hp}{d e:D}{vs:List V}(h:VwA K G H [d,e] vs):∃v u,vs=[v,u]/\Vw K G H d v/\Vw K G H e u:=by
 obtain⟨v,r,h1,h2,h3⟩:=h;obtain⟨u,rfl,h4⟩:=VwA.one h3;exact⟨v,u,h1,h2,h4⟩
noncomputable def Xo:List D->Option R
 | [.lst ds]=>↥(.int ds.length)
 | [.tup ds]=>↥(.int ds.length)
 | [.scr ns]=>↥(.int ns.length)
 | _=>none
theorem qV{K:zC}:Xc K (λxs H Q=>∃p ys,xs=[.ref p]/\(SqL K H p ys\/SqT K H p ys)/\Q (.int ys.length) H) Xo:=by
 intro G H ds vs d Q s e hv k
 match ds,e with
 | [.lst ds],e=>
  cases e;obtain⟨v,rfl,h⟩:=hv.one;obtain⟨p,us,rfl,h1,h2⟩:=h.lst s;exact⟨p,us,rfl,.inl (SqL.of h1),k _ G H (Ext.refl s) (by show V.int _=V.int _;rw[h2.len])⟩
 | [.tup ds],e=>
  cases e;obtain⟨v,rfl,h⟩:=hv.one;obtain⟨p,us,rfl,h1,h2⟩:=h.tup;exact⟨p,us,rfl,.inr (SqT.of (s _ _ h1)),k _ G H (Ext.refl s) (by show V.int _=V.int _;rw[h2.len])⟩
 | [.scr ns],e=>
  cases e;obtain⟨v,rfl,h⟩:=hv.one;obtain⟨p,rfl,h1⟩:=h.scr;exact⟨p,_,rfl,.inl (s.seq h1),k _ G H (Ext.refl s) (by show V.int _=V.int _;rw[zA])⟩
noncomputable def bAbs:List D->Option R
 | [.int i]=>↥(.int (if i<0 then -i else i))
 | _=>none
theorem qd0{K:zC}:Xc K (λxs H Q=>∃i,xs=[.int i]/\Q (.int (if i<0 then -i else i)) H) bAbs:=by
 intro G H ds vs d Q s e hv k
 match ds,e with
 | [.int i],e=>
  cases e;obtain⟨v,rfl,h⟩:=hv.one;cases h.int;exact⟨i,rfl,k _ G H (Ext.refl s) rfl⟩
noncomputable def bInt:List D->Option R
 | [.int i]=>↥(.int i)
 | [.bl b]=>↥(.int (if b then 1 else 0))
 | _=>none
theorem qh1{K:zC}:Xc K (λxs H Q=>(∃i,xs=[.int i]/\Q (.int i) H)\/∃k,xs=[.bl k]/\Q (.int (if k then 1 else 0)) H) bInt:=by
 intro G H ds vs d Q s e hv k
 match ds,e with
 | [.int i],e=>
  cases e;obtain⟨v,rfl,h⟩:=hv.one;cases h.int;exact .inl ⟨i,rfl,k _ G H (Ext.refl s) rfl⟩
 | [.bl i],e=>
  cases e;obtain⟨v,rfl,h⟩:=hv.one;cases h.bl;exact .inr ⟨i,rfl,k _ G H (Ext.refl s) rfl⟩
noncomputable def zAe:List D->Option R
 | [.lst ds]=>some (.fr ds)
 | [.tup ds]=>some (.fr ds)
 | _=>none
theorem qaB{K:zC}:Xc K (λxs H Q=>∃p ys,xs=[.ref p]/\(SqL K H p ys\/SqT K H p ys)/\∀l,H l=none->Q (.ref l) (upd H l (.lst ys))) zAe:=by
 intro G H ds vs d Q s e hv k
 match ds,e with
 | [.lst ds],e=>
  cases e;obtain⟨v,rfl,h⟩:=hv.one;obtain⟨p,us,rfl,h1,h2⟩:=h.lst s;exact⟨p,us,rfl,.inl (SqL.of h1),λl hl=>k _ G _ (Ext.hide s hl _) ⟨l,us,rfl,hl,s.free hl,qe,h2⟩⟩
 | [.tup ds],e=>
  cases e;obtain⟨v,rfl,h⟩:=hv.one;obtain⟨p,us,rfl,h1,h2⟩:=h.tup;exact⟨p,us,rfl,.inr (SqT.of (s _ _ h1)),λl hl=>k _ G _ (Ext.hide s hl _) ⟨l,us,rfl,hl,s.free hl,qe,h2⟩⟩
noncomputable def allB:List D->Option Bool
 | []=>some true
 | .bl b::r=>(allB r).map λc=>b&&c
 | _=>none
noncomputable def bAll:List D->Option R
 | [.lst ds]=>(allB ds).map λb=>.sh (.bl b)
 | _=>none
noncomputable def zBF:List D->Option Int
 | []=>some 0
 | .int i::r=>(zBF r).map λc=>i+c
 | _=>none
noncomputable def bSum:List D->Option R
 | [.lst ds]=>(zBF ds).map λb=>.sh (.int b)
 | _=>none
end
def rAll:List V->Hp->VK->Prop:=λxs H Q=>∃(p:vF) (bs:List Bool),xs=[.ref p]/\H p=some (.lst (bs.map V.bl))/\Q (.bl (bs.all id)) H
def rSum:List V->Hp->VK->Prop:=λxs H Q=>∃(p:vF) (ns:List Int),xs=[.ref p]/\H p=some (.lst (ns.map V.int))/\Q (.int ns.sum) H
section
variable{X:Cx}
theorem qaV:∀{bs:List Bool}{us:List vB},YZ (bs.map V.bl) us->us=bs.map Value.bool
 | [],_,r=>by cases r;rfl
 | b::bs,_,r=>by
  rw[zi]at r;cases r with
  | cons r1 r2=>cases r1;rw[qaV r2];rfl
theorem qcP{bs:List Bool}:(zO bs.length).all (λi=>bs.getD i false)=bs.all id:=by
 induction bs with
 | nil=>rfl
 | cons b r ih=>
  rw[zG,we,xK,wF,xK];have e:((λi=>(b::r).getD i false) ∘ Nat.succ)=λi=>r.getD i false:=by funext i;rfl
  rw[e,ih];rfl
theorem q7m(hc:X.calm=true):Yy X (.builtin "all") rAll:=by
 intro pins s σ H xs us Q I r h;obtain⟨p,bs,rfl,hp,q⟩:=h;obtain⟨u,rfl,rx⟩:=vals1 r;cases rx;obtain⟨its,n,rv,e,hz⟩:=I.lst hp;have ei:=qaV rv;have hlt:p<s.heap.objs.size:=zN e;refine call_all_walk (ud (items:=its.toArray) ⟨_,e,rfl,n,rfl⟩ ?_);refine⟨s.heap.objs.size,_,_,its.toArray.size,_,_,λi=>bs.getD i false,rfl,Walks.list (by first|exact I.ok.hd hc|(show X.A.handled=none;exact I.ok.hd hc)) _ p (zm hlt) its.toArray,⟨⟨_,zR _ rfl,rfl,rfl⟩,⟨_,zD _ e,rfl,n,rfl⟩⟩,λi v s' Q' E' hv hq=>?_,λh' tk hk=>?_⟩
 ·have hv':its[i]?=some v:=by simpa using hv
  rw[ei,zK]at hv';cases eb:bs[i]? with
  | none=>rw[eb]at hv';cases hv'
  | some b=>
   rw[eb]at hv';cases hv';have:bs.getD i false=b:=by rw[zQ,eb];rfl
   have hq':Q' b s':=by rw[<- this];exact hq
   exact uI hq'
 ·have hl:its.toArray.size=bs.length:=by rw[zM,ei,zA]
  rw[hl,qcP];exact⟨.bl _,H,I.kept (λb o z=>hk b o (λhm=>by
   have:b=s.heap.objs.size:=by simpa using hm
   subst this;exact vN (zN z) (yv _)) (zD _ z)),rfl,q⟩
theorem qat:∀{ds:List D}{b:Bool},allB ds=some b->∃bs:List Bool,ds=bs.map D.bl/\bs.all id=b
 | [],_,e=>by cases e;exact⟨[],rfl,rfl⟩
 | .bl c::r,b,e=>by
  obtain⟨k,q,e⟩:=mpd e;obtain⟨bs,h1,h2⟩:=qat q;exact⟨c::bs,by rw[h1];rfl,by rw[xK,h2];exact e⟩
 | .non::_,_,e=>by cases e
 | .int _::_,_,e=>by cases e
 | .str _::_,_,e=>by cases e
 | .lst _::_,_,e=>by cases e
 | .tup _::_,_,e=>by cases e
 | .scr _::_,_,e=>by cases e
 | .exc _::_,_,e=>by cases e
 | .dic _ _::_,_,e=>by cases e
theorem qb5:∀{ds:List D}{b:Int},zBF ds=some b->∃bs:List Int,ds=bs.map D.int/\bs.sum=b
 | [],_,e=>by cases e;exact⟨[],rfl,rfl⟩
 | .int c::r,b,e=>by
  obtain⟨k,q,e⟩:=mpd e;obtain⟨bs,h1,h2⟩:=qb5 q;exact⟨c::bs,by rw[h1];rfl,by rw[yS,h2];exact e⟩
 | .non::_,_,e=>by cases e
 | .bl _::_,_,e=>by cases e
 | .str _::_,_,e=>by cases e
 | .lst _::_,_,e=>by cases e
 | .tup _::_,_,e=>by cases e
 | .scr _::_,_,e=>by cases e
 | .exc _::_,_,e=>by cases e
 | .dic _ _::_,_,e=>by cases e
theorem qaQ{K:zC}{H:Hp}:∀{bs:List Bool}{vs:List V},YQ K H (bs.map D.bl) vs->vs=bs.map V.bl
 | [],_,h=>h
 | n::r,_,⟨v,vs,h1,h2,h3⟩=>by
  have:=qaQ h3;have e:v=.bl n:=h2;rw[h1,this,e];rfl
theorem qcG{K:zC}:Xc K rAll bAll:=by
 intro G H ds vs d Q s e hv k
 match ds,e with
 | [.lst ds],e=>
  obtain⟨b,q,e⟩:=mpd e;subst e;obtain⟨bs,rfl,rfl⟩:=qat q;obtain⟨v,rfl,h⟩:=hv.one;obtain⟨p,us,rfl,h1,h2⟩:=h.lst s;exact⟨p,bs,rfl,by rw[h1,qaQ h2],k _ G H (Ext.refl s) rfl⟩
theorem q5F:∀(ns:List Int)(k:Nat),k<=ns.length->preSum (λi=>ns.getD i 0) k=(ns.take k).sum
 | _,0,_=>rfl
 | ns,k+1,h=>by
  have e:ns.take (k+1)=ns.take k++[ns.getD k 0]:=by
   rw[Zd,zB ∅,zQ,zB ∅];rfl
  show preSum (λi=>ns.getD i 0) k+ns.getD k 0=_;rw[q5F ns k ∅,e,xy];simp
theorem q4v(hc:X.calm=true):Yy X (.builtin "sum") rSum:=by
 intro pins s σ H xs us Q I r h;obtain⟨p,ns,rfl,hp,q⟩:=h;obtain⟨u,rfl,rx⟩:=vals1 r;cases rx;obtain⟨its,n,rv,e,hz⟩:=I.lst hp;have ia:=q1n rv;have hlen:its.length=ns.length:=by rw[<- rv.length,zA]
 have hlt:p<s.heap.objs.size:=zN e;refine call_sum_walkAnyS (ud (items:=its.toArray) ⟨_,e,rfl,n,rfl⟩ ?_);refine⟨s.heap.objs.size,_,_,_,its.toArray.size,_,_,λi=>ns.getD i 0,rfl,(Walks.list (by first|exact I.ok.hd hc|(show X.A.handled=none;exact I.ok.hd hc)) _ p (zm hlt) its.toArray).toS,⟨⟨_,zR _ rfl,rfl,rfl⟩,⟨_,zD _ e,rfl,n,rfl⟩⟩,λb hb=>?_,λi v hv=>PyProof.Rows.IntsAre.int_at ia i v ⇑hv,λs' t' hm=>?_⟩
 ·show b<(s.heap.push _).objs.size
  rw[yP];rcases zF.mp hb with rfl|hb
  ·exact yW _
  ·rw[zT.mp hb];exact yI hlt
 ·rw[Moved.eq_with hm]
  have es:preSum (λi=>ns.getD i 0) its.toArray.size=ns.sum:=by
   rw[zM,hlen,q5F ns _ (zI _),yw]
  rw[es];exact⟨.int _,H,I.kept (λb o z=>hm.heap b o (λhmm=>by
   have:b=s.heap.objs.size:=by simpa using hmm
   subst this;exact vN (zN z) (yv _)) (zD _ z)),⟨_,rfl⟩,q⟩
theorem q8I{K:zC}:Xc K rSum bSum:=by
 intro G H ds vs d Q s e hv k
 match ds,e with
 | [.lst ds],e=>
  obtain⟨b,q,e⟩:=mpd e;subst e;obtain⟨bs,rfl,rfl⟩:=qb5 q;obtain⟨v,rfl,h⟩:=hv.one;obtain⟨p,us,rfl,h1,h2⟩:=h.lst s;exact⟨p,bs,rfl,by rw[h1,h2.of_ints],k _ G H (Ext.refl s) rfl⟩
end
inductive Ty where
 | non|bl|int|str|lst|tup|dic
noncomputable def Ty.n:Ty->String
 | .non => "NoneType"
 | .bl => "bool"
 | .int => "int"
 | .str => "str"
 | .lst => "list"
 | .tup => "tuple"
 | .dic => "dict"
noncomputable def tyD:D->Ty
 | .non=>.non
 | .bl _=>.bl
 | .int _=>.int
 | .str _=>.str
 | .lst _=>.lst
 | .tup _=>.tup
 | .scr _=>.lst
 | .exc _=>.non
 | .dic _ _=>.non
noncomputable def WU:Ty->Ty->Bool
 | .non,.non=>true
 | .bl,.bl=>true
 | .bl,.int=>true
 | .int,.int=>true
 | .str,.str=>true
 | .lst,.lst=>true
 | .tup,.tup=>true
 | _,_=>false
noncomputable def Wp(c:Ty)(f:FD):FE:=λω=>(f ω).bind λd=>match d with
 | .scr _=>none
 | .exc _=>none
 | .dic _ _=>none
 | d=>↥(.bl (WU (tyD d) c))
def IsT(K:zC)(c:Ty):Prop:=∀t:Ty,t≠.dic->ww K (.type t.n) (.type c.n)=some (WU t c)
def rIsi(K:zC):List V->Hp->VK->Prop:=λxs H Q=>∃x c T b,xs=[x,.ty c]/\TyOf K H x (.type T)/\ww K (.type T) (.type c)=some b/\Q (.bl b) H
section
variable{X:Cx}{a:vP}{f:FD}
theorem qf1:Yy X (.builtin "isinstance") (rIsi X.K):=by
 intro pins s σ H xs us Q I r h;obtain⟨x,c,T,b,rfl,ty,e,q⟩:=h;obtain⟨u1,u2,rfl,r2,r3⟩:=vals2 r;cases (show u2=Value.type c from r3);exact qdG I r2 ty e λtk=>⟨.bl b,H,I.tok tk,rfl,q⟩
theorem qfP{K:zC}{G H:Hp}{d:D}{v:V}(h:Vw K G H d v)(s:YX G H)(n:∀ns,d≠.scr ns)(n':∀c,d≠.exc c)(n'':∀ks ds,d≠.dic ks ds):TyOf K H v (.type (tyD d).n):=by
 cases d with
 | non=>cases h.non;exact .non
 | bl b=>cases h.bl;exact .bl b
 | int i=>cases h.int;exact .int i
 | str x=>cases h.str;exact .str x
 | lst ds=>obtain⟨p,us,rfl,h1,_⟩:=h.lst s;exact .lst h1
 | tup ds=>obtain⟨p,us,rfl,h1,_⟩:=h.tup;exact .tup (s _ _ h1)
 | scr ns=>exact vN rfl (n ns)
 | exc c=>exact vN rfl (n' c)
 | dic ks ds=>exact vN rfl (n'' ks ds)
theorem qhb(d:D):tyD d≠.dic:=by cases d <;> exact λz=>nomatch z
theorem q0X{c:Ty}{x:Str}{p q pos:Pos}(ha:XV X a f)(hk:IsT X.K c)(hg:Gl X "isinstance")(hm:X.mg "isinstance" = none)(hgc:Gl X x)(hmc:X.mg x=none)(hvc:vc x=some (.type c.n))(hnx:x ≠ "__name__" := by decide)(hdx:(x==("__debug__" : Str))=false:=by decide)(he:vK [a,.Name x q] X.env=(false,eval a X.env)::vK [.Name x q] X.env:=by rfl)(he2:vK [.Name x q] X.env=(false,eval (.Name x q) X.env)::vK [] X.env:=by rfl)(hpl:(vn pos (vK [.Name x q] X.env)).any (·.1)=false:=by rfl):
  XE X (.Call (.Name "isinstance" p) [a,.Name x q] [] pos) (Wp c f):=by
 obtain⟨t,h1,h2⟩:=ha;refine⟨_,q1H qf1 hg hm PyProof.Rows.boot_isinstance (qq h1 (qq (qgs hgc hmc hvc (v:=.ty c.n) rfl hnx hdx) qI he2) he) (by decide) (by decide) he hpl,λG0 H0 G ω σ H r Q o e k=>?_⟩;obtain⟨d,q,e⟩:=bnd e;refine h2 G0 H0 G ω σ H d _ o q λv G1 H1 x1 y1=>?_;have n:∀ns,d≠.scr ns:=λns z=>by subst z;cases e
 have n':∀c,d≠.exc c:=λns z=>by subst z;cases e
 have n'':∀ks ds,d≠.dic ks ds:=λks ds z=>by subst z;cases e
 have e':r=.sh (.bl (WU (tyD d) c)):=by
  cases d <;> first|(cases e;rfl)|cases e
 subst e';exact⟨v,c.n,(tyD d).n,WU (tyD d) c,rfl,qfP y1 x1.gh n n' n'',hk _ (qhb d),k _ G1 H1 x1 rfl⟩
end
inductive Out where
 | nx|bk|ct|rt (r:O)
noncomputable abbrev FS:=WSt->Option (Out×WSt)
def Post(K:zC)(H0 G':Hp)(E:Ends):Out->St->Hp->Prop
 | .nx,σ,H=>E.nx σ H
 | .bk,σ,H=>E.bk σ H
 | .ct,σ,H=>E.ct σ H
 | .rt r,_,H=>∀v,zAk K H0 G' H r.r v->E.rt v H
def SimS(K:zC)(t:TS)(f:FS):Prop:=∀G0 H0 G ω σ H out ω'(E:Ends),Own K G0 H0 G ω σ H->f ω=some (out,ω') ->
 (∀G' σ' H',Own K G0 H0 G' ω' σ' H'->YX G G'->Post K H0.hp G' E out σ' H')->t E σ H
def XS(X:Cx)(st:vo)(f:FS):Prop:=∃t,PS X st t/\SimS X.K t f
def XSs(X:Cx)(st:List vo)(f:FS):Prop:=∃t,PSs X st t/\SimS X.K t f
noncomputable def X8:FS:=λω=>some (.nx,ω)
noncomputable def YY(f g:FS):FS:=λω=>(f ω).bind λp=>match p.1 with
 | .nx=>g p.2
 | o=>some (o,p.2)
section
variable{X:Cx}{st:vo}{rest:List vo}{f g:FS}
theorem qD:XSs X [] X8:=⟨_,qgG,λG0 H0 G ω σ H out ω' E o e k=>by cases e;exact k G σ H o (YX.refl _)⟩
theorem qb(h:XS X st f):XSs X [st] f:=let ⟨t,h1,h2⟩:=h;⟨t,q0p h1,h2⟩
theorem q0(h:XS X st f)(h':XSs X rest g):XSs X (st::rest) (YY f g):=by
 obtain⟨t,h1,h2⟩:=h;obtain⟨u,h3,h4⟩:=h';refine⟨_,q16 h1 h3,λG0 H0 G ω σ H out ω' E o e k=>?_⟩;obtain⟨⟨o1,ω1⟩,q,e⟩:=bnd e;refine h2 G0 H0 G ω σ H o1 ω1 _ o q λG1 σ1 H1 w1 g1=>?_;cases o1 with
 | nx=>exact h4 G0 H0 G1 ω1 σ1 H1 out ω' E w1 e λG2 σ2 H2 w2 g2=>k G2 σ2 H2 w2 (g1.trans g2)
 | bk=>cases e;exact k G1 σ1 H1 w1 g1
 | ct=>cases e;exact k G1 σ1 H1 w1 g1
 | rt r=>cases e;exact k G1 σ1 H1 w1 g1
end
section
variable{K:zC}{G0:Hp}{H0:Fr}{G:Hp}{ω:WSt}{σ:St}{H:Hp}
theorem qd{α:Type}{l:List α}{i j:Nat}{x y:α}(h:(l.set i x)[j]?=some y):(i=j/\i<l.length/\y=x)\/(i≠j/\l[j]?=some y):=by
 rw[List.getElem?_set]at h
 by_cases e:i=j
 ·rw[vG e]at h
  by_cases z:i<l.length
  ·rw[vG z]at h;exact .inl ⟨e,z,(zn h).symm⟩
  ·rw[vJ z]at h;cases h
 ·rw[vJ e]at h;exact .inr ⟨e,h⟩
theorem q1B{α:Type}{l:List α}{i:Nat}{x:α}(h:i<l.length):(l.set i x)[i]?=some x:=yV h
theorem Y4.set{i:Nat}{w:Option W}{v:Option V}(o:Y4 K H0 G ω σ H)(hw:∀ds,w≠some (.pw ds))(hv:∀ds,w=some (.ow ds)->∀(j:Nat)es,ω[j]?=some (some (.pw es))->v≠some (.ref (H0.pin j))):Y4 K H0 G (ω.set i w) (σ.set i v) H:=by
 intro j ds hj;rcases qd hj with⟨rfl,hl,z⟩|⟨ne,z⟩
 ·exact vN z.symm (hw ds)
 ·obtain⟨vs,h1,h2,h3,h4,h5,h6,h7⟩:=o j ds z
  refine⟨vs,by rw[zU ne];exact h1,h2,h3,h4,h5,λk es hk=>?_,λk es hk sk=>?_⟩
  ·rcases qd hk with⟨rfl,hl',z'⟩|⟨ne',z'⟩
   ·exact vN z'.symm (hw es)
   ·exact h6 k es z'
  ·rcases qd hk with⟨rfl,hl',z'⟩|⟨ne',z'⟩
   ·rcases qd sk with⟨_,_,e⟩|⟨ne2,_⟩
    ·exact hv es z'.symm j ds z e.symm
    ·exact ne2 rfl
   ·rw[zU ne']at sk;exact h7 k es z' sk
theorem Y4.setW{i:Nat}{w:Option W}(o:Y4 K H0 G ω σ H)(hw:∀ds,w≠some (.pw ds))(ho:∀ds,w≠some (.ow ds)):Y4 K H0 G (ω.set i w) σ H:=by
 intro j ds hj;rcases qd hj with⟨rfl,hl,z⟩|⟨ne,z⟩
 ·exact vN z.symm (hw ds)
 ·obtain⟨vs,h1,h2,h3,h4,h5,h6,h7⟩:=o j ds z
  refine⟨vs,h1,h2,h3,h4,h5,λk es hk=>?_,λk es hk=>?_⟩
  ·rcases qd hk with⟨rfl,hl',z'⟩|⟨ne',z'⟩
   ·exact vN z'.symm (hw es)
   ·exact h6 k es z'
  ·rcases qd hk with⟨rfl,hl',z'⟩|⟨ne',z'⟩
   ·exact vN z'.symm (ho es)
   ·exact h7 k es z'
theorem Y4.upd{p:vF}{ob:HO}(o:Y4 K H0 G ω σ H)(hp:∀(j:Nat)es,ω[j]?=some (some (.pw es))->H0.pin j≠p):Y4 K H0 G ω σ (upd H p ob):=by
 intro j ds hj;obtain⟨vs,h1,h2,h3⟩:=o j ds hj;exact⟨vs,h1,by rw[qc (hp j ds hj)];exact h2,h3⟩
theorem Y4.grow{p:vF}{ob:HO}(o:Y4 K H0 G ω σ H)(g:G p=none)(hp:∀(j:Nat)es,ω[j]?=some (some (.pw es))->H0.pin j≠p):Y4 K H0 (L2.upd G p ob) ω σ H:=by
 intro j ds hj;obtain⟨vs,h1,h2,h3,h4,h5,h6⟩:=o j ds hj;exact⟨vs,h1,h2,by rw[qc (hp j ds hj)];exact h3,h4,h5.mono (Yq g _),h6⟩
theorem Y4.ne_ow{i:Nat}{ds:List D}{l:vF}(o:Y4 K H0 G ω σ H)(hi:ω[i]?=some (some (.ow ds)))(hσ:σ[i]?=some (some (.ref l))):∀(j:Nat)es,ω[j]?=some (some (.pw es))->H0.pin j≠l:=λj es hj y=>by
 obtain⟨_,_,_,_,_,_,_,h7⟩:=o j es hj;exact h7 i ds hi (by rw[y];exact hσ)
theorem Y4.ne_ob{l:vF}(o:Y4 K H0 G ω σ H)(h:∀vs,H l≠some (.lst vs)):∀(j:Nat)es,ω[j]?=some (some (.pw es))->H0.pin j≠l:=λj es hj y=>by
 obtain⟨vs,_,h2,_⟩:=o j es hj;exact h vs (by rw[<- y];exact h2)
theorem Y4.setL{i:Nat}{ds es:List D}(o:Y4 K H0 G ω σ H)(hi:ω[i]?=some (some (.ow ds))):Y4 K H0 G (ω.set i (some (.ow es))) σ H:=by
 intro j ds' hj;rcases qd hj with⟨rfl,hl,z⟩|⟨ne,z⟩
 ·cases z
 ·obtain⟨vs,h1,h2,h3,h4,h5,h6,h7⟩:=o j ds' z
  refine⟨vs,h1,h2,h3,h4,h5,λk es hk=>?_,λk es hk=>?_⟩
  ·rcases qd hk with⟨rfl,hl',z'⟩|⟨ne',z'⟩
   ·cases z'
   ·exact h6 k es z'
  ·rcases qd hk with⟨rfl,hl',z'⟩|⟨ne',z'⟩
   ·exact h7 i ds hi
   ·exact h7 k es z'
theorem Own.od_set{i:Nat}{w:Option W}{v:Option V}(o:Own K G0 H0 G ω σ H)(h:∀ks ds,w≠some (.od ks ds)):∀(j:Nat)ks ds,(ω.set i w)[j]?=some (some (.od ks ds))->∃p vs,(σ.set i v)[j]?=some (some (.ref p))/\H p=some (.dK (kvsOf ks vs))/\G p=none/\H0 p=none/\ks.length=ds.length/\YQ K G ds vs /\
  ∀(k:Nat)ks' es,(ω.set i w)[k]?=some (some (.od ks' es))->(σ.set i v)[k]?=some (some (.ref p))->j=k:=by
 intro j ks ds hj;rcases qd hj with⟨rfl,hl,z⟩|⟨ne,z⟩
 ·exact vN z.symm (h ks ds)
 ·obtain⟨p,vs,h1,h2,h3,h4,h5,h6,h7⟩:=o.od j ks ds z
  refine⟨p,vs,by rw[zU ne];exact h1,h2,h3,h4,h5,h6,λk ks' es hk sk=>?_⟩;rcases qd hk with⟨rfl,hl',z'⟩|⟨ne',z'⟩
  ·exact vN z'.symm (h ks' es)
  ·rw[zU ne']at sk
   exact h7 k ks' es z' sk
theorem Own.setSh{i:Nat}{d:D}{v:V}(o:Own K G0 H0 G ω σ H)(h:Rep K G d v):Own K G0 H0 G (ω.set i ↥d) (σ.set i (some v)) H:=by
 refine⟨o.ext,by rw[yF,yF,o.len],λj e hj=>?_,λj ds hj=>?_,λj k ds es l hj hk sj sk=>?_,o.od_set (λ_ _ z=>by cases z),o.pw.set (λ_ z=>by cases z) (λ_ z=>by cases z)⟩
 ·rcases qd hj with⟨rfl,hl,z⟩|⟨ne,z⟩
  ·cases z;exact⟨v,q1B (by rw[<- o.len];exact hl),h⟩
  ·obtain⟨u,h1,h2⟩:=o.sh j e z
   exact⟨u,by rw[zU ne];exact h1,h2⟩
 ·rcases qd hj with⟨rfl,hl,z⟩|⟨ne,z⟩
  ·cases z
  ·obtain⟨l,vs,h1,h2⟩:=o.ow j ds z
   exact⟨l,vs,by rw[zU ne];exact h1,h2⟩
 ·rcases qd hj with⟨rfl,hl,z⟩|⟨ne,z⟩
  ·cases z
  ·rcases qd hk with⟨rfl,hl',z'⟩|⟨ne',z'⟩
   ·cases z'
   ·rw[zU ne]at sj
    rw[zU ne']at sk;exact o.nd j k ds es l z z' sj sk
theorem Own.setOw{i:Nat}{ds:List D}{l:vF}{vs:List V}(o:Own K G0 H0 G ω σ H)(h1:H l=some (.lst vs))(h2:G l=none)(h3:H0 l=none)(h4:YQ K G ds vs)(h5:∀(j:Nat)es,ω[j]?=some (some (.ow es))->σ[j]?≠some (some (.ref l)))(h6:∀(j:Nat)es,ω[j]?=some (some (.pw es))->H0.pin j≠l):Own K G0 H0 G (ω.set i (some (.ow ds))) (σ.set i (some (.ref l))) H:=by
 refine⟨o.ext,by rw[yF,yF,o.len],λj e hj=>?_,λj es hj=>?_,λj k es fs m hj hk sj sk=>?_,o.od_set (λ_ _ z=>by cases z),o.pw.set (λ_ z=>by cases z) (λ_ _ j es hj y=>h6 j es hj (by cases y;rfl))⟩
 ·rcases qd hj with⟨rfl,hl,z⟩|⟨ne,z⟩
  ·cases z
  ·obtain⟨u,q1,q2⟩:=o.sh j e z
   exact⟨u,by rw[zU ne];exact q1,q2⟩
 ·rcases qd hj with⟨rfl,hl,z⟩|⟨ne,z⟩
  ·cases z;exact⟨l,vs,q1B (by rw[<- o.len];exact hl),h1,h2,h3,h4⟩
  ·obtain⟨m,us,q1,q2⟩:=o.ow j es z
   exact⟨m,us,by rw[zU ne];exact q1,q2⟩
 ·rcases qd hj with⟨e1,hl,z⟩|⟨ne,z⟩
  ·rcases qd hk with⟨e2,hl',z'⟩|⟨ne',z'⟩
   ·exact e1.symm.trans e2
   ·rw[zU ne']at sk
    subst e1;rw[q1B (by rw[<- o.len];exact hl)]at sj;cases sj;exact vN sk (h5 k fs z')
  ·rcases qd hk with⟨e2,hl',z'⟩|⟨ne',z'⟩
   ·rw[zU ne]at sj
    subst e2;rw[q1B (by rw[<- o.len];exact hl')]at sk;cases sk;exact vN sj (h5 j es z)
   ·rw[zU ne]at sj
    rw[zU ne']at sk;exact o.nd j k es fs m z z' sj sk
theorem Own.mut{i:Nat}{ds es:List D}{l:vF}{vs us:List V}(o:Own K G0 H0 G ω σ H)(hi:ω[i]?=some (some (.ow ds)))(hσ:σ[i]?=some (some (.ref l)))(h1:H l=some (.lst vs))(h2:G l=none)(h3:H0 l=none)(h4:YQ K G es us):
  Own K G0 H0 G (ω.set i (some (.ow es))) σ (upd H l (.lst us)):=by
 have ho:i<ω.length:=(zS.mp hi).1;refine⟨⟨o.ext.gg,YW o.ext.gh h2 _,YW o.ext.hh h3 _,o.ext.new⟩,by rw[yF,o.len],λj e hj=>?_,λj fs hj=>?_,λj k fs gs m hj hk sj sk=>?_,λj ks fs hj=>?_,(o.pw.upd (o.pw.ne_ow hi hσ)).setL hi⟩
 ·rcases qd hj with⟨rfl,hl,z⟩|⟨ne,z⟩
  ·cases z
  ·exact o.sh j e z
 ·rcases qd hj with⟨rfl,hl,z⟩|⟨ne,z⟩
  ·cases z;exact⟨l,us,hσ,qe,h2,h3,h4⟩
  ·obtain⟨m,ws,q1,q2,q3,q4,q5⟩:=o.ow j fs z
   have hm:m≠l:=λy=>ne (o.nd i j ds fs l hi z hσ (by rw[<- y];exact q1));exact⟨m,ws,q1,by rw[qc hm];exact q2,q3,q4,q5⟩
 ·rcases qd hj with⟨e1,hl,z⟩|⟨ne,z⟩
  ·rcases qd hk with⟨e2,hl',z'⟩|⟨ne',z'⟩
   ·exact e1.symm.trans e2
   ·subst e1;exact o.nd i k ds gs m hi z' sj sk
  ·rcases qd hk with⟨e2,hl',z'⟩|⟨ne',z'⟩
   ·subst e2;exact o.nd j i fs ds m z hi sj sk
   ·exact o.nd j k fs gs m z z' sj sk
 ·rcases qd hj with⟨e1,hl,z⟩|⟨ne,z⟩
  ·cases z
  ·obtain⟨p,ws,q1,q2,q3,q4,q5,q6,q7⟩:=o.od j ks fs z
   have hp:p≠l:=λy=>by rw[y,h1]at q2;cases q2
   refine⟨p,ws,q1,by rw[qc hp];exact q2,q3,q4,q5,q6,λk ks' es hk sk=>?_⟩;rcases qd hk with⟨e2,hl',z'⟩|⟨ne',z'⟩
   ·cases z'
   ·exact q7 k ks' es z' sk
theorem Own.mutP{i:Nat}{ds es:List D}{us:List V}(o:Own K G0 H0 G ω σ H)(hi:ω[i]?=some (some (.pw ds)))(h4:YQ K G es us):
  Own K G0 H0 G (ω.set i (some (.pw es))) σ (L2.upd H (H0.pin i) (.lst us)):=by
 obtain⟨vs,p1,p2,p3,p4,p5,p6,p7⟩:=o.pw i ds hi;refine⟨⟨o.ext.gg,YW o.ext.gh p3 _,YW o.ext.hh p4 _,o.ext.new⟩,by rw[yF,o.len],λj e hj=>?_,λj fs hj=>?_,λj k fs gs m hj hk sj sk=>?_,λj ks fs hj=>?_,λj fs hj=>?_⟩
 ·rcases qd hj with⟨rfl,hl,z⟩|⟨ne,z⟩
  ·cases z
  ·exact o.sh j e z
 ·rcases qd hj with⟨rfl,hl,z⟩|⟨ne,z⟩
  ·cases z
  ·obtain⟨m,ws,q1,q2,q3,q4,q5⟩:=o.ow j fs z
   have hm:m≠H0.pin i:=λy=>p7 j fs z (by rw[<- y];exact q1);exact⟨m,ws,q1,by rw[qc hm];exact q2,q3,q4,q5⟩
 ·rcases qd hj with⟨e1,hl,z⟩|⟨ne,z⟩
  ·cases z
  ·rcases qd hk with⟨e2,hl',z'⟩|⟨ne',z'⟩
   ·cases z'
   ·exact o.nd j k fs gs m z z' sj sk
 ·rcases qd hj with⟨e1,hl,z⟩|⟨ne,z⟩
  ·cases z
  ·obtain⟨p,ws,q1,q2,q3,q4,q5,q6,q7⟩:=o.od j ks fs z
   have hp:p≠H0.pin i:=λy=>by rw[y,p2]at q2;cases q2
   refine⟨p,ws,q1,by rw[qc hp];exact q2,q3,q4,q5,q6,λk ks' es hk sk=>?_⟩;rcases qd hk with⟨e2,hl',z'⟩|⟨ne',z'⟩
   ·cases z'
   ·exact q7 k ks' es z' sk
 ·rcases qd hj with⟨rfl,hl,z⟩|⟨ne,z⟩
  ·cases z
   refine⟨us,p1,qe,p3,p4,h4,λk es hk y=>?_,λk es hk=>?_⟩
   ·rcases qd hk with⟨e2,hl',z'⟩|⟨ne',z'⟩
    ·exact e2.symm
    ·exact p6 k es z' y
   ·rcases qd hk with⟨e2,hl',z'⟩|⟨ne',z'⟩
    ·cases z'
    ·exact p7 k es z'
  ·obtain⟨ws,q1,q2,q3,q4,q5,q6,q7⟩:=o.pw j fs z
   have hp:H0.pin j≠H0.pin i:=λy=>ne (p6 j fs z y).symm;refine⟨ws,q1,by rw[qc hp];exact q2,q3,q4,q5,λk es hk y=>?_,λk es hk=>?_⟩
   ·rcases qd hk with⟨e2,hl',z'⟩|⟨ne',z'⟩
    ·subst e2;exact vN y (Ne.symm hp)
    ·exact q6 k es z' y
   ·rcases qd hk with⟨e2,hl',z'⟩|⟨ne',z'⟩
    ·cases z'
    ·exact q7 k es z'
theorem Own.setOd{i:Nat}{ks:List Int}{ds:List D}{p:vF}{vs:List V}(o:Own K G0 H0 G ω σ H)(h1:H p=some (.dK (kvsOf ks vs)))(h2:G p=none)(h3:H0 p=none)(h4:ks.length=ds.length)(h5:YQ K G ds vs)(h6:∀(j:Nat)ks' es,ω[j]?=some (some (.od ks' es))->σ[j]?≠some (some (.ref p))):Own K G0 H0 G (ω.set i (some (.od ks ds))) (σ.set i (some (.ref p))) H:=by
 refine⟨o.ext,by rw[yF,yF,o.len],λj e hj=>?_,λj es hj=>?_,λj k es fs m hj hk sj sk=>?_,λj ks' es hj=>?_,o.pw.set (λ_ z=>by cases z) (λ_ z=>by cases z)⟩
 ·rcases qd hj with⟨rfl,hl,z⟩|⟨ne,z⟩
  ·cases z
  ·obtain⟨u,q1,q2⟩:=o.sh j e z
   exact⟨u,by rw[zU ne];exact q1,q2⟩
 ·rcases qd hj with⟨rfl,hl,z⟩|⟨ne,z⟩
  ·cases z
  ·obtain⟨m,us,q1,q2⟩:=o.ow j es z
   exact⟨m,us,by rw[zU ne];exact q1,q2⟩
 ·rcases qd hj with⟨e1,hl,z⟩|⟨ne,z⟩
  ·cases z
  ·rcases qd hk with⟨e2,hl',z'⟩|⟨ne',z'⟩
   ·cases z'
   ·rw[zU ne]at sj
    rw[zU ne']at sk;exact o.nd j k es fs m z z' sj sk
 ·rcases qd hj with⟨rfl,hl,z⟩|⟨ne,z⟩
  ·cases z
   refine⟨p,vs,q1B (by rw[<- o.len];exact hl),h1,h2,h3,h4,h5,λk ks'' fs hk sk=>?_⟩;rcases qd hk with⟨e2,hl',z'⟩|⟨ne',z'⟩
   ·exact e2
   ·rw[zU ne']at sk
    exact vN sk (h6 k ks'' fs z')
  ·obtain⟨p',vs',q1,q2,q3,q4,q5,q6,q7⟩:=o.od j ks' es z
   refine⟨p',vs',by rw[zU ne];exact q1,q2,q3,q4,q5,q6,λk ks'' fs hk sk=>?_⟩;rcases qd hk with⟨e2,hl',z'⟩|⟨ne',z'⟩
   ·subst e2
    rw[q1B (by rw[<- o.len];exact hl')]at sk;cases sk;exact vN q1 (h6 j ks' es z)
   ·rw[zU ne']at sk
    exact q7 k ks'' fs z' sk
theorem Own.mutD{i:Nat}{ks ks2:List Int}{ds es:List D}{p:vF}{vs us:List V}(o:Own K G0 H0 G ω σ H)(hi:ω[i]?=some (some (.od ks ds)))(hσ:σ[i]?=some (some (.ref p)))(h1:H p=some (.dK (kvsOf ks vs)))(h2:G p=none)(h3:H0 p=none)(h4:ks2.length=es.length)(h5:YQ K G es us):
  Own K G0 H0 G (ω.set i (some (.od ks2 es))) σ (upd H p (.dK (kvsOf ks2 us))):=by
 have ho:i<ω.length:=(zS.mp hi).1;refine⟨⟨o.ext.gg,YW o.ext.gh h2 _,YW o.ext.hh h3 _,o.ext.new⟩,by rw[yF,o.len],λj e hj=>?_,λj fs hj=>?_,λj k fs gs m hj hk sj sk=>?_,λj ks' fs hj=>?_,(o.pw.upd (o.pw.ne_ob λvs z=>by rw[h1]at z;cases z)).setW (λ_ z=>by cases z) (λ_ z=>by cases z)⟩
 ·rcases qd hj with⟨rfl,hl,z⟩|⟨ne,z⟩
  ·cases z
  ·exact o.sh j e z
 ·rcases qd hj with⟨rfl,hl,z⟩|⟨ne,z⟩
  ·cases z
  ·obtain⟨m,ws,q1,q2,q3,q4,q5⟩:=o.ow j fs z
   have hm:m≠p:=λy=>by rw[y,h1]at q2;cases q2
   exact⟨m,ws,q1,by rw[qc hm];exact q2,q3,q4,q5⟩
 ·rcases qd hj with⟨e1,hl,z⟩|⟨ne,z⟩
  ·cases z
  ·rcases qd hk with⟨e2,hl',z'⟩|⟨ne',z'⟩
   ·cases z'
   ·exact o.nd j k fs gs m z z' sj sk
 ·obtain⟨p0,vs0,r1,r2,r3,r4,r5,r6,r7⟩:=o.od i ks ds hi
  rw[hσ]at r1;cases r1;rcases qd hj with⟨rfl,hl,z⟩|⟨ne,z⟩
  ·cases z
   refine⟨p,us,hσ,qe,h2,h3,h4,h5,λk ks'' gs hk sk=>?_⟩;rcases qd hk with⟨e2,hl',z'⟩|⟨ne',z'⟩
   ·exact e2
   ·exact r7 k ks'' gs z' sk
  ·obtain⟨q,ws,q1,q2,q3,q4,q5,q6,q7⟩:=o.od j ks' fs z
   have hp:q≠p:=λy=>ne (r7 j ks' fs z (by rw[<- y];exact q1));refine⟨q,ws,q1,by rw[qc hp];exact q2,q3,q4,q5,q6,λk ks'' gs hk sk=>?_⟩;rcases qd hk with⟨e2,hl',z'⟩|⟨ne',z'⟩
   ·subst e2
    rw[hσ]at sk;cases sk;exact vN rfl hp
   ·exact q7 k ks'' gs z' sk
noncomputable def share(i:Nat)(ω:WSt):WSt:=match ω[i]? with
 | some (some (.ow ds))=>ω.set i ↥(.lst ds)
 | some (some (.od ks ds))=>ω.set i ↥(.dic ks ds)
 | _=>ω
theorem Own.share(i:Nat)(o:Own K G0 H0 G ω σ H):(∃G',YX G G'/\Own K G0 H0 G' (share i ω) σ H)\/∃p kvs,σ[i]?=some (some (.ref p))/\H p=some (.dK kvs)/\∀ob,∃G',YX G G'/\Own K G0 H0 G' (share i ω) σ (upd H p (.frz ob (.dK kvs))):=by
 unfold Hk.share;cases q:ω[i]? with
 | none=>exact .inl ⟨G,YX.refl _,o⟩
 | some w=>
  cases w with
  | none=>exact .inl ⟨G,YX.refl _,o⟩
  | some w=>
   cases w with
   | sh d=>exact .inl ⟨G,YX.refl _,o⟩
   | pw ds=>exact .inl ⟨G,YX.refl _,o⟩
   | ow ds=>
    obtain⟨l,vs,q1,q2,q3,q4,q5⟩:=o.ow i ds q;have s1:YX G (upd G l (.lst vs)):=Yq q3 _;have ho:i<ω.length:=(zS.mp q).1;refine .inl ⟨upd G l (.lst vs),s1,⟨o.ext.gg.trans s1,λb u z=>?_,o.ext.hh,λb z1 z2=>?_⟩,by rw[yF,o.len],λj e hj=>?_,λj fs hj=>?_,λj k fs gs m hj hk sj sk=>?_,λj ks fs hj=>?_,(o.pw.grow q3 (o.pw.ne_ow q q1)).setW (λ_ z=>by cases z) (λ_ z=>by cases z)⟩
    ·by_cases hb:b=l
     ·subst hb;rw[qe]at z;rw[q2];exact z
     ·rw[qc hb]at z;exact o.ext.gh b u z
    ·rw[qc (λhb=>z2 (by rw[hb];exact q4))];exact o.ext.new b z1 z2
    ·rcases qd hj with⟨rfl,hl,z⟩|⟨ne,z⟩
     ·cases z;exact⟨_,q1,l,vs,rfl,qe,q5.mono s1⟩
     ·obtain⟨u,r1,r2⟩:=o.sh j e z
      exact⟨u,r1,r2.mono s1⟩
    ·rcases qd hj with⟨rfl,hl,z⟩|⟨ne,z⟩
     ·cases z
     ·obtain⟨m,ws,r1,r2,r3,r4,r5⟩:=o.ow j fs z
      have hm:m≠l:=λy=>ne (o.nd i j ds fs l q z q1 (by rw[<- y];exact r1));exact⟨m,ws,r1,r2,by rw[qc hm];exact r3,r4,r5.mono s1⟩
    ·rcases qd hj with⟨e1,hl,z⟩|⟨ne,z⟩
     ·cases z
     ·rcases qd hk with⟨e2,hl',z'⟩|⟨ne',z'⟩
      ·cases z'
      ·exact o.nd j k fs gs m z z' sj sk
    ·rcases qd hj with⟨e1,hl,z⟩|⟨ne,z⟩
     ·cases z
     ·obtain⟨m,ws,r1,r2,r3,r4,r5,r6,r7⟩:=o.od j ks fs z
      have hm:m≠l:=λy=>by rw[y,q2]at r2;cases r2
      refine⟨m,ws,r1,r2,by rw[qc hm];exact r3,r4,r5,r6.mono s1,λk ks' es hk sk=>?_⟩;rcases qd hk with⟨e2,hl',z'⟩|⟨ne',z'⟩
      ·cases z'
      ·exact r7 k ks' es z' sk
   | od ks0 ds=>
    obtain⟨l,vs,q1,q2,q3,q4,q6,q5,q7⟩:=o.od i ks0 ds q;refine .inr ⟨l,_,q1,q2,λob=>?_⟩;have s1:YX G (upd G l (.frz ob (.dK (kvsOf ks0 vs)))):=Yq q3 _;have ho:i<ω.length:=(zS.mp q).1;refine⟨upd G l (.frz ob (.dK (kvsOf ks0 vs))),s1,⟨o.ext.gg.trans s1,WH o.ext.gh _,YW o.ext.hh q4 _,λb z1 z2=>?_⟩,by rw[yF,o.len],λj e hj=>?_,λj fs hj=>?_,λj k fs gs m hj hk sj sk=>?_,λj ks fs hj=>?_,((o.pw.upd (o.pw.ne_ob λvs z=>by rw[q2]at z;cases z)).grow q3 (o.pw.ne_ob λvs z=>by rw[q2]at z;cases z)).setW (λ_ z=>by cases z) (λ_ z=>by cases z)⟩
    ·rw[qc (λhb=>z2 (by rw[hb];exact q4))];exact o.ext.new b z1 z2
    ·rcases qd hj with⟨rfl,hl,z⟩|⟨ne,z⟩
     ·cases z;exact⟨_,q1,l,vs,rfl,⟨ob,qe⟩,q6,q5.mono s1⟩
     ·obtain⟨u,r1,r2⟩:=o.sh j e z
      exact⟨u,r1,r2.mono s1⟩
    ·rcases qd hj with⟨rfl,hl,z⟩|⟨ne,z⟩
     ·cases z
     ·obtain⟨m,ws,r1,r2,r3,r4,r5⟩:=o.ow j fs z
      have hm:m≠l:=λy=>by rw[y,q2]at r2;cases r2
      exact⟨m,ws,r1,by rw[qc hm];exact r2,by rw[qc hm];exact r3,r4,r5.mono s1⟩
    ·rcases qd hj with⟨e1,hl,z⟩|⟨ne,z⟩
     ·cases z
     ·rcases qd hk with⟨e2,hl',z'⟩|⟨ne',z'⟩
      ·cases z'
      ·exact o.nd j k fs gs m z z' sj sk
    ·rcases qd hj with⟨e1,hl,z⟩|⟨ne,z⟩
     ·cases z
     ·obtain⟨m,ws,r1,r2,r3,r4,r5,r6,r7⟩:=o.od j ks fs z
      have hm:m≠l:=λy=>ne (q7 j ks fs z (by rw[<- y];exact r1));refine⟨m,ws,r1,by rw[qc hm];exact r2,by rw[qc hm];exact r3,r4,r5,r6.mono s1,λk ks' es hk sk=>?_⟩;rcases qd hk with⟨e2,hl',z'⟩|⟨ne',z'⟩
      ·cases z'
      ·exact r7 k ks' es z' sk
end
theorem Inv.freeze{X:Cx}{pins:List (vF×Obj)}{σ:St}{H:Hp}{s:vC}{p:vF}{kvs:List (Key×V)}(I:Inv X pins σ H s)(hp:H p=some (.dK kvs)):∃ob,Inv X pins σ (upd H p (.frz ob (.dK kvs))) s:=by
 have ok:=I.hok p _ hp;obtain⟨_,_,_,_,ob,_,_,e,_⟩:=id ok;have stay:∀b u,Yc X.prog X.w H s.heap b u->Yc X.prog X.w (upd H p (.frz ob (.dK kvs))) s.heap b u:=λb u x=>
  x.stay (λ_ _ _ q=>q) (λc q=>by rw[qc (λz=>by rw[z,hp]at q;cases q)];exact q) λc xs q=>by rw[qc (λz=>by rw[z,hp]at q;cases q)];exact q
 refine⟨ob,I.step (H':=upd H p (.frz ob (.dK kvs))) (h':=s.heap) (g':=s.gens) (d':=s.drawn) (t':=s.toks) (ch:=[]) (λ_ z=>nomatch z) (λ_ _ _ _ _ e _=>e) (λ_ o _ _ _ e _=>⟨o.slots,e⟩) (λb o _ _ n=>by rw[qc (λz=>by rw[z,hp]at n;cases n)];exact n) (λ_ o _ e=>⟨o,e⟩)
  (λb xs q=>by rw[qc (λz=>by rw[z,hp]at q;cases q)];exact q) (λb o u q=>by rw[qc (λz=>by rw[z,hp]at q;cases q)];exact q) (λb ps q=>⟨#[],by rw[qc (λz=>by rw[z,hp]at q;cases q),q];simp⟩) (λ_ hm=>hm) (λb u q=>?_) I.bare⟩
 by_cases z:b=p
 ·subst z
  rw[qe]at q;cases q;exact⟨e,stay _ _ ok⟩
 ·rw[qc z]at q
  exact stay b u (I.hok b u q)
theorem q6e{X:Cx}{sts:List vo}{t:TS}(i:Nat)(h:PSs X sts t):PSs X sts (λD σ H=>∃p kvs,σ[i]?=some (some (.ref p))/\H p=some (.dK kvs)/\∀ob,t D σ (upd H p (.frz ob (.dK kvs)))):=by
 intro pins s σ H D I q;obtain⟨p,kvs,_,hp,q⟩:=q;obtain⟨ob,I'⟩:=Inv.freeze I hp;exact h pins s σ _ D I' (q ob)
noncomputable def Y3(i:Nat)(f:FS):FS:=λω=>f (share i ω)
theorem q03{X:Cx}{sts:List vo}{f:FS}(i:Nat)(h:XSs X sts f):XSs X sts (Y3 i f):=by
 obtain⟨t,h1,h2⟩:=h;refine⟨λD σ H=>t D σ H\/∃p kvs,σ[i]?=some (some (.ref p))/\H p=some (.dK kvs)/\∀ob,t D σ (upd H p (.frz ob (.dK kvs))),λpins s σ H D I q=>?_,λG0 H0 G ω σ H out ω' E o e k=>?_⟩
 ·rcases q with q|q
  ·exact h1 pins s σ H D I q
  ·exact q6e i h1 pins s σ H D I q
 ·rcases o.share i with⟨G1,g1,o1⟩|⟨p,kvs,z1,z2,z3⟩
  ·exact .inl (h2 G0 H0 G1 _ σ H out ω' E o1 e λG2 σ2 H2 w2 g2=>k G2 σ2 H2 w2 (g1.trans g2))
  ·refine .inr ⟨p,kvs,z1,z2,λob=>?_⟩
   obtain⟨G1,g1,o1⟩:=z3 ob;exact h2 G0 H0 G1 _ σ _ out ω' E o1 e λG2 σ2 H2 w2 g2=>k G2 σ2 H2 w2 (g1.trans g2)
noncomputable def setR(i:Nat)(r:R)(ω:WSt):Option WSt:=match r with
 | .sh d=>some (ω.set i ↥d)
 | .fr ds=>some (ω.set i (some (.ow ds)))
 | .vw _=>none
noncomputable def Yk(i:Nat)(f:FE):FS:=λω=>(f ω).bind λr=>(setR i r ω).map λw=>(.nx,w)
section
variable{X:Cx}{e:vP}{f:FE}{pos pos':Pos}
theorem qaP{i:Nat}{t:TE}(h:zBE X.K t f):SimS X.K (zBG t (Xb i)) (Yk i f):=by
 intro G0 H0 G ω σ H out ω' E o e k;obtain⟨r,q,e⟩:=bnd e;obtain⟨w,q2,e⟩:=mpd e;cases e;refine h G0 H0 G ω σ H r _ o q λv G1 H1 x1 y1=>?_;have o1:=o.keep x1;show E.nx (σ.set i (some v)) H1;cases r with
 | sh d=>cases q2;exact k G1 _ H1 (o1.setSh y1) x1.gg
 | fr ds=>
  cases q2;obtain⟨l,vs,rfl,e2,e3,e4,e5⟩:=y1;refine k G1 _ H1 (o1.setOw e4 e3 (o.ext.hh.free e2) e5 (λj es hj z=>?_) λj es hj y=>?_) x1.gg
  ·obtain⟨m,us,q1,q2,_⟩:=o.ow j es hj
   rw[q1]at z;cases z;rw[e2]at q2;cases q2
  ·obtain⟨us,_,q2,_⟩:=o.pw j es hj
   rw[y,e2]at q2;cases q2
 | vw ds=>cases q2
theorem qi{i:Nat}{x:Str}(hN:X.N.Nodup)(hi:X.N[i]?=some x)(hx:Loc X.env.scope x)(he:XE X e f)(hs:vv e (some (.Name x pos')) pos.line X.env=pure false:=by rfl)(hf:X.fn x=true\/X.env.scope.names.lookup x=some .local:=by first|exact .inl rfl|exact .inr rfl|assumption):
  XS X (.Assign [.Name x pos'] e pos) (Yk i f):=let ⟨_,h1,h2⟩:=he;⟨_,q48 hN hi hx h1 hs hf,qaP h2⟩
noncomputable abbrev FG:=D->WSt->Option WSt
def SimG(K:zC)(g:TG)(fg:FG):Prop:=∀G0 H0 G ω σ H d v ω'(Q:St->Hp->Prop),Own K G0 H0 G ω σ H->fg d ω=some ω'->Rep K G d v->(∀σ',Own K G0 H0 G ω' σ' H->Q σ' H)->g v σ H Q
def XG(X:Cx)(tg:vP)(fg:FG):Prop:=∃g,PG X tg g/\SimG X.K g fg
noncomputable def gN(i:Nat):FG:=λd ω=>some (ω.set i ↥d)
theorem qg{i:Nat}{x:Str}(hN:X.N.Nodup)(hi:X.N[i]?=some x)(hx:Loc X.env.scope x)(hf:X.fn x=true\/X.env.scope.names.lookup x=some .local:=by first|exact .inl rfl|exact .inr rfl|assumption):XG X (.Name x pos) (gN i) :=
 ⟨_,q0K hN hi hx hf,λG0 H0 G ω σ H d v ω' Q o e h k=>by cases e;exact k _ (o.setSh h)⟩
def SimGs(K:zC)(g:TGs)(fg:List D->WSt->Option WSt):Prop:=∀G0 H0 G ω σ H ds vs ω'(Q:St->Hp->Prop),Own K G0 H0 G ω σ H->fg ds ω=some ω'->YQ K G ds vs->(∀σ',Own K G0 H0 G ω' σ' H->Q σ' H)->g vs σ H Q
def XGs(X:Cx)(tg:List vP)(fg:List D->WSt->Option WSt):Prop:=∃g,PGs X tg g/\SimGs X.K g fg
noncomputable def Yt:List D->WSt->Option WSt
 | [],ω=>some ω
 | _,_=>none
noncomputable def YT(f:FG)(g:List D->WSt->Option WSt):List D->WSt->Option WSt
 | d::ds,ω=>(f d ω).bind λw=>g ds w
 | [],_=>none
theorem q1c:XGs X [] Yt:=⟨_,qaA,λG0 H0 G ω σ H ds vs ω' Q o e h k=>by
 cases ds with
 | nil=>cases e;cases (show vs=[]from h);exact⟨rfl,k σ o⟩
 | cons d r=>cases e⟩
theorem qx{es:List vP}{fg:FG}{gs:List D->WSt->Option WSt}(h:XG X e fg)(h':XGs X es gs)(hs:(uE (e::es) X.env).map (·.2)=assign e X.env::(uE es X.env).map (·.2):=by rfl):XGs X (e::es) (YT fg gs):=by
 obtain⟨g,h1,h2⟩:=h;obtain⟨u,h3,h4⟩:=h';refine⟨_,q3U h1 h3 hs,λG0 H0 G ω σ H ds vs ω' Q o e h k=>?_⟩;cases ds with
 | nil=>cases e
 | cons d r=>
  obtain⟨w1,q,e1⟩:=bnd e;obtain⟨v,vr,rfl,r1,r2⟩:=h;exact⟨v,vr,rfl,h2 G0 H0 G ω σ H d v w1 _ o q r1 λσ1 o1=>h4 G0 H0 G w1 σ1 H r vr ω' Q o1 e1 r2 k⟩
noncomputable def gT(n:Nat)(g:List D->WSt->Option WSt):FG:=λd ω=>match d with
 | .tup ds=>if ds.length=n then g ds ω else none
 | _=>none
theorem q1Y{es:List vP}{k n:Nat}{gs:List D->WSt->Option WSt}(hc:X.calm=true)(h:XGs X es gs)(hn:(uE es X.env).length=n:=by rfl)(hst:(uE es X.env).findIdx? (·.1)=none:=by rfl):XG X (.Tuple es k pos) (gT n gs):=by
 obtain⟨g,h1,h2⟩:=h;refine⟨_,qek hc h1 hn hst,λG0 H0 G ω σ H d v ω' Q o e h k=>?_⟩;unfold gT at e;cases d with
 | tup ds=>
  dsimp only at e
  obtain⟨a,vs,rfl,r1,r2⟩:=h
  by_cases z:ds.length=n
  ·rw[vG z]at e
   exact⟨a,vs,rfl,SqT.of (o.gh _ _ r1),by rw[<- r2.len];exact z,h2 G0 H0 G ω σ H ds vs ω' Q o e r2 k⟩
  ·rw[vJ z]at e;cases e
 | _=>cases e
end
noncomputable def sIf(c:FT)(f g:FS):FS:=λω=>(c ω).bind λb=>if b=true then f ω else g ω
noncomputable def Yr(f:FE):FS:=λω=>(f ω).bind λr=>match r with
 | .sh d=>some (.rt (.sh d),ω)
 | .fr ds=>some (.rt (.fr ds),ω)
 | .vw _=>none
noncomputable def WA(i:Nat):FS:=λω=>match ω[i]? with
 | some ↥d=>some (.rt (.sh d),ω)
 | some (some (.ow ds))=>some (.rt (.fr ds),ω)
 | _=>none
noncomputable def sNo:FS:=λ_=>none
noncomputable def zAd(f:FE):FS:=λω=>(f ω).map λ_=>(.nx,ω)
section
variable{X:Cx}{c e:vP}{a b:List vo}{st:vo}{pos:Pos}{fc:FT}{f g:FS}{fe:FE}
theorem q0b(hc:XT X c fc)(ha:XSs X a f)(hb:XSs X b g):XS X (.If c a b pos) (sIf fc f g):=by
 obtain⟨t,h1,h2⟩:=hc;obtain⟨u,h3,h4⟩:=ha;obtain⟨w,h5,h6⟩:=hb;refine⟨_,qbp h1 h3 h5,λG0 H0 G ω σ H out ω' E o e k=>?_⟩;obtain⟨z,q,e⟩:=bnd e;refine h2 G0 H0 G ω σ H z _ o q λG1 H1 x1=>?_;cases z with
 | true=>rw[vG rfl]at e ⊢;exact h4 G0 H0 G1 ω σ H1 out ω' E (o.keep x1) e λG2 σ2 H2 o2 g2=>k G2 σ2 H2 o2 (x1.gg.trans g2)
 | false=>exact h6 G0 H0 G1 ω σ H1 out ω' E (o.keep x1) e λG2 σ2 H2 o2 g2=>k G2 σ2 H2 o2 (x1.gg.trans g2)
theorem ql(he:XE X e fe):XS X (.Return (some e) pos) (Yr fe):=by
 obtain⟨t,h1,h2⟩:=he;refine⟨_,q5I h1,λG0 H0 G ω σ H out ω' E o e k=>?_⟩;obtain⟨r,q,e⟩:=bnd e;refine h2 G0 H0 G ω σ H r _ o q λv G1 H1 x1 y1=>?_;cases r with
 | sh d=>cases e;exact k G1 σ H1 (o.keep x1) x1.gg v y1
 | fr ds=>
  cases e;obtain⟨l,vs,e1,e2,e3⟩:=y1;exact k G1 σ H1 (o.keep x1) x1.gg v ⟨l,vs,e1,o.ext.hh.free e2,e3⟩
 | vw ds=>cases e
theorem q2l{i:Nat}(he:PE X e (Yz i)):XS X (.Return (some e) pos) (WA i):=by
 refine⟨_,q5I he,λG0 H0 G ω σ H out ω' E o e k=>?_⟩;unfold WA at e;cases q:ω[i]? with
 | none=>rw[q]at e;cases e
 | some w=>
  rw[q]at e;cases w with
  | none=>cases e
  | some w=>
   cases w with
   | sh d=>
    cases e;obtain⟨v,q1,q2⟩:=o.sh i d q;exact⟨v,q1,k G σ H o (YX.refl _) v q2⟩
   | ow ds=>
    cases e;obtain⟨l,vs,q1,q2,q3,q4,q5⟩:=o.ow i ds q;exact⟨_,q1,k G σ H o (YX.refl _) _ ⟨l,vs,rfl,q4,q3,q2,q5⟩⟩
   | od ks ds=>cases e
   | pw ds=>cases e
theorem qfC:XS X st sNo:=⟨_,qfj,λG0 H0 G ω σ H out ω' E o e k=>by cases e⟩
theorem qak(he:XE X e fe)(hs:vv e none pos.line X.env=pure false:=by rfl):XS X (.Expr e pos) (zAd fe):=by
 obtain⟨t,h1,h2⟩:=he;refine⟨_,q2j h1 hs,λG0 H0 G ω σ H out ω' E o e k=>?_⟩;obtain⟨r,q,e⟩:=mpd e;cases e;exact h2 G0 H0 G ω σ H r _ o q λv G1 H1 x1 y1=>k G1 σ H1 (o.keep x1) x1.gg
noncomputable def zAQ(i:Nat)(f:FD):FS:=λω=>(f ω).bind λd=>match ω[i]? with
 | some (some (.ow ds))=>if ds.length<1000000 then some (.nx,ω.set i (some (.ow (ds++[d]))))else none
 | _=>none
theorem q1V{i:Nat}{o e:vP}{fd:FD}{apos cpos:Pos}(ho:PE X o (Yz i))(he:XD X e fd)(hbase:uT o "append" X.env (eval o X.env)=eval o X.env:=by rfl)(hfew:((vn cpos (vK [e] X.env)).all (λx=>!x.1)&&(uM cpos (vz [] X.env)).all (λx=>x.1.isSome)
   && decide (([e]:List vP).length+([]:List uY).length+(if ([]:List uY).isEmpty then 0 else 1)<30))=true:=by rfl)
  (hline:(apos.endLine==cpos.line)=true:=by rfl) (hs:vK [e] X.env=(false,eval e X.env)::vK [] X.env:=by rfl) (hplain:(vn cpos (vK [] X.env)).any (·.1)=false:=by rfl)
  (hsw:vv (.Call (.Attribute o "append" apos) [e] [] cpos) none pos.line X.env=pure false:=by rfl) :
  XS X (.Expr (.Call (.Attribute o "append" apos) [e] [] cpos) pos) (zAQ i fd):=by
 obtain⟨t,h1,h2⟩:=he;refine⟨_,q2j (q5B PySem.F.plainAttrs_list PySem.F.slot_list_append PySem.F.type_list_append q2R ho (qq h1 qI hs) hbase hfew hline hs hplain) hsw,λG0 H0 G ω σ H out ω' E ow e k=>?_⟩;obtain⟨d,q,e⟩:=bnd e;cases q2:ω[i]? with
 | none=>rw[q2]at e;cases e
 | some w=>
  rw[q2]at e;cases w with
  | none=>cases e
  | some w=>
   cases w with
   | sh d=>cases e
   | od ks ds=>cases e
   | pw ds=>cases e
   | ow ds=>
    dsimp only at e
    by_cases z:ds.length<1000000
    ·rw[vG z]at e
     cases e;obtain⟨l,vs,r1,r2,r3,r4,r5⟩:=ow.ow i ds q2;refine⟨.ref l,r1,.inl ⟨rfl,vs,SqL.of r2⟩,h2 G0 H0 G ω σ H d _ ow q λv G1 H1 x1 y1=>?_⟩;have o1:=ow.keep x1;have hz:vs.length<sizeLine:=by rw[<- r5.len,vX];omega
     refine⟨l,vs,v,rfl,rfl,x1.hh _ _ r2,hz,?_⟩;exact k G1 σ _ (o1.mut q2 r1 (x1.hh _ _ r2) (x1.new l r3 (by rw[r2];exact λz=>by cases z)) r4 ((r5.mono x1.gg).app (YQ.cons y1 YQ.nil))) x1.gg
    ·rw[vJ z]at e;cases e
end
end Hk
namespace PySem
open AutoSeq1 MeetsSeq MeetsSeq2 MeetsSeq3
theorem extTup(l b:vF)(xs ys:Array vB)(n m:Nat)(dd:Option vF)(sl:Array (Option vB))(h1:¬(!xs.isEmpty&&Builtin.List.listTooLong (xs.size+ys.size))=true)(h2:xs.size<=sizeLine)(h3:xs.size+ys.size<=sizeLine+1):
  Meets (Builtin.«list.extend» ⟨[.ref l,.ref b],[]⟩) (λ_ R s=>s.heap.get? l=some { cls:=.type "list", data:=.seq xs n }/\s.heap.get? b=some { cls:=.type "tuple", dict:=dd,data:=.seq ys m,slots:=sl } /\
   R (.ok (.ret Value.none)) { s with heap:=s.heap.update l (Obj.mapSeq λz=>z++ys),toks:=s.toks }) :=
 .of_wp λprog w A R s h=>by
  obtain⟨hp,g,d,tk,os⟩:=s;obtain⟨e1,e2,q⟩:=h;have p1:=idx_int;have p2:=sub_tuple_tuple;have p3:=sub_list_list;have p4:=sub_tuple_list;have p5:=sub_list_tuple;have fit:(xs++ys).size<=sizeLine+1:=by rw[Array.size_append];exact h3
  wp_walk using (uH e1 rfl (hz:=h2) (_hz':=fit)),wpAny_loadPart' e1,wpAny_loadPart' e2
  exact⟨_,rfl,q⟩
end PySem
namespace Hk
open PySem L2
section
variable{X:Cx}{pos:Pos}
def rExtA:V->List V->Hp->VK->Prop:=λx vs H Q=>W3 x vs H Q\/∃l b xs zs,x=.ref l/\vs=[.ref b]/\H l=some (.lst xs)/\H b=some (.tup zs)/\xs.length+zs.length<=sizeLine/\Q .non (upd H l (.lst (xs++zs)))
theorem qgc:MtR X "list.extend" rExtA:=by
 intro pins s σ H x vs v us Q I rx rv h;rcases h with h|h
 ·exact qdH pins s σ H x vs v us Q I rx rv h
 obtain⟨l,b,xs,zs,rfl,rfl,hH,hB,hz,q⟩:=h;cases rx;obtain⟨u,rfl,ru⟩:=rv.one;cases ru;obtain⟨z,its,n,r,hl,e⟩:=I.lstM hH;obtain⟨its2,r2,⟨o2,e2,c2,n2,d2⟩,z2⟩:=I.tuple (SqT.of hB);have hl2:=r2.length;obtain⟨cls,dd,dt,sl⟩:=o2;cases c2;cases d2;have hsz:its.toArray.size+its2.toArray.size<=sizeLine:=by rw[zM,zM];omega
 have hlong:¬(!its.toArray.isEmpty&&Builtin.List.listTooLong (its.toArray.size+its2.toArray.size))=true:=by
  rw[Wd hsz,xm];exact yJ
 refine tQ F.slot_list_extend ⟨_,e,rfl⟩ F.entry_list_extend (F.args_list_extend_2 _ _)
  (extTup l b its.toArray its2.toArray n n2 dd sl hlong (by rw[zM];omega) ∅) ⟨e,e2,?_⟩
 refine⟨.non,_,I.lset (its':=its++its2) hH e (by simp) (r.append r2) ?_,rfl,q⟩;rw[zE];omega
noncomputable def itemsOf:D->Option (List D)
 | .lst ds=>some ds
 | .tup ds=>some ds
 | _=>none
noncomputable def sExt(i:Nat)(f:FD):FS:=λω=>(f ω).bind λd=>(itemsOf d).bind λes=>match ω[i]? with
 | some (some (.ow ds))=>if ds.length+es.length<=1000000 then some (.nx,ω.set i (some (.ow (ds++es))))else none
 | _=>none
theorem qh9{i:Nat}{o e:vP}{fd:FD}{apos cpos:Pos}(ho:PE X o (Yz i))(he:XD X e fd)(hbase:uT o "extend" X.env (eval o X.env)=eval o X.env:=by rfl)(hfew:((vn cpos (vK [e] X.env)).all (λx=>!x.1)&&(uM cpos (vz [] X.env)).all (λx=>x.1.isSome)
   && decide (([e]:List vP).length+([]:List uY).length+(if ([]:List uY).isEmpty then 0 else 1)<30))=true:=by rfl)
  (hline:(apos.endLine==cpos.line)=true:=by rfl) (hs:vK [e] X.env=(false,eval e X.env)::vK [] X.env:=by rfl) (hplain:(vn cpos (vK [] X.env)).any (·.1)=false:=by rfl)
  (hsw:vv (.Call (.Attribute o "extend" apos) [e] [] cpos) none pos.line X.env=pure false:=by rfl) :
  XS X (.Expr (.Call (.Attribute o "extend" apos) [e] [] cpos) pos) (sExt i fd):=by
 obtain⟨t,h1,h2⟩:=he;refine⟨_,q2j (q5B PySem.F.plainAttrs_list PySem.F.slot_list_extend PySem.F.type_list_extend qgc ho (qq h1 qI hs) hbase hfew hline hs hplain) hsw,λG0 H0 G ω σ H out ω' E ow e k=>?_⟩;obtain⟨d,q,e⟩:=bnd e;obtain⟨es,q3,e⟩:=bnd e;cases q2:ω[i]? with
 | none=>rw[q2]at e;cases e
 | some w=>
  rw[q2]at e;cases w with
  | none=>cases e
  | some w=>
   cases w with
   | sh d=>cases e
   | od ks ds=>cases e
   | pw ds=>cases e
   | ow ds=>
    dsimp only at e
    by_cases z:ds.length+es.length<=1000000
    ·rw[vG z]at e
     cases e;obtain⟨l,vs,r1,r2,r3,r4,r5⟩:=ow.ow i ds q2;refine⟨.ref l,r1,.inl ⟨rfl,vs,SqL.of r2⟩,h2 G0 H0 G ω σ H d _ ow q λv G1 H1 x1 y1=>?_⟩;have o1:=ow.keep x1;have fin:∀us:List V,YQ X.K G1 es us->vs.length+us.length<=sizeLine/\Post X.K H0 G1 E .nx σ (upd H1 l (.lst (vs++us))):=λus hu=>
      ⟨by rw[<- r5.len,<- hu.len];exact q59 z,k G1 σ _ (o1.mut q2 r1 (x1.hh _ _ r2) (x1.new l r3 (by rw[r2];exact λz=>by cases z)) r4 ((r5.mono x1.gg).app hu)) x1.gg⟩
     cases d with
     | lst ds'=>
      cases q3;obtain⟨b,us,rfl,r6,r7⟩:=y1;obtain⟨f1,f2⟩:=fin us r7;exact .inl ⟨l,b,vs,us,rfl,rfl,x1.hh _ _ r2,x1.gh _ _ r6,f1,f2⟩
     | tup ds'=>
      cases q3;obtain⟨b,us,rfl,r6,r7⟩:=y1;obtain⟨f1,f2⟩:=fin us r7;exact .inr ⟨l,b,vs,us,rfl,rfl,x1.hh _ _ r2,x1.gh _ _ r6,f1,f2⟩
     | _=>cases q3
    ·rw[vJ z]at e;cases e
end
structure IterOf (K:zC) (J:It) (G:Hp) (ds:List D):Prop where
 go:∀H i,YX G H->i<ds.length->J.go i H
 yld:∀G2 H i x H' d,YX G G2->YX G2 H->ds[i]?=some d->J.yld i H x H'->∃G3,Ext G2 H G3 H'/\Rep K G3 d x
 stop:∀H,YX G H->J.stop ds.length H
noncomputable abbrev FI:=WSt->Option (List D)
def SimI(K:zC)(wi:TI)(f:FI):Prop:=∀G0 H0 G ω σ H ds(R:It->Hp->Prop),Own K G0 H0 G ω σ H->f ω=some ds->(∀J G' H',Ext G H G' H'->IterOf K J G' ds->R J H')->wi σ H R
def XI(X:Cx)(tg iter:vP)(f:FI):Prop:=∃wi,PI X tg iter wi/\SimI X.K wi f
section
variable{X:Cx}{tg e:vP}
theorem qeY{K:zC}{G:Hp}{a:vF}{ds:List D}{vs:List V}(h1:G a=some (.lst vs))(h2:YQ K G ds vs):IterOf K (Itl K a) G ds:=by
 refine⟨λH i s hi=>?_,λG2 H i x H' d s0 s1 hd hy=>?_,λH s=>⟨vs,SqL.of (s _ _ h1),by rw[h2.len];exact zI _⟩⟩
 ·have:i<vs.length:=by rw[<- h2.len];exact hi
  exact⟨vs,vs[i],SqL.of (s _ _ h1),zB this⟩
 ·obtain⟨e,y⟩:=hy
  obtain⟨v,q1,q2⟩:=h2.get hd;have:=y vs (SqL.of (s1 _ _ (s0 _ _ h1)));rw[q1]at this;cases this;subst e;exact⟨G2,Ext.refl s1,q2.mono s0⟩
theorem qfp{K:zC}{G:Hp}{a:vF}{ds:List D}{vs:List V}(h1:G a=some (.tup vs))(h2:YQ K G ds vs):IterOf K (Itt K a) G ds:=by
 refine⟨λH i s hi=>?_,λG2 H i x H' d s0 s1 hd hy=>?_,λH s=>⟨vs,SqT.of (s _ _ h1),by rw[h2.len];exact zI _⟩⟩
 ·have:i<vs.length:=by rw[<- h2.len];exact hi
  exact⟨vs,vs[i],SqT.of (s _ _ h1),zB this⟩
 ·obtain⟨e,y⟩:=hy
  obtain⟨v,q1,q2⟩:=h2.get hd;have:=y vs (SqT.of (s1 _ _ (s0 _ _ h1)));rw[q1]at this;cases this;subst e;exact⟨G2,Ext.refl s1,q2.mono s0⟩
noncomputable def XX(f:FD):FI:=λω=>(f ω).bind itemsOf
theorem qy{f:FD}(h:XD X e f):XI X tg e (XX f):=by
 obtain⟨t,h1,h2⟩:=h;refine⟨λσ H R=>W0 X.K t σ H R\/iTup X.K t σ H R,λpins s σ H R I q=>?_,λG0 H0 G ω σ H ds R o e k=>?_⟩
 ·rcases q with q|q
  ·exact q1G h1 pins s σ H R I q
  ·exact qhj h1 pins s σ H R I q
 ·obtain⟨d,q,e⟩:=bnd e
  cases d with
  | lst es=>
   cases e;refine .inl (h2 G0 H0 G ω σ H _ _ o q λv G1 H1 x1 ⟨a,vs,e1,e2,e3⟩=>⟨a,e1,⟨vs,SqL.of (x1.gh _ _ e2)⟩,k _ G1 H1 x1 (qeY e2 e3)⟩)
  | tup es=>
   cases e;refine .inr (h2 G0 H0 G ω σ H _ _ o q λv G1 H1 x1 ⟨a,vs,e1,e2,e3⟩=>⟨a,e1,⟨vs,SqT.of (x1.gh _ _ e2)⟩,k _ G1 H1 x1 (qfp e2 e3)⟩)
  | _=>cases e
noncomputable def upTo(lo:Int)(n:Nat):List D:=(zO n).map λ(i:Nat)=>D.int (lo+(i:Int))
theorem q9v{K:zC}{G:Hp}(lo:Int)(n:Nat):IterOf K (Itr lo n) G (upTo lo n):=by
 have hl:(upTo lo n).length=n:=by unfold upTo;rw[zA,zX]
 refine⟨λH i s hi=>by rw[hl]at hi;exact hi,λG2 H i x H' d s0 s1 hd hy=>?_,λH s=>by rw[hl];exact zI _⟩;obtain⟨e,y⟩:=hy;subst e;refine⟨G2,Ext.refl s1,?_⟩;unfold upTo at hd;rw[zK]at hd;have hi:i<n:=by
  rcases zo i n with z|z
  ·exact z
  ·rw[ze (by rw[zX];exact z)]at hd;cases hd
 rw[yX hi]at hd;cases hd;exact y
noncomputable def zAg(g:FA):FI:=λω=>(g ω).bind λds=>match ds with
 | [.int j]=>if -(2^62)<=j/\j<2^62 then some (upTo 0 j.toNat)else none
 | _=>none
noncomputable def iRg2(g:FA):FI:=λω=>(g ω).bind λds=>match ds with
 | [.int i,.int j]=>if (-(2^62)<=i/\i<2^62)/\-(2^62)<=j/\j<2^62 then some (upTo i (j-i).toNat)else none
 | _=>none
theorem q0z{a:vP}{g:FA}{p pos:Pos}(hg:Gl X "range")(hm:X.mg "range" = none)(ha:XVA X [a] g)(hs:vK [a] X.env=[(false,eval a X.env)]:=by rfl):XI X tg (.Call (.Name "range" p) [a] [] pos) (zAg g):=by
 obtain⟨t,h1,h2⟩:=ha;refine⟨_,qe6 hg hm h1 hs,λG0 H0 G ω σ H ds R o e k=>?_⟩;obtain⟨vs,q,e⟩:=bnd e;refine h2 G0 H0 G ω σ H vs _ o q λus G1 H1 x1 y1=>?_
 match vs,e with
 | [.int j],e=>
  dsimp only at e
  by_cases z:-(2^62)<=j/\j<2^62
  ·rw[vG z]at e
   cases e;obtain⟨v,rfl,y2⟩:=y1.one;cases y2.int;exact⟨j,rfl,z.1,z.2,k _ G1 H1 x1 (q9v _ _)⟩
  ·rw[vJ z]at e;cases e
theorem q7v{a b:vP}{g:FA}{p pos:Pos}(hg:Gl X "range")(hm:X.mg "range" = none)(ha:XVA X [a,b] g)(hs:vK [a,b] X.env=[(false,eval a X.env),(false,eval b X.env)]:=by rfl)(hs2:vK [b] X.env=[(false,eval b X.env)]:=by rfl):XI X tg (.Call (.Name "range" p) [a,b] [] pos) (iRg2 g):=by
 obtain⟨t,h1,h2⟩:=ha;refine⟨_,qdf hg hm h1 hs hs2,λG0 H0 G ω σ H ds R o e k=>?_⟩;obtain⟨vs,q,e⟩:=bnd e;refine h2 G0 H0 G ω σ H vs _ o q λus G1 H1 x1 y1=>?_
 match vs,e with
 | [.int i,.int j],e=>
  dsimp only at e
  by_cases z:(-(2^62)<=i/\i<2^62)/\-(2^62)<=j/\j<2^62
  ·rw[vG z]at e
   cases e;obtain⟨v,u,rfl,y2,y3⟩:=y1.two;cases y2.int;cases y3.int;exact⟨i,j,rfl,⟨z.1.1,z.1.2,z.2.1,z.2.2⟩,k _ G1 H1 x1 (q9v _ _)⟩
  ·rw[vJ z]at e;cases e
end
noncomputable def WV(g:FG)(b:FS):List D->FS
 | [],ω=>some (.nx,ω)
 | d::ds,ω=>(g d ω).bind λw=>(b w).bind λp=>match p.1 with
  | .nx=>WV g b ds p.2
  | .ct=>WV g b ds p.2
  | .bk=>some (.nx,p.2)
  | .rt r=>some (.rt r,p.2)
noncomputable def Xp(fi:FI)(g:FG)(b:FS):FS:=λω=>(fi ω).bind λds=>WV g b ds ω
section
variable{X:Cx}{tg iter:vP}{body:List vo}{pos:Pos}{fi:FI}{fg:FG}{fb:FS}
theorem qG(hp:tz (model X.prog X.w) X.A X.env X.xe)(hc:X.calm=true)(hi:XI X tg iter fi)(hg:XG X tg fg)(hb:XSs X body fb)(hs:∀x,v7 iter X.env x=pure x:=by intro _;rfl):XS X (.For tg iter body [] pos) (Xp fi fg fb):=by
 obtain⟨wi,h1,h2⟩:=hi;obtain⟨g,h3,h4⟩:=hg;obtain⟨tb,h5,h6⟩:=hb;refine⟨_,q3B hp hc h1 h3 h5 hs,λG0 H0 G ω σ H out ω' E o e k=>?_⟩;obtain⟨ds,q,e⟩:=bnd e;refine h2 G0 H0 G ω σ H ds _ o q λJ G1 H1 x1 it=>?_;refine⟨λi m σ2 H2=>∃G2 ω2,Own X.K G0 H0 G2 ω2 σ2 H2/\YX G1 G2/\WV fg fb (ds.drop i) ω2=some (out,ω')/\i<=ds.length/\m=ds.length-i,⟨_,G1,ω,o.keep x1,YX.refl _,e,zy _,rfl⟩,?_⟩;rintro i m σ2 H2 ⟨G2,ω2,o2,s2,f2,hi2,rfl⟩
 by_cases hlt:i<ds.length
 ·refine .inr ⟨it.go H2 i (s2.trans o2.gh) hlt,λσ3 H3=>∃G3 ω3,Own X.K G0 H0 G3 ω3 σ3 H3/\YX G1 G3/\WV fg fb (ds.drop (i+1)) ω3=some (out,ω'),λσ3 H3 ⟨G3,ω3,a1,a2,a3⟩=>⟨ds.length-(i+1),∅,G3,ω3,a1,a2,a3,hlt,rfl⟩,λx H3 hy=>?_⟩
  have hd:ds[i]?=some ds[i]:=zB hlt;obtain⟨G4,x4,rx⟩:=it.yld G2 H2 i x H3 ds[i] s2 o2.gh hd hy;have o2:=o2.keep x4;have s2:=s2.trans x4.gg;rw[yz hlt]at f2;obtain⟨w,q1,f2⟩:=bnd f2;obtain⟨⟨o3,ω3⟩,q2,f2⟩:=bnd f2;refine h4 G0 H0 G4 ω2 σ2 H3 ds[i] x w _ o2 q1 rx λσ4 o4=>?_;refine h6 G0 H0 G4 w σ4 H3 o3 ω3 _ o4 q2 λG5 σ5 H5 o5 s5=>?_;cases o3 with
  | nx=>exact⟨G5,ω3,o5,s2.trans s5,f2⟩
  | ct=>exact⟨G5,ω3,o5,s2.trans s5,f2⟩
  | bk=>cases f2;exact k G5 σ5 H5 o5 (x1.gg.trans (s2.trans s5))
  | rt r=>cases f2;exact k G5 σ5 H5 o5 (x1.gg.trans (s2.trans s5))
 ·have ei:i=ds.length:=∅
  subst ei;rw[xu]at f2;cases f2;exact .inl ⟨it.stop H2 (s2.trans o2.gh),k G2 σ2 H2 o2 (x1.gg.trans s2)⟩
end
noncomputable def Y6(g:FG)(c:FT)(f:FD):List D->WSt->Option (List D)
 | [],_=>some []
 | d::ds,ω=>(g d ω).bind λw=>(c w).bind λb=>if b=true then (f w).bind λx=>(Y6 g c f ds w).map λr=>x::r else Y6 g c f ds w
noncomputable def WB:Option (Option W)->Option W
 | some ↥d=>↥d
 | _=>none
noncomputable def inW(M:Nat)(frees:List Nat)(ω:WSt):WSt:=xl M none++frees.map λj=>WB ω[j]?
noncomputable def Yp(M:Nat)(frees:List Nat)(fi:FI)(g:FG)(c:FT)(f:FD):FE:=λω=>(fi ω).bind λds=>if ds.length<=1000000 then (Y6 g c f ds (inW M frees ω)).map R.fr else none
def XTs(X:Cx)(ifs:List vP)(f:FT):Prop:=∃t,PTs X ifs t/\Wc X.K t f
noncomputable def Yn:FT:=λ_=>some true
theorem qK{X:Cx}:XTs X [] Yn:=⟨_,qaH,λG0 H0 G ω σ H b Q o e k=>by cases e;exact k G H (Ext.refl o.gh)⟩
theorem q7c{X:Cx}{c:vP}{f:FT}(h:XT X c f):XTs X [c] f:=let ⟨t,h1,h2⟩:=h;⟨t,qfK h1,h2⟩
section
variable{X:Cx}{N:List Str}{M:Nat}{frees:List Nat}{scope:uk}{tg iter elt:vP}{ifs:List vP}{pos:Pos}{fi:FI}{fg:FG}{fc:FT}{fe:FD}
def XZ(ω:WSt):Prop:=∀(i:Nat)w,ω[i]?=some (some w)->∃d,w=.sh d
theorem XZ.ow{ω:WSt}(h:XZ ω)(i:Nat)(ds:List D):ω[i]?≠some (some (.ow ds)):=λz=>by obtain⟨d,e⟩:=h i _ z;cases e
theorem XZ.od{ω:WSt}(h:XZ ω)(i:Nat)(ks:List Int)(ds:List D):ω[i]?≠some (some (.od ks ds)):=λz=>by obtain⟨d,e⟩:=h i _ z;cases e
theorem XZ.pw{ω:WSt}(h:XZ ω)(i:Nat)(ds:List D):ω[i]?≠some (some (.pw ds)):=λz=>by obtain⟨d,e⟩:=h i _ z;cases e
theorem q8L{wi:TI}{g:TG}{tc:TT}{te:TE}(h2:SimI X.K wi fi)(h4:SimG X.K g fg)(h6:Wc X.K tc fc)(h8:zBJ X.K te fe)(hg:∀d ω ω',XZ ω->fg d ω=some ω'->XZ ω'):zBE X.K (zAc M frees wi g tc te) (Yp M frees fi fg fc fe):=by
 intro G0 H0 G ω σ H r Q o e k;obtain⟨ds,q,e⟩:=bnd e
 by_cases hz:ds.length<=1000000
 ·rw[vG hz]at e
  obtain⟨rs,q2,e⟩:=mpd e;subst e;refine h2 G0 H0 G ω σ H ds _ o q λJ G1 H1 x1 it=>?_;intro A hA;have ow0:XZ (inW M frees ω):=by
   intro i es z;unfold inW at z;rcases zo i M with y|y
   ·rw[zV ⇑y,yT,vG y]at z;cases z
   ·rw[zP ⇑y,yZ,zK]at z
    cases e1:frees[i-M]? with
    | none=>rw[e1]at z;cases z
    | some j=>
     rw[e1]at z;have z':WB ω[j]?=some es:=zn z;generalize ω[j]?=u at z';unfold WB at z'
     split at z'
     ·cases z';exact⟨_,rfl⟩
     ·cases z'
  have own0:∀G2 H2,YX G1 G2->YX G2 H2->Own X.K G2 (fr H2) G2 (inW M frees ω) (zAR M frees σ) H2:=λG2 H2 s1 s2=>by
   have o1:=o.keep x1;refine⟨Ext.refl s2,by unfold inW zAR;simp,λi d hi=>?_,λi ds' hi=>vN hi (ow0.ow i ds'),λi j ds' es l hi=>vN hi (ow0.ow i ds'),λi ks ds' hi=>vN hi (ow0.od i ks ds'),Y4.no ow0.pw⟩;unfold inW at hi;unfold zAR;rcases zo i M with y|y
   ·rw[zV ⇑y,yT,vG y]at hi;cases hi
   ·rw[zP ⇑y,yZ,zK]at hi ⊢
    cases e1:frees[i-M]? with
    | none=>rw[e1]at hi;cases hi
    | some j=>
     rw[e1]at hi;have hi':WB ω[j]?=↥d:=zn hi;cases e2:ω[j]? with
     | none=>rw[e2]at hi';cases hi'
     | some w=>
      rw[e2]at hi';cases w with
      | none=>cases hi'
      | some w=>
       cases w with
       | ow _=>cases hi'
       | od _ _=>cases hi'
       | pw _=>cases hi'
       | sh d'=>
        cases hi';obtain⟨v,q3,q4⟩:=o1.sh j _ e2;exact⟨v,by rw[yj,q3];rfl,q4.mono s1⟩
  refine⟨λi m σ2 H2=>∃G2 ω2 accd accv,Own X.K G2 (fr H2) G2 ω2 σ2 H2/\XZ ω2/\Ext G1 H1 G2 H2/\G2 A=none/\H2 A=some (.lst accv)/\YQ X.K G2 accd accv/\accd.length<=i/\i<=ds.length/\m=ds.length-i /\
   ∃rest,Y6 fg fc fe (ds.drop i) ω2=some rest/\accd++rest=rs,⟨_,G1,inW M frees ω,[],[],own0 _ _ (YX.refl _) (YW x1.gh (x1.gh.free hA) _),ow0,Ext.hide x1.gh hA _,x1.gh.free hA,qe,YQ.nil,zI _,zy _,rfl,rs,q2,rfl⟩,?_⟩
  rintro i m σ2 H2 ⟨G2,ω2,accd,accv,o2,no2,x2,gA,hA2,ra,la,li,rfl,rest,cd,er⟩
  by_cases hlt:i<ds.length
  ·refine .inr ⟨it.go H2 i (x2.gg.trans x2.gh) hlt,λx H3 hy=>?_⟩
   have hd:ds[i]?=some ds[i]:=zB hlt;obtain⟨G4,x4,rx⟩:=it.yld G2 H2 i x H3 ds[i] x2.gg x2.gh hd hy;have o2':=o2.keep x4;have o2:Own X.K G4 (fr H3) G4 ω2 σ2 H3:=⟨Ext.refl x4.gh,o2'.len,o2'.sh,λi ds' hi=>vN hi (no2.ow i ds'),λi j ds' es l hi=>vN hi (no2.ow i ds'),λi ks ds' hi=>vN hi (no2.od i ks ds'),Y4.no no2.pw⟩;have gA:G4 A=none:=x4.new A gA (by rw[hA2];exact λz=>by cases z);have hA2:H3 A=some (.lst accv):=x4.hh _ _ hA2;have x2:=x2.trans x4;have ra:=ra.mono x4.gg;rw[yz hlt]at cd;obtain⟨w,q1,cd⟩:=bnd cd;obtain⟨b,q3,cd⟩:=bnd cd;have now:=hg _ _ _ no2 q1;refine h4 G4 (fr H3) G4 ω2 σ2 H3 ds[i] x w _ o2 q1 rx λσ4 o4=>?_;refine h6 G4 (fr H3) G4 w σ4 H3 b _ o4 q3 λG5 H5 x5=>?_;have o5:=o4.keep x5;have gA5:G5 A=none:=x5.new A gA (by rw[hA2];exact λz=>by cases z);have hA5:H5 A=some (.lst accv):=x5.hh _ _ hA2;cases b with
   | false=>
    rw[vJ yJ];rw[vJ yJ]at cd;have o6:Own X.K G5 (fr H5) G5 w σ4 H5:=⟨Ext.refl x5.gh,o5.len,o5.sh,λi ds' hi=>vN hi (now.ow i ds'),λi j ds' es l hi=>vN hi (now.ow i ds'),λi ks ds' hi=>vN hi (now.od i ks ds'),Y4.no now.pw⟩;exact⟨ds.length-(i+1),∅,G5,w,accd,accv,o6,now,x2.trans x5,gA5,hA5,ra.mono x5.gg,∅,hlt,rfl,rest,cd,er⟩
   | true=>
    rw[vG rfl]at cd ⊢;obtain⟨d,q4,cd⟩:=bnd cd;obtain⟨rest',q5,cd⟩:=mpd cd;subst cd;refine h8 G4 (fr H3) G5 w σ4 H5 d _ o5 q4 λv G6 H6 x6 y6=>?_;have gA6:G6 A=none:=x6.new A gA5 (by rw[hA5];exact λz=>by cases z);have hA6:H6 A=some (.lst accv):=x6.hh _ _ hA5;have x26:=(x2.trans x5).trans x6;have raa:=ra.mono (x5.gg.trans x6.gg);have hl:accv.length<sizeLine:=by rw[<- raa.len,vX];omega
    refine⟨accv,hA6,hl,ds.length-(i+1),∅,G6,w,accd++[d],accv++[v],?_,now,⟨x26.gg,YW x26.gh gA6 _,YW x26.hh hA _,x26.new⟩,gA6,qe,raa.app (YQ.cons y6 YQ.nil),by rw[zE,z9];omega,hlt,rfl,rest',q5,by rw[yB];exact er⟩;have o6:=o5.keep x6;exact⟨Ext.refl (YW x6.gh gA6 _),o6.len,o6.sh,λi ds' hi=>vN hi (now.ow i ds'),λi j ds' es l hi=>vN hi (now.ow i ds'),λi ks ds' hi=>vN hi (now.od i ks ds'),Y4.no now.pw⟩
  ·have ei:i=ds.length:=∅
   subst ei;rw[xu]at cd;cases cd;rw[za]at er;subst er;refine .inl ⟨it.stop H2 (x2.gg.trans x2.gh),k _ G2 H2 (x1.trans x2) ⟨A,accv,rfl,x1.hh.free hA,gA,hA2,ra⟩⟩
 ·rw[vJ hz]at e;cases e
theorem qf3{ω:WSt}{i:Nat}{d:D}(h:XZ ω):XZ (ω.set i ↥d):=by
 intro j ds z;rcases qd z with⟨_,_,y⟩|⟨_,y⟩
 ·cases y;exact⟨d,rfl⟩
 ·exact h j ds y
def Tame(fg:FG):Prop:=∀d ω ω',XZ ω->fg d ω=some ω'->XZ ω'
def zAj(gs:List D->WSt->Option WSt):Prop:=∀ds ω ω',XZ ω->gs ds ω=some ω'->XZ ω'
theorem qz(i:Nat):Tame (gN i):=λd ω ω' h e=>by cases e;exact qf3 h
theorem q2Z:zAj Yt:=λds ω ω' h e=>by
 cases ds with
 | nil=>cases e;exact h
 | cons _ _=>cases e
theorem qX{fg:FG}{gs:List D->WSt->Option WSt}(h:Tame fg)(h':zAj gs):zAj (YT fg gs):=λds ω ω' n e=>by
 cases ds with
 | nil=>cases e
 | cons d r=>obtain⟨w,q,e⟩:=bnd e;exact h' _ _ _ (h _ _ _ n q) e
theorem q5N{n:Nat}{gs:List D->WSt->Option WSt}(h:zAj gs):Tame (gT n gs):=λd ω ω' no e=>by
 unfold gT at e;cases d with
 | tup ds=>
  dsimp only at e
  by_cases z:ds.length=n
  ·rw[vG z]at e;exact h _ _ _ no e
  ·rw[vJ z]at e;cases e
 | _=>cases e
noncomputable def canD(K:zC)(f:FD):TE:=λσ H Q=>∃G0 H0 G ω d,Own K G0 H0 G ω σ H/\f ω=some d/\∀v G' H',Ext G H G' H'->Rep K G' d v->Q v H'
noncomputable def canT(K:zC)(f:FT):TT:=λσ H Q=>∃G0 H0 G ω b,Own K G0 H0 G ω σ H/\f ω=some b/\∀G' H',Ext G H G' H'->Q b H'
noncomputable def canG(K:zC)(f:FG):TG:=λv σ H Q=>∃G0 H0 G ω d ω',Own K G0 H0 G ω σ H/\f d ω=some ω'/\Rep K G d v/\∀σ',Own K G0 H0 G ω' σ' H->Q σ' H
theorem XD.can{X:Cx}{e:vP}{f:FD}(h:XD X e f):PE X e (canD X.K f):=λpins s σ H Q I ⟨G0,H0,G,ω,d,o,e,k⟩=>let ⟨_,h1,h2⟩:=h;h1 pins s σ H Q I (h2 G0 H0 G ω σ H d Q o e k)
theorem XTs.can{X:Cx}{e:List vP}{f:FT}(h:XTs X e f):PTs X e (canT X.K f):=λpins s σ H Q I ⟨G0,H0,G,ω,d,o,e,k⟩=>let ⟨_,h1,h2⟩:=h;h1 pins s σ H Q I (h2 G0 H0 G ω σ H d Q o e k)
theorem XG.can{X:Cx}{e:vP}{f:FG}(h:XG X e f):PG X e (canG X.K f):=λpins s σ H v u Q I r ⟨G0,H0,G,ω,d,ω',o,e,y,k⟩=>let ⟨_,h1,h2⟩:=h;h1 pins s σ H v u Q I r (h2 G0 H0 G ω σ H d v ω' Q o e y k)
theorem q8E{K:zC}{f:FD}:zBJ K (canD K f) f:=λG0 H0 G ω σ H d Q o e k=>⟨G0,H0,G,ω,d,o,e,k⟩
theorem q9K{K:zC}{f:FT}:Wc K (canT K f) f:=λG0 H0 G ω σ H d Q o e k=>⟨G0,H0,G,ω,d,o,e,k⟩
theorem q9A{K:zC}{f:FG}:SimG K (canG K f) f:=λG0 H0 G ω σ H d v ω' Q o e y k=>⟨G0,H0,G,ω,d,ω',o,e,y,k⟩
theorem q0c(hc:X.calm=true)(B:BlkOk X N M frees scope)(hi:XI X tg iter fi)(ht:Tame fg)(hb:∀C s H fp,XG (Y8 X N scope C s H fp) tg fg/\XTs (Y8 X N scope C s H fp) ifs fc/\XD (Y8 X N scope C s H fp) elt fe)(hs:∀x,v7 iter X.env x=pure x:=by intro _;rfl):XE X (.ListComp elt [⟨tg,iter,ifs,0⟩] scope pos) (Yp M frees fi fg fc fe):=by
 obtain⟨wi,h1,h2⟩:=hi;have b4:∀C s H fp,PG (Y8 X N scope C s H fp) tg (canG X.K fg)/\PTs (Y8 X N scope C s H fp) ifs (canT X.K fc)/\PE (Y8 X N scope C s H fp) elt (canD X.K fe):=λC s H fp=>⟨(hb C s H fp).1.can,(hb C s H fp).2.1.can,(hb C s H fp).2.2.can⟩;exact⟨_,qg9 hc B h1 b4 hs,q8L h2 q9A q9K q8E ht⟩
theorem q1L{i:Nat}{x:Str}{pos' spos:Pos}(hc:X.calm=true)(hN:X.N.Nodup)(hi':X.N[i]?=some x)(hx:X.env.scope.names.lookup x=some .local)(B:BlkOk X N M frees scope)(hi:XI X tg iter fi)(ht:Tame fg)(hb:∀C s H fp,XG (Y8 X N scope C s H fp) tg fg/\XTs (Y8 X N scope C s H fp) ifs fc/\XD (Y8 X N scope C s H fp) elt fe)(hsw:vv (.ListComp elt [⟨tg,iter,ifs,0⟩] scope pos) (some (.Name x pos')) spos.line X.env=pure true:=by rfl)(hs:∀x,v7 iter X.env x=pure x:=by intro _;rfl):XS X (.Assign [.Name x pos'] (.ListComp elt [⟨tg,iter,ifs,0⟩] scope pos) spos) (Yk i (Yp M frees fi fg fc fe)):=by
 obtain⟨wi,h1,h2⟩:=hi;have b4:∀C s H fp,PG (Y8 X N scope C s H fp) tg (canG X.K fg)/\PTs (Y8 X N scope C s H fp) ifs (canT X.K fc)/\PE (Y8 X N scope C s H fp) elt (canD X.K fe):=λC s H fp=>⟨(hb C s H fp).1.can,(hb C s H fp).2.1.can,(hb C s H fp).2.2.can⟩;exact⟨_,qaO hc hN hi' hx B h1 b4 hsw hs,qaP (q8L h2 q9A q9K q8E ht)⟩
def X1(X:Cx)(scope:uk):List Str->List Nat->Prop
 | [],[]=>True
 | x::xs,j::js=>(X.N[j]?=some x/\(X.env.kindOf x=some .cell\/X.env.kindOf x=some .free)/\scope.names.lookup x=some .free)/\X1 X scope xs js
 | _,_=>False
theorem q61{X:Cx}{scope:uk}:∀{xs:List Str}{js:List Nat},X1 X scope xs js->∀(k:Nat)(x:Str),xs[k]?=some x->∃j,js[k]?=some j/\X.N[j]?=some x/\(X.env.kindOf x=some .cell\/X.env.kindOf x=some .free)/\scope.names.lookup x=some .free
 | [],_,_,_,_,e=>by simp at e
 | _::_,[],h,_,_,_=>h.elim
 | y::ys,i::is,⟨h1,h2⟩,0,x,e=>by
  have:y=x:=by simpa using e
  subst this;exact⟨i,rfl,h1⟩
 | y::ys,i::is,⟨h1,h2⟩,k+1,x,e=>by
  obtain⟨j,q⟩:=q61 h2 k x ⇑e;exact⟨j,by simpa using q.1,q.2⟩
theorem q4Z{X:Cx}{scope:uk}:∀{xs:List Str}{js:List Nat},X1 X scope xs js->xs.length=js.length
 | [],[],_=>rfl
 | [],_::_,h=>h.elim
 | _::_,[],h=>h.elim
 | _::ys,_::is,⟨_,h2⟩=>by rw[zG,zG,q4Z h2]
theorem blk{X:Cx}{scope:uk}(own free:List Str)(frees:List Nat)(h1:scope.kind=.function)(h2:∀y∈scope.names,y.2≠.cell)(h3:∀y∈scope.names,y.2=.local->scope.names.lookup y.1=some .local)(h4:(scope.names.all λp=>p.2 != .free || (X.env.cells.lookup p.1).isSome)=true)(h5:X1 X scope free frees):BlkOk X (own++free) own.length frees scope:=by
 refine⟨h1,h2,h3,λp hp hf=>?_,λk x e=>?_,by rw[zE,q4Z h5]⟩
 ·have:=yq.mp h4 p hp
  rw[hf]at this;simpa using this
 ·rw[zP (Nat.le_add_right _ _),wV]at e
  exact q61 h5 k x e
end
noncomputable def entry(n:Nat)(ds:List D):WSt:=ds.map (λd=>↥d)++xl (n-ds.length) none
noncomputable def mir(n:Nat)(body:FS)(ds:List D):Option O:=match body (entry n ds)with
 | some (.rt r,_)=>some r
 | some (.nx,_)=>some (.sh .non)
 | _=>none
theorem qbR{K:zC}{H:Hp}{N:List Str}{ds:List D}{vs:List V}(h:YQ K H ds vs)(i:Nat)(d:D)(e:(entry N.length ds)[i]?=some ↥d):∃v,(L2.start N vs)[i]?=some (some v)/\Rep K H d v:=by
 unfold entry at e;unfold L2.start;have hl:=h.len;rcases zo i ds.length with y|y
 ·rw[zV ⇑y,zK]at e
  have e1:ds[i]?=some d:=by
   cases q:ds[i]? with
   | none=>rw[q]at e;cases e
   | some d'=>rw[q]at e;cases e;rfl
  obtain⟨v,q1,q2⟩:=h.get e1;refine⟨v,?_,q2⟩;rw[zV ⇑((∅:i<vs.length)),zK,q1];rfl
 ·rw[zP ⇑y,yT]at e
  split at e <;> cases e
theorem q2h{n:Nat}{ds:List D}:XZ (entry n ds):=by
 intro i es z;unfold entry at z;rcases zo i ds.length with y|y
 ·rw[zV ⇑y,zK]at z
  cases q:ds[i]? with
  | none=>rw[q]at z;cases z
  | some d=>rw[q]at z;cases z;exact⟨d,rfl⟩
 ·rw[zP ⇑y,yT]at z
  split at z <;> cases z
theorem fnD{P:vO}{w:vU}{K:zC}{mg:Str->Option vB}{base:vY}{x qual:Str}{st:vo}{f:vF}{fd:vM}{N ps:List Str}{k:Nat}{body:FS}(F:Fun K x qual st f fd)(S:FnScope N ps (YL st))(hb:∀(cdv:vB)(A:vZ)(outer:List Env)(s:vC)(H:Hp)(E:XK),Room k (A.deeper (PyProof.Rows.envOfC qual (YL st) s.heap.objs.size f cdv))->XSs (zAv CX0 P w K mg base N qual (YL st) f cdv A outer s H E).nox (Ys st) body):
  FnOk P w K mg base CX0 (k+1) f fd ps (spD K ps.length (mir N.length body)):=by
 refine F.ok S (λvs H Q E h=>?_) (λcdv A outer s H vs Q E hr h=>?_)
 ·obtain⟨G,ds,r,_,h2,_,h4,_⟩:=h
  rw[<- h4.len];exact h2
 ·obtain⟨G,ds,r,h1,h2,h3,h4,h5⟩:=h
  obtain⟨t,p1,p2⟩:=hb cdv A outer s H E hr;refine⟨t,p1,?_⟩;unfold mir at h1;have hl:=h4.len;have hpl:ps.length<=N.length:=by have:=vq yd S.pre;rw[zY]at this;omega
  have o0:Own K G (fr H) G (entry N.length ds) (L2.start N vs) H:=by
   refine⟨Ext.refl h3,?_,λi d e=>qbR h4 i d e,λi es e=>vN e (q2h.ow i es),λi j es fs l e=>vN e (q2h.ow i es),λi ks es e=>vN e (q2h.od i ks es),Y4.no q2h.pw⟩;unfold entry L2.start;simp only[zE,zA,yZ];omega
  cases q:body (entry N.length ds)with
  | none=>rw[q]at h1;cases h1
  | some p=>
   obtain⟨out,ω'⟩:=p;rw[q]at h1;refine p2 G (fr H) G _ _ H out ω' _ o0 q λG' σ' H' o' s'=>?_;cases out with
   | nx=>cases h1;exact h5 _ G' H' o'.ext rfl
   | bk=>cases h1
   | ct=>cases h1
   | rt r'=>cases h1;exact λv y=>h5 v G' H' o'.ext y
theorem qU:vc "len" = some (.builtin "len"):=⋯
theorem qe8:vc "all" = some (.builtin "all"):=⋯
theorem q8S:vc "sum" = some (.builtin "sum"):=⋯
theorem q5M:vc "min" = some (.builtin "min"):=⋯
theorem qdO:vc "max" = some (.builtin "max"):=⋯
theorem qdu:vc "abs" = some (.builtin "abs"):=⋯
theorem q1Z:vc "sorted" = some (.builtin "sorted"):=⋯
theorem q9k:vc "int" = some (.type "int"):=⋯
theorem qay:vc "bool" = some (.type "bool"):=⋯
theorem q2i:vc "list" = some (.type "list"):=⋯
theorem q5y:vc "tuple" = some (.type "tuple"):=⋯
theorem qh7:vc "set" = some (.type "set"):=⋯
theorem qhK:vc "zip" = some (.type "zip"):=⋯
noncomputable def zBA(o:Option (Out×WSt))(g:FS):Option (Out×WSt):=o.bind λp=>match p.1 with
 | .nx=>g p.2
 | o=>some (o,p.2)
noncomputable def setS(i:Nat)(ω:WSt)(o:Option R):Option (Out×WSt):=o.bind λr=>(setR i r ω).map λw=>(.nx,w)
noncomputable def ifS(c:Option Bool)(f g:FS)(ω:WSt):Option (Out×WSt):=c.bind λb=>if b=true then f ω else g ω
noncomputable def retS(ω:WSt)(o:Option R):Option (Out×WSt):=o.bind λr=>match r with
 | .sh d=>some (.rt (.sh d),ω)
 | .fr ds=>some (.rt (.fr ds),ω)
 | .vw _=>none
noncomputable def retV(ω:WSt)(o:Option (Option W)):Option (Out×WSt):=match o with
 | some ↥d=>some (.rt (.sh d),ω)
 | some (some (.ow ds))=>some (.rt (.fr ds),ω)
 | _=>none
noncomputable def appS(i:Nat)(ω:WSt)(o:Option D)(l:Option (Option W)):Option (Out×WSt):=o.bind λd=>match l with
 | some (some (.ow ds))=>if ds.length<1000000 then some (.nx,ω.set i (some (.ow (ds++[d]))))else none
 | _=>none
noncomputable def extS(i:Nat)(ω:WSt)(o:Option D)(l:Option (Option W)):Option (Out×WSt):=o.bind λd=>(itemsOf d).bind λes=>match l with
 | some (some (.ow ds))=>if ds.length+es.length<=1000000 then some (.nx,ω.set i (some (.ow (ds++es))))else none
 | _=>none
noncomputable def shrS(i:Nat)(ω:WSt)(o:Option (Option W)):WSt:=match o with
 | some (some (.ow ds))=>ω.set i ↥(.lst ds)
 | some (some (.od ks ds))=>ω.set i ↥(.dic ks ds)
 | _=>ω
noncomputable def forS(o:Option (List D))(g:FG)(b:FS)(ω:WSt):Option (Out×WSt):=o.bind λds=>WV g b ds ω
noncomputable def varR(o:Option (Option W)):Option R:=match o with
 | some ↥d=>↥d
 | some (some (.ow ds))=>some (.vw ds)
 | some (some (.pw ds))=>some (.vw ds)
 | _=>none
noncomputable def eD(o:Option D):Option R:=o.map R.sh
noncomputable def dR(o:Option R):Option D:=match o with
 | ↥d=>some d
 | some (.fr ds)=>some (.lst ds)
 | _=>none
noncomputable def vR(o:Option R):Option D:=o.map R.d
noncomputable def op2(op:D->D->Option R)(x y:Option D):Option R:=x.bind λx=>y.bind λy=>op x y
noncomputable def callR(m:List D->Option O)(o:Option (List D)):Option R:=o.bind λds=>(m ds).map O.r
noncomputable def consA(o:Option D)(r:Option (List D)):Option (List D):=o.bind λd=>r.map λds=>d::ds
noncomputable def bltR(op:List D->Option R)(o:Option (List D)):Option R:=o.bind op
noncomputable def slR(o:Option D)(l h:Option (Option Int)):Option R:=o.bind λd=>l.bind λlo=>h.bind λhi=>oSl d lo hi
noncomputable def atP(o:Option D):Option (Option Int):=o.bind λd=>match d with|.int i=>some (some i)|_=>none
noncomputable def iteR(c:Option Bool)(f g:FE)(ω:WSt):Option R:=c.bind λk=>if k=true then f ω else g ω
noncomputable def zA9(c:Ty)(o:Option D):Option R:=o.bind λd=>match d with
 | .scr _=>none
 | .exc _=>none
 | .dic _ _=>none
 | d=>↥(.bl (WU (tyD d) c))
noncomputable def tR(o:Option R):Option Bool:=match o with
 | ↥(.bl k)=>some k
 | _=>none
noncomputable def andT(o:Option Bool)(g:FT)(ω:WSt):Option Bool:=o.bind λc=>if c=true then g ω else some false
noncomputable def orT(o:Option Bool)(g:FT)(ω:WSt):Option Bool:=o.bind λc=>if c=true then some true else g ω
noncomputable def notT(o:Option Bool):Option Bool:=o.map (!·)
noncomputable def truT(o:Option D):Option Bool:=o.bind truD
noncomputable def andV(o:Option D)(g:FD)(ω:WSt):Option D:=o.bind λd=>(blOf d).bind λc=>if c=true then g ω else some (.bl false)
noncomputable def seqI(o:Option D):Option (List D):=o.bind itemsOf
noncomputable def rg1I(o:Option (List D)):Option (List D):=o.bind λds=>match ds with
 | [.int j]=>if -(2^62)<=j/\j<2^62 then some (upTo 0 j.toNat)else none
 | _=>none
noncomputable def rg2I(o:Option (List D)):Option (List D):=o.bind λds=>match ds with
 | [.int i,.int j]=>if (-(2^62)<=i/\i<2^62)/\-(2^62)<=j/\j<2^62 then some (upTo i (j-i).toNat)else none
 | _=>none
noncomputable def compR(M:Nat)(fr:List Nat)(o:Option (List D))(g:FG)(c:FT)(f:FD)(ω:WSt):Option R:=o.bind λds=>if ds.length<=1000000 then (Y6 g c f ds (inW M fr ω)).map R.fr else none
noncomputable def outM(o:Option (Out×WSt)):Option O:=match o with
 | some (.rt r,_)=>some r
 | some (.nx,_)=>some (.sh .non)
 | _=>none
section
variable{f g:FS}{ω w:WSt}{i:Nat}{fe fe':FE}{fd fd':FD}{ft ft':FT}{r:O}{d d':D}{ds ds':List D}{a b:Int}{p q:Bool}{fa:FA}{fg:FG}{fi:FI}{n:Nat}
theorem qbg:mir n f ds=outM (f (entry n ds)):=rfl
theorem q6x:outM (some (.rt r,w))=some r:=rfl
theorem q7h:outM (some (.nx,w))=some (.sh .non):=rfl
theorem q0M:YY f g ω=zBA (f ω) g:=rfl
theorem q6y:zBA (some (.nx,w)) g=g w:=rfl
theorem q7b:zBA (some (.rt r,w)) g=some (.rt r,w):=rfl
theorem qc6:X8 ω=some (.nx,ω):=rfl
theorem qcw:Yk i fe ω=setS i ω (fe ω):=rfl
theorem q6E:setS i ω ↥d=some (.nx,ω.set i ↥d):=rfl
theorem q6k:setS i ω (some (.fr ds))=some (.nx,ω.set i (some (.ow ds))):=rfl
theorem e_if:sIf ft f g ω=ifS (ft ω) f g ω:=rfl
theorem q93:ifS (some true) f g ω=f ω:=rfl
theorem q8Z:ifS (some false) f g ω=g ω:=rfl
theorem qcj:Yr fe ω=retS ω (fe ω):=rfl
theorem q6n:retS ω ↥d=some (.rt (.sh d),ω):=rfl
theorem q6U:retS ω (some (.fr ds))=some (.rt (.fr ds),ω):=rfl
theorem q9z:WA i ω=retV ω ω[i]?:=rfl
theorem q7e:retV ω (some (some (.ow ds)))=some (.rt (.fr ds),ω):=rfl
theorem qbG:zAQ i fd ω=appS i ω (fd ω) ω[i]?:=rfl
theorem zAI(h:ds.length<1000000):appS i ω (some d) (some (some (.ow ds)))=some (.nx,ω.set i (some (.ow (ds++[d])))):=vG h
theorem qbj:sExt i fd ω=extS i ω (fd ω) ω[i]?:=rfl
theorem q6f(h:ds.length+ds'.length<=1000000):extS i ω (some (.tup ds')) (some (some (.ow ds)))=some (.nx,ω.set i (some (.ow (ds++ds')))):=vG h
theorem q75:Y3 i f ω=f (shrS i ω ω[i]?):=rfl
theorem q77:shrS i ω (some (some (.ow ds)))=ω.set i ↥(.lst ds):=rfl
theorem qcB:Xp fi fg f ω=forS (fi ω) fg f ω:=rfl
theorem e_fs:forS (some ds) fg f ω=WV fg f ds ω:=rfl
theorem qcv:YJ i ω=varR ω[i]?:=rfl
theorem q6Y:varR (some ↥d)=↥d:=rfl
theorem q6v:varR (some (some (.ow ds)))=some (.vw ds):=rfl
theorem e_c:fC d ω=some d:=rfl
theorem e_e:eOf fd ω=eD (fd ω):=rfl
theorem e_ed:eD (some d)=↥d:=rfl
theorem e_d:dOf fe ω=dR (fe ω):=rfl
theorem q6z:dR ↥d=some d:=rfl
theorem q6H:dR (some (.fr ds))=some (.lst ds):=rfl
theorem e_v:vOf fe ω=vR (fe ω):=rfl
theorem q6S:vR ↥d=some d:=rfl
theorem q6W:vR (some (.fr ds))=some (.lst ds):=rfl
theorem q6L:vR (some (.vw ds))=some (.lst ds):=rfl
theorem e_op{op}:YO op fd fd' ω=op2 op (fd ω) (fd' ω):=rfl
theorem e_o2{op}:op2 op (some d) (some d')=op d d':=rfl
theorem q8Q{m}:YR m fa ω=callR m (fa ω):=rfl
theorem e_cl{m}:callR m (some ds)=(m ds).map O.r:=rfl
theorem q79:(O.sh d).r=.sh d:=rfl
theorem q6r:(O.fr ds).r=.fr ds:=rfl
theorem e_ac:YI fd fa ω=consA (fd ω) (fa ω):=rfl
theorem e_ca:consA (some d) (some ds)=some (d::ds):=rfl
theorem e_an:YS ω=some []:=rfl
theorem qbi:WD fa ω=(fa ω).map R.fr:=rfl
theorem qcb:zAi fa ω=(fa ω).map D.tup:=rfl
theorem qcu{op}:Yv op fa ω=bltR op (fa ω):=rfl
theorem e_bl{op}:bltR op (some ds)=op ds:=rfl
theorem qbH{l h:FO}:fSl fd l h ω=slR (fd ω) (l ω) (h ω):=rfl
theorem e_sl{lo hi:Option Int}:slR (some d) (some lo) (some hi)=oSl d lo hi:=rfl
theorem e_po:pNo ω=some none:=rfl
theorem e_pa:pAt fd ω=atP (fd ω):=rfl
theorem e_ap:atP (some (.int a))=some (some a):=rfl
theorem qc0:fIte ft fe fe' ω=iteR (ft ω) fe fe' ω:=rfl
theorem q8Y:iteR (some true) fe fe' ω=fe ω:=rfl
theorem q8X:iteR (some false) fe fe' ω=fe' ω:=rfl
theorem qbc{c}:Wp c fd ω=zA9 c (fd ω):=rfl
theorem q4y{c}:zA9 c (some (.int a))=↥(.bl (WU .int c)):=rfl
theorem q5j{c}:zA9 c (some (.bl p))=↥(.bl (WU .bl c)):=rfl
theorem q4x{c}:zA9 c (some .non)=↥(.bl (WU .non c)):=rfl
theorem q43{c x}:zA9 c (some (.str x))=↥(.bl (WU .str c)):=rfl
theorem q42{c}:zA9 c (some (.lst ds))=↥(.bl (WU .lst c)):=rfl
theorem q4w{c}:zA9 c (some (.tup ds))=↥(.bl (WU .tup c)):=rfl
theorem e_t:tOf fe ω=tR (fe ω):=rfl
theorem e_tr:tR ↥(.bl p)=some p:=rfl
theorem q92:zAJ ft ft' ω=andT (ft ω) ft' ω:=rfl
theorem e_ta:andT (some p) ft ω=if p=true then ft ω else some false:=rfl
theorem qce:(if p=true then some q else some false)=some (p&&q):=by cases p <;> rfl
theorem qc5:zAP ft ft' ω=orT (ft ω) ft' ω:=rfl
theorem e_to:orT (some p) ft ω=if p=true then some true else ft ω:=rfl
theorem qbC:(if p=true then some true else some q)=some (p || q):=by cases p <;> rfl
theorem q9L:XC ft ω=notT (ft ω):=rfl
theorem e_tn:notT (some p)=some (!p):=rfl
theorem q9e:X5 fd ω=truT (fd ω):=rfl
theorem q74:truT (some (.bl p))=some p:=rfl
theorem q54:truT (some (.lst ds))=some (!ds.isEmpty):=rfl
theorem q8z:WM fd fd' ω=andV (fd ω) fd' ω:=rfl
theorem e_va:andV (some (.bl p)) fd ω=if p=true then fd ω else some (.bl false):=rfl
theorem qbA:(if p=true then some (D.bl q)else some (D.bl false))=some (.bl (p&&q)):=by cases p <;> rfl
theorem q8T:XX fd ω=seqI (fd ω):=rfl
theorem q90:seqI (some (.lst ds))=some ds:=rfl
theorem qc3:zAg fa ω=rg1I (fa ω):=rfl
theorem qcc:iRg2 fa ω=rg2I (fa ω):=rfl
theorem q8a(h:-(2^62)<=a/\a<2^62):rg1I (some [.int a])=some (upTo 0 a.toNat):=vG h
theorem qfx(h:-(2^62)<=a/\a<2^62)(h':-(2^62)<=b/\b<2^62):rg2I (some [.int a,.int b])=some (upTo a (b-a).toNat):=vG ⟨h,h'⟩
theorem q8R{M fr}:Yp M fr fi fg ft fd ω=compR M fr (fi ω) fg ft fd ω:=rfl
theorem Xq{M fr}(h:ds.length<=1000000):compR M fr (some ds) fg ft fd ω=(Y6 fg ft fd ds (inW M fr ω)).map R.fr:=vG h
theorem qbV:zA1 fd ω=(fd ω).bind oNeg:=rfl
theorem e_ng:oNeg (.int a)=↥(.int (-a)):=rfl
theorem q6O:Xo [.lst ds]=↥(.int ds.length):=rfl
theorem q6w:Xo [.tup ds]=↥(.int ds.length):=rfl
theorem q71{ns}:Xo [.scr ns]=↥(.int ns.length):=rfl
theorem q5U:oEq false (.int a) (.int b)=↥(.bl (a==b)):=rfl
theorem q94:oEq true (.int a) (.int b)=↥(.bl (!(a==b))):=rfl
theorem q6g:Wk (.int a) (.int b)=↥(.int (a-b)):=rfl
theorem q9a:oLt (.int a) (.int b)=↥(.bl (decide (a<b))):=rfl
theorem q9J:oGe (.int a) (.int b)=↥(.bl (decide (b<=a))):=rfl
theorem q6o:Yw (.int a) (.int b)=↥(.int (a+b)):=rfl
theorem qbm:oIx (.lst ds) (.int a)=(atI ds a).map R.sh:=rfl
theorem qcq:oIx (.tup ds) (.int a)=(atI ds a).map R.sh:=rfl
theorem qbO{ns:List Int}:oIx (.scr ns) (.int a)=(atI ns a).map λn=>.sh (.int n):=rfl
theorem q0W{α:Type}{xs:List α}{i:Int}(h0:0<=i)(h1:i<xs.length):atI xs i=some (xs[i.toNat]'∅):=by
 unfold atI ixN;rw[vG h0,vG h1];show xs[i.toNat]?=_;rw[zB ∅]
theorem at0{α:Type}{x:α}{xs:List α}:atI (x::xs) 0=some x:=by
 rw[q0W (by decide) (by rw[zG];omega)];rfl
theorem at1{α:Type}{x y:α}{xs:List α}:atI (x::y::xs) 1=some y:=by
 rw[q0W (by decide) (by rw[zG,zG];omega)];rfl
theorem at2{α:Type}{x y z:α}{xs:List α}:atI (x::y::z::xs) 2=some z:=by
 rw[q0W (by decide) (by rw[zG,zG,zG];omega)];rfl
theorem qfM{i j:Int}(h0:0<j)(h1:j<1073741824):cDiv i j=true:=by unfold cDiv;rw[vW h0,vW h1];rfl
theorem qgw{i j:Int}(h0:0<j):cMod i j=true:=by unfold cMod;rw[vW h0]
theorem qeK{i j:Int}(h0:-(2^64)<j)(h1:j<2^64):zAx i j=true:=by unfold zAx;rw[vW h0,vW h1];simp
theorem qeU{i j:Int}(h0:-(2^64)<i)(h1:i<2^64):zAx i j=true:=by unfold zAx;rw[vW h0,vW h1];simp
theorem q0s(h:0<b):oMod (.int a) (.int b)=↥(.int (a%b)):=vG (qgw h)
theorem q6V(h:0<b)(h':b<1073741824):oDiv (.int a) (.int b)=↥(.int (a/b)):=vG (qfM h h')
theorem q3S(h:-(2^64)<b)(h':b<2^64):WS (.int a) (.int b)=↥(.int (a*b)):=vG (qeK h h')
theorem q8U(h:-(2^64)<a)(h':a<2^64):WS (.int a) (.int b)=↥(.int (a*b)):=vG (qeU h h')
end
def XN(o:Option (Out×WSt))(P:WSt->Prop):Prop:=match o with
 | some (.nx,ω)=>P ω
 | some (.ct,ω)=>P ω
 | _=>False
theorem q4Q{ω:WSt}{P:WSt->Prop}:XN (some (.nx,ω)) P=P ω:=rfl
theorem qv{α:Type}{g:FG}{b:FS}(F:α->D)(xs:List α)(I:List α->WSt->Prop)(turn:∀pre x post ω,xs=pre++x::post->I pre ω->∃w,g (F x) ω=some w/\XN (b w) (I (pre++[x]))){ω:WSt}(h0:I [] ω):∃ω',WV g b (xs.map F) ω=some (.nx,ω')/\I xs ω':=by
 have key:∀(post pre:List α)(ω:WSt),xs=pre++post->I pre ω->∃ω',WV g b (post.map F) ω=some (.nx,ω')/\I xs ω':=by
  intro post
  induction post with
  | nil=>intro pre ω e h;exact⟨ω,rfl,by rw[e,za];exact h⟩
  | cons d post ih=>
   intro pre ω e h;obtain⟨w,h1,h2⟩:=turn pre d post ω e h;rw[zi,WV,h1,yD]
   match hb:b w,h2 with
   | some (.nx,ω2),h2=>exact ih (pre++[d]) ω2 (by rw[e,yB];rfl) h2
   | some (.ct,ω2),h2=>exact ih (pre++[d]) ω2 (by rw[e,yB];rfl) h2
 exact key xs [] ω rfl h0
theorem qcZ{g:FG}{b:FS}(lo:Int)(n:Nat)(I:Nat->WSt->Prop)(turn:∀i ω,i<n->I i ω->∃w,g (.int (lo+i)) ω=some w/\XN (b w) (I (i+1))){ω:WSt}(h0:I 0 ω):∃ω',WV g b (Hk.upTo lo n) ω=some (.nx,ω')/\I n ω':=by
 unfold Hk.upTo;obtain⟨ω',e,h⟩:=qv (g:=g) (b:=b) (λ(i:Nat)=>D.int (lo+(i:Int))) (zO n) (λpre ω=>I pre.length ω) (λpre x post ω e h=>by
  have hx:x=pre.length:=by
   have:=vq (λl=>l[pre.length]?) e;rw[zP (zI _),wG]at this;rcases zo pre.length n with z|z
   ·rw[yX z]at this;simpa using this.symm
   ·rw[ze (by rw[zX];exact z)]at this;cases this
  have hlt:pre.length<n:=by
   have:=vq yd e;rw[zX,zE,zG]at this;omega
  subst hx;obtain⟨w,h1,h2⟩:=turn pre.length ω hlt h;refine⟨w,h1,?_⟩;rw[zE];exact h2) h0
 rw[zX]at h;exact⟨ω',e,h⟩
theorem q7i{g:FG}{c:FT}{f:FD}(P:WSt->Prop)(q:D->Bool)(F:D->D):∀(ds:List D){ω:WSt},P ω ->
  (∀d∈ds,∀ω,P ω->∃w,g d ω=some w/\P w/\c w=some (q d)/\(q d=true->f w=some (F d)))->Y6 g c f ds ω=some ((ds.filter q).map F)
 | [],_,_,_=>rfl
 | d::ds,ω,h,t=>by
  obtain⟨w,h1,h2,h3,h4⟩:=t d zH ω h;have ih:=q7i P q F ds h2 (λe he=>t e (zJ _ he));rw[Y6,h1,yD,h3,yD];cases hq:q d with
  | true=>rw[vG rfl,h4 hq,yD,ih,wW hq];rfl
  | false=>rw[vJ (by decide),ih,wX (by rw[hq];decide)]
theorem q7L{i:Nat}{f:FD}(F:D->D)(ds:List D){ω:WSt}(h:∀d∈ds,f (ω.set i ↥d)=some (F d)):Y6 (gN i) Yn f ds ω=some (ds.map F):=by
 have:=q7i (g:=gN i) (c:=Yn) (f:=f) (λw=>∀x,w.set i x=ω.set i x) (λ_=>true) F ds (ω:=ω) (λx=>rfl) λd hd w hw=>
  ⟨w.set i ↥d,rfl,λx=>by rw[List.set_set,hw],rfl,λ_=>by rw[hw];exact h d hd⟩
 rw[this,xB.mpr (λ_ _=>rfl)]
theorem qhV{ds:List D}{lo hi:Option Int}:oSl (.lst ds) lo hi=some (.fr (cutD ds lo hi)):=rfl
theorem qib{ns:List Int}{lo hi:Option Int}:oSl (.scr ns) lo hi=some (.fr ((cutD ns lo hi).map D.int)):=rfl
theorem q58(a:Int):∀(ns:List Int),inD (.int a) (ns.map D.int)=decide (a∈ns)
 | []=>rfl
 | n::r=>by
  have ih:=q58 a r;unfold inD inV at ih ⊢;rw[zi,zi,xa,ih];have e:eqV (D.int n).v (D.int a).v=decide (a=n):=by
   show (n==a)=_
   by_cases h:a=n
   ·subst h;simp
   ·rw[vS h];simpa using λz=>h z.symm
  rw[e]
  by_cases h:a=n
  ·simp[h]
  ·by_cases h':a∈r <;> simp[h,h']
theorem qfq(ns:List Int):(ns.map D.int).all Y0=true:=by
 rw[wF];exact yq.mpr λ_ _=>rfl
theorem qhA{a:Int}{ns:List Int}:oIn false (.int a) (.lst (ns.map D.int))=↥(.bl (decide (a∈ns))):=by
 show (if (Y0 (.int a)&&(ns.map D.int).all Y0)=true then _ else _)=_;rw[qfq];show some (R.sh (D.bl (inD _ _)))=_;rw[q58]
theorem qfh{d:D}(h:shp d=true):eqD d d=true:=SeqAt.eqv_refl d.py (SeqAt.canLay_of_shaped h)
theorem qfo{d:D}(h:shp d=true):oEq false d d=↥(.bl true):=by
 unfold oEq;rw[h];show some (R.sh (D.bl (eqD d d)))=_;rw[qfh h]
theorem qgm{ds:List D}(n:Nat)(hn:n<64)(h:∀d∈ds,d.py.canLay0=true/\d.py.depth<=n):shp (.lst ds)=true:=by
 unfold shp SeqAt.shaped;have:∀ds:List D,(∀d∈ds,d.py.canLay0=true/\d.py.depth<=n)->PyData.canLayAll0 (D.pys ds)=true/\PyData.depthAll (D.pys ds)<=n:=by
  intro ds
  induction ds with
  | nil=>intro _;exact⟨rfl,zy _⟩
  | cons d ds ih=>
   intro h;obtain⟨a,b⟩:=ih λe he=>h e (zJ _ he);obtain⟨a',b'⟩:=h d zH;refine⟨?_,?_⟩
   ·rw[D.pys,PyData.canLayAll0,a,a'];rfl
   ·rw[D.pys,PyData.depthAll];exact Nat.max_le.mpr ⟨b',b⟩
 obtain⟨a,b⟩:=this ds h;show (PyData.canLayAll0 (D.pys ds)&&decide (PyData.depthAll (D.pys ds)+1<=64))=true;rw[a,vW ∅];rfl
noncomputable def Wf(x:Int):List Int->List Int
 | []=>[x]
 | y::r=>if x<y then x::y::r else if x=y then y::r else y::Wf x r
noncomputable def Ya(ns:List Int):List Int:=ns.foldr Wf []
theorem q5z{x y:Int}:∀{l:List Int},y∈Wf x l↔y=x\/y∈l
 | []=>by simp[Wf]
 | z::r=>by
  unfold Wf
  split
  ·simp
  ·split
   ·rename_i h;subst h;simp
   ·simp only[zF,q5z (l:=r)]
    constructor
    ·rintro(h|h|h) <;> simp[h]
    ·rintro(h|h|h) <;> simp[h]
theorem q7r{x:Int}:∀{l:List Int},l.Pairwise (· < ·)->(Wf x l).Pairwise (· < ·)
 | [],_=>by simp[Wf]
 | z::r,h=>by
  obtain⟨h1,h2⟩:=zW.mp h;unfold Wf
  split
  ·rename_i hx
   refine zW.mpr ⟨λy hy=>?_,h⟩;rcases zF.mp hy with rfl|hy
   ·exact hx
   ·exact Int.lt_trans hx (h1 y hy)
  ·split
   ·exact h
   ·refine zW.mpr ⟨λy hy=>?_,q7r h2⟩
    rcases q5z.mp hy with rfl|hy
    ·omega
    ·exact h1 y hy
theorem q2W{y:Int}:∀{ns:List Int},y∈Ya ns↔y∈ns
 | []=>by simp[Ya]
 | x::r=>by
  show y∈Wf x (Ya r)↔_;rw[q5z,q2W (ns:=r),zF]
theorem q2f:∀{ns:List Int},(Ya ns).Pairwise (· < ·)
 | []=>xL
 | x::r=>q7r (q2f (ns:=r))
theorem q9h{x:Int}:∀(l:List Int),(Wf x l).length<=l.length+1
 | []=>by simp[Wf]
 | z::r=>by
  have:=q9h (x:=x) r;unfold Wf
  split
  ·simp
  ·split
   ·simp
   ·rw[zG,zG];omega
theorem q33:∀(l:List Int),(Ya l).length<=l.length
 | []=>zI _
 | x::r=>by
  have h1:=q9h (x:=x) (Ya r);have h2:=q33 r;show (Wf x (Ya r)).length<=_;rw[zG];omega
theorem qb9:∀{l m:List Int},l.Pairwise (· < ·)->m.Pairwise (· < ·)->(∀x,x∈l↔x∈m)->l=m
 | [],[],_,_,_=>rfl
 | [],y::r,_,_,h=>vN ((h y).mpr zH) (by simp)
 | x::r,[],_,_,h=>vN ((h x).mp zH) (by simp)
 | x::r,y::q,hl,hm,h=>by
  obtain⟨a1,a2⟩:=zW.mp hl;obtain⟨b1,b2⟩:=zW.mp hm;have e:x=y:=by
   rcases zF.mp ((h x).mp zH)with e|e
   ·exact e
   ·rcases zF.mp ((h y).mpr zH)with f|f
    ·exact f.symm
    ·have:=b1 x e;have:=a1 y f;omega
  subst e;rw[qb9 a2 b2 λz=>?_]
  constructor
  ·intro hz
   rcases zF.mp ((h z).mp (zJ _ hz))with f|f
   ·have:=a1 z hz;omega
   ·exact f
  ·intro hz
   rcases zF.mp ((h z).mpr (zJ _ hz))with f|f
   ·have:=b1 z hz;omega
   ·exact f
theorem qa9{l:List Int}(h:l.Pairwise (· <= ·))(n:l.Nodup):l.Pairwise (· < ·):=by
 induction l with
 | nil=>exact xL
 | cons x r ih=>
  obtain⟨h1,h2⟩:=zW.mp h;obtain⟨n1,n2⟩:=yb.mp n;refine zW.mpr ⟨λy hy=>?_,ih h2 n2⟩;have:=h1 y hy;have:x≠y:=λe=>n1 (e▸hy);omega
def setP(w:vU)(S:vF)(ns:List Int):vY->Prop:=λh=>zAZ h S (Yx w) (λi=>ns.getD i 0) ns.length
def rSet(w:vU):List V->Hp->VK->Prop:=λxs H Q=>∃p ns,xs=[.ref p]/\H p=some (.lst (ns.map V.int))/\ns.length+1<4096/\∀S,H S=none->Q (.ref S) (upd H S (.ext (setP w S ns)))
def fewS(ns:List Int):Prop:=(Ya ns).length<64/\ns.length<4000
noncomputable instance (ns:List Int):Decidable (fewS ns):=inferInstanceAs (Decidable (_/\_))
theorem qdr{ns:List Int}(h:ns.length<64):fewS ns:=⟨wJ (q33 ns) h,∅⟩
def rSortS(w:vU):List V->Hp->VK->Prop:=λxs H Q=>∃S ns,xs=[.ref S]/\H S=some (.ext (setP w S ns))/\fewS ns/\∀l,H l=none->Q (.ref l) (upd H l (.lst ((Ya ns).map V.int)))
section
variable{X:Cx}
theorem qe3{pins:List (vF×Obj)}{σ:St}{H:Hp}{s:vC}(I:L2.Inv X pins σ H s)(d:Drawn):L2.Inv X pins σ H { s with drawn:=d } :=
 ⟨I.ok,I.os,I.bare,I.base,I.loc,I.cell,I.free,I.freeC,I.pin,I.hok,I.len⟩
theorem qem(hc:X.calm=true):Yy X (.type "set") (rSet X.w):=by
 intro pins s σ H xs us Q I r h;obtain⟨p,ns,rfl,hp,hz,q⟩:=h;obtain⟨u,rfl,rx⟩:=vals1 r;cases rx;obtain⟨its,n,rv,e,_⟩:=I.lst hp;have ia:=q1n rv;have hlen:its.length=ns.length:=by rw[<- rv.length,zA]
 refine q9Q (items:=its.toArray) (ns:=ns) (I.ok.hd hc) ⟨_,e,rfl,n,rfl⟩ ⇑ia (by rw[zM,hlen];exact hz) λh' tk sv kp=>?_;have hsz:its.toArray.size=ns.length:=by rw[zM,hlen]
 rw[hsz]at sv;refine⟨.ref s.heap.objs.size,_,I.laid (t':=tk) (λb o e=>kp b o (zN e) e) (zI _) (show Yc X.prog X.w _ h' _ (.ext (setP X.w s.heap.objs.size ns))from ⟨sv,?_,λh1 h2 a1 a2=>a1.at a2⟩),rfl,q _ (I.hok.fresh (zI _))⟩;obtain⟨_,⟨o,_,_,_,e,_⟩,_⟩:=sv;exact⟨o,e⟩
theorem qbw(hc:X.calm=true):Yy X (.builtin "sorted") (rSortS X.w):=by
 intro pins s σ H xs us Q I r h;obtain⟨S,ns,rfl,hp,hz,q⟩:=h;obtain⟨u,rfl,rx⟩:=vals1 r;cases rx;obtain⟨⟨zs,SI,hl,hm⟩,_⟩:=I.hok S _ hp;obtain⟨o,es,ep,t,go,gx,gd,T,gl,gb,gg,gv,gn⟩:=id SI;have mz:∀x,x∈zs↔x∈Ya ns:=λx=>by
  rw[hm,q2W]
  constructor
  ·rintro⟨i,hi,rfl⟩
   dsimp only
   rw[zQ,zB hi];exact zk hi
  ·intro hx
   obtain⟨i,hi,e⟩:=zv.mp hx;exact⟨i,hi,by dsimp only;rw[zQ,zB hi];exact e⟩
 have zl:=((xS gn ((q2f (ns:=ns)).imp λh=>∅)).mpr mz).length_eq;refine qc9 (I.ok.hd hc) SI (by rw[zl];exact hz.1) λD h' tk d vs ys n kp hD hg ia pm pw=>?_;have ey:ys=Ya ns:=qb9 (qa9 pw (pm.nodup_iff.mpr gn)) q2f λx=>by rw[pm.mem_iff,mz]
 subst ey;have hvl:vs.length=(Ya ns).length:=PyProof.Rows.IntsAre.length ia;have hsl:(Ya ns).length<=sizeLine:=by
  have:=pm.length_eq;exact yA (show (Ya ns).length<=64 from yL hz.1) (by decide)
 have I2:=qe3 (I.laid (a:=D) (o:=.lst ((Ya ns).map V.int)) (t':=tk) kp hD (show Yc X.prog X.w _ h' _ (.lst _)from ⟨by rw[zA];exact hsl,vs,n,q20 ia,hg⟩)) d;exact⟨.ref D,_,I2,rfl,q _ (I.hok.fresh hD)⟩
noncomputable def intsOf:List D->Option (List Int)
 | []=>some []
 | .int i::r=>(intsOf r).map λl=>i::l
 | _=>none
theorem q04:∀{ds:List D}{ns:List Int},intsOf ds=some ns->ds=ns.map D.int
 | [],_,e=>by cases e;rfl
 | .int c::r,b,e=>by
  obtain⟨k,q,e⟩:=mpd e;subst e;rw[q04 q];rfl
 | .non::_,_,e=>by cases e
 | .bl _::_,_,e=>by cases e
 | .str _::_,_,e=>by cases e
 | .lst _::_,_,e=>by cases e
 | .tup _::_,_,e=>by cases e
 | .scr _::_,_,e=>by cases e
 | .exc _::_,_,e=>by cases e
 | .dic _ _::_,_,e=>by cases e
theorem qH:∀(ns:List Int),intsOf (ns.map D.int)=some ns
 | []=>rfl
 | n::r=>by show (intsOf (r.map D.int)).map _=_;rw[qH r];rfl
noncomputable def WR:D->Option R
 | .lst ds=>(intsOf ds).bind λns=>if fewS ns then some (.fr ((Ya ns).map D.int))else none
 | _=>none
noncomputable def Y5(f:FD):FE:=λω=>(f ω).bind WR
theorem q5Z{a:vP}{f:FD}{p1 p2 q1 q2:Pos}(hg1:Gl X "sorted")(hm1:X.mg "sorted" = none)(hg2:Gl X "set")(hm2:X.mg "set" = none)(ha:XV X a f)(hc:X.calm=true:=by rfl)(he1:vK [a] X.env=(false,eval a X.env)::vK [] X.env:=by rfl)(hpl1:(vn q2 (vK [] X.env)).any (·.1)=false:=by rfl)(he2:vK [.Call (.Name "set" p2) [a] [] q2] X.env=(false,eval (.Call (.Name "set" p2) [a] [] q2) X.env)::vK [] X.env:=by rfl)(hpl2:(vn q1 (vK [] X.env)).any (·.1)=false:=by rfl):
  XE X (.Call (.Name "sorted" p1) [.Call (.Name "set" p2) [a] [] q2] [] q1) (Y5 f):=by
 obtain⟨t,h1,h2⟩:=ha;refine⟨_,q1H (qbw hc) hg1 hm1 q1Z (qq (q7H (qem hc) hg2 hm2 qh7 (qq h1 qI he1) (by decide) (by decide) he1 hpl1) qI he2) (by decide) (by decide) he2 hpl2,λG0 H0 G ω σ H r Q o e k=>?_⟩;obtain⟨d,q,e⟩:=bnd e;refine h2 G0 H0 G ω σ H d _ o q λv G1 H1 x1 y1=>?_;cases d with
 | lst ds=>
  obtain⟨ns,e1,e2⟩:=bnd (show (intsOf ds).bind _=some r from e);have hds:=q04 e1;subst hds
  by_cases hz:fewS ns
  ·rw[vG hz]at e2
   cases e2;obtain⟨p,vs,rfl,g1,g2⟩:=y1.lst x1.gh;have hv:=g2.of_ints;subst hv;refine⟨p,ns,rfl,g1,by have:=hz.2;omega,λS hS=>?_⟩;refine⟨S,ns,rfl,qe,hz,λl hl=>?_⟩;have x2:=Ext.hide x1.gh hS (.ext (setP X.w S ns));have x3:=Ext.hide x2.gh hl (.lst ((Ya ns).map V.int));exact k _ G1 _ ((x1.trans x2).trans x3) ⟨l,_,rfl,(x1.trans x2).hh.free hl,x2.gh.free hl,qe,YQ.ints _⟩
  ·rw[vJ hz]at e2;cases e2
 | _=>cases e
end
end Hk
namespace PySem.F
theorem noLenZip:tO (.type "zip") "__len__" = pure none:=by rw[uS,v8];kernel_rfl
theorem noHintZip:tO (.type "zip") "__length_hint__" = pure none:=by rw[uS,v8];kernel_rfl
end PySem.F
namespace Hk
open PySem PySem.Spec PyProof.Rows
section
variable{prog:vO}{w:vU}{A:vZ}{E:vB->vC->Prop}{s:vC}
abbrev WG(h:vY)(z TI TO:vF)(f0 f1:vB):Prop:=h.get? z=some { cls:=.type "zip", dict:=none,data:=.fields #[f0,f1,.bool false,.ref TI,.ref TO],slots:=#[] }
theorem qeW{a:vF}{Q:Option Obj->vC->Prop}(h:Q (s.heap.get? a) s):vL (model prog w) A (loadIfAlive a) Q E s:=λ_ _ _=>h
theorem qam{z TI TO t:vF}{ot:Obj}{f1:vB}{Q:Bool->vC->Prop}(hz:WG s.heap z TI TO (uO t) f1)(ht:s.heap.get? t=some ot)(k:∀h' f1',WG h' z TI TO (uO t) f1'->y0 z s.heap h'->Q false { s with heap:=h' }):vL (model prog w) A (Builtin.SmallTypes.ownedTupleIsFree (.ref z)) Q E s:=by
 unfold Builtin.SmallTypes.ownedTupleIsFree;refine vA (uN hz rfl (x:=uO t) rfl ?_);show vL _ _ (loadIfAlive ((t:Int)).toNat >>= _) _ _ _;rw[yH];refine vA (qeW ?_);rw[ht];show vL _ _ (field (.ref z) 1 >>= _) _ _ _;refine vA (uN hz rfl (x:=f1) rfl ?_);refine vi (λ_=>?_) (λ_=>?_)
 ·refine vA (v9 hz (by simp) λh1 e1 sb=>vH (k h1 (.bool true) e1 sb))
 ·exact vH (k s.heap f1 hz (Zc z s.heap))
theorem qcK{z TI TO i1 i2 l1 l2 t:vF}{ot:Obj}{f1:vB}{k1 k2:Nat}{xs ys:Array vB}{x y:vB}{Q:Option vB->vC->Prop}(D:ut z TI TO i1 i2 l1 l2)(hz:WG s.heap z TI TO (uO t) f1)(ht:s.heap.get? t=some ot)(hTI:ug s.heap TI (.ref i1) (.ref i2))(h1:s.heap.IsListIter i1 l1 k1)(h2:s.heap.IsListIter i2 l2 k2)(hl1:s.heap.IsList l1 xs)(hl2:s.heap.IsList l2 ys)(hx:xs[k1]?=some x)(hy:ys[k2]?=some y)(hQ:∀h' f1',WG h' z TI TO (uO t) f1'->h'.IsListIter i1 l1 (k1+1)->h'.IsListIter i2 l2 (k2+1)->ug h' s.heap.objs.size x y ->
   (∀c o,c≠z->c≠i1->c≠i2->s.heap.get? c=some o->h'.get? c=some o)->Q (some (.ref s.heap.objs.size)) { s with heap:=h' }) :
  vL (model prog w) A (uL (.ref z)) Q E s:=by
 have hT:s.TypeIs (.ref z) "zip" := ⟨_,hz,rfl⟩;unfold uL;refine vA (uU (wpAny_callSpecial?_slot (name:=Str.ofString "__next__") hT PySem.F.slot_zip_next (vh PySem.F.slot_zip_next hT PySem.F.entry_zip_next ?_ (PySem.F.args_zip_next_1 _))));show vL _ _ (field (.ref z) 2 >>= _) _ _ _;refine vA (uN hz rfl (x:=.bool false) rfl ?_);show vL _ _ (field (.ref z) 3 >>= _) _ _ _;refine vA (uN hz rfl (x:=.ref TI) rfl ?_);refine vA (uf hTI rfl ?_);show vL _ _ (Builtin.SmallTypes.ownedTupleIsFree (.ref z) >>= _) _ _ _;refine vA (qam hz ht λh' f1' hz1 sb1=>?_);simp only[yC,if_false];have a1:=h1.extBut sb1.extBut D.i1z;have a2:=h2.extBut sb1.extBut D.i2z;have b1:=hl1.extBut sb1.extBut D.l1z;have b2:=hl2.extBut sb1.extBut D.l2z;rw[<- ZT];simp only[wp,Z2];refine vA (vA (vA (ve ?_)));show vL _ _ (Builtin.SmallTypes.nextOf (.ref i1) >>= _) _ _ _;refine vA (uh a1 b1 hx λh₂ c1 sb2=>vH ?_);refine vH ?_;refine vA (vA (ve ?_));show vL _ _ (Builtin.SmallTypes.nextOf (.ref i2) >>= _) _ _ _;refine vA (uh (a2.extBut sb2.extBut D.i12.symm) (b2.extBut sb2.extBut D.l2i1) hy λh₃ c2 sb3=>vH ?_);refine vH (vH ?_);show vL _ _ (newTuple [x,y] >>= _) _ _ _;refine vA (u8 ?_);have hsz:h₃.objs.size=s.heap.objs.size:=by rw[sb3.1,sb2.1,sb1.1]
 refine vH ⟨_,rfl,vH ?_⟩
 dsimp only
 rw[hsz];refine hQ _ f1' ?_ ?_ ?_ ?_ ?_
 ·exact zD _ (sb3.extBut _ _ D.i2z.symm (sb2.extBut _ _ D.i1z.symm hz1))
 ·exact(c1.extBut sb3.extBut D.i12).at λo e=>zD _ e
 ·exact c2.at λo e=>zD _ e
 ·have:=zR h₃ (o:={ cls:=.type "tuple", data:=.seq [x,y].toArray }) rfl
  rw[hsz]at this;exact this
 ·exact λc o n1 n2 n3 e=>zD _ (sb3.extBut _ _ n3 (sb2.extBut _ _ n2 (sb1.extBut _ _ n1 e)))
theorem qeM{z TI TO i1 i2 l1 l2 t:vF}{ot:Obj}{f1:vB}{k1 k2:Nat}{xs ys:Array vB}{Q:Option vB->vC->Prop}(hh:A.handled=none)(D:ut z TI TO i1 i2 l1 l2)(hz:WG s.heap z TI TO (uO t) f1)(ht:s.heap.get? t=some ot)(hTI:ug s.heap TI (.ref i1) (.ref i2))(h1:s.heap.IsListIter i1 l1 k1)(h2:s.heap.IsListIter i2 l2 k2)(hl1:s.heap.IsList l1 xs)(hl2:s.heap.IsList l2 ys)(hend:xs[k1]?=none\/ys[k2]?=none)(hQ:∀h',(∀c o,c≠z->c≠i1->c≠i2->s.heap.get? c=some o->h'.get? c=some o)->Q none { s with heap:=h' }):
  vL (model prog w) A (uL (.ref z)) Q E s:=by
 have hT:s.TypeIs (.ref z) "zip" := ⟨_,hz,rfl⟩;unfold uL;refine vA (uU (wpAny_callSpecial?_slot (name:=Str.ofString "__next__") hT PySem.F.slot_zip_next (vh PySem.F.slot_zip_next hT PySem.F.entry_zip_next ?_ (PySem.F.args_zip_next_1 _))));show vL _ _ (field (.ref z) 2 >>= _) _ _ _;refine vA (uN hz rfl (x:=.bool false) rfl ?_);show vL _ _ (field (.ref z) 3 >>= _) _ _ _;refine vA (uN hz rfl (x:=.ref TI) rfl ?_);refine vA (uf hTI rfl ?_);show vL _ _ (Builtin.SmallTypes.ownedTupleIsFree (.ref z) >>= _) _ _ _;refine vA (qam hz ht λh' f1' hz1 sb1=>?_);simp only[yC,if_false];have a1:=h1.extBut sb1.extBut D.i1z;have a2:=h2.extBut sb1.extBut D.i2z;have b1:=hl1.extBut sb1.extBut D.l1z;have b2:=hl2.extBut sb1.extBut D.l2z;rw[<- ZT];simp only[wp,Z2];refine vA (vA (vA (ve ?_)));show vL _ _ (Builtin.SmallTypes.nextOf (.ref i1) >>= _) _ _ _;cases hx:xs[k1]? with
 | none=>
  refine vA (tV hh a1 b1 hx λh₂ e sb2 he=>?_);obtain⟨o,ho,hc⟩:=he;refine vA (ua (T := "StopIteration") (b:=true) ⟨o,ho,hc⟩ u7 ?_);exact vH (hQ _ λc o n1 n2 n3 e=>sb2 _ _ n2 (sb1.extBut _ _ n1 e))
 | some x=>
  have hy:ys[k2]?=none:=by rcases hend with h|h;rw[hx]at h;cases h;exact h
  refine vA (uh a1 b1 hx λh₂ c1 sb2=>vH ?_);refine vH ?_;refine vA (vA (ve ?_));show vL _ _ (Builtin.SmallTypes.nextOf (.ref i2) >>= _) _ _ _;refine vA (tV hh (a2.extBut sb2.extBut D.i12.symm) (b2.extBut sb2.extBut D.l2i1) hy λh₃ e sb3 he=>?_);obtain⟨o,ho,hc⟩:=he;refine vA (ua (T := "StopIteration") (b:=true) ⟨o,ho,hc⟩ u7 ?_);exact vH (hQ _ λc o n1 n2 n3 e=>sb3 _ _ n3 (sb2.extBut _ _ n2 (sb1.extBut _ _ n1 e)))
structure ZSt (h0:vY) (S z TI TO i1 i2 l1 l2:vF) (xs ys:Array vB) (ts:List vF) (h:vY):Prop where
 zip:(ts=[]/\WG h z TI TO .none (.bool false))\/∃t f1,t∈ts/\WG h z TI TO (uO t) f1
 pTI:ug h TI (.ref i1) (.ref i2)
 pTO:∃a b,ug h TO a b
 it1:h.IsListIter i1 l1 ts.length
 it2:h.IsListIter i2 l2 ts.length
 hl1:h.IsList l1 xs
 hl2:h.IsList l2 ys
 tups:∀(j:Nat)t,ts[j]?=some t->∃x y,xs[j]?=some x/\ys[j]?=some y/\ug h t x y
 old:∀t∈ts,t≠S/\t≠z/\t≠TO/\t≠i1/\t≠i2
 nd:ts.Nodup
 new:∀t∈ts,h0.objs.size<=t
 keep:∀b o,b≠S->h0.get? b=some o->h.get? b=some o
theorem qep{h0:vY}{S z TI TO i1 i2 l1 l2:vF}{xs ys:Array vB}{ts:List vF}{Q:Option vB->vC->Prop}(D:ut z TI TO i1 i2 l1 l2)(hf:∀b∈[z,TO,i1,i2],h0.get? b=none)(hS:S∉[z,TI,TO,i1,i2,l1,l2])(Z:ZSt h0 S z TI TO i1 i2 l1 l2 xs ys ts s.heap)(hSo:∃o,s.heap.get? S=some o)(hsz:h0.objs.size<=s.heap.objs.size)(hlt:ts.length<min xs.size ys.size)(k:∀h' t,ZSt h0 S z TI TO i1 i2 l1 l2 xs ys (ts++[t]) h'->(∀o,s.heap.get? S=some o->h'.get? S=some o)->s.heap.objs.size<=h'.objs.size->Q (some (.ref t)) { s with heap:=h' }):
  vL (model prog w) A (uL (.ref z)) Q E s:=by
 have hix:ts.length<xs.size:=zp hlt (xz ..);have hiy:ts.length<ys.size:=zp hlt (Zn ..);obtain⟨a,b,hTO⟩:=Z.pTO;obtain⟨oS,hoS⟩:=hSo;have gx:=zx hix;have gy:=zx hiy;simp only[zF,zh,or_false,not_or]at hS;have nz:∀b o,h0.get? b=some o->b≠z/\b≠TO/\b≠i1/\b≠i2:=λb o e=>
  ⟨λq=>(by have:=hf z (by simp);rw[q,this]at e;cases e),λq=>(by have:=hf TO (by simp);rw[q,this]at e;cases e),λq=>(by have:=hf i1 (by simp);rw[q,this]at e;cases e),λq=>(by have:=hf i2 (by simp);rw[q,this]at e;cases e)⟩
 have fin:∀(h':vY)(f1:vB)(u:vF),u∈ts++[s.heap.objs.size]->WG h' z TI TO (uO u) f1->(∃a b,ug h' TO a b)->h'.IsListIter i1 l1 (ts.length+1)->h'.IsListIter i2 l2 (ts.length+1)->ug h' s.heap.objs.size xs[ts.length] ys[ts.length] ->
   (∀c o,c≠z->c≠TO->c≠i1->c≠i2->s.heap.get? c=some o->h'.get? c=some o)->Q (some (.ref s.heap.objs.size)) { s with heap:=h' }:=λh' f1 u hu g1 g2 g3 g4 g5 g6=>by
  refine k h' _ ⟨.inr ⟨u,f1,hu,g1⟩,g6 _ _ D.TIz D.TITO D.TIi1 D.TIi2 Z.pTI,g2,by rw[zE];exact g3,by rw[zE];exact g4,Z.hl1.at λo e=>g6 _ o D.l1z D.l1TO D.l1i1 D.l1i2 e,Z.hl2.at λo e=>g6 _ o D.l2z D.l2TO D.l2i1 D.l2i2 e,λj t ht=>?_,λt ht=>?_,?_,λt ht=>?_,λb o hb e=>?_⟩ (λo e=>?_) (yL (zN g5))
  ·rcases zo j ts.length with y|y
   ·rw[zV y]at ht
    obtain⟨p,q,r1,r2,r3⟩:=Z.tups j t ht;have ho:=Z.old t (zg ht);exact⟨p,q,r1,r2,g6 _ _ ho.2.1 ho.2.2.1 ho.2.2.2.1 ho.2.2.2.2 r3⟩
   ·rw[zP y]at ht
    have hj:j=ts.length:=by
     rcases zo (j-ts.length) 1 with c|c
     ·omega
     ·rw[ze ⇑c]at ht;cases ht
    subst hj;rw[wG]at ht;cases ht;exact⟨_,_,gx,gy,g5⟩
  ·rcases zb.mp ht with ht|ht
   ·exact Z.old t ht
   ·rw[zT.mp ht]
    have lt:∀{c o},s.heap.get? c=some o->s.heap.objs.size≠c:=λe=>xU (zN e);refine⟨lt hoS,?_,lt hTO,?_,?_⟩
    ·rcases Z.zip with⟨_,e⟩|⟨_,_,_,e⟩ <;> exact lt e
    ·obtain⟨_,e,_⟩:=Z.it1;exact lt e
    ·obtain⟨_,e,_⟩:=Z.it2;exact lt e
  ·refine yO.mpr ⟨Z.nd,by simp,λa ha b hb=>?_⟩
   rw[zT.mp hb];intro e;obtain⟨j,hj,ej⟩:=zv.mp ha;obtain⟨_,_,_,_,et⟩:=Z.tups j a (by rw[zB hj,ej]);exact vN (zN et) (by rw[e];exact yv _)
  ·rcases zb.mp ht with ht|ht
   ·exact Z.new t ht
   ·rw[zT.mp ht];exact hsz
  ·obtain⟨n1,n2,n3,n4⟩:=nz b o e
   exact g6 b o n1 n2 n3 n4 (Z.keep b o hb e)
  ·exact g6 S o hS.1 hS.2.2.1 hS.2.2.2.1 hS.2.2.2.2.1 e
 rcases Z.zip with⟨_,hz⟩|⟨t,f1,ht,hz⟩
 ·exact tW D hz Z.pTI hTO Z.it1 Z.it2 Z.hl1 Z.hl2 gx gy λh' a1 a2 a3 a4 a5 a6 a7=>fin h' _ _ (by simp) a1 ⟨_,_,a2⟩ a3 a4 a5 a7
 ·obtain⟨j,hj,ej⟩:=zv.mp ht
  obtain⟨_,_,_,_,et⟩:=Z.tups j t (by rw[zB hj,ej]);refine qcK D hz et Z.pTI Z.it1 Z.it2 Z.hl1 Z.hl2 gx gy λh' f1' a1 a3 a4 a5 a7=>fin h' f1' t (zu _ ht) a1 ⟨a,b,?_⟩ a3 a4 a5 λc o n1 _ n3 n4 e=>a7 c o n1 n3 n4 e;exact a7 _ _ D.TOz D.TOi1 D.TOi2 hTO
theorem qgA{h0:vY}{S z TI TO i1 i2 l1 l2:vF}{xs ys:Array vB}{ts:List vF}{Q:Option vB->vC->Prop}(hh:A.handled=none)(D:ut z TI TO i1 i2 l1 l2)(Z:ZSt h0 S z TI TO i1 i2 l1 l2 xs ys ts s.heap)(hlt:ts.length=min xs.size ys.size)(k:∀h',(∀c o,c≠z->c≠TO->c≠i1->c≠i2->s.heap.get? c=some o->h'.get? c=some o)->Q none { s with heap:=h' }):
  vL (model prog w) A (uL (.ref z)) Q E s:=by
 obtain⟨a,b,hTO⟩:=Z.pTO;have hend:xs[ts.length]?=none\/ys[ts.length]?=none:=by
  rcases Nat.le_total xs.size ys.size with h|h
  ·left;exact yi ∅
  ·right;exact yi ∅
 rcases Z.zip with⟨_,hz⟩|⟨t,f1,ht,hz⟩
 ·exact tf hh D hz Z.pTI hTO Z.it1 Z.it2 Z.hl1 Z.hl2 hend λh' g=>k h' g
 ·obtain⟨j,hj,ej⟩:=zv.mp ht
  obtain⟨_,_,_,_,et⟩:=Z.tups j t (by rw[zB hj,ej]);exact qeM hh D hz et Z.pTI Z.it1 Z.it2 Z.hl1 Z.hl2 hend λh' g=>k h' λc o n1 _ n3 n4 e=>g c o n1 n3 n4 e
end
end Hk
namespace Hk
open PySem PySem.Spec PySem.W PyProof.Rows
section
variable{prog:vO}{w:vU}{A:vZ}{E:vB->vC->Prop}{R:sK->vC->Prop}{s:vC}
abbrev Wn(h:vY)(S:vF)(acc:Array vB)(c:Nat):Prop:=h.get? S=some { cls:=.type "list", dict:=none,data:=.seq acc c,slots:=#[] }
theorem q7N{h0 h h':vY}{S z TI TO i1 i2 l1 l2:vF}{xs ys:Array vB}{ts:List vF}(hS:S∉[z,TI,TO,i1,i2,l1,l2])(Z:ZSt h0 S z TI TO i1 i2 l1 l2 xs ys ts h)(k:∀b o,b≠S->h.get? b=some o->h'.get? b=some o):
  ZSt h0 S z TI TO i1 i2 l1 l2 xs ys ts h':=by
 simp only[zF,zh,or_false,not_or]at hS;obtain⟨s1,s2,s3,s4,s5,s6,s7⟩:=hS;refine⟨?_,k _ _ (Ne.symm s2) Z.pTI,?_,Z.it1.at λo e=>k _ o (Ne.symm s4) e,Z.it2.at λo e=>k _ o (Ne.symm s5) e,Z.hl1.at λo e=>k _ o (Ne.symm s6) e,Z.hl2.at λo e=>k _ o (Ne.symm s7) e,λj t ht=>?_,Z.old,Z.nd,Z.new,λb o hb e=>k b o hb (Z.keep b o hb e)⟩
 ·rcases Z.zip with⟨e1,e2⟩|⟨t,f1,e1,e2⟩
  ·exact .inl ⟨e1,k _ _ (Ne.symm s1) e2⟩
  ·exact .inr ⟨t,f1,e1,k _ _ (Ne.symm s1) e2⟩
 ·obtain⟨a,b,e⟩:=Z.pTO
  exact⟨a,b,k _ _ (Ne.symm s3) e⟩
 ·obtain⟨x,y,a1,a2,a3⟩:=Z.tups j t ht
  exact⟨x,y,a1,a2,k _ _ (Z.old t (zg ht)).1 a3⟩
theorem qf4{h0:vY}{S z TI TO i1 i2 l1 l2:vF}{xs ys:Array vB}{res:vB}(hh:A.handled=none)(D:ut z TI TO i1 i2 l1 l2)(hf:∀b∈[z,TO,i1,i2],h0.get? b=none)(hS:S∉[z,TI,TO,i1,i2,l1,l2])(hn:min xs.size ys.size<=sizeLine)(g0:Array sC)(d0:Drawn)(o0)(hR:∀(h':vY)(tk:Nat)(ts:List vF)(c:Nat),ts.length=min xs.size ys.size->ts.Nodup->(∀t∈ts,t≠S/\h0.objs.size<=t)->Wn h' S (ts.map Value.ref).toArray c->(∀b o,b≠S->h0.get? b=some o->h'.get? b=some o)->(∀(j:Nat)t,ts[j]?=some t->∃x y,xs[j]?=some x/\ys[j]?=some y/\ug h' t x y)->R (.ok (.ret res)) ⟨h',g0,d0,tk,o0⟩):
  ∀(k:Nat)(h:vY)(tk:Nat)(ts:List vF)(c:Nat),min xs.size ys.size-ts.length=k->ts.length<=min xs.size ys.size->ZSt h0 S z TI TO i1 i2 l1 l2 xs ys ts h->Wn h S (ts.map Value.ref).toArray c->h0.objs.size<=h.objs.size ->
   uW (model prog w) A (.builtin "list.extend.loop" ⟨[.ref S,.ref z,res],[]⟩) R ⟨h,g0,d0,tk,o0⟩:=by
 have hS':=hS;simp only[zF,zh,or_false,not_or]at hS';have nz:∀b o,h0.get? b=some o->b≠z/\b≠TO/\b≠i1/\b≠i2:=λb o e=>
  ⟨λq=>(by have:=hf z (by simp);rw[q,this]at e;cases e),λq=>(by have:=hf TO (by simp);rw[q,this]at e;cases e),λq=>(by have:=hf i1 (by simp);rw[q,this]at e;cases e),λq=>(by have:=hf i2 (by simp);rw[q,this]at e;cases e)⟩
 intro k
 induction k with
 | zero=>
  intro h tk ts c hk hi Z hl hsz;have hin:ts.length=min xs.size ys.size:=∅
  refine uB PySem.F.entry_extend_loop ?_;rw[Around.under_plainId PySem.F.plain_extend_loop _];show vL _ A.in1 (uL (.ref z) >>= _) _ _ _;refine vA (qgA (A:=A.in1) hh D Z hin λh' g=>?_);refine vH (hR h' tk ts c hin Z.nd (λt ht=>⟨(Z.old t ht).1,Z.new t ht⟩) (g _ _ hS'.1 hS'.2.2.1 hS'.2.2.2.1 hS'.2.2.2.2.1 hl) (λb o hb e=>?_) λj t ht=>?_)
  ·obtain⟨n1,n2,n3,n4⟩:=nz b o e
   exact g b o n1 n2 n3 n4 (Z.keep b o hb e)
  ·obtain⟨x,y,a1,a2,a3⟩:=Z.tups j t ht
   have ho:=Z.old t (zg ht);exact⟨x,y,a1,a2,g _ _ ho.2.1 ho.2.2.1 ho.2.2.2.1 ho.2.2.2.2 a3⟩
 | succ k ih=>
  intro h tk ts c hk hi Z hl hsz;have hlt:ts.length<min xs.size ys.size:=∅
  refine uB PySem.F.entry_extend_loop ?_;rw[Around.under_plainId PySem.F.plain_extend_loop _];show vL _ A.in1 (uL (.ref z) >>= _) _ _ _;refine vA (qep (A:=A.in1) D hf hS Z ⟨_,hl⟩ hsz hlt λh' t Z' hk' hsz'=>?_);have hl':=hk' _ hl;show vL _ A.in1 (tL S (·.push (.ref t)) >>= _) _ _ _;refine vA ?_;have sz:(ts.map Value.ref).toArray.size=ts.length:=by simp
  have e:=get?_update_seq hl' (·.push (Value.ref t));have e2:(ts.map Value.ref).toArray.push (.ref t)=((ts++[t]).map Value.ref).toArray:=by simp
  rw[e2]at e;refine uH hl' rfl (vH ⟨uJ PySem.F.plain_extend_loop _,ih _ _ (ts++[t]) _ (by rw[zE,z9];omega) (by rw[zE,z9];omega) (q7N hS Z' λb o hb e=>?_) e (by rw[yx];exact yA hsz hsz')⟩)
   (by rw[sz];omega) (by show ((ts.map Value.ref).toArray.push (.ref t)).size<=sizeLine+1;rw[wm,sz];omega)
  exact(zj _ _ (Ne.symm hb)).trans e
theorem qcf{h0:vY}{S z TI TO i1 i2 l1 l2:vF}{xs ys:Array vB}{res:vB}{c₀:Nat}(hh:A.handled=none)(D:ut z TI TO i1 i2 l1 l2)(hf:∀b∈[z,TO,i1,i2],h0.get? b=none)(hS:S∉[z,TI,TO,i1,i2,l1,l2])(hn:min xs.size ys.size<=sizeLine)(Z:ZSt h0 S z TI TO i1 i2 l1 l2 xs ys [] s.heap)(hl:Wn s.heap S #[] c₀)(hsz:h0.objs.size<=s.heap.objs.size)(hR:∀(h':vY)(tk:Nat)(ts:List vF)(c:Nat),ts.length=min xs.size ys.size->ts.Nodup->(∀t∈ts,t≠S/\h0.objs.size<=t)->Wn h' S (ts.map Value.ref).toArray c->(∀b o,b≠S->h0.get? b=some o->h'.get? b=some o)->(∀(j:Nat)t,ts[j]?=some t->∃x y,xs[j]?=some x/\ys[j]?=some y/\ug h' t x y)->R (.ok (.ret res)) { s with heap:=h',toks:=tk }):
  vL (model prog w) A.in1 (Builtin.List.listExtendWith (.ref S) (.ref z) res)
   (λfin s'=>match fin with|.done f=>R (.ok f) s'|.again c'=>c'.quiet=true/\uW (model prog w) A c' R s') (λe s'=>R (.error e) s') s:=by
 obtain⟨hp,g,d,tk,os⟩:=s;have hS':=hS;simp only[zF,zh,or_false,not_or]at hS';obtain⟨_,hz⟩|⟨t,_,ht,_⟩:=Z.zip
 rotate_left
 ·cases ht
 have hT:Shared.TypeIs ⟨hp,g,d,tk,os⟩ (.ref z) "zip" := ⟨_,hz,rfl⟩;unfold Builtin.List.listExtendWith;refine vA (ue (T := "zip") hT ?_);have h1:Builtin.List.listSameRef (.ref S) (.ref z)=false:=by simp[Builtin.List.listSameRef,hS'.1]
 have h2:(Value.type "zip" == Value.type "list")=false:=by decide
 have h3:(Value.type "zip" == Value.type "tuple")=false:=by decide
 simp only[h1,h2,h3,xZ,yC,if_false];refine vA (tM hz ?_);refine vA (ve ?_);unfold Builtin.List.listLengthHint;refine vA (uw hT PySem.F.noLenZip ?_);show vL _ A.in1 (specialOf (Value.ref z) (Str.ofString "__length_hint__") >>= _) _ _ _;refine vA (uw hT PySem.F.noHintZip ?_);refine vH ?_;have key:∀(h:vY)(c₁:Nat),ZSt h0 S z TI TO i1 i2 l1 l2 xs ys [] h->Wn h S #[] c₁->h0.objs.size<=h.objs.size->uW (model prog w) A (.builtin "list.extend.loop" ⟨[.ref S,.ref z,res],[]⟩) R ⟨h,g,d,tk,os⟩ :=
  λh c₁ Z' hl' z'=>qf4 hh D hf hS hn g d os (λh' tk' ts c a1 a2 a3 a4 a5 a6=>hR h' tk' ts c a1 a2 a3 a4 a5 a6) _ h tk [] c₁ rfl (zy _) Z' hl' z'
 refine vi (λ_=>?_) (λ_=>vH ⟨uJ PySem.F.plain_extend_loop _,key _ c₀ Z hl hsz⟩);refine vA (uP ?_);refine vA ?_;show vL _ _ (tL S (·.push .none) >>= λ_=>tL S (·.pop)) _ _ _;refine vA (uH hl rfl ?_);have hS₂:=ym (Obj.mapSeq (·.push Value.none)) hl rfl;refine uH (hz:=by seq_fits) hS₂ rfl ?_;have hS₃:=ym (Obj.mapSeq (·.pop)) hS₂ rfl;refine vH ⟨uJ PySem.F.plain_extend_loop _,key _ _ (q7N hS Z λb o hb e=>?_) hS₃ (by rw[yx,yx];exact hsz)⟩;exact(zj _ _ (Ne.symm hb)).trans ((zj _ _ (Ne.symm hb)).trans e)
theorem qez{l1 l2:vF}{xs ys:Array vB}{Q:vB->vC->Prop}{s0:vC}(hh:A.handled=none)(hl1:s0.heap.IsList l1 xs)(hl2:s0.heap.IsList l2 ys)(hn:min xs.size ys.size<=sizeLine)(hz:IsZip s.heap (s0.heap.objs.size+4) (s0.heap.objs.size+2) (s0.heap.objs.size+3) .none)(hp1:ug s.heap (s0.heap.objs.size+2) (.ref s0.heap.objs.size) (.ref (s0.heap.objs.size+1)))(hp2:ug s.heap (s0.heap.objs.size+3) .none .none)(hi1:s.heap.IsListIter s0.heap.objs.size l1 0)(hi2:s.heap.IsListIter (s0.heap.objs.size+1) l2 0)(hs:s.heap.objs.size=s0.heap.objs.size+5)(hk:∀c o,s0.heap.get? c=some o->s.heap.get? c=some o)(hQ:∀(h':vY)(tk:Nat)(S:vF)(ts:List vF)(c:Nat),s0.heap.objs.size<=S->ts.length=min xs.size ys.size->ts.Nodup->(∀t∈ts,t≠S/\s0.heap.objs.size<=t)->Wn h' S (ts.map Value.ref).toArray c->(∀b o,s0.heap.get? b=some o->h'.get? b=some o) ->
   (∀(j:Nat)t,ts[j]?=some t->∃x y,xs[j]?=some x/\ys[j]?=some y/\ug h' t x y)->Q (.ref S) { s with heap:=h',toks:=tk }) :
  vL (model prog w) A (call (.type "list") [.ref (s0.heap.objs.size+4)]) Q E s:=by
 refine callType_codes (Q₁:=λobj s₁=>obj=.ref s.heap.objs.size/\s₁={ s with heap:=s.heap.push { cls:=.type "list", data:=.seq #[] } }) PySem.F.called_list (PySem.F.typeCall_list_1 _) PySem.F.entry_list_init
  (code_list_new _ ⟨rfl,rfl⟩) λobj s₁ h₁=>?_
 obtain⟨rfl,rfl⟩:=h₁;have hS:(s.heap.push { cls:=.type "list", data:=.seq #[] }).get? s.heap.objs.size=some { cls:=.type "list", data:=.seq #[] }:=zR _ rfl;refine⟨⟨_,hS,rfl⟩,PySem.F.args_list_init_2 _ _,?_⟩;generalize hn0:s0.heap.objs.size=n at *;have e1:l1<n:=by obtain⟨_,e,_⟩:=hl1;rw[<- hn0];exact zN e
 have e2:l2<n:=by obtain⟨_,e,_⟩:=hl2;rw[<- hn0];exact zN e
 generalize hS0:s.heap.objs.size=S at *;have D:ut (n+4) (n+2) (n+3) n (n+1) l1 l2:=by
  constructor <;> (intro q;simp only[vF]at *;omega)
 have hSn:S∉[n+4,n+2,n+3,n,n+1,l1,l2]:=by
  simp only[zF,zh,or_false,not_or];refine⟨?_,?_,?_,?_,?_,?_,?_⟩ <;> (intro q;simp only[vF]at *;omega)
 have hf:∀b∈[n+4,n+3,n,n+1],s0.heap.get? b=none:=λb hb=>by
  cases q:s0.heap.get? b with
  | none=>rfl
  | some o=>
   have:=zN q;rw[hn0]at this;simp only[zF,zh,or_false]at hb;simp only[vF]at *;omega
 show vL _ _ (do let old <- Builtin.List.listItems (.ref S);Builtin.List.listUpdate (.ref S) (λ_=>#[]);letGo old.toList.reverse;Builtin.List.listExtendWith (.ref S) (.ref (n+4)) .none) _ _ _;refine vA ?_;unfold Builtin.List.listItems;refine vA (uf hS rfl (vH ?_));show vL _ _ (tL S (λ_=>#[]) >>= λ_=>letGo (#[]:Array vB).toList.reverse >>= λ_=>Builtin.List.listExtendWith (.ref S) (.ref (n+4)) .none) _ _ _;refine vA (uH hS rfl ?_);have hS₂:=get?_update_seq hS (λ_=>(#[]:Array vB));have oth:∀b o,b≠S->s.heap.get? b=some o->((s.heap.push { cls:=.type "list", data:=.seq #[] }).update S (Obj.mapSeq (λ_=>(#[]:Array vB)))).get? b=some o :=
  λb o hb e=>(zj _ _ (Ne.symm hb)).trans (zD _ e)
 refine vA (wpAny_letGo ?_);have hSn':=hSn;simp only[zF,zh,or_false,not_or]at hSn';refine qcf (A:=A.in1) (h0:=s0.heap) hh D hf hSn hn ⟨.inl ⟨rfl,oth _ _ (Ne.symm hSn'.1) hz⟩,oth _ _ (Ne.symm hSn'.2.1) hp1,⟨_,_,oth _ _ (Ne.symm hSn'.2.2.1) hp2⟩,hi1.at λo e=>oth _ o (Ne.symm hSn'.2.2.2.1) e,hi2.at λo e=>oth _ o (Ne.symm hSn'.2.2.2.2.1) e,
  hl1.at λo e=>oth _ o (Ne.symm hSn'.2.2.2.2.2.1) (hk _ o e),hl2.at λo e=>oth _ o (Ne.symm hSn'.2.2.2.2.2.2) (hk _ o e),λj t ht=>(by simp at ht),λt ht=>(by simp at ht),xQ,λt ht=>(by simp at ht),λb o hb e=>oth b o hb (hk b o e)⟩ hS₂ (by rw[yx,yP,hn0,hS0];simp only[vF]at *;omega) λh' tk ts c a1 a2 a3 a4 a5 a6=>?_
 rw[hn0]at a3;exact⟨rfl,hQ h' tk S ts c (by simp only[vF]at *;omega) a1 a2 a3 a4 (λb o e=>a5 b o (λq=>by
  have:=zN e;rw[hn0,q]at this;simp only[vF]at *;omega) e) a6⟩
end
end Hk
namespace Hk
open PySem L2
section
variable{X:Cx}{pins:List (vF×Obj)}{σ:St}{H H':Hp}{s:vC}
theorem qfu{h':vY}{t':Nat}(I:L2.Inv X pins σ H s)(k:∀b u,s.heap.get? b=some u->h'.get? b=some u)(hs:YX H H')(hn:∀b,H b=none->H' b≠none->s.heap.objs.size<=b)(new:∀b u,H b=none->H' b=some u->Yc X.prog X.w H' h' b u):L2.Inv X pins σ H' { s with heap:=h',toks:=t' }:=by
 refine I.un ⟨λb o q _ _ _=>k b o q,λb o q _ _ _=>⟨o.slots,k b o q⟩,λb o q n _=>?_,λb o q _=>⟨o,k b o q⟩,λb xs q=>hs _ _ q,λb o u q=>hs _ _ q,λb ps q=>⟨#[],by rw[hs _ _ q];simp⟩⟩ λb u e=>?_
 ·cases e:H' b with
  | none=>rfl
  | some u=>exact vN (zN q) (Z1.mpr (hn b n (by rw[e];exact λz=>by cases z)))
 ·cases q:H b with
  | none=>exact new b u q e
  | some u'=>
   have:=hs _ _ q;rw[e]at this;cases this;exact(I.hok b u q).stay (λc v _ z=>k c v z) (λc z=>hs _ _ z) λc xs z=>hs _ _ z
noncomputable def Wu(H:Hp):List vF->List V->List V->Hp
 | t::ts,x::xs,y::ys=>upd (Wu H ts xs ys) t (.tup [x,y])
 | _,_,_=>H
theorem q2o{b:vF}:∀{ts:List vF}{xs ys:List V},b∉ts->Wu H ts xs ys b=H b
 | [],_,_,_=>rfl
 | _::_,[],_,_=>rfl
 | _::_,_::_,[],_=>rfl
 | t::ts,x::xs,y::ys,h=>by
  rw[zF,not_or]at h;show upd _ t _ b=_;rw[qc h.1];exact q2o h.2
theorem q78:∀{ts:List vF}{xs ys:List V}{j:Nat}{t:vF}{x y:V},ts.Nodup->ts[j]?=some t->xs[j]?=some x->ys[j]?=some y->Wu H ts xs ys t=some (.tup [x,y])
 | [],_,_,_,_,_,_,_,h,_,_=>by simp at h
 | _::_,[],_,_,_,_,_,_,_,h,_=>by simp at h
 | _::_,_::_,[],_,_,_,_,_,_,_,h=>by simp at h
 | u::ts,a::xs,b::ys,0,t,x,y,n,h1,h2,h3=>by
  simp at h1 h2 h3;subst h1;subst h2;subst h3;exact qe
 | u::ts,a::xs,b::ys,j+1,t,x,y,n,h1,h2,h3=>by
  simp only[yf]at h1 h2 h3;obtain⟨n1,n2⟩:=yb.mp n;show upd _ u _ t=_;rw[qc (λe=>n1 (by rw[<- e];exact zg h1))];exact q78 n2 h1 h2 h3
def rLZ:List V->Hp->VK->Prop:=λvs H2 Q=>∃p q xs ys,vs=[.ref p,.ref q]/\H2 p=some (.lst xs)/\H2 q=some (.lst ys) /\
 ∀(S:vF)(ts:List vF),H2 S=none->(∀t∈ts,H2 t=none/\t≠S)->ts.Nodup->ts.length=min xs.length ys.length->Q (.ref S) (upd (Wu H2 ts xs ys) S (.lst (ts.map V.ref)))
theorem q5e:∀{xs:List V}{us:List vB},YZ xs us->∀{j:Nat}{u:vB},us[j]?=some u->∃x,xs[j]?=some x/\RelV x u
 | _,_,.nil,j,u,h=>by simp at h
 | _,_,.cons r1 r2,0,u,h=>by simp at h;subst h;exact⟨_,rfl,r1⟩
 | _,_,.cons r1 r2,j+1,u,h=>by
  simp only[yf]at h ⊢;exact q5e r2 h
theorem q7A:∀(ts:List vF),YZ (ts.map V.ref) (ts.map Value.ref)
 | []=>.nil
 | t::r=>.cons rfl (q7A r)
theorem qc7{a b:vP}{t:TA}{p1 p2 q1 q2:Pos}(hg1:Gl X "list")(hm1:X.mg "list" = none)(hg2:Gl X "zip")(hm2:X.mg "zip" = none)(ha:PA X [a,b] t)(hc:X.calm=true)(he1:vK [a,b] X.env=(false,eval a X.env)::vK [b] X.env)(hpl1:(vn q2 (vK [b] X.env)).any (·.1)=false)(he2:vK [.Call (.Name "zip" p2) [a,b] [] q2] X.env=(false,eval (.Call (.Name "zip" p2) [a,b] [] q2) X.env)::vK [] X.env)(hpl2:(vn q1 (vK [] X.env)).any (·.1)=false):
  PE X (.Call (.Name "list" p1) [.Call (.Name "zip" p2) [a,b] [] q2] [] q1) (tCB rLZ t):=by
 intro pins s σ H Q I h;refine uF (q0S I hg1 hm1 q2i ?_ (by decide) (by decide));refine PyProof.Rows.callWith_type1 ?_ he2 hpl2;rw[he2];show vL _ _ (spliced ((false,eval _ X.env)::vn q1 (vK [] X.env))) _ _ s;refine Calls.spliced_cons ?_;refine uF (q0S I hg2 hm2 qhK ?_ (by decide) (by decide));refine PyProof.Rows.callWith_type1 (thn (ha q2 pins s σ H _ I h) λus s1 ⟨vs,H1,I1,r1,q1⟩=>?_) he1 hpl1
 ·obtain⟨p,q,xs,ys,rfl,hp,hq,k⟩:=q1
  obtain⟨u1,u2,rfl,e1,e2⟩:=vals2 r1;cases e1;cases e2;obtain⟨its1,n1,rv1,g1,z1⟩:=I1.lst hp;obtain⟨its2,n2,rv2,g2,z2⟩:=I1.lst hq;have il1:s1.heap.IsList p its1.toArray:=⟨_,g1,rfl,n1,rfl⟩;have il2:s1.heap.IsList q its2.toArray:=⟨_,g2,rfl,n2,rfl⟩;refine call_zip_2 il1 il2 λh' a1 a2 a3 a4 a5 a6 a7=>?_;refine Calls.spliced_nil ?_;have len1:its1.toArray.size=xs.length:=by rw[zM,rv1.length]
  have len2:its2.toArray.size=ys.length:=by rw[zM,rv2.length]
  refine qez (s0:=s1) (I1.ok.hd hc) il1 il2 (by rw[len1];exact yA (xz _ _) z1) a1 a2 a3 a4 a5 a6 a7 λh2 tk S ts c b1 b2 b3 b4 b5 b6 b7=>?_;rw[len1,len2]at b2;have fS:H1 S=none:=I1.hok.fresh b1;have ft:∀t∈ts,H1 t=none:=λt ht=>I1.hok.fresh (b4 t ht).2;have hsame:YX H1 (upd (Wu H1 ts xs ys) S (.lst (ts.map V.ref))):=λb u e=>by
   have nS:b≠S:=λz=>by rw[z,fS]at e;cases e
   have nt:b∉ts:=λz=>by rw[ft b z]at e;cases e
   rw[qc nS,q2o nt];exact e
  have tup:∀(j:Nat)t,ts[j]?=some t->∃x y,xs[j]?=some x/\ys[j]?=some y/\Wu H1 ts xs ys t=some (.tup [x,y])/\Yc X.prog X.w (upd (Wu H1 ts xs ys) S (.lst (ts.map V.ref))) h2 t (.tup [x,y]):=λj t ht=>by
   obtain⟨x',y',c1,c2,c3⟩:=b7 j t ht;obtain⟨x,d1,d2⟩:=q5e rv1 (j:=j) (u:=x') ⇑c1;obtain⟨y,d3,d4⟩:=q5e rv2 (j:=j) (u:=y') ⇑c2;exact⟨x,y,d1,d3,q78 b3 ht d1 d3,⟨by show 2<=sizeLine;decide,[x',y'],.cons d2 (.cons d4 .nil),⟨_,c3,rfl,_,rfl⟩⟩⟩
  refine⟨.ref S,_,qfu (s:=s1) (t':=tk) I1 b6 hsame (λb n1 n2=>?_) (λb u n1 n2=>?_),rfl,k S ts fS (λt ht=>⟨ft t ht,(b4 t ht).1⟩) b3 b2⟩
  ·by_cases e:b=S
   ·rw[e];exact b1
   ·by_cases e':b∈ts
    ·exact(b4 b e').2
    ·rw[qc e,q2o e']at n2;exact vN n1 n2
  ·by_cases e:b=S
   ·subst e
    rw[qe]at n2;cases n2;refine⟨?_,ts.map Value.ref,c,q7A ts,b5⟩;rw[zA,b2];exact yA (xz _ _) z1
   ·by_cases e':b∈ts
    ·obtain⟨j,hj,ej⟩:=zv.mp e'
     obtain⟨x,y,_,_,m1,m2⟩:=tup j b (by rw[zB hj,ej]);rw[qc e,m1]at n2;cases n2;exact m2
    ·rw[qc e,q2o e',n1]at n2;cases n2
noncomputable def pairD(x y:D):D:=.tup [x,y]
noncomputable def Xf:List D->Option R
 | [.lst xs,.lst ys]=>some (.fr (wf pairD xs ys))
 | _=>none
theorem q2U{K:zC}{G:Hp}:∀{ds:List D}{ts:List vF},ds.length=ts.length->(∀(j:Nat)d t,ds[j]?=some d->ts[j]?=some t->Rep K G d (.ref t))->YQ K G ds (ts.map V.ref)
 | [],[],_,_=>rfl
 | [],_::_,h,_=>by simp at h
 | _::_,[],h,_=>by simp at h
 | d::ds,t::ts,h,f=>⟨.ref t,_,rfl,f 0 d t rfl rfl,q2U ⇑h λj e u h1 h2=>f (j+1) e u ⇑h1 ⇑h2⟩
theorem qbv{K:zC}:Xc K rLZ Xf:=by
 intro G H ds vs d Q s e hv k
 match ds,e with
 | [.lst xs,.lst ys],e=>
  cases e;obtain⟨v,u,rfl,h,h'⟩:=hv.two;obtain⟨p,us,rfl,h1,h2⟩:=h.lst s;obtain⟨q,ws,rfl,h3,h4⟩:=h'.lst s;refine⟨p,q,us,ws,rfl,h1,h3,λS ts hS ht nd hl=>?_⟩
  let G':Hp:=λb=>if b∈ts then Wu H ts us ws b else G b
  have hout:∀b,b∉ts->G' b=G b:=λb z=>vJ z;have hin:∀b,b∈ts->G' b=Wu H ts us ws b:=λb z=>vG z;have gg:YX G G':=λb o z=>by
   have n:b∉ts:=λy=>by rw[s.free (ht b y).1]at z;cases z
   rw[hout b n];exact z
  have hh:YX H (upd (Wu H ts us ws) S (.lst (ts.map V.ref))):=λb o z=>by
   have nS:b≠S:=λy=>by rw[y,hS]at z;cases z
   have n:b∉ts:=λy=>by rw[(ht b y).1]at z;cases z
   rw[qc nS,q2o n];exact z
  have gh:YX G' (upd (Wu H ts us ws) S (.lst (ts.map V.ref))):=λb o z=>by
   by_cases y:b∈ts
   ·rw[hin b y]at z
    rw[qc (ht b y).2];exact z
   ·rw[hout b y]at z
    exact hh b o (s _ _ z)
  have x:Ext G H G' (upd (Wu H ts us ws) S (.lst (ts.map V.ref))):=⟨gg,gh,hh,λb z1 z2=>by
   have n:b∉ts:=λy=>z2 (ht b y).1;rw[hout b n];exact z1⟩
  have nS:S∉ts:=λy=>(ht S y).2 rfl;refine k _ G' _ x ⟨S,_,rfl,hS,by rw[hout S nS];exact s.free hS,qe,q2U ?_ λj d t e1 e2=>?_⟩
  ·rw[List.length_zipWith,hl,h2.len,h4.len]
  ·rw[List.getElem?_zipWith]at e1
   cases q1:xs[j]? with
   | none=>rw[q1]at e1;cases e1
   | some a=>
    cases q2:ys[j]? with
    | none=>rw[q1,q2]at e1;cases e1
    | some b=>
     rw[q1,q2]at e1;cases e1;obtain⟨va,y1,y2⟩:=h2.get q1;obtain⟨vb,y3,y4⟩:=h4.get q2;refine⟨t,[va,vb],rfl,?_,YQ.cons (y2.mono gg) (YQ.cons (y4.mono gg) YQ.nil)⟩;rw[hin t (zg e2)];exact q78 nd e2 y1 y3
theorem qbJ{a b:vP}{g:FA}{p1 p2 q1 q2:Pos}(hg1:Gl X "list")(hm1:X.mg "list" = none)(hg2:Gl X "zip")(hm2:X.mg "zip" = none)(ha:XVA X [a,b] g)(hc:X.calm=true:=by rfl)(he1:vK [a,b] X.env=(false,eval a X.env)::vK [b] X.env:=by rfl)(hpl1:(vn q2 (vK [b] X.env)).any (·.1)=false:=by rfl)(he2:vK [.Call (.Name "zip" p2) [a,b] [] q2] X.env=(false,eval (.Call (.Name "zip" p2) [a,b] [] q2) X.env)::vK [] X.env:=by rfl)(hpl2:(vn q1 (vK [] X.env)).any (·.1)=false:=by rfl):
  XE X (.Call (.Name "list" p1) [.Call (.Name "zip" p2) [a,b] [] q2] [] q1) (Yv Xf g):=by
 obtain⟨t,h1,h2⟩:=ha;exact⟨_,qc7 hg1 hm1 hg2 hm2 h1 hc he1 hpl1 he2 hpl2,q76 qbv h2⟩
end
noncomputable def Wi:List Int->Int
 | []=>0
 | [x]=>x
 | x::y::r=>if x<=Wi (y::r)then Wi (y::r)else x
noncomputable def WJ:List Int->Int
 | []=>0
 | [x]=>x
 | x::y::r=>if WJ (y::r)<=x then WJ (y::r)else x
theorem q4D:∀{ns:List Int},ns≠[]->Wi ns∈ns/\∀a∈ns,a<=Wi ns
 | [x],_=>⟨by simp[Wi],λa h=>by simp at h;subst h;exact yk _⟩
 | x::y::r,_=>by
  obtain⟨h1,h2⟩:=q4D (ns:=y::r) (by simp);unfold Wi
  split
  ·rename_i h
   refine⟨zJ _ h1,λa ha=>?_⟩;rcases zF.mp ha with rfl|ha
   ·exact h
   ·exact h2 a ha
  ·rename_i h
   refine⟨zH,λa ha=>?_⟩;rcases zF.mp ha with rfl|ha
   ·exact yk _
   ·have:=h2 a ha;omega
theorem q4S:∀{ns:List Int},ns≠[]->WJ ns∈ns/\∀a∈ns,WJ ns<=a
 | [x],_=>⟨by simp[WJ],λa h=>by simp at h;subst h;exact yk _⟩
 | x::y::r,_=>by
  obtain⟨h1,h2⟩:=q4S (ns:=y::r) (by simp);unfold WJ
  split
  ·rename_i h
   refine⟨zJ _ h1,λa ha=>?_⟩;rcases zF.mp ha with rfl|ha
   ·exact h
   ·exact h2 a ha
  ·rename_i h
   refine⟨zH,λa ha=>?_⟩;rcases zF.mp ha with rfl|ha
   ·exact yk _
   ·have:=h2 a ha;omega
def rMax:List V->Hp->VK->Prop:=λxs H Q=>∃(p:vF) (ns:List Int),xs=[.ref p]/\H p=some (.lst (ns.map V.int))/\ns≠[]/\Q (.int (Wi ns)) H
def rMin:List V->Hp->VK->Prop:=λxs H Q=>∃(p:vF) (ns:List Int),xs=[.ref p]/\H p=some (.lst (ns.map V.int))/\ns≠[]/\Q (.int (WJ ns)) H
section
variable{X:Cx}
open PyProof.Rows PySem.Spec in
theorem q7S(hc:X.calm=true):Yy X (.builtin "max") rMax:=by
 intro pins s σ H xs us Q I r h;obtain⟨p,ns,rfl,hp,hne,q⟩:=h;obtain⟨u,rfl,rx⟩:=vals1 r;cases rx;obtain⟨its,n,rv,e,hz⟩:=I.lst hp;have hi:=q1n rv;obtain⟨ys,ey⟩:=hi.allInts.items;have hns:ns=ys.toList.map (·.1):=by rw[<- hi.numsOf,<- nums_intItems,<- ey]
 have hl:s.heap.IsList p its.toArray:=⟨_,e,rfl,n,rfl⟩;rw[ey]at hl;have hsz:0<ys.size:=by
  have h3:=ZA.mpr hne;rw[hns,zA,zL]at h3;exact h3
 refine max_intList (I.ok.hd hc) hl hsz λv h' tk hv hk=>?_;obtain⟨t,rfl⟩:=intItems_at hv;obtain⟨h1,h2⟩:=argBest_gt (numAt ys) (ys.size-1);have em:numAt ys (argBest (λi j=>decide (numAt ys i>numAt ys j)) (ys.size-1))=Wi ns:=by
  obtain⟨m1,m2⟩:=q4D hne;apply Zr
  ·apply m2
   rw[hns,sU];exact getD_mem (by rw[zA,zL];omega)
  ·rw[hns]at m1
   obtain⟨j,hj,ej⟩:=mem_getD m1;rw[zA,zL]at hj;rw[<- hns]at ej;rw[<- ej,hns,<- sU];exact h2 j ∅
 rw[em];exact⟨.int _,H,I.kept (t':=tk) hk,⟨_,rfl⟩,q⟩
open PyProof.Rows PySem.Spec in
theorem q2Y(hc:X.calm=true):Yy X (.builtin "min") rMin:=by
 intro pins s σ H xs us Q I r h;obtain⟨p,ns,rfl,hp,hne,q⟩:=h;obtain⟨u,rfl,rx⟩:=vals1 r;cases rx;obtain⟨its,n,rv,e,hz⟩:=I.lst hp;have hi:=q1n rv;obtain⟨ys,ey⟩:=hi.allInts.items;have hns:ns=ys.toList.map (·.1):=by rw[<- hi.numsOf,<- nums_intItems,<- ey]
 have hl:s.heap.IsList p its.toArray:=⟨_,e,rfl,n,rfl⟩;rw[ey]at hl;have hsz:0<ys.size:=by
  have h3:=ZA.mpr hne;rw[hns,zA,zL]at h3;exact h3
 refine min_intList (I.ok.hd hc) hl hsz λv h' tk hv hk=>?_;obtain⟨t,rfl⟩:=intItems_at hv;obtain⟨h1,h2⟩:=argBest_lt (numAt ys) (ys.size-1);have em:numAt ys (argBest (λi j=>decide (numAt ys i<numAt ys j)) (ys.size-1))=WJ ns:=by
  obtain⟨m1,m2⟩:=q4S hne;apply Zr
  ·rw[hns]at m1
   obtain⟨j,hj,ej⟩:=mem_getD m1;rw[zA,zL]at hj;rw[<- hns]at ej;rw[<- ej,hns,<- sU];exact h2 j ∅
  ·apply m2
   rw[hns,sU];exact getD_mem (by rw[zA,zL];omega)
 rw[em];exact⟨.int _,H,I.kept (t':=tk) hk,⟨_,rfl⟩,q⟩
noncomputable def bMax:List D->Option R
 | [.lst ds]=>(intsOf ds).bind λns=>if ns=[]then none else ↥(.int (Wi ns))
 | _=>none
noncomputable def zBI:List D->Option R
 | [.lst ds]=>(intsOf ds).bind λns=>if ns=[]then none else ↥(.int (WJ ns))
 | _=>none
theorem qcD{K:zC}:Xc K rMax bMax:=by
 intro G H ds vs d Q s e hv k
 match ds,e with
 | [.lst ds],e=>
  obtain⟨ns,e1,e2⟩:=bnd (show (intsOf ds).bind _=some d from e);have hds:=q04 e1;subst hds
  by_cases hz:ns=[]
  ·rw[vG hz]at e2;cases e2
  ·rw[vJ hz]at e2
   cases e2;obtain⟨v,rfl,h⟩:=hv.one;obtain⟨p,us,rfl,h1,h2⟩:=h.lst s;exact⟨p,ns,rfl,by rw[h1,h2.of_ints],hz,k _ G H (Ext.refl s) rfl⟩
theorem q5C{K:zC}:Xc K rMin zBI:=by
 intro G H ds vs d Q s e hv k
 match ds,e with
 | [.lst ds],e=>
  obtain⟨ns,e1,e2⟩:=bnd (show (intsOf ds).bind _=some d from e);have hds:=q04 e1;subst hds
  by_cases hz:ns=[]
  ·rw[vG hz]at e2;cases e2
  ·rw[vJ hz]at e2
   cases e2;obtain⟨v,rfl,h⟩:=hv.one;obtain⟨p,us,rfl,h1,h2⟩:=h.lst s;exact⟨p,ns,rfl,by rw[h1,h2.of_ints],hz,k _ G H (Ext.refl s) rfl⟩
theorem qej{ns:List Int}(h:ns≠[]):bMax [.lst (ns.map D.int)]=↥(.int (Wi ns)):=by
 show (intsOf (ns.map D.int)).bind _=_;rw[qH];exact vJ h
theorem q5H{ns:List Int}(h:ns≠[]):zBI [.lst (ns.map D.int)]=↥(.int (WJ ns)):=by
 show (intsOf (ns.map D.int)).bind _=_;rw[qH];exact vJ h
end
noncomputable def whD(c:FT)(b:FS):Nat->FS
 | 0=>λ_=>none
 | n+1=>λω=>(c ω).bind λk=>if k=true then (b ω).bind (λp=>match p.1 with
   | .nx=>whD c b n p.2
   | .ct=>whD c b n p.2
   | .bk=>some (.nx,p.2)
   | .rt r=>some (.rt r,p.2))else some (.nx,ω)
noncomputable def sWh(n:Nat)(c:FT)(b:FS):FS:=whD c b n
section
variable{X:Cx}{c:vP}{body:List vo}{fc:FT}{fb:FS}{pos:Pos}{n:Nat}
theorem qdh{K:zC}{t:TT}{u:TS}(h2:Wc K t fc)(h4:SimS K u fb):SimS K (zAn t u) (sWh n fc fb):=by
 intro G0 H0 G ω σ H out ω' E o e k;refine⟨λm σ1 H1=>∃G1 ω1,Own K G0 H0 G1 ω1 σ1 H1/\YX G G1/\whD fc fb m ω1=some (out,ω'),⟨n,G,ω,o,YX.refl _,e⟩,λm σ1 H1 ⟨G1,ω1,o1,g1,e1⟩=>?_⟩;cases m with
 | zero=>cases e1
 | succ m=>
  obtain⟨b,q,e1⟩:=bnd e1;refine h2 G0 H0 G1 ω1 σ1 H1 b _ o1 q λG2 H2 x2=>?_;cases b with
  | false=>cases e1;exact k G2 σ1 H2 (o1.keep x2) (g1.trans x2.gg)
  | true=>
   rw[vG rfl];rw[vG rfl]at e1;obtain⟨⟨o3,ω3⟩,q3,e1⟩:=bnd e1;refine⟨λσ' H'=>∃G1 ω1,Own K G0 H0 G1 ω1 σ' H'/\YX G G1/\whD fc fb m ω1=some (out,ω'),λσ' H' z=>⟨m,yW m,z⟩,?_⟩;refine h4 G0 H0 G2 ω1 σ1 H2 o3 ω3 _ (o1.keep x2) q3 λG4 σ4 H4 o4 g4=>?_;have gg:=(g1.trans x2.gg).trans g4;cases o3 with
   | nx=>exact⟨G4,ω3,o4,gg,e1⟩
   | ct=>exact⟨G4,ω3,o4,gg,e1⟩
   | bk=>cases e1;exact k G4 σ4 H4 o4 gg
   | rt r=>cases e1;exact k G4 σ4 H4 o4 gg
theorem q8O(hp:tz (model X.prog X.w) X.A X.env X.xe)(hc:XT X c fc)(hb:XSs X body fb):XS X (.While c body [] pos) (sWh n fc fb):=by
 obtain⟨t,h1,h2⟩:=hc;obtain⟨u,h3,h4⟩:=hb;exact⟨_,qeC hp h1 h3,qdh h2 h4⟩
end
section
variable{fc:FT}{fb:FS}
def stepW(I:WSt->Prop)(μ:WSt->Nat)(m:Nat)(J:WSt->Prop)(o:Option (Out×WSt)):Prop:=match o with
 | some (.nx,w)=>I w/\μ w<m
 | some (.ct,w)=>I w/\μ w<m
 | some (.bk,w)=>J w
 | _=>False
theorem q97(I:WSt->Prop)(μ:WSt->Nat)(J:WSt->Prop)(stop:∀ω,I ω->fc ω=some false->J ω)(turn:∀ω,I ω->∃k,fc ω=some k/\(k=true->stepW I μ (μ ω) J (fb ω))):
  ∀(n:Nat)(ω:WSt),I ω->μ ω<n->∃ω',whD fc fb n ω=some (.nx,ω')/\J ω'
 | 0,_,_,z=>vN z (xH _)
 | n+1,ω,h,z=>by
  obtain⟨k,e,t⟩:=turn ω h;show ∃ω',((fc ω).bind _)=_/\_;rw[e];cases k with
  | false=>exact⟨ω,rfl,stop ω h e⟩
  | true=>
   have t:=t rfl;rw[show ∀(f:Bool->Option (Out×WSt)),(some true).bind f=f true from λ_=>rfl,vG rfl];cases q:fb ω with
   | none=>rw[q]at t;exact t.elim
   | some p=>
    rw[q]at t;obtain⟨o,w⟩:=p;cases o with
    | nx=>exact q97 I μ J stop turn n w t.1 (by have:=t.2;omega)
    | ct=>exact q97 I μ J stop turn n w t.1 (by have:=t.2;omega)
    | bk=>exact⟨w,rfl,t⟩
    | rt r=>exact t.elim
theorem qd5{n:Nat}(I:WSt->Prop)(μ:WSt->Nat)(J:WSt->Prop)(stop:∀ω,I ω->fc ω=some false->J ω)(turn:∀ω,I ω->∃k,fc ω=some k/\(k=true->stepW I μ (μ ω) J (fb ω))){ω:WSt}(h:I ω)(z:μ ω<n):∃ω',sWh n fc fb ω=some (.nx,ω')/\J ω':=q97 I μ J stop turn n ω h z
end
section
variable{X:Cx}{pos:Pos}{o:vP}{apos cpos:Pos}{i:Nat}
end
noncomputable abbrev FM:=WSt->Option (D×WSt)
def SimM(K:zC)(t:TE)(f:FM):Prop:=∀G0 H0 G ω σ H d ω'(Q:VK),Own K G0 H0 G ω σ H->f ω=some (d,ω') ->
 (∀v G' H',Own K G0 H0 G' ω' σ H'->YX G G'->Rep K G' d v->Q v H')->t σ H Q
def XM(X:Cx)(e:vP)(f:FM):Prop:=∃t,PE X e t/\SimM X.K t f
section
variable{X:Cx}{pos:Pos}{o e:vP}{apos cpos pos':Pos}{i:Nat}{fd:FD}{f:FM}
noncomputable def zAX(i:Nat)(f:FM):FS:=λω=>(f ω).map λp=>(.nx,p.2.set i (some (.sh p.1)))
theorem qfZ{x:Str}(hN:X.N.Nodup)(hi:X.N[i]?=some x)(hx:Loc X.env.scope x)(he:XM X e f)(hs:vv e (some (.Name x pos')) pos.line X.env=pure false:=by rfl)(hf:X.fn x=true\/X.env.scope.names.lookup x=some .local:=by first|exact .inl rfl|exact .inr rfl|assumption):
  XS X (.Assign [.Name x pos'] e pos) (zAX i f):=by
 obtain⟨t,h1,h2⟩:=he;refine⟨_,q48 hN hi hx h1 hs hf,λG0 H0 G ω σ H out ω' E o e k=>?_⟩;unfold zAX at e;cases q:f ω with
 | none=>rw[q]at e;cases e
 | some p=>
  obtain⟨d,ω1⟩:=p;rw[q]at e;cases e;exact h2 G0 H0 G ω σ H d ω1 _ o q λv G1 H1 o1 g1 r1=>k G1 _ H1 (o1.setSh r1) g1
end
section
variable{X:Cx}{a b c:vP}{pos:Pos}{fa fb fc:FD}{op op':sD}{p p':Int->Int->Bool}
end
noncomputable def zBK(x:Int):List Int->List Int
 | []=>[x]
 | y::r=>if x<=y then x::y::r else y::zBK x r
noncomputable def Yd(ns:List Int):List Int:=ns.foldr zBK []
theorem q4s{x:Int}:∀{l:List Int},(zBK x l).Perm (x::l)
 | []=>.refl _
 | y::r=>by
  unfold zBK
  by_cases h:x<=y
  ·rw[vG h]
  ·rw[vJ h];exact(q4s.cons y).trans (.swap x y r)
theorem qP:∀{l:List Int},(Yd l).Perm l
 | []=>.refl _
 | y::r=>q4s.trans ((qP (l:=r)).cons y)
theorem qb0{x:Int}:∀{l:List Int},l.Pairwise (· <= ·)->(zBK x l).Pairwise (· <= ·)
 | [],_=>xj _ _
 | y::r,h=>by
  obtain⟨h1,h2⟩:=zW.mp h;unfold zBK
  by_cases z:x<=y
  ·rw[vG z]
   refine zW.mpr ⟨λa ha=>?_,h⟩;cases ha with
   | head=>exact z
   | tail _ ha=>exact Ze z (h1 a ha)
  ·rw[vJ z]
   refine zW.mpr ⟨λa ha=>?_,qb0 h2⟩;cases (q4s.mem_iff.mp ha:a∈x::r)with
   | head=>omega
   | tail _ ha=>exact h1 a ha
theorem q2J:∀{l:List Int},(Yd l).Pairwise (· <= ·)
 | []=>.nil
 | y::r=>qb0 (q2J (l:=r))
theorem q3F:∀{l m:List Int},l.Pairwise (· <= ·)->m.Pairwise (· <= ·)->l.Perm m->l=m
 | [],m,_,_,p=>(List.Perm.nil_eq p)
 | a::l,m,h,h',p=>by
  cases m with
  | nil=>exact vN p.length_eq (by simp)
  | cons b m=>
   obtain⟨h1,h2⟩:=zW.mp h;obtain⟨h3,h4⟩:=zW.mp h';have hab:a=b:=by
    have x1:a∈b::m:=p.mem_iff.mp (.head _);have x2:b∈a::l:=p.mem_iff.mpr (.head _);cases x1 with
    | head=>rfl
    | tail _ x1=>
     cases x2 with
     | head=>rfl
     | tail _ x2=>have:=h3 a x1;have:=h1 b x2;omega
   subst hab;rw[q3F h2 h4 p.cons_inv]
theorem q7o(l:List Int):(Yd l).length=l.length:=qP.length_eq
def rSortL:List V->Hp->VK->Prop:=λxs H Q=>∃p ns,xs=[.ref p]/\H p=some (.lst (ns.map V.int))/\ns.length<64/\∀l,H l=none->Q (.ref l) (upd H l (.lst ((Yd ns).map V.int)))
noncomputable def zAm:D->Option R
 | .lst ds=>(intsOf ds).bind λns=>if ns.length<64 then some (.fr ((Yd ns).map D.int))else none
 | _=>none
noncomputable def W9(f:FD):FE:=λω=>(f ω).bind zAm
section
variable{X:Cx}
theorem qcs:Yy X (.builtin "sorted") rSortL:=by
 intro pins s σ H xs us Q I r h;obtain⟨p,ns,rfl,hp,hz,q⟩:=h;obtain⟨u,rfl,rx⟩:=vals1 r;cases rx;obtain⟨its,n,rv,e,_⟩:=I.lst hp;have hlen:its.length=ns.length:=by rw[<- rv.length,zA]
 refine PyProof.Rows.sorted_ints ⟨_,e,rfl,n,rfl⟩ (q1n rv) ∅ λout ns' a1 a2 a3=>?_;obtain⟨m,hm⟩:=PyProof.Rows.sortedAll_at s.heap its out;have en:ns'=Yd ns:=q3F a3 q2J (a2.trans qP.symm);subst en;have hsl:(Yd ns).length<=sizeLine:=by rw[q7o];exact yA (yL hz) (by decide)
 have I2:=I.laid (a:=s.heap.objs.size+1) (o:=.lst ((Yd ns).map V.int)) (t':=s.toks) (λb o e=>PyProof.Rows.sortedAll_old e) (yt _)
  (show Yc X.prog X.w _ (PyProof.Rows.sortedAll s.heap its out) _ (.lst _)from ⟨by rw[zA];exact hsl,out.toList,m,q20 a1,by rw[xR];exact hm⟩)
 exact⟨.ref _,_,I2,rfl,q _ (I.hok.fresh (yt _))⟩
theorem qfW{a:vP}{f:FD}{p q:Pos}(hg:Gl X "sorted")(hm:X.mg "sorted" = none)(ha:XV X a f)(he:vK [a] X.env=(false,eval a X.env)::vK [] X.env:=by rfl)(hpl:(vn q (vK [] X.env)).any (·.1)=false:=by rfl):XE X (.Call (.Name "sorted" p) [a] [] q) (W9 f):=by
 obtain⟨t,h1,h2⟩:=ha;refine⟨_,q1H qcs hg hm q1Z (qq h1 qI he) (by decide) (by decide) he hpl,λG0 H0 G ω σ H r Q o e k=>?_⟩;obtain⟨d,z,e⟩:=bnd e;refine h2 G0 H0 G ω σ H d _ o z λv G1 H1 x1 y1=>?_;cases d with
 | lst ds=>
  obtain⟨ns,e1,e2⟩:=bnd (show (intsOf ds).bind _=some r from e);have hds:=q04 e1;subst hds
  by_cases hz:ns.length<64
  ·rw[vG hz]at e2
   cases e2;obtain⟨p,vs,rfl,g1,g2⟩:=y1.lst x1.gh;have hv:=g2.of_ints;subst hv;refine⟨p,ns,rfl,g1,hz,λl hl=>?_⟩;have x2:=Ext.hide x1.gh hl (.lst ((Yd ns).map V.int));exact k _ G1 _ (x1.trans x2) ⟨l,_,rfl,x1.hh.free hl,x1.gh.free hl,qe,YQ.ints _⟩
  ·rw[vJ hz]at e2;cases e2
 | _=>cases e
end
end Hk
namespace Hk
open PySem PySem.Spec PyProof.Rows
section
variable{prog:vO}{w:vU}{A:vZ}{E:vB->vC->Prop}{s:vC}
end
open L2
section
variable{X:Cx}
end
end Hk
namespace L2
open PySem PySem.Spec PyProof.Rows
theorem Inv.turnedL{X:Cx}{pins:List (vF×Obj)}{σ:List (Option V)}{H:Hp}{s:vC}{h':vY}{t':Nat}{fp:List vF}(I:Inv X pins σ H s)(k:∀b o,b∉fp->s.heap.get? b=some o->h'.get? b=some o)(hf:∀b∈fp,Xe X pins H b):
  Inv X pins σ H { s with heap:=h',toks:=t' }:=by
 have nit:∀b u,H b=some u->b∉fp:=λb u e z=>by have:=(hf b z).1;rw[e]at this;cases this
 refine I.step (g':=s.gens) (d':=s.drawn) (ch:=fp) (λb hb=>?_) (λb o _ _ hc e _=>k b o hc e) (λb o _ _ hc e _=>⟨o.slots,k b o hc e⟩) (λ_ _ _ _ n=>n)
  (λb o hc e=>⟨o,k b o hc e⟩) (λ_ _ e=>e) (λ_ _ _ e=>e) (λb ps e=>⟨#[],by rw[e];simp⟩) (λm hm=>?_) (λb u e=>?_) I.bare
 ·obtain⟨f0,f1,f2,f3,f4,f5⟩:=hf b hb
  exact⟨f3,f1,f4,f5⟩
 ·obtain⟨o,es,ep,ho,r⟩:=hm
  exact⟨o,es,ep,k _ o (λz=>(hf _ z).2.1 rfl) ho,r⟩
 ·refine(I.hok b u e).stay (λc v hc q=>k c v ?_ q) (λ_ q=>q) λ_ _ q=>q
  rcases hc with z|z
  ·rw[z];exact nit b u e
  ·exact nit c _ z
noncomputable def Itz(K:zC)(a b:vF):It :=
 ⟨λi H=>∃xs ys x y,SqL K H a xs/\SqL K H b ys/\xs[i]?=some x/\ys[i]?=some y,
  λi H x H'=>∃t x1 y1,H t=none/\x=.ref t/\H'=upd H t (.tup [x1,y1])/\∀xs ys,SqL K H a xs->SqL K H b ys->xs[i]?=some x1/\ys[i]?=some y1,
  λi H=>∃xs ys,SqL K H a xs/\SqL K H b ys/\(xs[i]?=none\/ys[i]?=none)⟩
theorem qeR{P:vO}{w:vU}{K:zC}{elts:List vP}{kx}{tpos:Pos}(a b z TI TO i1 i2:vF)(D:ut z TI TO i1 i2 a b):
  Turn P w K (.Tuple elts kx tpos) (Itz K a b) [z,TI,TO,i1,i2] z (λi h=>IsZip h z TI TO .none/\ug h TI (.ref i1) (.ref i2)/\(∃x y,ug h TO x y)/\h.IsListIter i1 a i/\h.IsListIter i2 b i) where
 mem:=by simp
 obj:=λi h st c hc=>by
  obtain⟨s1,s2,⟨_,_,s3⟩,⟨o4,e4,c4,d4⟩,⟨o5,e5,c5,d5⟩⟩:=st;simp only[zF,zh,or_false]at hc;rcases hc with rfl|rfl|rfl|rfl|rfl
  ·exact⟨_,s1,λv y=>by cases (show Data.fields _=Data.cell v from y)⟩
  ·exact⟨_,s2,λv y=>by cases (show Data.seq _ _=Data.cell v from y)⟩
  ·exact⟨_,s3,λv y=>by cases (show Data.seq _ _=Data.cell v from y)⟩
  ·exact⟨_,e4,λv y=>by rw[d4]at y;cases y⟩
  ·exact⟨_,e5,λv y=>by rw[d5]at y;cases y⟩
 keep:=λi h h' st k=>by
  obtain⟨s1,s2,⟨x,y,s3⟩,s4,s5⟩:=st;exact⟨k _ (by simp) _ s1,k _ (by simp) _ s2,⟨x,y,k _ (by simp) _ s3⟩,s4.at λo e=>k _ (by simp) o e,s5.at λo e=>k _ (by simp) o e⟩
 item:=by
  intro X hP hw hK hc i pins s σ H E I hf st hg;subst hP hw hK;obtain⟨xs,ys,x,y,hq1,hq2,hx,hy⟩:=hg;obtain⟨its1,rv1,p1,hz1⟩:=I.list hq1;obtain⟨its2,rv2,p2,hz2⟩:=I.list hq2;obtain⟨u1,hu1,ru1⟩:=rv1.get hx;obtain⟨u2,hu2,ru2⟩:=rv2.get hy;obtain⟨s1,s2,⟨_,_,s3⟩,s4,s5⟩:=st;have ex:∀c∈[z,TI,TO,i1,i2],∃o,s.heap.get? c=some o:=λc hc=>by
   simp only[zF,zh,or_false]at hc;rcases hc with rfl|rfl|rfl|rfl|rfl
   ·exact⟨_,s1⟩
   ·exact⟨_,s2⟩
   ·exact⟨_,s3⟩
   ·obtain⟨o,e,_⟩:=s4;exact⟨o,e⟩
   ·obtain⟨o,e,_⟩:=s5;exact⟨o,e⟩
  have nt:∀c∈[z,TI,TO,i1,i2],c≠s.heap.objs.size:=λc hc=>by
   obtain⟨o,e⟩:=ex c hc;exact zm (zN e)
  refine tW D s1 s2 s3 s4 s5 p1.isList p2.isList (x:=u1) (y:=u2) (by simpa using hu1) (by simpa using hu2) λh' a1 a2 a3 a4 a5 a6 hk=>?_;have hn:H s.heap.objs.size=none:=I.hok.fresh (zI _);have I1:Inv X pins σ (upd H s.heap.objs.size (.tup [x,y])) { s with heap:=s.heap.push { cls:=.type "tuple", data:=.seq #[u1,u2] },toks:=s.toks } :=
   I.laid (λb o e=>zD _ e) (zI _) (show Yc X.prog X.w _ _ _ (.tup [x,y])from ⟨by show 2<=sizeLine;decide,[u1,u2],.cons ru1 (.cons ru2 .nil),⟨_,zR _ rfl,rfl,_,rfl⟩⟩)
  have hf':∀c∈[z,TI,TO,i1,i2],Xe X pins (upd H s.heap.objs.size (.tup [x,y])) c:=λc hc=>by
   obtain⟨f0,f⟩:=hf c hc;exact⟨by rw[qc (nt c hc)];exact f0,f⟩
  have I2:Inv X pins σ (upd H s.heap.objs.size (.tup [x,y])) { s with heap:=h',toks:=s.toks }:=I1.turnedL (λb o hb e=>by
   simp only[zF,zh,or_false,not_or]at hb
   by_cases q:b=s.heap.objs.size
   ·subst q
    rw[zR _ rfl]at e;cases e;exact a5
   ·have e':s.heap.get? b=some o:=by
     rcases zo b s.heap.objs.size with l|l
     ·obtain⟨z1,z2⟩:=xf.mp e
      refine xf.mpr ⟨?_,z2⟩;rw[<- z1];show s.heap.objs[b]?=(s.heap.objs.push _)[b]?;rw[ZB,vJ q]
     ·have:=zN e
      rw[yP]at this;exact vN (by simp only[vF]at *;omega) q
    exact hk b o hb.1 hb.2.2.1 hb.2.2.2.1 hb.2.2.2.2 e') hf'
  refine⟨_,rfl,wpAny_letOwnedTupleGo_zip a1 λh2 b1 sb=>?_⟩;have I3:Inv X pins σ (upd H s.heap.objs.size (.tup [x,y])) { s with heap:=h2,toks:=s.toks }:=I2.turnedL (λb o hb e=>(sb.2 b (λq=>hb (by simp[q]))).trans e) hf';refine⟨.ref s.heap.objs.size,_,I3,rfl,⟨_,x,y,hn,rfl,rfl,λxs' ys' q1 q2=>⟨by rw[I.list_inj q1 hq1];exact hx,by rw[I.list_inj q2 hq2];exact hy⟩⟩,⟨b1,?_,⟨u1,u2,sb.extBut _ _ D.TOz a2⟩,a3.extBut sb.extBut D.i1z,a4.extBut sb.extBut D.i2z⟩,λc hc=>(hf' c hc).1⟩;exact sb.extBut _ _ D.TIz (hk _ _ D.TIz D.TITO D.TIi1 D.TIi2 s2)
 done:=by
  intro X hP hw hK hc i pins s σ H E I hf st hg;subst hP hw hK;obtain⟨xs,ys,hq1,hq2,hx⟩:=hg;obtain⟨its1,rv1,p1,hz1⟩:=I.list hq1;obtain⟨its2,rv2,p2,hz2⟩:=I.list hq2;obtain⟨s1,s2,⟨_,_,s3⟩,s4,s5⟩:=st;have l1:=rv1.length;have l2:=rv2.length;refine tf (I.ok.hd hc) D s1 s2 s3 s4 s5 p1.isList p2.isList ?_ λh' hk=>⟨rfl,I.turnedL (t':=s.toks) (λb o hb e=>?_) hf⟩
  ·rcases hx with hx|hx
   ·exact .inl (by rw[xX]at hx;simp;omega)
   ·exact .inr (by rw[xX]at hx;simp;omega)
  ·simp only[zF,zh,or_false,not_or]at hb
   exact hk b o hb.1 hb.2.2.1 hb.2.2.2.1 hb.2.2.2.2 e
 self:=λ_ _ _ _ _ st h=>tM st.1 h
noncomputable def iZip(K:zC)(ta:TA):TI:=λσ H R=>ta σ H λvs H1=>∃a b xs ys,vs=[.ref a,.ref b]/\SqL K H1 a xs/\SqL K H1 b ys/\R (Itz K a b) H1
theorem qhr{X:Cx}{a b:vP}{ta:TA}{p pos tpos:Pos}{elts:List vP}{kx}(hg:Gl X "zip")(hm:X.mg "zip" = none)(ha:PA X [a,b] ta)(hs:vK [a,b] X.env=[(false,eval a X.env),(false,eval b X.env)]:=by rfl)(hs2:vK [b] X.env=[(false,eval b X.env)]:=by rfl):
  PI X (.Tuple elts kx tpos) (.Call (.Name "zip" p) [a,b] [] pos) (iZip X.K ta):=by
 intro pins s σ H R I h;refine Call_ (q0S I hg hm PyProof.Rows.boot_zip (PyProof.Rows.callWith_type1 (thn (ha pos pins s σ H _ I h) λus s1 ⟨vs,H1,I1,r1,q1⟩=>?_) (by rw[hs,hs2]) (by rw[hs2];rfl)));obtain⟨l1,l2,xs,ys,e,hq1,hq2,q⟩:=q1;subst e;cases r1 with
 | cons r rr=>
  cases rr with
  | cons r' rr=>
   cases rr;cases r;cases r';obtain⟨its1,rv1,p1,hz1⟩:=I1.list hq1;obtain⟨its2,rv2,p2,hz2⟩:=I1.list hq2;have e1:l1<s1.heap.objs.size:=by obtain⟨_,_,e,_⟩:=p1;exact zN e
   have e2:l2<s1.heap.objs.size:=by obtain⟨_,_,e,_⟩:=p2;exact zN e
   refine call_zip_2 p1.isList p2.isList λh' a1 a2 a3 a4 a5 a6 hk=>?_;refine tM a1 ?_;have D:ut (s1.heap.objs.size+4) (s1.heap.objs.size+2) (s1.heap.objs.size+3) s1.heap.objs.size (s1.heap.objs.size+1) l1 l2:=by
    generalize s1.heap.objs.size=n at *
    constructor <;> (intro q;simp only[vF]at *;omega)
   refine⟨s1.heap.objs.size+4,[s1.heap.objs.size+4,s1.heap.objs.size+2,s1.heap.objs.size+3,s1.heap.objs.size,s1.heap.objs.size+1],_,_,H1,rfl,I1.kept (t':=s1.toks) hk,qeR l1 l2 _ _ _ _ _ D,⟨a1,a2,⟨_,_,a3⟩,a4,a5⟩,λc hc=>?_,q⟩;have hle:s1.heap.objs.size<=c:=by
    simp only[zF,zh,or_false]at hc;simp only[vF]at *;omega
   have I2:=I1.kept (t':=s1.toks) hk;exact I1.fpOk hle (I1.hok.fresh hle)
end L2
namespace Hk
open PySem L2
noncomputable def Ws:List D->List D->List D
 | a::as,b::bs=>.tup [a,b]::Ws as bs
 | _,_=>[]
theorem q5h:∀(as bs:List D),(Ws as bs).length=min as.length bs.length
 | a::as,b::bs=>by show (Ws as bs).length+1=_;rw[q5h as bs,zG,zG];omega
 | [],bs=>by cases bs <;> simp[Ws]
 | a::as,[]=>by simp[Ws]
theorem q9j:∀(as bs:List D)(i:Nat)(d:D),(Ws as bs)[i]?=some d->∃a b,as[i]?=some a/\bs[i]?=some b/\d=.tup [a,b]
 | a::as,b::bs,0,d,h=>by cases h;exact⟨a,b,rfl,rfl,rfl⟩
 | a::as,b::bs,i+1,d,h=>q9j as bs i d h
 | [],bs,i,d,h=>by cases bs <;> cases h
 | a::as,[],i,d,h=>by cases h
theorem qfd{K:zC}{G:Hp}{a b:vF}{ds es:List D}{vs us:List V}(h1:G a=some (.lst vs))(h2:YQ K G ds vs)(h3:G b=some (.lst us))(h4:YQ K G es us):IterOf K (Itz K a b) G (Ws ds es):=by
 have l1:=h2.len;have l2:=h4.len;refine⟨λH i s hi=>?_,λG2 H i x H' d s0 s1 hd hy=>?_,λH s=>⟨vs,us,SqL.of (s _ _ h1),SqL.of (s _ _ h3),?_⟩⟩
 ·rw[q5h]at hi
  exact⟨vs,us,vs[i]'∅,us[i]'∅,SqL.of (s _ _ h1),SqL.of (s _ _ h3),zB _,zB _⟩
 ·obtain⟨t,x1,y1,ht,rfl,rfl,y⟩:=hy
  obtain⟨e1,e2⟩:=y vs us (SqL.of (s1 _ _ (s0 _ _ h1))) (SqL.of (s1 _ _ (s0 _ _ h3)));obtain⟨p,q,f1,f2,rfl⟩:=q9j ds es i d hd;obtain⟨v,q1,q2⟩:=h2.get f1;obtain⟨u,q3,q4⟩:=h4.get f2;rw[e1]at q1;cases q1;rw[e2]at q3;cases q3;have x2:=Ext.lay s1 ht (.tup [x1,y1]);exact⟨_,x2,⟨t,_,rfl,qe,YQ.cons (q2.mono (s0.trans x2.gg)) (YQ.cons (q4.mono (s0.trans x2.gg)) YQ.nil)⟩⟩
 ·rw[q5h]
  rcases Nat.le_total ds.length es.length with h|h
  ·exact .inl (ze ∅)
  ·exact .inr (ze ∅)
noncomputable def iZp(g:FA):FI:=λω=>(g ω).bind λds=>match ds with
 | [.lst a,.lst b]=>some (Ws a b)
 | _=>none
theorem qdb{X:Cx}{a b:vP}{g:FA}{p pos tpos:Pos}{elts:List vP}{kx}(hg:Gl X "zip")(hm:X.mg "zip" = none)(ha:XA X [a,b] g)(hs:vK [a,b] X.env=[(false,eval a X.env),(false,eval b X.env)]:=by rfl)(hs2:vK [b] X.env=[(false,eval b X.env)]:=by rfl):
  XI X (.Tuple elts kx tpos) (.Call (.Name "zip" p) [a,b] [] pos) (iZp g):=by
 obtain⟨⟨t,h1,h2⟩,_⟩:=ha;refine⟨_,qhr hg hm h1 hs hs2,λG0 H0 G ω σ H ds R o e k=>?_⟩;obtain⟨vs,q,e⟩:=bnd e;refine h2 G0 H0 G ω σ H vs _ o q λus G1 H1 x1 y1=>?_
 match vs,e with
 | [.lst as,.lst bs],e=>
  cases e;obtain⟨v1,r1,rfl,z1,z2⟩:=y1;obtain⟨v2,r2,rfl,z3,z4⟩:=z2;cases (show r2=[]from z4);obtain⟨a1,ws1,rfl,f1,f2⟩:=z1;obtain⟨a2,ws2,rfl,f3,f4⟩:=z3;exact⟨a1,a2,ws1,ws2,rfl,SqL.of (x1.gh _ _ f1),SqL.of (x1.gh _ _ f3),k _ G1 H1 x1 (qfd f1 f2 f3 f4)⟩
section
open PySem.Spec PyProof.Rows
variable{X:Cx}
end
end Hk
namespace Hk
open PySem L2 PyProof.Rows
noncomputable def Ww(k:Int):List Int->Option Nat
 | []=>none
 | a::r=>if a=k then some 0 else (Ww k r).map (·+1)
theorem qar{k:Int}:∀{ns:List Int}{its:List vB},YZ (ns.map V.int) its->PySem.W.kf_ints its=true/\YB k its=Ww k ns
 | [],its,h=>by cases h;exact⟨rfl,rfl⟩
 | a::r,its,h=>by
  cases h with
  | cons h1 h2=>
   obtain⟨t,rfl⟩:=h1;obtain⟨e1,e2⟩:=qar (k:=k) h2;refine⟨e1,?_⟩;unfold YB Ww;rw[e2]
   by_cases z:a=k
   ·have:isInt k (Value.int a t)=true:=by simp[isInt,z]
    rw[this,vG z];rfl
   ·have:isInt k (Value.int a t)=false:=by simp[isInt,z]
    rw[this,vJ z];cases Ww k r <;> rfl
section
variable{X:Cx}{pos:Pos}{o e:vP}{apos cpos:Pos}{i:Nat}{fd:FD}
end
end Hk
namespace Hk
open PySem L2
section
variable{X:Cx}{o c:vP}{body:List vo}{pos ipos npos:Pos}{i j:Nat}{fc:FT}{fb:FS}
end
noncomputable def dropW(o:Option R)(ω:WSt):Option (Out×WSt):=o.map λ_=>(.nx,ω)
noncomputable def zipI(o:Option (List D)):Option (List D):=o.bind λds=>match ds with
 | [.lst a,.lst b]=>some (Ws a b)
 | _=>none
noncomputable def sortR(o:Option D):Option R:=o.bind zAm
section
variable{ω:WSt}{fe:FE}{fd:FD}{fa:FA}{r:R}{ds as bs:List D}{i j:Nat}{f:FS}{ft:FT}{m:List D->List D}
theorem q6A:zAd fe ω=dropW (fe ω) ω:=rfl
theorem e_wd:dropW (some r) ω=some (.nx,ω):=rfl
theorem q9b:iZp fa ω=zipI (fa ω):=rfl
theorem e_wz:zipI (some [.lst as,.lst bs])=some (Ws as bs):=rfl
theorem q6T:W9 fd ω=sortR (fd ω):=rfl
end
theorem qgu{ns:List Int}(h:ns.length<64):sortR (some (.lst (ns.map D.int)))=some (.fr ((Yd ns).map D.int)):=by
 show (intsOf (ns.map D.int)).bind _=_;rw[qH];exact vG h
end Hk
namespace L2
open PySem PySem.Spec PyProof.Rows
section
variable{κ:Type}[DecidableEq κ]
noncomputable def Wb(kvs:List (κ×V))(k:κ):Option V:=(kvs.find? λkv=>decide (kv.1=k)).map (·.2)
noncomputable def putK(kvs:List (κ×V))(k:κ)(v:V):List (κ×V) :=
 if (kvs.any λkv=>decide (kv.1=k))=true then kvs.map (λkv=>if kv.1=k then (kv.1,v)else kv)else kvs++[(k,v)]
theorem q3H{p:κ×V}{r:List (κ×V)}{k:κ}(e:p.1=k):Wb (p::r) k=some p.2:=by simp[Wb,xI,e]
theorem q3M{p:κ×V}{r:List (κ×V)}{k:κ}(e:¬p.1=k):Wb (p::r) k=Wb r k:=by simp[Wb,xI,e]
theorem q8l(k:κ):∀kvs:List (κ×V),(kvs.any λkv=>decide (kv.1=k))=(Wb kvs k).isSome
 | []=>rfl
 | p::r=>by
  rw[xa]
  by_cases e:p.1=k
  ·simp only[q3H e,vW e,wg,Option.isSome_some]
  ·rw[q3M e,vS e,wS];exact q8l k r
theorem q38(kvs:List (κ×V))(k:κ)(v:V):(putK kvs k v).length<=kvs.length+1:=by
 unfold putK
 split
 ·rw[zA];omega
 ·rw[zE,zG,xJ];omega
theorem zAM.isSome_eq{o:Option V}{u:Option vB}(r:zAM o u):o.isSome=u.isSome:=by
 cases o with
 | none=>cases u with
  | none=>rfl
  | some _=>exact(show False from r).elim
 | some _=>cases u with
  | none=>exact(show False from r).elim
  | some _=>rfl
theorem KV.val{kvs:List (κ×V)}{vs:List (κ×vB)}(r:KV kvs vs)(k:κ):zAM (Wb kvs k) (t5 vs k):=by
 unfold KV at r
 induction r with
 | nil=>exact True.intro
 | @cons p q ps qs h t ih=>
  obtain⟨h1,h2⟩:=h
  by_cases e:p.1=k
  ·have e':q.1=k:=h1.symm.trans e
   have b:t5 (q::qs) k=some q.2:=by simp[t5,xI,e']
   rw[q3H e,b];exact h2
  ·have e':¬q.1=k:=λz=>e (h1.trans z)
   have b:t5 (q::qs) k=t5 qs k:=by simp[t5,xI,e']
   rw[q3M e,b];exact ih
theorem KV.any{kvs:List (κ×V)}{vs:List (κ×vB)}(r:KV kvs vs)(k:κ):(kvs.any λkv=>decide (kv.1=k))=vs.any λkv=>decide (kv.1=k):=by
 unfold KV at r
 induction r with
 | nil=>rfl
 | cons h t ih=>rw[xa,xa,ih,h.1]
theorem KV.repl{kvs:List (κ×V)}{vs:List (κ×vB)}(r:KV kvs vs)(k:κ){y:V}{u:vB}(ry:RelV y u):
  KV (kvs.map λkv=>if kv.1=k then (kv.1,y)else kv) (vs.map λkv=>if kv.1=k then (kv.1,u)else kv):=by
 unfold KV at r ⊢
 induction r with
 | nil=>exact .nil
 | @cons p q ps qs h t ih=>
  rw[zi,zi];refine .cons ?_ ih;obtain⟨h1,h2⟩:=h
  by_cases e:p.1=k
  ·rw[vG e,vG (h1.symm.trans e)];exact⟨h1,ry⟩
  ·rw[vJ e,vJ (λz=>e (h1.trans z))];exact⟨h1,h2⟩
theorem KV.put{kvs:List (κ×V)}{vs:List (κ×vB)}(r:KV kvs vs)(k:κ){y:V}{u:vB}(ry:RelV y u):KV (putK kvs k y) (stored vs k u):=by
 unfold putK stored;rw[r.any k]
 by_cases e:(vs.any λkv=>decide (kv.1=k))=true
 ·rw[vG e,vG e];exact r.repl k ry
 ·rw[vJ e,vJ e];exact Paired.snoc r ⟨rfl,ry⟩
theorem KV.keys{kvs:List (κ×V)}{vs:List (κ×vB)}(r:KV kvs vs):kvs.map (·.1)=vs.map (·.1):=by
 unfold KV at r
 induction r with
 | nil=>rfl
 | cons h t ih=>rw[zi,zi,ih,h.1]
theorem KV.length{kvs:List (κ×V)}{vs:List (κ×vB)}(r:KV kvs vs):kvs.length=vs.length:=Paired.length r
end
theorem q5W{P:vO}{w:vU}{k:Key}{u:vB}(r:RelV (kV k) u):(Yb P w).is k u=true:=by
 cases k with
 | inl i=>obtain⟨t,e⟩:=(show ∃t,u=Value.int i t from r);subst e;exact q9N P w i t
 | inr x=>obtain⟨t,e⟩:=(show ∃t,u=Value.str x t from r);subst e;exact qae P w x t
theorem q7G{P:vO}{w:vU}:∀{ks:List Key}{us:List vB},YZ (ks.map kV) us->ItemsAre (Yb P w) ks us
 | [],_,r=>by rw[yh]at r;cases r;exact .nil
 | k::ks,_,r=>by
  rw[zi]at r;cases r with
  | cons h t=>exact .cons (q5W h) (q7G t)
abbrev KT(H:Hp):List (List Key×V)->List (List Key×vF×vB)->Prop:=sI λp q=>p.1=q.1/\H q.2.1=some (.tup (p.1.map kV))/\RelV p.2 q.2.2
theorem KT.val{H:Hp}{kvs:List (List Key×V)}{xs:List (List Key×vF×vB)}(r:KT H kvs xs)(k:List Key):zAM (Wb kvs k) ((sO xs k).map (·.2)):=by
 induction r with
 | nil=>exact True.intro
 | @cons p q ps qs h t ih=>
  obtain⟨h1,_,h2⟩:=h
  by_cases e:p.1=k
  ·have e':q.1=k:=h1.symm.trans e
   have b:sO (q::qs) k=some q.2:=by simp[sO,xI,e']
   rw[q3H e,b];exact h2
  ·have e':¬q.1=k:=λz=>e (h1.trans z)
   have b:sO (q::qs) k=sO qs k:=by simp[sO,xI,e']
   rw[q3M e,b];exact ih
theorem KT.repl{H:Hp}{kvs:List (List Key×V)}{xs:List (List Key×vF×vB)}(r:KT H kvs xs)(k:List Key){y:V}{u:vB}(ry:RelV y u):
  KT H (kvs.map λkv=>if kv.1=k then (kv.1,y)else kv) (xs.map (putAt k u)):=by
 induction r with
 | nil=>exact .nil
 | @cons p q ps qs h t ih=>
  rw[zi,zi];refine .cons ?_ ih;obtain⟨h1,h2,h3⟩:=h;unfold putAt
  by_cases e:p.1=k
  ·rw[vG e,vG (h1.symm.trans e)];exact⟨h1,h2,ry⟩
  ·rw[vJ e,vJ (λz=>e (h1.trans z))];exact⟨h1,h2,h3⟩
theorem KT.put{H:Hp}{kvs:List (List Key×V)}{xs:List (List Key×vF×vB)}(r:KT H kvs xs)(k:List Key){b:vF}{y:V}{u:vB}(hb:H b=some (.tup (k.map kV)))(ry:RelV y u):
  KT H (putK kvs k y) (storedH xs k b u):=by
 have e:(kvs.any λkv=>decide (kv.1=k))=(sO xs k).isSome:=by
  rw[q8l,(r.val k).isSome_eq,Zf]
 unfold putK storedH;rw[e]
 by_cases q:(sO xs k).isSome=true
 ·rw[vG q,vG q];exact r.repl k ry
 ·rw[vJ q,vJ q];exact Paired.snoc r ⟨rfl,hb,ry⟩
theorem KT.keeps{H H':Hp}{kvs:List (List Key×V)}{xs:List (List Key×vF×vB)}(r:KT H kvs xs)(ht:∀b ys,H b=some (.tup ys)->H' b=some (.tup ys)):KT H' kvs xs :=
 Paired.mapP r λ_ _ z=>⟨z.1,ht _ _ z.2.1,z.2.2⟩
section
variable{P:vO}{w:vU}{H:Hp}{h:vY}{a:vF}
theorem qfB{u:HO}(ok:HOk P w H h)(e:Rd H a u):Yc P w H h a u:=e.ok ok
theorem q5V{kvs:List (Key×V)}(ok:HOk P w H h)(e:Rd H a (.dK kvs)):kvs.length<=sizeLine/\(a==uD)=false/\∃vs,KV kvs vs/\h.DictOf (Yb P w) a vs :=
 show Yc P w H h a (.dK kvs)from qfB ok e
theorem qfy{kvs:List (Key×V)}(ok:HOk P w H h)(e:H a=some (.dK kvs)):kvs.length<=sizeLine/\(a==uD)=false/\∃vs,KV kvs vs/\h.DictOf (Yb P w) a vs:=q5V ok (.inl e)
theorem q5S{ks:List Key}(ok:HOk P w H h)(e:H a=some (.tup (ks.map kV))):(tq (Yb P w)).is h ks a:=by
 obtain⟨_,its,r,o,h1,h2,n,h3⟩:=(show Yc P w H h a (.tup (ks.map kV))from ok a _ e);exact⟨o,its.toArray,n,h1,h2,h3,by simpa using q7G r⟩
theorem q8b{kvs:List (List Key×V)}(ok:HOk P w H h)(e:Rd H a (.dT kvs)):kvs.length<=sizeLine/\(a==uD)=false /\
  ∃xs,KT H kvs xs/\h.DictOfH (tq (Yb P w)) a xs:=by
 obtain⟨z,y,xs,r,o,es,ep,h1,h2,h3,h4,h5⟩:=(show Yc P w H h a (.dT kvs)from qfB ok e);refine⟨z,y,xs,r,o,es,ep,h1,h2,h3,h4,λx hx=>?_,h5⟩;have all:∀{l:List (List Key×V)}{m:List (List Key×vF×vB)},KT H l m->∀x∈m,(tq (Yb P w)).is h x.1 x.2.1:=by
  intro l m q
  induction q with
  | nil=>intro x hx;exact nomatch hx
  | @cons p q ps qs hq t ih=>
   intro x hx;rcases zF.mp hx with e|hx
   ·subst e
    exact q5S ok (by rw[<- hq.1];exact hq.2.1)
   ·exact ih x hx
 exact all r x hx
theorem qi1{kvs:List (List Key×V)}(ok:HOk P w H h)(e:H a=some (.dT kvs)):kvs.length<=sizeLine/\(a==uD)=false /\
  ∃xs,KT H kvs xs/\h.DictOfH (tq (Yb P w)) a xs:=q8b ok (.inl e)
end
def Wq(H:Hp)(a:vF)(y:V)(r:Option V):Prop :=
 (∃kvs k,Rd H a (.dK kvs)/\y=kV k/\r=Wb kvs k)\/∃kvs k b,Rd H a (.dT kvs)/\y=.ref b/\H b=some (.tup (k.map kV))/\r=Wb kvs k
def zA2(H:Hp)(a:vF)(y v:V)(H':Hp):Prop :=
 (∃kvs k,H a=some (.dK kvs)/\y=kV k/\kvs.length<sizeLine/\H'=upd H a (.dK (putK kvs k v))) \/
 ∃kvs k b,H a=some (.dT kvs)/\y=.ref b/\H b=some (.tup (k.map kV))/\kvs.length<sizeLine/\H'=upd H a (.dT (putK kvs k v))
theorem Wq.k{H:Hp}{a:vF}{kvs:List (Key×V)}{k:Key}(e:H a=some (.dK kvs)):Wq H a (kV k) (Wb kvs k):=.inl ⟨kvs,k,.inl e,rfl,rfl⟩
theorem zA2.k{H:Hp}{a:vF}{kvs:List (Key×V)}{k:Key}{v:V}(e:H a=some (.dK kvs))(hl:kvs.length<sizeLine):zA2 H a (kV k) v (upd H a (.dK (putK kvs k v))):=.inl ⟨kvs,k,e,rfl,hl,rfl⟩
section
variable{X:Cx}{pins:List (vF×Obj)}{σ:St}{H:Hp}{s:vC}{a:vF}{y v:V}{u r:vB}{o:Option V}{A:vZ}{E:vB->vC->Prop}
theorem Inv.big(I:Inv X pins σ H s):uD<s.heap.objs.size:=by
 have h:vQ<s.heap.objs.size:=(I.mod.glob.keeps I.bk).lt;exact Za (by decide) h
theorem qei{Q:vB->vC->Prop}(hu:A.units+1<um)(I:Inv X pins σ H s)(g:Wq H a y (some v))(ry:RelV y u)(h:∀w' s',Inv X pins σ H s'->RelV v w'->Q w' s'):
  vL (model X.prog X.w) A (uy (.ref a) u) Q E s:=by
 rcases g with⟨kvs,k,e,ey,l⟩|⟨kvs,k,b,e,ey,eb,l⟩
 ·subst ey
  obtain⟨z,hd,vs,rel,dd⟩:=q5V I.hok e;obtain⟨w',hw,rw'⟩:=zAM.some_of (v:=v) (o:=t5 vs k) (by rw[l];exact rel.val k);exact wpAny_getItem_of (q5W ry) dd.mapOf hw (h w' _ (I.tok _) rw')
 ·subst ey
  cases (show u=Value.ref b from ry);obtain⟨z,hd,xs,rel,dd⟩:=q8b I.hok e;obtain⟨w',hw,rw'⟩:=zAM.some_of (v:=v) (o:=(sO xs k).map (·.2)) (by rw[l];exact rel.val k);obtain⟨p,hp,hp2⟩:=xn.mp hw;refine wpAny_getItem_heap (u9 hu) (q5S I.hok eb) dd hp ?_;rw[hp2];exact h w' _ (I.tok _) rw'
theorem qgP{Q:vB->vC->Prop}(hu:A.units+1<um)(I:Inv X pins σ H s)(g:Wq H a y o)(ry:RelV y u)(h:∀s',Inv X pins σ H s'->Q (.bool (!o.isSome)) s'):
  vL (model X.prog X.w) A (uK .NotIn u (.ref a)) Q E s:=by
 rcases g with⟨kvs,k,e,ey,l⟩|⟨kvs,k,b,e,ey,eb,l⟩
 ·subst ey
  obtain⟨z,hd,vs,rel,dd⟩:=q5V I.hok e;refine wpAny_notIn_of (q5W ry) hd dd.mapOf ?_;rw[<- (rel.val k).isSome_eq,<- l];exact h _ (I.tok _)
 ·subst ey
  cases (show u=Value.ref b from ry);obtain⟨z,hd,xs,rel,dd⟩:=q8b I.hok e;refine wpAny_notIn_heap (u9 hu) (q5S I.hok eb) hd dd ?_;have q:=(rel.val k).isSome_eq;rw[Zf]at q;rw[<- q,<- l];exact h _ (I.tok _)
theorem q6Q{h':vY}{t':Nat}{ob:HO}(I:Inv X pins σ H s)(mu:Mut (H a))(hs:y0 a s.heap h')(he:∃q,h'.get? a=some q)(new:Yc X.prog X.w (upd H a ob) h' a ob):
  Inv X pins σ (upd H a ob) { s with heap:=h',toks:=t' } :=
 I.write (x:=a) (e:=a) mu (.inl rfl) (λb q hb z=>(hs.2 b hb).trans z) he new
theorem qeg{P:vO}{w:vU}{H':Hp}{h':vY}{kvs:List (Key×V)}{vs:List (Key×vB)}(z:kvs.length<=sizeLine)(hd:(a==uD)=false)(rel:KV kvs vs)(dd:h'.DictOf (Yb P w) a vs):
  Yc P w H' h' a (.dK kvs):=⟨z,hd,vs,rel,dd⟩
theorem qcU{H':Hp}{Q:Unit->vC->Prop}(hu:A.units+1<um)(I:Inv X pins σ H s)(g:zA2 H a y v H')(ry:RelV y u)(rv:RelV v r)(h:∀s',Inv X pins σ H' s'->Q () s'):
  vL (model X.prog X.w) A (sQ (.ref a) u r) Q E s:=by
 rcases g with⟨kvs,k,e,ey,l,eH⟩|⟨kvs,k,b,e,ey,eb,l,eH⟩
 ·subst ey eH
  obtain⟨z,hd,vs,rel,dd⟩:=qfy I.hok e;have hz:vs.length<=sizeLine:=by rw[<- rel.length];exact z
  have hl:(putK kvs k v).length<=sizeLine:=by have:=q38 kvs k v;omega
  refine wpAny_setItem_pairs (hsz:=hz) (q5W ry) dd λh' dd' hs=>h _ ?_;have he:∃q,h'.get? a=some q:=let ⟨q,_,_,hq,_⟩:=dd';⟨q,hq⟩
  exact q6Q I (by rw[e];exact True.intro) hs he (qeg hl hd (rel.put k rv) dd')
 ·subst ey eH
  cases (show u=Value.ref b from ry);obtain⟨z,hd,xs,rel,dd⟩:=qi1 I.hok e;have hz:xs.length<=sizeLine:=by rw[<- Paired.length rel];exact z
  have hl:(putK kvs k v).length<=sizeLine:=by have:=q38 kvs k v;omega
  refine wpAny_setItem_heap (hsz:=hz) (u9 hu) (q5S I.hok eb) dd λh' dd' hs=>h _ ?_;obtain⟨q,es,ep,hq,h2,h3,h4,_,h5⟩:=dd';refine q6Q I (by rw[e];exact True.intro) hs ⟨q,hq⟩ ⟨hl,hd,_,(rel.put k eb rv).keeps λc ys ec=>?_,q,es,ep,hq,h2,h3,h4,h5⟩;rw[qc (qi2 ec e (λz=>nomatch z))];exact ec
end
section
variable{X:Cx}{pins:List (vF×Obj)}{σ:St}{H:Hp}{s:vC}{a:vF}{kvs:List (Key×V)}{k:Key}{u:vB}{A:vZ}{E:vB->vC->Prop}
end
def NoSl(i:vP):Prop:=∀ov iv,subscripted i false ov iv=operate [ov,iv] (uy ov iv)
theorem qgN{prog:vO}{w:vU}{A:vZ}{E:vB->vC->Prop}{s:vC}{env:Env}{value slice:vP}{pos:Pos}{T id:String}{Q:vB->vC->Prop}(hl:tO (.type T) "__getitem__" = pure (some (.builtin id)))(hs:NoSl slice)(h:vL (model prog w) A (eval value env) (λo s₁=>vL (model prog w) A (eval slice env) (λi s₂=>s₂.TypeIs o T/\vL (model prog w) A (uy o i) Q E s₂) E s₁) E s):
  vL (model prog w) A (eval (.Subscript value slice pos) env) Q E s:=by
 refine Subscript_ (vm h (λo s₁ h₁=>vm h₁ (λi s₂ h₂=>?_) λ_ _ x=>x) λ_ _ x=>x);obtain⟨hT,h₂⟩:=h₂;unfold t8;refine vA ?_;rw[getitemInPython_of_ne hT.not_modules];refine vA (uw hT hl ?_);have fin:vL (model prog w) A (subscripted slice false o i) (λr s₃=>vL (model prog w) A (letTemporaryGo value o r >>= λ_=>pure r) Q E s₃) E s₂:=by
  rw[hs o i];exact wpAny_operating (vm h₂ (λr s₃ h₃=>vA (wpAny_letTemporaryGo (vH h₃))) λ_ _ x=>x)
 first
  | exact vH (vA fin)
  | exact vA (vH (vA fin))
  | exact vA fin
theorem qa4{X:Cx}{pins:List (vF×Obj)}{σ:St}{H:Hp}{s:vC}{a:vF}{y:V}{o:Option V}(I:Inv X pins σ H s)(g:Wq H a y o):s.TypeIs (.ref a) "dict" := by
 rcases g with⟨kvs,k,e,_,_⟩|⟨kvs,k,b,e,_,_,_⟩
 ·obtain⟨_,_,vs,_,dd⟩:=q5V I.hok e
  exact dd.typeIs
 ·obtain⟨_,_,xs,_,dd⟩:=q8b I.hok e
  exact dd.typeIs
noncomputable def tDGet(td ty:TE):TE:=λσ H Q=>td σ H λx H1=>ty σ H1 λy H2=>∃a v,x=.ref a/\Wq H2 a y (some v)/\Q v H2
noncomputable def tDIn(ty td:TE):TE:=λσ H Q=>ty σ H λy H1=>td σ H1 λx H2=>∃a o,x=.ref a/\Wq H2 a y o/\Q (.bl o.isSome) H2
noncomputable def zAL(ty td:TE):TE:=λσ H Q=>ty σ H λy H1=>td σ H1 λx H2=>∃a o,x=.ref a/\Wq H2 a y o/\Q (.bl (!o.isSome)) H2
noncomputable def sDPut(td ty tv:TE):TS:=λD σ H=>tv σ H λv H1=>td σ H1 λx H2=>ty σ H2 λy H3=>∃a H4,x=.ref a/\zA2 H3 a y v H4/\D.nx σ H4
section
variable{X:Cx}{o i e value:vP}{pos pos' tpos:Pos}{td ty tv:TE}
theorem q6N(hu:X.A.units+1<um)(ho:PE X o td)(hi:PE X i ty)(hs:NoSl i):PE X (.Subscript o i pos) (tDGet td ty):=by
 intro pins s σ H Q I h;refine qgN PySem.F.slot_dict_getitem.lookup hs (thn (ho pins s σ H _ I h) λu s1 ⟨x,H1,I1,rx,q1⟩=>thn (hi pins s1 σ H1 _ I1 q1) λiv s2 ⟨y,H2,I2,ry,a,v,ex,g,q2⟩=>?_);subst ex;obtain rfl:u=Value.ref a:=rx;exact⟨qa4 I2 g,qei hu I2 g ry λw' s3 I3 rw'=>⟨v,H2,I3,rw',q2⟩⟩
theorem qdV(hu:X.A.units+1<um)(hi:PE X i ty)(ho:PE X o td):PC X .NotIn i o (zAL ty td):=by
 intro pins s σ H Q I h;refine thn (hi pins s σ H _ I h) λiv s1 ⟨y,H1,I1,ry,q1⟩=>thn (ho pins s1 σ H1 _ I1 q1) λu s2 ⟨x,H2,I2,rx,a,ov,ex,g,q2⟩=>?_;subst ex;obtain rfl:u=Value.ref a:=rx;exact qgP hu I2 g ry λs3 I3=>⟨.bl (!ov.isSome),H2,I3,rfl,q2⟩
theorem qas(hu:X.A.units+1<um)(ho:PE X o td)(hi:PE X i ty)(hv:PE X value tv)(hs:vv value (some (.Subscript o i pos')) pos.line X.env=pure false):
  PS X (.Assign [.Subscript o i pos'] value pos) (sDPut td ty tv):=by
 intro pins s σ H D I h;refine wpAny_Assign_Subscript (thn (hv pins s σ H _ I h) λr s1 ⟨v,H1,I1,rv,q1⟩=>thn (ho pins s1 σ H1 _ I1 q1) λu s2 ⟨x,H2,I2,rx,q2⟩=>thn (hi pins s2 σ H2 _ I2 q2) λiv s3 ⟨y,H3,I3,ry,a,H4,ex,g,q3⟩=>?_) hs;subst ex;obtain rfl:u=Value.ref a:=rx;exact qcU hu I3 g ry rv λs4 I4=>⟨σ,H4,I4,q3⟩
end
theorem q8F{P:vO}{w:vU}{H:Hp}(h:vY)(hb:uD<h.objs.size):Yc P w H (h.push { cls:=.type "dict", data:=.dict #[] }) h.objs.size (.dK []) :=
 ⟨zy _,beq_eq_false_iff_ne.mpr (Ne.symm (zm hb)),[],.nil,Heap.DictOf.new h⟩
noncomputable def tDNewK:TE:=λ_ H Q=>∀p,H p=none->Q (.ref p) (upd H p (.dK []))
section
variable{X:Cx}{pos:Pos}
theorem q8o:PE X (.Dict [] [] pos) tDNewK:=λpins s σ H Q I h=>
 wpAny_Dict_empty ⟨.ref s.heap.objs.size,_,I.laid (a:=s.heap.objs.size) (o:=.dK []) (t':=s.toks) (λ_ _ q=>zD _ q) (zI _) (q8F s.heap I.big),rfl,h _ (I.hok.fresh (zI _))⟩
end
def zAB:List (TE×TE)->St->Hp->(List (V×V)->Hp->Prop)->Prop
 | [],_,H,Q=>Q [] H
 | (tk,tv)::r,σ,H,Q=>tk σ H λx H1=>tv σ H1 λy H2=>zAB r σ H2 λps H3=>Q ((x,y)::ps) H3
abbrev VV:List (V×V)->List (vB×vB)->Prop:=sI λp q=>RelV p.1 q.1/\RelV p.2 q.2
def PPs(X:Cx)(pos:Pos)(keys:List (Option vP))(values:List vP)(trs:List (TE×TE)):Prop :=
 ∀(pins:List (vF×Obj))(s:vC)(σ:St)(H:Hp)(Q:List (V×V)->Hp->Prop),Inv X pins σ H s->zAB trs σ H Q ->
  vL (model X.prog X.w) X.A (evalPairs (pairTrees keys values X.env pos)) (λvs s'=>∃ps H',Inv X pins σ H' s'/\VV ps vs/\Q ps H') X.xe s
theorem qgq{X:Cx}{pos:Pos}:PPs X pos [] [] []:=λpins s σ H Q I h=>pairTrees_nil_walk ⟨[],H,I,.nil,h⟩
theorem qeZ{X:Cx}{pos:Pos}{k v:vP}{ks:List (Option vP)}{vs:List vP}{tk tv:TE}{trs:List (TE×TE)}(hk:PE X k tk)(hv:PE X v tv)(hr:PPs X pos ks vs trs):
  PPs X pos (some k::ks) (v::vs) ((tk,tv)::trs):=λpins s σ H Q I h=>
 pairTrees_cons_walk (thn (hk pins s σ H _ I h) λu s1 ⟨x,H1,I1,rx,q1⟩=>thn (hv pins s1 σ H1 _ I1 q1) λw2 s2 ⟨y,H2,I2,ry,q2⟩=>
  thn (hr pins s2 σ H2 _ I2 q2) λws s3 ⟨ps,H3,I3,rel,q3⟩=>⟨(x,y)::ps,H3,I3,.cons ⟨rx,ry⟩ rel,q3⟩)
noncomputable def Xz(kvs more:List (Key×V)):List (Key×V):=more.foldl (λacc kv=>putK acc kv.1 kv.2) kvs
theorem KV.merge:∀{more:List (Key×V)}{rs:List (Key×vB)}{kvs:List (Key×V)}{vs:List (Key×vB)},KV more rs->KV kvs vs->KV (Xz kvs more) (merged vs rs):=by
 intro more rs kvs vs r;unfold KV at r
 induction r generalizing kvs vs with
 | nil=>intro q;exact q
 | @cons p q ps qs h t ih=>
  intro r0;have e:KV (putK kvs p.1 p.2) (stored vs q.1 q.2):=by
   have:=r0.put p.1 h.2;rw[<- h.1];exact this
  exact ih e
theorem q3X:∀(more kvs:List (Key×V)),(Xz kvs more).length<=kvs.length+more.length
 | [],kvs=>by show kvs.length<=kvs.length+0;omega
 | p::r,kvs=>by
  have h1:=q3X r (putK kvs p.1 p.2);have h2:=q38 kvs p.1 p.2;show (Xz (putK kvs p.1 p.2) r).length<=_;rw[zG];omega
theorem q69{P:vO}{w:vU}:∀{kvs:List (Key×V)}{ws:List (vB×vB)},VV (kvs.map λkv=>(kV kv.1,kv.2)) ws->∃rs,Carries (Yb P w) ws rs/\KV kvs rs
 | [],_,r=>by rw[yh]at r;cases r;exact⟨[],True.intro,.nil⟩
 | p::kvs,_,r=>by
  rw[zi]at r;cases r with
  | @cons a b as bs h t=>
   obtain⟨rs,c,q⟩:=q69 (P:=P) (w:=w) t;obtain⟨b1,b2⟩:=b;exact⟨(p.1,b2)::rs,⟨q5W h.1,rfl,c⟩,.cons ⟨rfl,h.2⟩ q⟩
noncomputable def tDisp(trs:List (TE×TE)):TE:=λσ H Q=>∀p,H p=none->zAB trs σ (upd H p (.dK [])) λps H2=>H2 p=some (.dK [])/\∃kvs:List (Key×V),ps=kvs.map (λkv=>(kV kv.1,kv.2))/\kvs.length<=15/\Q (.ref p) (upd H2 p (.dK (Xz [] kvs)))
theorem qga{X:Cx}{pos:Pos}{keys:List (Option vP)}{values:List vP}{trs:List (TE×TE)}(h:PPs X pos keys values trs)(hall:keys.all (·.isSome)=true)(hl:keys.length=values.length)(h0:keys≠[])(h15:keys.length<=15):PE X (.Dict keys values pos) (tDisp trs):=by
 intro pins s σ H Q I q;have hn:=I.hok.fresh (zI s.heap.objs.size);have I1:=I.laid (a:=s.heap.objs.size) (o:=.dK []) (h':=s.heap.push { cls:=.type "dict", data:=.dict #[] }) (t':=s.toks) (λ_ _ q=>zD _ q) (zI _) (q8F s.heap I.big);refine wpAny_Dict_walk (knd:=Yb X.prog X.w) hall hl h0 h15 (thn (h pins _ σ _ _ I1 (q _ hn)) λws s2 ⟨ps,H2,I2,rel,e,kvs,ep,lk,q2⟩=>?_);subst ep;obtain⟨rs,c,rk⟩:=q69 (P:=X.prog) (w:=X.w) rel;obtain⟨z,hd,vs0,r0,dd⟩:=qfy I2.hok e;cases r0;refine⟨rs,c,dd,λh' dd' hs=>⟨.ref s.heap.objs.size,_,?_,rfl,q2⟩⟩;have hz:(Xz [] kvs).length<=sizeLine:=by
  have h1:=q3X kvs [];rw[xJ]at h1;rw[vX];omega
 have he:∃q,h'.get? s.heap.objs.size=some q:=let ⟨q,_,_,hq,_⟩:=dd';⟨q,hq⟩
 exact q6Q I2 (by rw[e];exact True.intro) hs he (qeg hz hd (rk.merge .nil) dd')
section
variable{X:Cx}{pins:List (vF×Obj)}{σ:St}{H:Hp}{s:vC}{a:vF}{y d:V}{u r:vB}{o:Option V}{A:vZ}{E:vB->vC->Prop}
end
section
variable{X:Cx}{o e f:vP}{apos cpos:Pos}{td ty tx:TE}
end
section
variable{X:Cx}{pins:List (vF×Obj)}{σ:St}{H:Hp}{s:vC}{a:vF}{kvs:List (Key×V)}{A:vZ}{E:vB->vC->Prop}
end
section
variable{X:Cx}{pins:List (vF×Obj)}{σ:St}{H:Hp}{s:vC}{a:vF}{y:V}{u:vB}{A:vZ}{E:vB->vC->Prop}
end
end L2
namespace Hk
open PySem L2
noncomputable def Yh{α:Type}:List Int->List α->Int->Option α
 | k'::ks,x::xs,k=>if k'=k then some x else Yh ks xs k
 | _,_,_=>none
noncomputable def repA{α:Type}:List Int->List α->Int->α->List α
 | k'::ks,x::xs,k,y=>(if k'=k then y else x)::repA ks xs k y
 | _,xs,_,_=>xs
noncomputable def Xd(ks:List Int)(k:Int):List Int:=if k∈ks then ks else ks++[k]
noncomputable def putA{α:Type}(ks:List Int)(xs:List α)(k:Int)(y:α):List α:=if k∈ks then repA ks xs k y else xs++[y]
theorem q8u{α:Type}:∀(ks:List Int)(xs:List α)(k:Int)(y:α),(repA ks xs k y).length=xs.length
 | [],xs,_,_=>rfl
 | _::_,[],_,_=>rfl
 | k'::ks,x::xs,k,y=>by show (repA ks xs k y).length+1=xs.length+1;rw[q8u ks xs k y]
theorem qfH{α:Type}{ks:List Int}{xs:List α}(k:Int)(y:α)(h:ks.length=xs.length):(Xd ks k).length=(putA ks xs k y).length:=by
 unfold Xd putA
 by_cases z:k∈ks
 ·rw[vG z,vG z,q8u];exact h
 ·rw[vJ z,vJ z,zE,zE,h];rfl
theorem q31:∀{ks:List Int}{vs:List V},ks.length=vs.length->∀k,Wb (kvsOf ks vs) (Sum.inl k)=Yh ks vs k
 | [],[],_,k=>rfl
 | [],_::_,h,_=>by simp at h
 | _::_,[],h,_=>by simp at h
 | k'::ks,v::vs,h,k=>by
  show Wb ((Sum.inl k',v)::kvsOf ks vs) (Sum.inl k)=if k'=k then some v else Yh ks vs k
  by_cases z:k'=k
  ·rw[vG z,q3H (p:=((Sum.inl k':Key),v)) (by rw[z])]
  ·rw[vJ z,q3M (p:=((Sum.inl k':Key),v)) (λe=>z (Sum.inl.inj e))]
   exact q31 ⇑h k
theorem q2V:∀{ks:List Int}{vs:List V},ks.length=vs.length->(kvsOf ks vs).length=ks.length
 | [],[],_=>rfl
 | [],_::_,h=>by simp at h
 | _::_,[],h=>by simp at h
 | k'::ks,v::vs,h=>by show (kvsOf ks vs).length+1=_;rw[q2V ⇑h];rfl
theorem q5E:∀{ks:List Int}{vs:List V},ks.length=vs.length->(kvsOf ks vs).map (·.1)=ks.map (Sum.inl:Int->Key)
 | [],[],_=>rfl
 | [],_::_,h=>by simp at h
 | _::_,[],h=>by simp at h
 | k'::ks,v::vs,h=>by show (Sum.inl k':Key)::(kvsOf ks vs).map (·.1)=_;rw[q5E ⇑h];rfl
theorem q7t:∀{ks:List Int}{vs:List V},ks.length=vs.length->∀k,(kvsOf ks vs).any (λkv=>decide (kv.1=(Sum.inl k:Key)))=decide (k∈ks)
 | [],[],_,_=>rfl
 | [],_::_,h,_=>by simp at h
 | _::_,[],h,_=>by simp at h
 | k'::ks,v::vs,h,k=>by
  show (decide ((Sum.inl k':Key)=Sum.inl k) || (kvsOf ks vs).any _)=_;rw[q7t ⇑h k];have e:decide ((Sum.inl k':Key)=Sum.inl k)=decide (k'=k):=by
   by_cases z:k'=k
   ·rw[z];simp
   ·rw[vS z,vS (λe=>z (Sum.inl.inj e))]
  rw[e];simp only[zF]
  by_cases z:k'=k
  ·simp[z]
  ·have:¬k=k':=λy=>z y.symm
   simp[z,this]
theorem q7R:∀{ks:List Int}{vs:List V},ks.length=vs.length->∀(k:Int)(v:V),(kvsOf ks vs).map (λkv=>if kv.1=(Sum.inl k:Key)then (kv.1,v)else kv)=kvsOf ks (repA ks vs k v)
 | [],[],_,_,_=>rfl
 | [],_::_,h,_,_=>by simp at h
 | _::_,[],h,_,_=>by simp at h
 | k'::ks,u::vs,h,k,v=>by
  show (if (Sum.inl k':Key)=Sum.inl k then ((Sum.inl k':Key),v)else (Sum.inl k',u))::(kvsOf ks vs).map _=(Sum.inl k',if k'=k then v else u)::kvsOf ks (repA ks vs k v);rw[q7R ⇑h k v]
  by_cases z:k'=k
  ·rw[vG (by rw[z]),vG z]
  ·rw[vJ (λe=>z (Sum.inl.inj e)),vJ z]
theorem q60:∀{ks:List Int}{vs:List V},ks.length=vs.length->∀(k:Int)(v:V),kvsOf ks vs++[(Sum.inl k,v)]=kvsOf (ks++[k]) (vs++[v])
 | [],[],_,_,_=>rfl
 | [],_::_,h,_,_=>by simp at h
 | _::_,[],h,_,_=>by simp at h
 | k'::ks,u::vs,h,k,v=>by show _::(kvsOf ks vs++[(Sum.inl k,v)])=_;rw[q60 ⇑h k v];rfl
theorem q7u{ks:List Int}{vs:List V}(h:ks.length=vs.length)(k:Int)(v:V):putK (kvsOf ks vs) (Sum.inl k) v=kvsOf (Xd ks k) (putA ks vs k v):=by
 unfold putK Xd putA;rw[q7t h]
 by_cases z:k∈ks
 ·rw[vG (vW z),vG z,vG z];exact q7R h k v
 ·rw[vJ (by rw[vS z];decide),vJ z,vJ z];exact q60 h k v
section
variable{K:zC}{G:Hp}
theorem YQ.val:∀{ks:List Int}{ds:List D}{vs:List V}{k:Int}{d:D},YQ K G ds vs->Yh ks ds k=some d->∃v,Yh ks vs k=some v/\Rep K G d v
 | [],_,_,_,_,_,e=>by cases e
 | _::_,[],_,_,_,_,e=>by cases e
 | k'::ks,d'::ds,_,k,d,⟨v,r,h1,h2,h3⟩,e=>by
  subst h1;have e:(if k'=k then some d' else Yh ks ds k)=some d:=e;show ∃u,(if k'=k then some v else Yh ks r k)=some u/\_
  by_cases z:k'=k
  ·rw[vG z]at e ⊢;cases e;exact⟨v,rfl,h2⟩
  ·rw[vJ z]at e ⊢;exact YQ.val h3 e
theorem YQ.isVal:∀{ks:List Int}{ds:List D}{vs:List V}(k:Int),YQ K G ds vs->(Yh ks vs k).isSome=(Yh ks ds k).isSome
 | [],_,_,_,_=>rfl
 | _::_,[],_,_,h=>by cases (show _=[]from h);rfl
 | k'::ks,d'::ds,_,k,⟨v,r,h1,h2,h3⟩=>by
  subst h1;show (if k'=k then some v else Yh ks r k).isSome=(if k'=k then some d' else Yh ks ds k).isSome
  by_cases z:k'=k
  ·rw[vG z,vG z];rfl
  ·rw[vJ z,vJ z];exact YQ.isVal k h3
theorem YQ.repA:∀{ks:List Int}{ds:List D}{vs:List V}(k:Int){d:D}{v:V},YQ K G ds vs->Rep K G d v->YQ K G (Hk.repA ks ds k d) (Hk.repA ks vs k v)
 | [],_,_,_,_,_,h,_=>h
 | _::_,[],_,_,_,_,h,_=>by cases (show _=[]from h);rfl
 | k'::ks,d'::ds,_,k,d,v,⟨u,r,h1,h2,h3⟩,hv=>by
  subst h1;refine⟨_,_,rfl,?_,YQ.repA k h3 hv⟩
  by_cases z:k'=k
  ·rw[vG z,vG z];exact hv
  ·rw[vJ z,vJ z];exact h2
theorem YQ.putA{ks:List Int}{ds:List D}{vs:List V}(k:Int){d:D}{v:V}(h:YQ K G ds vs)(hv:Rep K G d v):YQ K G (Hk.putA ks ds k d) (Hk.putA ks vs k v):=by
 unfold Hk.putA
 by_cases z:k∈ks
 ·rw[vG z,vG z];exact h.repA k hv
 ·rw[vJ z,vJ z];exact h.app (YQ.cons hv YQ.nil)
end
noncomputable def Xt:Option (Option W)->Option (List Int×List D)
 | some (some (.od ks ds))=>some (ks,ds)
 | some ↥(.dic ks ds)=>some (ks,ds)
 | _=>none
theorem qan{H H':Hp}{p:vF}{u:HO}(e:YX H H')(h:Rd H p u):Rd H' p u:=by
 rcases h with h|⟨o,h⟩
 ·exact .inl (e _ _ h)
 ·exact .inr ⟨o,e _ _ h⟩
theorem qal{H:Hp}{a:vF}{kvs:List (Key×V)}{k:Key}(e:Rd H a (.dK kvs)):Wq H a (kV k) (Wb kvs k):=.inl ⟨kvs,k,e,rfl,rfl⟩
theorem Own.dic{K:zC}{G0:Hp}{H0:Fr}{G:Hp}{ω:WSt}{σ:St}{H:Hp}{i:Nat}{ks:List Int}{ds:List D}(o:Own K G0 H0 G ω σ H)(h:Xt ω[i]?=some (ks,ds)):
  ∃p vs,σ[i]?=some (some (.ref p))/\Rd H p (.dK (kvsOf ks vs))/\ks.length=ds.length/\YQ K G ds vs:=by
 unfold Xt at h
 split at h
 ·rename_i q
  cases h;obtain⟨p,vs,h1,h2,_,_,h5,h6,_⟩:=o.od i _ _ q;exact⟨p,vs,h1,.inl h2,h5,h6⟩
 ·rename_i q
  cases h;obtain⟨v,h1,p,vs,rfl,⟨ob,h2⟩,h3,h4⟩:=o.sh i _ q;exact⟨p,vs,h1,.inr ⟨ob,o.gh _ _ h2⟩,h3,h4⟩
 ·cases h
section
variable{X:Cx}{o k e:vP}{pos pos' dpos:Pos}{i:Nat}{fk fv:FD}
theorem hu1(hu:X.A.units+64<um):X.A.units+1<um:=∅
noncomputable def Wz(i:Nat):FS:=λω=>some (.nx,ω.set i (some (.od [] [])))
theorem q6q{x:Str}(hN:X.N.Nodup)(hi:X.N[i]?=some x)(hx:Loc X.env.scope x)(hs:vv (.Dict [] [] dpos) (some (.Name x pos')) pos.line X.env=pure false:=by rfl)(hf:X.fn x=true\/X.env.scope.names.lookup x=some .local:=by first|exact .inl rfl|exact .inr rfl|assumption):
  XS X (.Assign [.Name x pos'] (.Dict [] [] dpos) pos) (Wz i):=by
 refine⟨_,q48 hN hi hx q8o hs hf,λG0 H0 G ω σ H out ω' E ow e k=>?_⟩;cases e;intro p hp;have o1:=ow.keep (Ext.hide ow.gh hp (.dK []));refine k G _ _ (o1.setOd (ks:=[]) (ds:=[]) (vs:=[]) qe (ow.gh.free hp) (ow.ext.hh.free hp) rfl YQ.nil λj ks' es hj z=>?_) (YX.refl _);obtain⟨q,us,h1,h2,_⟩:=ow.od j ks' es hj;rw[h1]at z;cases z;rw[hp]at h2;cases h2
noncomputable def Wj(i:Nat)(fk fv:FD):FS:=λω=>(fv ω).bind λd=>(fk ω).bind λc=>match c,ω[i]? with
 | .int k,some (some (.od ks ds))=>if ks.length<1000000 then some (.nx,ω.set i (some (.od (Xd ks k) (putA ks ds k d))))else none
 | _,_=>none
theorem q4U(hu:X.A.units+64<um)(ho:PE X o (Yz i))(hk:XD X k fk)(hv:XD X e fv)(hs:vv e (some (.Subscript o k pos')) pos.line X.env=pure false:=by rfl):XS X (.Assign [.Subscript o k pos'] e pos) (Wj i fk fv):=by
 obtain⟨tk,h1,h2⟩:=hk;obtain⟨tv,h3,h4⟩:=hv;refine⟨_,qas (hu1 hu) ho h1 h3 hs,λG0 H0 G ω σ H out ω' E ow e kk=>?_⟩;obtain⟨d,q1,e⟩:=bnd e;obtain⟨c,q2,e⟩:=bnd e;refine h4 G0 H0 G ω σ H d _ ow q1 λv G1 H1 x1 y1=>?_;cases c with
 | int k=>
  split at e
  ·rename_i _ _ _ k' ks ds ek q3
   cases ek
   by_cases z:ks.length<1000000
   ·rw[vG z]at e
    cases e;have o1:=ow.keep x1;obtain⟨p,vs,r1,r2,r3,r4,r5,r6,r7⟩:=o1.od i ks ds q3;refine⟨.ref p,r1,h2 G0 H0 G1 ω σ H1 _ _ o1 q2 λu G2 H2 x2 y2=>?_⟩;cases (show u=.int k from y2);have o2:=o1.keep x2;have hl:ks.length=vs.length:=by rw[r5];exact r6.len
    refine⟨p,_,rfl,zA2.k (k:=Sum.inl k) (x2.hh _ _ r2) (by rw[q2V hl,vX];omega),?_⟩;rw[q7u hl];exact kk G2 σ _ (o2.mutD q3 r1 (x2.hh _ _ r2) (x2.new p r3 (by rw[r2];exact λz=>by cases z)) r4 (qfH k d r5) ((r6.mono x2.gg).putA k (y1.mono x2.gg))) (x1.gg.trans x2.gg)
   ·rw[vJ z]at e;cases e
  ·cases e
 | _=>cases e
noncomputable def WP(i:Nat)(fk:FD):FE:=λω=>(Xt ω[i]?).bind λp=>(fk ω).bind λc=>match c with
 | .int k=>(Yh p.1 p.2 k).map R.sh
 | _=>none
theorem q3v(hu:X.A.units+64<um)(ho:PE X o (Yz i))(hk:XD X k fk)(hs:NoSl k:=by intro _ _;rfl):XE X (.Subscript o k pos) (WP i fk):=by
 obtain⟨tk,h1,h2⟩:=hk;refine⟨_,q6N (hu1 hu) ho h1 hs,λG0 H0 G ω σ H r Q ow e kk=>?_⟩;obtain⟨⟨ks,ds⟩,q1,e⟩:=bnd e;obtain⟨c,q2,e⟩:=bnd e;obtain⟨p,vs,r1,r2,r3,r4⟩:=ow.dic q1;refine⟨.ref p,r1,h2 G0 H0 G ω σ H c _ ow q2 λu G1 H1 x1 y1=>?_⟩;cases c with
 | int k=>
  cases (show u=.int k from y1);obtain⟨d,q3,e⟩:=mpd e;subst e;obtain⟨v,z1,z2⟩:=r4.val q3;have hl:ks.length=vs.length:=by rw[r3];exact r4.len
  have g:=qal (k:=(Sum.inl k:Key)) (qan x1.hh r2);rw[q31 hl,z1]at g;exact⟨p,v,rfl,g,kk v G1 H1 x1 (z2.mono x1.gg)⟩
 | _=>cases e
noncomputable def zAC(neg:Bool)(i:Nat)(fk:FD):FT:=λω=>(fk ω).bind λc=>(Xt ω[i]?).bind λp=>match c with
 | .int k=>some (if neg then !(Yh p.1 p.2 k).isSome else (Yh p.1 p.2 k).isSome)
 | _=>none
theorem qg3{tk:TE}{neg:Bool}(h2:zBJ X.K tk fk):Wc X.K (tB (if neg then zAL tk (Yz i)else L2.tDIn tk (Yz i))) (zAC neg i fk):=by
 intro G0 H0 G ω σ H b Q ow e kk;obtain⟨c,q2,e⟩:=bnd e;obtain⟨⟨ks,ds⟩,q1,e⟩:=bnd e;cases c with
 | int k=>
  have fin:∀(u:V)G1 H1,Ext G H G1 H1->u=.int k->∃p vs,σ[i]?=some (some (.ref p))/\Wq H1 p u (Yh ks vs k)/\(Yh ks vs k).isSome=(Yh ks ds k).isSome:=λu G1 H1 x1 hu=>by
   subst hu;obtain⟨p,vs,r1,r2,r3,r4⟩:=ow.dic q1;have hl:ks.length=vs.length:=by rw[r3];exact r4.len
   have g:=qal (k:=(Sum.inl k:Key)) (qan x1.hh r2);rw[q31 hl]at g;exact⟨p,vs,r1,g,YQ.isVal k r4⟩
  cases neg with
  | true=>
   refine h2 G0 H0 G ω σ H _ _ ow q2 λu G1 H1 x1 y1=>?_;obtain⟨p,vs,r1,g,hs⟩:=fin u G1 H1 x1 y1;refine⟨.ref p,r1,p,_,rfl,g,_,rfl,?_⟩;cases e;rw[hs];exact kk G1 H1 x1
  | false=>
   refine h2 G0 H0 G ω σ H _ _ ow q2 λu G1 H1 x1 y1=>?_;obtain⟨p,vs,r1,g,hs⟩:=fin u G1 H1 x1 y1;refine⟨.ref p,r1,p,_,rfl,g,_,rfl,?_⟩;cases e;rw[hs];exact kk G1 H1 x1
 | _=>cases e
theorem q7V(hu:X.A.units+64<um)(hk:XD X k fk)(ho:PE X o (Yz i))(hb:v6 .NotIn o=false:=by rfl):XT X (.Compare k [.NotIn] [o] pos) (zAC true i fk):=by
 obtain⟨tk,h1,h2⟩:=hk;exact⟨_,qcQ (qdV (hu1 hu) h1 ho) hb,qg3 (neg:=true) h2⟩
end
section
variable{X:Cx}{o k e:vP}{pos pos' dpos:Pos}{i:Nat}{fk fv:FD}
noncomputable def W2(i:Nat)(fk fv:FD):FS:=λω=>(fk ω).bind λc=>(fv ω).bind λd=>match c with
 | .int k=>some (.nx,ω.set i (some (.od [k] [d])))
 | _=>none
theorem qel{x:Str}(hN:X.N.Nodup)(hi:X.N[i]?=some x)(hx:Loc X.env.scope x)(hk:XD X k fk)(hv:XD X e fv)(hs:vv (.Dict [some k] [e] dpos) (some (.Name x pos')) pos.line X.env=pure false:=by rfl)(hf:X.fn x=true\/X.env.scope.names.lookup x=some .local:=by first|exact .inl rfl|exact .inr rfl|assumption):
  XS X (.Assign [.Name x pos'] (.Dict [some k] [e] dpos) pos) (W2 i fk fv):=by
 obtain⟨tk,h1,h2⟩:=hk;obtain⟨tv,h3,h4⟩:=hv;refine⟨_,q48 hN hi hx (qga (qeZ h1 h3 qgq) rfl rfl (by simp) (by show 1<=15;decide)) hs hf,λG0 H0 G ω σ H out ω' E ow e kk=>?_⟩;obtain⟨c,q1,e⟩:=bnd e;obtain⟨d,q2,e⟩:=bnd e;cases c with
 | int k=>
  cases e;intro p hp;have x0:=Ext.hide ow.gh hp (.dK []);have o1:=ow.keep x0;refine h2 G0 H0 G ω σ _ _ _ o1 q1 λu G1 H1 x1 y1=>?_;cases (show u=.int k from y1);have o2:=o1.keep x1;refine h4 G0 H0 G1 ω σ H1 d _ o2 q2 λv G2 H2 x2 y2=>?_;have o3:=o2.keep x2;have hp2:H2 p=some (.dK []):=x2.hh _ _ (x1.hh _ _ qe);have gp1:G1 p=none:=x1.new p (ow.gh.free hp) (by rw[qe];exact λz=>by cases z);have gp2:G2 p=none:=x2.new p gp1 (by rw[x1.hh _ _ qe];exact λz=>by cases z);have h0p:H0 p=none:=ow.ext.hh.free hp;refine⟨hp2,[(Sum.inl k,v)],rfl,by show 1<=15;decide,?_⟩;have em:Xz [] [((Sum.inl k:Key),v)]=kvsOf [k] [v]:=by
   show putK [] (Sum.inl k:Key) v=_;unfold putK;rw[vJ (by simp)];rfl
  rw[em];have ext4:Ext G0 H0.hp G2 (upd H2 p (.dK (kvsOf [k] [v]))):=⟨o3.ext.gg,YW o3.ext.gh gp2 _,YW o3.ext.hh h0p _,o3.ext.new⟩;have np:∀(j:Nat)ds',ω[j]?=some (some (.ow ds'))->∀l vs,σ[j]?=some (some (.ref l))->H2 l=some (.lst vs)->l≠p:=λj ds' hj l vs _ h z=>by rw[z,hp2]at h;cases h
  have npd:∀(j:Nat)ks' es,ω[j]?=some (some (.od ks' es))->σ[j]?≠some (some (.ref p)):=λj ks' es hj z=>by
   obtain⟨q,us,w1,w2,_⟩:=ow.od j ks' es hj;rw[w1]at z;cases z;rw[hp]at w2;cases w2
  have o4:Own X.K G0 H0 G2 ω σ (upd H2 p (.dK (kvsOf [k] [v]))):=by
   refine⟨ext4,o3.len,o3.sh,λj ds' hj=>?_,o3.nd,λj ks' es hj=>?_,o3.pw.upd (o3.pw.ne_ob λvs z=>by rw[hp2]at z;cases z)⟩
   ·obtain⟨l,vs,w1,w2,w3,w4,w5⟩:=o3.ow j ds' hj
    exact⟨l,vs,w1,by rw[qc (np j ds' hj l vs w1 w2)];exact w2,w3,w4,w5⟩
   ·obtain⟨q,us,w1,w2,w3,w4,w5,w6,w7⟩:=o3.od j ks' es hj
    have nq:q≠p:=λz=>npd j ks' es hj (by rw[<- z];exact w1);exact⟨q,us,w1,by rw[qc nq];exact w2,w3,w4,w5,w6,w7⟩
  exact kk G2 _ _ (o4.setOd (ks:=[k]) (ds:=[d]) (vs:=[v]) qe gp2 h0p rfl (YQ.cons y2 YQ.nil) npd) (x1.gg.trans x2.gg)
 | _=>cases e
end
section
open PySem.Spec PyProof.Rows PySem.W
theorem qaN:∀(vs:List vB)(ns:List Int),vs.length=ns.length->(∀(j:Nat)v n,vs[j]?=some v->ns[j]?=some n->∃t,v=.int n t)->uA vs ns
 | [],[],_,_=>.nil
 | [],_::_,h,_=>by simp at h
 | _::_,[],h,_=>by simp at h
 | v::vs,n::ns,h,f=>by
  obtain⟨t,rfl⟩:=f 0 v n rfl rfl;exact .cons _ _ (qaN vs ns ⇑h λj a b e1 e2=>f (j+1) a b ⇑e1 ⇑e2)
variable{prog:vO}{w:vU}{A:vZ}{E:vB->vC->Prop}{s:vC}
theorem qaf{a:vF}{kvs:List (Key×vB)}{ns:List Int}{Q:vB->vC->Prop}(hh:A.handled=none)(lo:(a==uD)=false)(dd:s.heap.DictOf (Yb prog w) a kvs)(hk:kvs.map (·.1)=ns.map (Sum.inl:Int->Key))(h64:ns.length<64)(h:∀(h1 h':vY)(tk:Nat)(vs:List vB)(ys:List Int)(n:Nat),(∀b o,s.heap.get? b=some o->h1.get? b=some o)->(∀b o,h1.get? b=some o->h'.get? b=some o)->h'.get? h1.objs.size=some (vf "list" vs.toArray n)->uA vs ys->ys.Perm ns->ys.Pairwise (· <= ·)->Q (.ref h1.objs.size) { s with heap:=h',toks:=tk }):
  vL (model prog w) A (call (.builtin "sorted") [.ref a]) Q E s:=by
 obtain⟨ep,hat⟩:=dd.dictAt;have hkl:kvs.length=ns.length:=by have:=vq yd hk;simpa using this
 refine Calls.call_function_entry tY tS tT (sG _) ?_;unfold Builtin.«sorted»;refine vA (m:=sB "sorted" 1 1 _) (vH ?_);refine vA (kdu_collect (A:=A.in1) (kdl_dict (knd:=Yb prog w) (kvs:=kvs) (ep:=ep) lo) hh hat (by rw[hkl];exact yA (yL h64) (by decide)) λh1 tk acc hk1 hacc=>?_);have y1:uA acc.toList ns:=by
  refine qaN _ _ (by rw[zL,hacc.1,hkl]) λj v n e1 e2=>?_;obtain⟨k,x,hx,hi⟩:=hacc.2 j v (by rw[<- zZ];exact e1);have e3:(kvs.map (·.1))[j]?=some k:=by rw[zK,hx];rfl
  rw[hk,zK,e2]at e3;cases e3;rcases qB (k:=(Sum.inl n:Key)) hi with⟨i,t,e4,rfl⟩|⟨x,t,e4,_⟩
  ·cases e4;exact⟨t,rfl⟩
  ·cases e4
 have hlen:acc.toList.length=ns.length:=IntsAre.length y1;refine vA (ub ?_ (yA (by rw[hlen];exact yL h64) (by decide)));generalize acc.toList=vs at y1 hlen;have hoL:(h1.push (vf "list" vs.toArray 0)).get? h1.objs.size=some (vf "list" vs.toArray 0):=zR _ rfl;refine vA (ve (vh slot_list_sort ⟨_,hoL,rfl⟩ entry_list_sort (list_sort_tree hoL y1 (by rw[hlen];exact h64) λout ns' a1 a2 a3=>⟨_,rfl,?_⟩) (tZ _)));obtain⟨n,hn⟩:=sortedHeap_at (vs:=vs) (out:=out) hoL;refine vH ⟨_,rfl,h h1 _ tk out.toList ns' n hk1 (λb o e1=>?_) ?_ a1 a2 a3⟩
 ·rw[sortedHeap_old (zm (zN e1)) (by rw[yP];exact yI (zN e1))]
  exact zD _ e1
 ·rw[xR];exact hn
end
def rSortD:List V->Hp->VK->Prop:=λxs H Q=>∃p kvs ns,xs=[.ref p]/\Rd H p (.dK kvs)/\kvs.map (·.1)=ns.map (Sum.inl:Int->Key)/\ns.length<64/\∀l,H l=none->Q (.ref l) (upd H l (.lst ((Yd ns).map V.int)))
section
variable{X:Cx}{o:vP}{i:Nat}
theorem qbB(hc:X.calm=true):Yy X (.builtin "sorted") rSortD:=by
 intro pins s σ H xs us Q I r h;obtain⟨p,kvs,ns,rfl,hp,hk,hz,q⟩:=h;obtain⟨u,rfl,rx⟩:=vals1 r;cases rx;obtain⟨_,lo,vs,rel,dd⟩:=q5V I.hok hp;refine qaf (I.ok.hd hc) lo dd (by rw[<- rel.keys];exact hk) hz λh1 h' tk us ys n k1 k2 g1 a1 a2 a3=>?_;have en:ys=Yd ns:=q3F a3 q2J (a2.trans qP.symm);subst en;have I1:Inv X pins σ H { s with heap:=h1,toks:=tk }:=I.kept k1;have hsl:(Yd ns).length<=sizeLine:=by rw[q7o];exact yA (yL hz) (by decide)
 have I2:=I1.laid (a:=h1.objs.size) (o:=.lst ((Yd ns).map V.int)) (t':=tk) (h':=h') k2 (zI _)
  (show Yc X.prog X.w _ h' _ (.lst _)from ⟨by rw[zA];exact hsl,us,n,q20 a1,g1⟩)
 exact⟨.ref _,_,I2,rfl,q _ (I1.hok.fresh (zI _))⟩
noncomputable def Wy(i:Nat):FE:=λω=>(Xt ω[i]?).bind λp=>if p.1.length<64 then some (.fr ((Yd p.1).map D.int))else none
theorem qeD{p q:Pos}(hc:X.calm=true)(hg:Gl X "sorted")(hm:X.mg "sorted" = none)(ho:PE X o (Yz i))(he:vK [o] X.env=(false,eval o X.env)::vK [] X.env:=by rfl)(hpl:(vn q (vK [] X.env)).any (·.1)=false:=by rfl):XE X (.Call (.Name "sorted" p) [o] [] q) (Wy i):=by
 refine⟨_,q1H (qbB hc) hg hm q1Z (qq ho qI he) (by decide) (by decide) he hpl,λG0 H0 G ω σ H r Q ow e k=>?_⟩;obtain⟨⟨ks,ds⟩,q1,e⟩:=bnd e;obtain⟨p,vs,r1,r2,r3,r4⟩:=ow.dic q1
 by_cases hz:ks.length<64
 ·have e:(if ks.length<64 then some (R.fr ((Yd ks).map D.int))else none)=some r:=e
  rw[vG hz]at e;cases e;refine⟨.ref p,r1,p,_,ks,rfl,r2,q5E (by rw[r3];exact r4.len),hz,λl hl=>?_⟩;have x2:=Ext.hide ow.gh hl (.lst ((Yd ks).map V.int));exact k _ G _ x2 ⟨l,_,rfl,hl,ow.gh.free hl,qe,YQ.ints _⟩
 ·have e:(if ks.length<64 then some (R.fr ((Yd ks).map D.int))else none)=some r:=e
  rw[vJ hz]at e;cases e
noncomputable def zAW(i:Nat):FM:=λω=>match ω[i]? with
 | some (some (.ow ds))=>(ds[ds.length-1]?).map λd=>(d,ω.set i (some (.ow ds.dropLast)))
 | _=>none
theorem YQ.dropLast{K:zC}{H:Hp}{ds:List D}{vs:List V}(h:YQ K H ds vs):YQ K H ds.dropLast vs.dropLast:=by
 rw[wu,wu,h.len];exact h.take _
theorem qfG{apos cpos:Pos}(ho:PE X o (Yz i))(hbase:uT o "pop" X.env (eval o X.env)=eval o X.env:=by rfl)(hline:(apos.endLine==cpos.line)=true:=by rfl):
  XM X (.Call (.Attribute o "pop" apos) [] [] cpos) (zAW i):=by
 refine⟨_,qhM PySem.F.plainAttrs_list PySem.F.slot_list_pop PySem.F.type_list_pop qhG ho hbase hline,λG0 H0 G ω σ H d ω' Q ow e k=>?_⟩;unfold zAW at e
 split at e
 ·rename_i ds q2
  obtain⟨d1,hd,e⟩:=mpd e;cases e;obtain⟨l,vs,r1,r2,r3,r4,r5⟩:=ow.ow i ds q2;obtain⟨y,hy,ry⟩:=r5.get hd;refine⟨.ref l,r1,.inl ⟨rfl,vs,SqL.of r2⟩,l,vs,y,rfl,rfl,r2,by rw[<- r5.len];exact hy,k y G _ (ow.mut q2 r1 r2 r3 r4 r5.dropLast) (YX.refl _) ry⟩
 ·cases e
end
noncomputable def Wv:List Int->List (List Int)->Int->Int->List (List Int)
 | k::ks,x::xs,a,b=>if k=a then (x++[b])::xs else x::Wv ks xs a b
 | _,xs,_,_=>xs
structure Tab (G H0 H:Hp) (p:vF) (ks:List Int) (ls:List vF) (xss:List (List Int)):Prop where
 dict:H p=some (.dK (kvsOf ks (ls.map V.ref)))
 gp:G p=none
 hp:H0 p=none
 len:ks.length=ls.length
 len2:ls.length=xss.length
 lst:∀(j:Nat)l xs,ls[j]?=some l->xss[j]?=some xs->H l=some (.lst (xs.map V.int))
 gl:∀l∈ls,G l=none/\H0 l=none
 nd:ls.Nodup
theorem Tab.inn{G H0 H:Hp}{p:vF}{ks:List Int}{ls:List vF}{xss:List (List Int)}(T:Tab G H0 H p ks ls xss){l:vF}(h:l∈ls):∃xs:List Int,H l=some (.lst (xs.map V.int)):=by
 obtain⟨j,hj,rfl⟩:=zv.mp h;have hj2:j<xss.length:=by rw[<- T.len2];exact hj
 exact⟨xss[j],T.lst j _ _ (zB hj) (zB hj2)⟩
theorem Tab.pl{G H0 H:Hp}{p:vF}{ks:List Int}{ls:List vF}{xss:List (List Int)}(T:Tab G H0 H p ks ls xss):p∉ls:=λh=>by
 obtain⟨xs,e⟩:=T.inn h;rw[T.dict]at e;cases e
theorem Tab.keep{G G' H0 H H':Hp}{p:vF}{ks:List Int}{ls:List vF}{xss:List (List Int)}(T:Tab G H0 H p ks ls xss)(x:Ext G H G' H'):Tab G' H0 H' p ks ls xss :=
 ⟨x.hh _ _ T.dict,x.new p T.gp (by rw[T.dict];exact λz=>by cases z),T.hp,T.len,T.len2,λj l xs h1 h2=>x.hh _ _ (T.lst j l xs h1 h2),λl h=>by
  obtain⟨xs,e⟩:=T.inn h;exact⟨x.new l (T.gl l h).1 (by rw[e];exact λz=>by cases z),(T.gl l h).2⟩,T.nd⟩
theorem qe0:∀{ks:List Int}{ls:List vF}{a:Int},ks.length=ls.length->a∈ks->∃(j:Nat) (l:vF),ks[j]?=some a/\ls[j]?=some l/\Yh ks (ls.map V.ref) a=some (.ref l)/\∀(xss:List (List Int))(b:Int),xss.length=ls.length->∃xs,xss[j]?=some xs/\Wv ks xss a b=xss.set j (xs++[b])
 | [],_,_,_,h=>by simp at h
 | _::_,[],_,h,_=>by simp at h
 | k::ks,l::ls,a,h,ha=>by
  by_cases z:k=a
  ·refine⟨0,l,by rw[z];rfl,rfl,vG z,λxss b hx=>?_⟩
   cases xss with
   | nil=>simp at hx
   | cons x xs=>exact⟨x,rfl,vG z⟩
  ·have ha':a∈ks:=(zF.mp ha).resolve_left λe=>z e.symm
   obtain⟨j,l',e1,e2,e3,e4⟩:=qe0 (ks:=ks) (ls:=ls) ⇑h ha';refine⟨j+1,l',e1,e2,?_,λxss b hx=>?_⟩
   ·show (if k=a then _ else _)=_
    rw[vJ z];exact e3
   ·cases xss with
    | nil=>simp at hx
    | cons x xs=>
     obtain⟨y,h1,h2⟩:=e4 xs b ⇑hx;refine⟨y,h1,?_⟩;show (if k=a then _ else x::Wv ks xs a b)=_;rw[vJ z,h2];rfl
theorem Tab.app{G H0 H:Hp}{p:vF}{ks:List Int}{ls:List vF}{xss:List (List Int)}(T:Tab G H0 H p ks ls xss){a:Int}(b:Int)(ha:a∈ks):
  ∃(l:vF) (xs:List Int),l∈ls/\xs∈xss/\Yh ks (ls.map V.ref) a=some (.ref l)/\Wq H p (.int a) (some (.ref l))/\H l=some (.lst (xs.map V.int))/\Tab G H0 (upd H l (.lst ((xs++[b]).map V.int))) p ks ls (Wv ks xss a b):=by
 obtain⟨j,l,e1,e2,e3,e4⟩:=qe0 T.len ha;obtain⟨xs,e5,e6⟩:=e4 xss b T.len2.symm;have hl:l∈ls:=zg e2;have hlp:p≠l:=λz=>T.pl (z▸hl);have g:=Wq.k (k:=(Sum.inl a:Key)) T.dict;rw[q31 (by rw[zA];exact T.len),e3]at g;refine⟨l,xs,hl,zg e5,e3,g,T.lst j l xs e2 e5,?_⟩;rw[e6];refine⟨by rw[qc hlp];exact T.dict,T.gp,T.hp,T.len,by rw[yF];exact T.len2,λi m ys h1 h2=>?_,T.gl,T.nd⟩;rcases qd h2 with⟨rfl,_,rfl⟩|⟨ne,h3⟩
 ·rw[e2]at h1
  cases h1;exact qe
 ·have hm:m≠l:=λz=>by
   subst z;obtain⟨i1,i2⟩:=zS.mp h1;obtain⟨j1,j2⟩:=zS.mp e2;exact ne ((xT T.nd).mp (j2.trans i2.symm))
  rw[qc hm];exact T.lst i m ys h1 h3
theorem Own.free{K:zC}{G0:Hp}{H0:Fr}{G:Hp}{ω:WSt}{σ:St}{H:Hp}{q:vF}{ob:HO}(o:Own K G0 H0 G ω σ H)(no:XZ ω)(hG:G q=none)(h0:H0 q=none):Own K G0 H0 G ω σ (upd H q ob) :=
 ⟨⟨o.ext.gg,YW o.ext.gh hG _,YW o.ext.hh h0 _,o.ext.new⟩,o.len,o.sh,λi ds h=>vN h (no.ow i ds),o.nd,λi ks ds h=>vN h (no.od i ks ds),Y4.no no.pw⟩
theorem Tab.put{G H0 H:Hp}{p:vF}{ks:List Int}{ls:List vF}{xss:List (List Int)}(T:Tab G H0 H p ks ls xss){k:Int}{l:vF}(hk:k∉ks)(hl:H l=none)(sg:YX G H)(s0:YX H0 H)(hz:ks.length<1000000):
  ∃H4,zA2 (upd H l (.lst [])) p (.int k) (.ref l) H4/\H4=upd (upd H l (.lst [])) p (.dK (kvsOf (ks++[k]) ((ls++[l]).map V.ref)))/\Tab G H0 H4 p (ks++[k]) (ls++[l]) (xss++[[]]):=by
 have hpl:p≠l:=λz=>by rw[<- z,T.dict]at hl;cases hl
 have hlen:ks.length=(ls.map V.ref).length:=by rw[zA];exact T.len
 have e:putK (kvsOf ks (ls.map V.ref)) (Sum.inl k) (.ref l)=kvsOf (ks++[k]) ((ls++[l]).map V.ref):=by
  rw[q7u hlen];unfold Xd putA;rw[vJ hk,vJ hk,zc];rfl
 have d:=zA2.k (H:=upd H l (.lst [])) (a:=p) (kvs:=kvsOf ks (ls.map V.ref)) (k:=(Sum.inl k:Key)) (v:=.ref l) (by rw[qc hpl];exact T.dict) (by rw[q2V hlen,vX];omega);rw[e]at d;refine⟨_,d,rfl,qe,T.gp,T.hp,by rw[zE,zE,T.len];rfl,by rw[zE,zE,T.len2];rfl,λj m xs h1 h2=>?_,λm hm=>?_,?_⟩
 ·rcases zo j ls.length with z|z
  ·rw[zV z]at h1
   rw[zV (by rw[<- T.len2];exact z)]at h2;have e1:=T.lst j m xs h1 h2;have n1:m≠p:=λy=>T.pl (y▸zg h1);have n2:m≠l:=λy=>by rw[y,hl]at e1;cases e1
   rw[qc n1,qc n2];exact e1
  ·rw[zP z]at h1
   rw[zP (by rw[<- T.len2];exact z),<- T.len2]at h2;cases hj:j-ls.length with
   | zero=>
    rw[hj]at h1 h2;cases h1;cases h2;rw[qc (Ne.symm hpl)];exact qe
   | succ n=>rw[hj]at h1;cases h1
 ·rcases zb.mp hm with h|h
  ·exact T.gl m h
  ·cases zT.mp h;exact⟨sg.free hl,s0.free hl⟩
 ·rw[yO]
  refine⟨T.nd,by simp,λa ha b hb z=>?_⟩;cases zT.mp hb;obtain⟨xs,e1⟩:=T.inn ha;rw[z,hl]at e1;cases e1
noncomputable def pairsOf:List D->Option (List (Int×Int))
 | []=>some []
 | .tup [.int a,.int b]::r=>(pairsOf r).map λl=>(a,b)::l
 | _=>none
noncomputable def YU(e:Int×Int):D:=.tup [.int e.1,.int e.2]
theorem q62:∀{ds:List D}{es:List (Int×Int)},pairsOf ds=some es->ds=es.map YU
 | [],_,h=>by cases h;rfl
 | d::r,es,h=>by
  unfold pairsOf at h
  split at h
  ·rename_i e;cases e
  ·rename_i e
   cases e;obtain⟨l,h1,h2⟩:=mpd h;subst h2;rw[q62 h1];rfl
  ·cases h
theorem q51:∀es:List (Int×Int),pairsOf (es.map YU)=some es
 | []=>rfl
 | e::r=>by show (pairsOf (r.map YU)).map _=_;rw[q51 r];rfl
noncomputable def XF(ks:List Int)(xss:List (List Int))(e:Int×Int):List (List Int):=Wv ks (Wv ks xss e.1 e.2) e.2 e.1
noncomputable def nbT(ts:List Int)(es:List (Int×Int)):List (List Int):=es.foldl (XF ts) (ts.map λ_=>[])
noncomputable def nbM(a b:List D):Option D:=(intsOf a).bind λts=>(pairsOf b).bind λes=>if ts.Nodup/\(∀e∈es,e.1∈ts/\e.2∈ts)/\ts.length<=1000/\es.length<=1000 then some (.dic ts ((nbT ts es).map λxs=>.lst (xs.map D.int)))else none
noncomputable def sNb:FS:=λω=>match ω with
 | [↥(.lst a),↥(.lst b),none,none,none]=>(nbM a b).map λd=>(.rt (.sh d),ω)
 | _=>none
theorem zAw{a b:D}{x:Option D}:XZ [↥a,↥b,none,none,x.map W.sh]:=by
 intro i w e
 match i,e with
 | 0,e=>cases e;exact⟨_,rfl⟩
 | 1,e=>cases e;exact⟨_,rfl⟩
 | 2,e=>cases e
 | 3,e=>cases e
 | 4,e=>
  cases x with
  | none=>cases e
  | some d=>cases e;exact⟨d,rfl⟩
 | i+5,e=>simp at e
theorem Own.other{K:zC}{G0:Hp}{H0:Fr}{G:Hp}{ω:WSt}{σ:St}{H:Hp}{i:Nat}{v:Option V}(o:Own K G0 H0 G ω σ H)(no:XZ ω)(hi:∀w,ω[i]?≠some (some w)):Own K G0 H0 G ω (σ.set i v) H :=
 ⟨o.ext,by rw[yF];exact o.len,λj d h=>by
  obtain⟨u,h1,h2⟩:=o.sh j d h;exact⟨u,by rw[zU (λz=>hi _ (z▸h))];exact h1,h2⟩,λi ds h=>vN h (no.ow i ds),λi j ds es l h=>vN h (no.ow i ds),λi ks ds h=>vN h (no.od i ks ds),Y4.no no.pw⟩
theorem q6p(n:Nat):∀(ks:List Int)(xss:List (List Int))(a b:Int),(∀x∈xss,x.length<=n)->∀x∈Wv ks xss a b,x.length<=n+1
 | [],xss,_,_,h,x,hx=>xo (h x hx)
 | _::_,[],_,_,h,x,hx=>by cases hx
 | k::ks,y::xss,a,b,h,x,hx=>by
  unfold Wv at hx
  by_cases z:k=a
  ·rw[vG z]at hx
   rcases zF.mp hx with rfl|hx
   ·have:=h y zH
    rw[zE,z9];omega
   ·exact xo (h x (zJ _ hx))
  ·rw[vJ z]at hx
   rcases zF.mp hx with rfl|hx
   ·exact xo (h _ zH)
   ·exact q6p n ks xss a b (λx h'=>h x (zJ _ h')) x hx
theorem Tab.told{K:zC}{G0 G:Hp}{H0:Fr}{H:Hp}{ω:WSt}{σ:St}{p:vF}{ks:List Int}{ls:List vF}{xss:List (List Int)}(T:Tab G H0 H p ks ls xss)(o:Own K G0 H0 G ω σ H)(no:XZ ω)(ob:Obj):
  ∃G',YX G G'/\Own K G0 H0 G' ω σ (upd H p (.frz ob (.dK (kvsOf ks (ls.map V.ref)))))/\Rep K G' (.dic ks (xss.map λxs=>.lst (xs.map D.int))) (.ref p):=by
 obtain⟨H',hH⟩:∃H':Hp,H'=upd H p (.frz ob (.dK (kvsOf ks (ls.map V.ref)))):=⟨_,rfl⟩;rw[<- hH];have hp':H' p=some (.frz ob (.dK (kvsOf ks (ls.map V.ref)))):=by rw[hH];exact qe
 have hn':∀b,b≠p->H' b=H b:=λb h=>by rw[hH];exact qc h
 let G':Hp:=λb=>if b=p\/b∈ls then H' b else G b
 have hin:∀b,(b=p\/b∈ls)->G' b=H' b:=λb h=>vG h;have hout:∀b,¬(b=p\/b∈ls)->G' b=G b:=λb h=>vJ h;have gn:∀b,(b=p\/b∈ls)->G b=none/\H0 b=none:=λb h=>by
  rcases h with rfl|h
  ·exact⟨T.gp,T.hp⟩
  ·exact T.gl b h
 have gg:YX G G':=λb u z=>by
  by_cases y:b=p\/b∈ls
  ·rw[(gn b y).1]at z;cases z
  ·rw[hout b y];exact z
 have gh:YX G' H':=λb u z=>by
  by_cases y:b=p\/b∈ls
  ·rw[hin b y]at z;exact z
  ·rw[hout b y]at z;rw[hn' b λw=>y (.inl w)];exact o.gh b u z
 have hh:YX H0.hp H':=λb u z=>by
  rw[hn' b λw=>by rw[w,T.hp]at z;cases z];exact o.ext.hh b u z
 refine⟨G',gg,⟨⟨o.ext.gg.trans gg,gh,hh,λb z1 z2=>?_⟩,o.len,λi d h=>?_,λi ds h=>vN h (no.ow i ds),o.nd,λi ks ds h=>vN h (no.od i ks ds),Y4.no no.pw⟩,p,ls.map V.ref,rfl,⟨ob,by rw[hin p (.inl rfl)];exact hp'⟩,by rw[zA,<- T.len2];exact T.len,?_⟩
 ·by_cases y:b=p\/b∈ls
  ·exact vN (gn b y).2 z2
  ·rw[hout b y];exact o.ext.new b z1 z2
 ·obtain⟨v,h1,h2⟩:=o.sh i d h
  exact⟨v,h1,h2.mono gg⟩
 ·refine q2U (by rw[zA];exact T.len2.symm) λj d t h1 h2=>?_
  rw[zK]at h1;cases q:xss[j]? with
  | none=>rw[q]at h1;cases h1
  | some xs=>
   rw[q]at h1;cases h1;have hl:=T.lst j t xs h2 q;exact⟨t,_,rfl,by rw[hin t (.inr (zg h2)),hn' t λw=>by rw[w,T.dict]at hl;cases hl];exact hl,YQ.ints xs⟩
theorem qcN{K:zC}{ta tb:TE}{g0 g1:FD}(k2:zBJ K ta g0)(k4:zBJ K tb g1){G0:Hp}{H0:Fr}{G:Hp}{ω:WSt}{σ:St}{H:Hp}{p:vF}{ks:List Int}{ls:List vF}{xss:List (List Int)}{a b:Int}{Q:VK}(o:Own K G0 H0 G ω σ H)(no:XZ ω)(hσ:σ[2]?=some (some (.ref p)))(T:Tab G H0 H p ks ls xss)(h0:g0 ω=some (.int a))(h1:g1 ω=some (.int b))(ha:a∈ks)(hz:∀xs∈xss,xs.length<1000000)(h:∀G' H',Own K G0 H0 G' ω σ H'->YX G G'->Tab G' H0 H' p ks ls (Wv ks xss a b)->Q .non H'):tBM K "list" W8 (tDGet (Yz 2) ta) (WF tb tNil) σ H Q:=by
 refine⟨.ref p,hσ,k2 G0 H0 G ω σ H _ _ o h0 λu G1 H1 x1 y1=>?_⟩;cases (show u=.int a from y1);have o1:=o.keep x1;have T1:=T.keep x1;obtain⟨l,xs,m1,m2,m3,m4,m5,_⟩:=T1.app b ha;refine⟨p,.ref l,rfl,m4,.inl ⟨rfl,_,SqL.of m5⟩,k4 G0 H0 G1 ω σ H1 _ _ o1 h1 λu G2 H2 x2 y2=>?_⟩;cases (show u=.int b from y2);have o2:=o1.keep x2;have T2:=T1.keep x2;obtain⟨l',xs',n1,n2,n3,n4,n5,n6⟩:=T2.app b ha;rw[m3]at n3;cases n3;refine⟨l,_,.int b,rfl,rfl,n5,by rw[zA,vX];have:=hz xs' n2;omega,?_⟩;rw[show xs'.map V.int++[V.int b]=(xs'++[b]).map V.int by rw[zc];rfl];exact h G2 _ (o2.free no (T2.gl l n1).1 (T2.gl l n1).2) (x1.gg.trans x2.gg) n6
theorem qe5{a b:vP}{p:Pos}{n:Str}{env:Env}(m:Sem vB):uT (.Subscript a b p) n env m=m:=rfl
section
variable{X:Cx}
theorem qhx{x2 x3 x4:Str}{o0 o1 o2 o3 o4 o4b e0 e1 e0b e1b e0':vP}{q1 q2 q3 q4 q5 q6 q7 q8 q9 q10 q11 q12 q13 q14 q15 a1 a2 c1 c2:Pos}{g0 g1:FD}(hu:X.A.units+64<um)(hp:tz (model X.prog X.w) X.A X.env X.xe)(hc:X.calm=true)(hN:X.N.Nodup)(i2:X.N[2]?=some x2)(i3:X.N[3]?=some x3)(i4:X.N[4]?=some x4)(l2:Loc X.env.scope x2)(l3:Loc X.env.scope x3)(l4:Loc X.env.scope x4)(f2:X.fn x2=true\/X.env.scope.names.lookup x2=some .local)(f3:X.fn x3=true\/X.env.scope.names.lookup x3=some .local)(f4:X.fn x4=true\/X.env.scope.names.lookup x4=some .local)(h0:PE X o0 (Yz 0))(h1:PE X o1 (Yz 1))(h2:PE X o2 (Yz 2))(h2':PE X o4 (Yz 2))(h2b:PE X o4b (Yz 2))(h3:PE X o3 (Yz 3))(h5:PE X e0' (Yz 2))(ha:XD X e0 g0)(hb:XD X e1 g1)(hab:XD X e0b g0)(hbb:XD X e1b g1)(hg0:∀(ω:WSt)e,ω[4]?=some (some (.sh (YU e)))->g0 ω=some (.int e.1))(hg1:∀(ω:WSt)e,ω[4]?=some (some (.sh (YU e)))->g1 ω=some (.int e.2))(s1:vv (.Dict [] [] q1) (some (.Name x2 q2)) q3.line X.env=pure false:=by rfl)(s2:vv (.List [] q4) (some (.Subscript o2 o3 q5)) q6.line X.env=pure false:=by rfl)(n0:NoSl e0:=by intro _ _;rfl)(n1:NoSl e1b:=by intro _ _;rfl)(w1:((vn c1 (vK [e1] X.env)).all (λx=>!x.1)&&(uM c1 (vz [] X.env)).all (λx=>x.1.isSome)&&decide (([e1]:List vP).length+([]:List uY).length+(if ([]:List uY).isEmpty then 0 else 1)<30))=true:=by rfl)(w2:((vn c2 (vK [e0b] X.env)).all (λx=>!x.1)&&(uM c2 (vz [] X.env)).all (λx=>x.1.isSome)&&decide (([e0b]:List vP).length+([]:List uY).length+(if ([]:List uY).isEmpty then 0 else 1)<30))=true:=by rfl)(z1:(a1.endLine==c1.line)=true:=by rfl)(z2:(a2.endLine==c2.line)=true:=by rfl)(t1:vK [e1] X.env=(false,eval e1 X.env)::vK [] X.env:=by rfl)(t2:vK [e0b] X.env=(false,eval e0b X.env)::vK [] X.env:=by rfl)(p1:(vn c1 (vK [] X.env)).any (·.1)=false:=by rfl)(p2:(vn c2 (vK [] X.env)).any (·.1)=false:=by rfl)(v1:vv (.Call (.Attribute (.Subscript o4 e0 q7) "append" a1) [e1] [] c1) none q9.line X.env=pure false:=by rfl)(v2:vv (.Call (.Attribute (.Subscript o4b e1b q8) "append" a2) [e0b] [] c2) none q10.line X.env=pure false:=by rfl)(y1:∀x,v7 o0 X.env x=pure x:=by intro _;rfl)(y2:∀x,v7 o1 X.env x=pure x:=by intro _;rfl):
  XSs X [.Assign [.Name x2 q2] (.Dict [] [] q1) q3,.For (.Name x3 q11) o0 [.Assign [.Subscript o2 o3 q5] (.List [] q4) q6] [] q12,
   .For (.Name x4 q13) o1 [.Expr (.Call (.Attribute (.Subscript o4 e0 q7) "append" a1) [e1] [] c1) q9,.Expr (.Call (.Attribute (.Subscript o4b e1b q8) "append" a2) [e0b] [] c2) q10] [] q14,.Return (some e0') q15] sNb:=by
 obtain⟨ta,k1,k2⟩:=ha;obtain⟨tb,k3,k4⟩:=hb;obtain⟨ta',k1',k2'⟩:=hab;obtain⟨tb',k3',k4'⟩:=hbb;have hu:=hu1 hu;refine⟨_,q16 (q48 hN i2 l2 q8o s1 f2) (q16 (q3B hp hc (q1G h0) (q0K hN i3 l3 f3) (q0p (qas hu h2 h3 (q8x qI) s2)) y1)
  (q16 (q3B hp hc (q1G h1) (q0K hN i4 l4 f4) (q16 (q2j (q5B PySem.F.plainAttrs_list PySem.F.slot_list_append PySem.F.type_list_append q2R (q6N hu h2' k1 n0) (qq k3 qI t1) (qe5 _) w1 z1 t1 p1) v1)
   (q0p (q2j (q5B PySem.F.plainAttrs_list PySem.F.slot_list_append PySem.F.type_list_append q2R (q6N hu h2b k3' n1) (qq k1' qI t2) (qe5 _) w2 z2 t2 p2) v2))) y2) (q6e 2 (q0p (q5I h5))))),λG0 H0 G ω σ H out ω' E ow e kk=>?_⟩
 unfold sNb at e
 split at e
 case h_2=>cases e
 case h_1 _ a b=>
 obtain⟨d,e2,e3⟩:=mpd e;clear e;cases e3;obtain⟨ts,e4,e5⟩:=bnd e2;obtain⟨es,e6,e7⟩:=bnd e5;clear e2 e5
 by_cases cond:ts.Nodup/\(∀e∈es,e.1∈ts/\e.2∈ts)/\ts.length<=1000/\es.length<=1000
 case neg=>rw[vJ cond]at e7;cases e7
 rw[vG cond]at e7;cases e7;obtain⟨cd1,cd2,cd3,cd4⟩:=cond;have ha':=q04 e4;have hb':=q62 e6;subst ha' hb';clear e4 e6;have no:XZ [some (W.sh (.lst (ts.map D.int))),↥(.lst (es.map YU)),none,none,none]:=zAw (x:=none);have hlen:σ.length=5:=ow.len.symm;obtain⟨v0,r0,A0,vs0,rfl,r1,r2⟩:=ow.sh 0 _ rfl;obtain⟨v1,r3,A1,vs1,rfl,r4,r5⟩:=ow.sh 1 _ rfl;have hvs0:=r2.of_ints;subst hvs0;intro p hpn;have o1:Own X.K G0 H0 G [some (W.sh (.lst (ts.map D.int))),↥(.lst (es.map YU)),none,none,none] (σ.set 2 (some (.ref p))) (upd H p (.dK [])):=(ow.free no (ow.gh.free hpn) (ow.ext.hh.free hpn)).other no λw z=>by cases z
 have T0:Tab G H0 (upd H p (.dK [])) p (ts.take 0) [] ((ts.take 0).map λ_=>[]):=⟨qe,ow.gh.free hpn,ow.ext.hh.free hpn,rfl,rfl,λj l xs h=>(by simp at h),λl h=>(by cases h),xQ⟩;refine⟨.ref A0,by rw[zU (by decide)];exact r0,A0,rfl,⟨_,SqL.of (o1.gh _ _ r1)⟩,λn m σ2 H2=>∃ls,Own X.K G0 H0 G [some (W.sh (.lst (ts.map D.int))),↥(.lst (es.map YU)),none,none,none] σ2 H2/\σ2[2]?=some (some (.ref p))/\Tab G H0 H2 p (ts.take n) ls ((ts.take n).map λ_=>[])/\n<=ts.length/\m=ts.length-n,
  ⟨_,[],o1,yV (by rw[hlen];decide),T0,zy _,rfl⟩,?_⟩
 rintro n m σ2 H2 ⟨ls,o2,s22,T2,hn,rfl⟩
 by_cases hlt:n<ts.length
 ·have hq:=o2.gh _ _ r1
  refine .inr ⟨⟨_,.int ts[n],SqL.of hq,by rw[zK,zB hlt];rfl⟩,λσ3 H3=>∃ls,Own X.K G0 H0 G [some (W.sh (.lst (ts.map D.int))),↥(.lst (es.map YU)),none,none,none] σ3 H3/\σ3[2]?=some (some (.ref p))/\Tab G H0 H3 p (ts.take (n+1)) ls ((ts.take (n+1)).map λ_=>[]),
   λσ3 H3 ⟨ls,b1,b2,b3⟩=>⟨ts.length-(n+1),∅,ls,b1,b2,b3,hlt,rfl⟩,λy H3 hy=>?_⟩
  obtain⟨rfl,hy⟩:=hy;have hy:=hy _ (SqL.of hq);rw[zK,zB hlt]at hy;cases hy;have hl2:σ2.length=5:=o2.len.symm;refine⟨by show 0<=sizeLine;exact zy _,λl hl=>?_⟩;refine⟨.ref p,by rw[zU (by decide)];exact s22,.int ts[n],yV (by rw[hl2];decide),?_⟩;have nk:ts[n]∉ts.take n:=λz=>by
   obtain⟨j,hj,ej⟩:=zv.mp z;rw[ZZ]at ej;have hj':j<n:=by rw[zY]at hj;omega
   have:=(xT cd1).mp ej;omega
  obtain⟨H4,d1,d2,T4⟩:=T2.put nk hl o2.gh o2.ext.hh (by rw[zY];omega);refine⟨p,H4,rfl,d1,ls++[l],?_,by rw[zU (by decide)];exact s22,?_⟩
  ·subst d2
   exact((o2.free no (o2.gh.free hl) (o2.ext.hh.free hl)).free no T2.gp T2.hp).other no λw z=>by cases z
  ·rw[(y9 hlt).symm,zc]
   exact T4
 ·have en:n=ts.length:=∅
  subst en;rw[yw]at T2;refine .inl ⟨⟨_,SqL.of (o2.gh _ _ r1),by rw[zA];exact zI _⟩,?_⟩;obtain⟨v1',r3',A1',vs1',rfl,r4',r5'⟩:=o2.sh 1 _ rfl;have hl5:es.length=vs1'.length:=by have:=r5'.len;rw[zA]at this;exact this
  refine⟨.ref A1',r3',A1',rfl,⟨_,SqL.of (o2.gh _ _ r4')⟩,λn m σ3 H3=>∃G3 x4,Own X.K G0 H0 G3 [some (W.sh (.lst (ts.map D.int))),↥(.lst (es.map YU)),none,none,x4.map W.sh] σ3 H3/\YX G G3/\σ3[2]?=some (some (.ref p))/\Tab G3 H0 H3 p ts ls ((es.take n).foldl (XF ts) (ts.map λ_=>[])) /\
   (∀xs∈(es.take n).foldl (XF ts) (ts.map λ_=>[]),xs.length<=2*n)/\n<=es.length/\m=es.length-n,
   ⟨_,G,none,o2,YX.refl _,s22,T2,λxs hx=>by obtain⟨_,_,rfl⟩:=yM.mp hx;exact zI _,zy _,rfl⟩,?_⟩
  rintro n m σ3 H3 ⟨G3,x4,o3,g3,s32,T3,b3,hn3,rfl⟩
  by_cases hlt3:n<es.length
  ·have hq3:=o3.gh _ _ (g3 _ _ r4')
   have hlv:n<vs1'.length:=by rw[<- hl5];exact hlt3
   refine .inr ⟨⟨_,vs1'[n],SqL.of hq3,zB hlv⟩,λσ4 H4=>∃G4 x4,Own X.K G0 H0 G4 [some (W.sh (.lst (ts.map D.int))),↥(.lst (es.map YU)),none,none,x4.map W.sh] σ4 H4/\YX G G4/\σ4[2]?=some (some (.ref p))/\Tab G4 H0 H4 p ts ls ((es.take (n+1)).foldl (XF ts) (ts.map λ_=>[])) /\
    (∀xs∈(es.take (n+1)).foldl (XF ts) (ts.map λ_=>[]),xs.length<=2*(n+1)),
    λσ4 H4 ⟨G4,x4,b1,b2,b4,b5,b6⟩=>⟨es.length-(n+1),∅,G4,x4,b1,b2,b4,b5,b6,hlt3,rfl⟩,λy H4 hy=>?_⟩
   obtain⟨rfl,hy⟩:=hy;have hy:=hy _ (SqL.of hq3);rw[zB hlv]at hy;cases hy;have hd:(es.map YU)[n]?=some (YU es[n]):=by rw[zK,zB hlt3];rfl
   obtain⟨v,hv1,hv2⟩:=r5'.get hd;rw[zB hlv]at hv1;cases hv1;have hl3:σ3.length=5:=o3.len.symm;have o4:Own X.K G0 H0 G3 [some (W.sh (.lst (ts.map D.int))),↥(.lst (es.map YU)),none,none,↥(YU es[n])] (σ3.set 4 (some vs1'[n])) H4:=o3.setSh (i:=4) (hv2.mono g3);have no4:XZ [some (W.sh (.lst (ts.map D.int))),↥(.lst (es.map YU)),none,none,↥(YU es[n])]:=zAw (x:=some (YU es[n]));have s42:(σ3.set 4 (some vs1'[n]))[2]?=some (some (.ref p)):=by rw[zU (by decide)];exact s32
   obtain⟨in1,in2⟩:=cd2 es[n] (zk hlt3);refine qcN k2 k4 o4 no4 s42 T3 (hg0 _ es[n] rfl) (hg1 _ es[n] rfl) in1 (λxs hx=>by have:=b3 xs hx;omega) λG5 H5 o5 g5 T5=>?_;have b5:=q6p (2*n) ts _ es[n].1 es[n].2 b3;refine qcN k4' k2' o5 no4 s42 T5 (hg1 _ es[n] rfl) (hg0 _ es[n] rfl) in2 (λxs hx=>by have:=b5 xs hx;omega) λG6 H6 o6 g6 T6=>?_;have b6:=q6p (2*n+1) ts _ es[n].2 es[n].1 b5;have et:es.take (n+1)=es.take n++[es[n]]:=(y9 hlt3).symm;refine⟨G6,some (YU es[n]),o6,(g3.trans g5).trans g6,s42,?_,?_⟩
   ·rw[et,xM];exact T6
   ·rw[et,xM]
    intro xs hx;have:=b6 xs hx;omega
  ·have en3:n=es.length:=∅
   subst en3;rw[yw]at T3;refine .inl ⟨⟨_,SqL.of (o3.gh _ _ (g3 _ _ r4')),by rw[hl5];exact zI _⟩,?_⟩;have no3:XZ [some (W.sh (.lst (ts.map D.int))),↥(.lst (es.map YU)),none,none,x4.map W.sh]:=zAw;refine⟨p,_,s32,T3.dict,λob=>?_⟩;obtain⟨G',g',o',rp⟩:=T3.told o3 no3 ob;generalize upd H3 p (.frz ob _)=H4 at o' ⊢;refine⟨.ref p,s32,?_⟩;have oF:Own X.K G0 H0 G' [some (W.sh (.lst (ts.map D.int))),↥(.lst (es.map YU)),none,none,none] σ3 H4:=by
    refine⟨o'.ext,o'.len,λi d h=>?_,λi ds h=>vN h (no.ow i ds),λi j ds es l h=>vN h (no.ow i ds),λi ks ds h=>vN h (no.od i ks ds),Y4.no no.pw⟩
    match i,h with
    | 0,h=>exact o'.sh 0 d h
    | 1,h=>exact o'.sh 1 d h
    | 2,h=>cases h
    | 3,h=>cases h
    | 4,h=>cases h
    | i+5,h=>simp at h
   exact kk G' σ3 H4 oF (g3.trans g') (.ref p) rp
end
theorem qhf{ω:WSt}{e:Int×Int}(h:ω[4]?=some ↥(YU e)):dOf (YO oIx (vOf (YJ 4)) (fC (.int 0))) ω=some (.int e.1):=by
 unfold dOf YO vOf YJ fC;rw[h];rfl
theorem qh5{ω:WSt}{e:Int×Int}(h:ω[4]?=some ↥(YU e)):dOf (YO oIx (vOf (YJ 4)) (fC (.int 1))) ω=some (.int e.2):=by
 unfold dOf YO vOf YJ fC;rw[h];rfl
noncomputable def zAl(i:Nat)(ω:WSt)(c d:Option D):Option (Out×WSt):=c.bind λc=>d.bind λd=>match c with
 | .int k=>some (.nx,ω.set i (some (.od [k] [d])))
 | _=>none
noncomputable def dsetS(i:Nat)(ω:WSt)(v c:Option D)(w:Option (Option W)):Option (Out×WSt):=v.bind λd=>c.bind λc=>match c,w with
 | .int k,some (some (.od ks ds))=>if ks.length<1000000 then some (.nx,ω.set i (some (.od (Xd ks k) (putA ks ds k d))))else none
 | _,_=>none
noncomputable def dgetR(o:Option (List Int×List D))(c:Option D):Option R:=o.bind λp=>c.bind λc=>match c with
 | .int k=>(Yh p.1 p.2 k).map R.sh
 | _=>none
noncomputable def dhasT(neg:Bool)(c:Option D)(o:Option (List Int×List D)):Option Bool:=c.bind λc=>o.bind λp=>match c with
 | .int k=>some (if neg then !(Yh p.1 p.2 k).isSome else (Yh p.1 p.2 k).isSome)
 | _=>none
noncomputable def zAu(o:Option (List Int×List D)):Option R:=o.bind λp=>if p.1.length<64 then some (.fr ((Yd p.1).map D.int))else none
noncomputable def pop0(i:Nat)(ω:WSt)(w:Option (Option W)):Option (D×WSt):=match w with
 | some (some (.ow ds))=>(ds[ds.length-1]?).map λd=>(d,ω.set i (some (.ow ds.dropLast)))
 | _=>none
noncomputable def zA5(j i:Nat)(ω:WSt)(w:Option (Option W)):Option (Out×WSt):=(pop0 i ω w).map λp=>(.nx,p.2.set j (some (.sh p.1)))
section
variable{ω:WSt}{fk fv:FD}{i j:Nat}{ks:List Int}{ds:List D}{k:Int}{d:D}{neg:Bool}
theorem q8j:Wz i ω=some (.nx,ω.set i (some (.od [] []))):=rfl
theorem q7a:W2 i fk fv ω=zAl i ω (fk ω) (fv ω):=rfl
theorem qbL:zAl i ω (some (.int k)) (some d)=some (.nx,ω.set i (some (.od [k] [d]))):=rfl
theorem q9f:Wj i fk fv ω=dsetS i ω (fv ω) (fk ω) ω[i]?:=rfl
theorem q8N:WP i fk ω=dgetR (Xt ω[i]?) (fk ω):=rfl
theorem qck:dgetR (some (ks,ds)) (some (.int k))=(Yh ks ds k).map R.sh:=rfl
theorem qbd:Xt (some (some (.od ks ds)))=some (ks,ds):=rfl
theorem qc1:Xt (some ↥(.dic ks ds))=some (ks,ds):=rfl
theorem q91:zAC neg i fk ω=dhasT neg (fk ω) (Xt ω[i]?):=rfl
theorem qbW:dhasT true (some (.int k)) (some (ks,ds))=some (!(Yh ks ds k).isSome):=rfl
theorem q7d:Wy i ω=zAu (Xt ω[i]?):=rfl
theorem q73:zAX j (zAW i) ω=zA5 j i ω ω[i]?:=rfl
theorem qbn:shrS i ω (some (some (.od ks ds)))=ω.set i ↥(.dic ks ds):=rfl
end
theorem q3C{i:Nat}{ω:WSt}{ks:List Int}{ds:List D}{k:Int}{d:D}(h:ks.length<1000000):dsetS i ω (some d) (some (.int k)) (some (some (.od ks ds)))=some (.nx,ω.set i (some (.od (Xd ks k) (putA ks ds k d)))):=vG h
theorem qf5{ks:List Int}{ds:List D}(h:ks.length<64):zAu (some (ks,ds))=some (.fr ((Yd ks).map D.int)):=vG h
theorem qgl{j i:Nat}{ω:WSt}{ds:List D}{d:D}:zA5 j i ω (some (some (.ow (ds++[d]))))=some (.nx,(ω.set i (some (.ow ds))).set j ↥d):=by
 unfold zA5 pop0;have e1:(ds++[d])[(ds++[d]).length-1]?=some d:=by
  rw[zE,z9,ZU,zP (zI _),wG];rfl
 have e2:(ds++[d]).dropLast=ds:=by simp
 show Z3 _ (((ds++[d])[(ds++[d]).length-1]?).map _)=_;rw[e1,e2];rfl
section
variable{X:Cx}{o k e:vP}{pos pos':Pos}{i:Nat}{fk fv:FD}
noncomputable def zBB(i:Nat)(fk fv:FD):FS:=λω=>(fv ω).bind λd=>(fk ω).bind λc=>match c,ω[i]? with
 | .int k,some (some (.ow ds))=>(ixN ds.length k).map λj=>(.nx,ω.set i (some (.ow (ds.set j d))))
 | _,_=>none
theorem YQ.set{K:zC}{H:Hp}:∀{ds:List D}{vs:List V}(n:Nat){d:D}{v:V},YQ K H ds vs->Rep K H d v->YQ K H (ds.set n d) (vs.set n v)
 | [],_,_,_,_,h,_=>by cases (show _=_ from h);rfl
 | _::_,_,0,_,_,⟨v,r,h1,h2,h3⟩,hv=>by rw[h1];exact⟨_,_,rfl,hv,h3⟩
 | _::_,_,n+1,_,_,⟨v,r,h1,h2,h3⟩,hv=>by rw[h1];exact⟨v,_,rfl,h2,YQ.set n h3 hv⟩
theorem qgr(ho:PE X o (Yz i))(hk:XD X k fk)(hv:XD X e fv)(hs:t6 [.Subscript o k pos'] e pos.line X.env=pure false:=by rfl)(hw:t7 [.Subscript o k pos'] e X.env=pure none:=by rfl)(h1':(uE [.Subscript o k pos'] X.env).map (·.2)=[assign (.Subscript o k pos') X.env]:=by rfl)(ha:∀v,assign (.Subscript o k pos') X.env v=(do
   let ov <- holding [v] (eval o X.env)
   let iv <- holding [v,ov] (eval k X.env)
   tu pos'
   holding [v,ov,iv] (sQ ov iv v)
   release [v,ov,iv] []):=by intro _;rfl):XS X (.Assign [.Subscript o k pos'] e pos) (zBB i fk fv):=by
 obtain⟨tk,h1,h2⟩:=hk;obtain⟨tv,h3,h4⟩:=hv;refine⟨_,q5O h3 (q5T ho h1 q3Q ha) hs hw h1',λG0 H0 G ω σ H out ω' E ow e kk=>?_⟩;obtain⟨d,q1,e⟩:=bnd e;obtain⟨c,q2,e⟩:=bnd e;refine h4 G0 H0 G ω σ H d _ ow q1 λv G1 H1 x1 y1=>?_;cases c with
 | int m=>
  split at e
  ·rename_i _ _ _ m' ds ek q3
   cases ek;obtain⟨j,hj,e⟩:=mpd e;cases e;have o1:=ow.keep x1;obtain⟨l,vs,r1,r2,r3,r4,r5⟩:=o1.ow i ds q3;refine⟨.ref l,r1,h2 G0 H0 G1 ω σ H1 _ _ o1 q2 λu G2 H2 x2 y2=>?_⟩;cases (show u=.int m from y2);have o2:=o1.keep x2;refine⟨l,vs,m,j,rfl,rfl,x2.hh _ _ r2,by rw[<- r5.len];exact hj,?_⟩;exact kk G2 σ _ (o2.mut q3 r1 (x2.hh _ _ r2) (x2.new l r3 (by rw[r2];exact λz=>by cases z)) r4 ((r5.mono x2.gg).set j (y1.mono x2.gg))) (x1.gg.trans x2.gg)
  ·cases e
 | _=>cases e
end
section
variable{X:Cx}{e:vP}{pos pos':Pos}{i:Nat}{fe:FD}
end
section
open PySem.Spec PyProof.Rows
variable{X:Cx}
end
end Hk
namespace L2
open PySem PySem.Spec PyProof.Rows
end L2
namespace Hk
open PySem L2
noncomputable def lsetS(i:Nat)(ω:WSt)(v c:Option D)(w:Option (Option W)):Option (Out×WSt):=v.bind λd=>c.bind λc=>match c,w with
 | .int k,some (some (.ow ds))=>(ixN ds.length k).map λj=>(.nx,ω.set i (some (.ow (ds.set j d))))
 | _,_=>none
section
variable{ω:WSt}{fk fv:FD}{fa:FA}{i j:Nat}{ds:List D}{a b c:Int}{d:D}{g:Int->Int->Int}
theorem q9s:zBB i fk fv ω=lsetS i ω (fv ω) (fk ω) ω[i]?:=rfl
end
theorem qg4{i:Nat}{ω:WSt}{ds:List D}{d:D}{k:Int}(h0:0<=k)(h1:k<ds.length):lsetS i ω (some d) (some (.int k)) (some (some (.ow ds)))=some (.nx,ω.set i (some (.ow (ds.set k.toNat d)))):=by
 show (ixN ds.length k).map _=_;have e:ixN ds.length k=some k.toNat:=by unfold ixN;rw[vG h0,vG h1]
 rw[e];rfl
end Hk
namespace L2
open PySem PySem.Spec PyProof.Rows
noncomputable def Ite(K:zC)(a:vF):It :=
 ⟨λi H=>∃xs x,SqL K H a xs/\xs[i]?=some x,
  λi H x H'=>∃t x1,H t=none/\x=.ref t/\H'=upd H t (.tup [.int i,x1])/\∀xs,SqL K H a xs->xs[i]?=some x1,
  λi H=>∃xs,SqL K H a xs/\xs[i]?=none⟩
theorem qdc{P:vO}{w:vU}{K:zC}{elts:List vP}{kx}{tpos:Pos}(a e it:vF)(hne:e≠it)(hae:a≠e)(hai:a≠it):
  Turn P w K (.Tuple elts kx tpos) (Ite K a) [e,it] e (λi h=>(∃old,IsEnum h e it (i:Int) old)/\h.IsListIter it a i) where
 mem:=by simp
 obj:=λi h st c hc=>by
  obtain⟨⟨old,s1⟩,⟨o4,e4,c4,d4⟩⟩:=st;simp only[zF,zh,or_false]at hc;rcases hc with rfl|rfl
  ·exact⟨_,s1,λv y=>by cases (show Data.fields _=Data.cell v from y)⟩
  ·exact⟨_,e4,λv y=>by rw[d4]at y;cases y⟩
 keep:=λi h h' st k=>by
  obtain⟨⟨old,s1⟩,s4⟩:=st;exact⟨⟨old,k _ (by simp) _ s1⟩,s4.at λo e=>k _ (by simp) o e⟩
 item:=by
  intro X hP hw hK hc i pins s σ H E I hf st hg;subst hP hw hK;obtain⟨xs,x,hq,hx⟩:=hg;obtain⟨its,rv,p,hz⟩:=I.list hq;obtain⟨u,hu,ru⟩:=rv.get hx;obtain⟨⟨old,s1⟩,s4⟩:=st;have ex:∀c∈[e,it],∃o,s.heap.get? c=some o:=λc hc=>by
   simp only[zF,zh,or_false]at hc;rcases hc with rfl|rfl
   ·exact⟨_,s1⟩
   ·obtain⟨o,e,_⟩:=s4;exact⟨o,e⟩
  have nt:∀c∈[e,it],c≠s.heap.objs.size:=λc hc=>by
   obtain⟨o,e⟩:=ex c hc;exact zm (zN e)
  refine wpAny_pyNext_enum_item s1 s4 p.isList (x:=u) (by simpa using hu) hne λh' a1 a2 a3 a4 hk=>?_;have hn:H s.heap.objs.size=none:=I.hok.fresh (zI _);have I1:Inv X pins σ (upd H s.heap.objs.size (.tup [.int i,x])) { s with heap:=s.heap.push { cls:=.type "tuple", data:=.seq #[.int i s.toks,u] },toks:=s.toks+1 } :=
   I.laid (λb o e=>zD _ e) (zI _) (show Yc X.prog X.w _ _ _ (.tup [.int i,x])from ⟨by show 2<=sizeLine;decide,[.int i s.toks,u],.cons ⟨_,rfl⟩ (.cons ru .nil),⟨_,zR _ rfl,rfl,_,rfl⟩⟩)
  have hf':∀c∈[e,it],Xe X pins (upd H s.heap.objs.size (.tup [.int i,x])) c:=λc hc=>by
   obtain⟨f0,f⟩:=hf c hc;exact⟨by rw[qc (nt c hc)];exact f0,f⟩
  have I2:Inv X pins σ (upd H s.heap.objs.size (.tup [.int i,x])) { s with heap:=h',toks:=s.toks+1 }:=I1.turnedL (λb o hb e=>by
   simp only[zF,zh,or_false,not_or]at hb
   by_cases q:b=s.heap.objs.size
   ·subst q
    rw[zR _ rfl]at e;cases e;exact a3
   ·have e':s.heap.get? b=some o:=by
     rcases zo b s.heap.objs.size with l|l
     ·obtain⟨z1,z2⟩:=xf.mp e
      refine xf.mpr ⟨?_,z2⟩;rw[<- z1];show s.heap.objs[b]?=(s.heap.objs.push _)[b]?;rw[ZB,vJ q]
     ·have:=zN e
      rw[yP]at this;exact vN (by simp only[vF]at *;omega) q
    exact hk b o hb.1 hb.2 e') hf'
  refine⟨_,rfl,wpAny_letOwnedTupleGo_enum a1 λh2 b1 sb=>?_⟩;have I3:Inv X pins σ (upd H s.heap.objs.size (.tup [.int i,x])) { s with heap:=h2,toks:=s.toks+1 }:=I2.turnedL (λb o hb e=>(sb.2 b (λq=>hb (by simp[q]))).trans e) hf';have hi:((i+1:Nat):Int)=(i:Int)+1:=by push_cast;rfl
  refine⟨.ref s.heap.objs.size,_,I3,rfl,⟨_,x,hn,rfl,rfl,λxs' q1=>by rw[I.list_inj q1 hq];exact hx⟩,⟨⟨u,by rw[hi];exact b1⟩,a2.extBut sb.extBut (Ne.symm hne)⟩,λc hc=>(hf' c hc).1⟩
 done:=by
  intro X hP hw hK hc i pins s σ H E I hf st hg;subst hP hw hK;obtain⟨xs,hq,hx⟩:=hg;obtain⟨its,rv,p,hz⟩:=I.list hq;obtain⟨⟨old,s1⟩,s4⟩:=st;have l1:=rv.length;refine wpAny_pyNext_enum_end (I.ok.hd hc) s1 s4 p.isList ?_ λh' hk=>⟨rfl,I.turnedL (t':=s.toks) (λb o hb e=>?_) hf⟩
  ·rw[xX]at hx;simp;omega
  ·simp only[zF,zh,or_false,not_or]at hb
   exact hk b o hb.2 e
 self:=λ_ _ _ _ _ st h=>by
  obtain⟨⟨old,s1⟩,s4⟩:=st;exact wpAny_pyIter_enum s1 h
noncomputable def iEnum(K:zC)(ta:TA):TI:=λσ H R=>ta σ H λvs H1=>∃a xs,vs=[.ref a]/\SqL K H1 a xs/\R (Ite K a) H1
theorem qgt{X:Cx}{a:vP}{ta:TA}{p pos tpos:Pos}{elts:List vP}{kx}(hg:Gl X "enumerate")(hm:X.mg "enumerate" = none)(ha:PA X [a] ta)(hs:vK [a] X.env=[(false,eval a X.env)]:=by rfl):
  PI X (.Tuple elts kx tpos) (.Call (.Name "enumerate" p) [a] [] pos) (iEnum X.K ta):=by
 intro pins s σ H R I h;refine Call_ (q0S I hg hm PyProof.Rows.boot_enumerate (PyProof.Rows.callWith_type1 (thn (ha pos pins s σ H _ I h) λus s1 ⟨vs,H1,I1,r1,q1⟩=>?_) hs rfl));obtain⟨l,xs,e,hq,q⟩:=q1;subst e;cases r1 with
 | cons r rr=>
  cases rr;cases r;obtain⟨its,rv,p1,hz⟩:=I1.list hq;have hlt:l<s1.heap.objs.size:=by obtain⟨_,_,e,_⟩:=p1;exact zN e
  refine call_enumerate_list p1.isList λh' a1 a2 a3 hk=>?_;refine wpAny_pyIter_enum a1 ?_;refine⟨s1.heap.objs.size+1,[s1.heap.objs.size+1,s1.heap.objs.size],_,_,H1,rfl,I1.kept (t':=s1.toks) hk,qdc l _ _ (Nat.succ_ne_self _) (zm (yI hlt)) (zm hlt),⟨⟨_,a1⟩,a2⟩,λc hc=>?_,q⟩;have hle:s1.heap.objs.size<=c:=by
   simp only[zF,zh,or_false]at hc;simp only[vF]at *;omega
  exact I1.fpOk hle (I1.hok.fresh hle)
end L2
namespace Hk
open PySem L2
noncomputable def Xr:Nat->List D->List D
 | i,a::as=>.tup [.int i,a]::Xr (i+1) as
 | _,[]=>[]
theorem q46:∀(i:Nat)(as:List D),(Xr i as).length=as.length
 | i,a::as=>by show (Xr (i+1) as).length+1=_;rw[q46];rfl
 | i,[]=>rfl
theorem q7w:∀(k:Nat)(as:List D)(i:Nat)(d:D),(Xr k as)[i]?=some d->∃a,as[i]?=some a/\d=.tup [.int ((k+i:Nat):Int),a]
 | k,a::as,0,d,h=>by cases h;exact⟨a,rfl,rfl⟩
 | k,a::as,i+1,d,h=>by
  obtain⟨b,h1,h2⟩:=q7w (k+1) as i d h;exact⟨b,h1,by rw[h2];congr 4;omega⟩
 | k,[],i,d,h=>by cases h
theorem qdA{K:zC}{G:Hp}{a:vF}{ds:List D}{vs:List V}(h1:G a=some (.lst vs))(h2:YQ K G ds vs):IterOf K (Ite K a) G (Xr 0 ds):=by
 have l1:=h2.len;refine⟨λH i s hi=>?_,λG2 H i x H' d s0 s1 hd hy=>?_,λH s=>⟨vs,SqL.of (s _ _ h1),?_⟩⟩
 ·rw[q46]at hi
  exact⟨vs,vs[i]'∅,SqL.of (s _ _ h1),zB _⟩
 ·obtain⟨t,x1,ht,rfl,rfl,y⟩:=hy
  have e1:=y vs (SqL.of (s1 _ _ (s0 _ _ h1)));obtain⟨p,f1,rfl⟩:=q7w 0 ds i d hd;obtain⟨v,q1,q2⟩:=h2.get f1;rw[e1]at q1;cases q1;have x2:=Ext.lay s1 ht (.tup [.int i,x1]);exact⟨_,x2,⟨t,_,rfl,qe,YQ.cons (by show (.int i:V)=.int ((0+i:Nat):Int);rw[xV]) (YQ.cons (q2.mono (s0.trans x2.gg)) YQ.nil)⟩⟩
 ·rw[q46];exact ze ∅
noncomputable def iEn(g:FA):FI:=λω=>(g ω).bind λds=>match ds with
 | [.lst a]=>some (Xr 0 a)
 | _=>none
theorem qgT{X:Cx}{a:vP}{g:FA}{p pos tpos:Pos}{elts:List vP}{kx}(hg:Gl X "enumerate")(hm:X.mg "enumerate" = none)(ha:XA X [a] g)(hs:vK [a] X.env=[(false,eval a X.env)]:=by rfl):
  XI X (.Tuple elts kx tpos) (.Call (.Name "enumerate" p) [a] [] pos) (iEn g):=by
 obtain⟨⟨t,h1,h2⟩,_⟩:=ha;refine⟨_,qgt hg hm h1 hs,λG0 H0 G ω σ H ds R o e k=>?_⟩;obtain⟨vs,q,e⟩:=bnd e;refine h2 G0 H0 G ω σ H vs _ o q λus G1 H1 x1 y1=>?_
 match vs,e with
 | [.lst as],e=>
  cases e;obtain⟨v1,r1,rfl,z1,z2⟩:=y1;cases (show r1=[]from z2);obtain⟨a1,ws1,rfl,f1,f2⟩:=z1;exact⟨a1,ws1,rfl,SqL.of (x1.gh _ _ f1),k _ G1 H1 x1 (qdA f1 f2)⟩
noncomputable def enI(o:Option (List D)):Option (List D):=o.bind λds=>match ds with
 | [.lst a]=>some (Xr 0 a)
 | _=>none
theorem qbq{fa:FA}{ω:WSt}:iEn fa ω=enI (fa ω):=rfl
theorem qbr{ds:List D}:enI (some [.lst ds])=some (Xr 0 ds):=rfl
section
open PyProof.Rows PySem.Spec
variable{prog:vO}{w:vU}{A:vZ}{E:vB->vC->Prop}{s:vC}{l:vF}{xs:Array (Int×Tok)}
end
section
variable{X:Cx}
open PyProof.Rows PySem.Spec
end
end Hk
namespace Hk
open PySem PySem.Spec PyProof.Rows L2
section
variable{prog:vO}{w:vU}{A:vZ}{E:vB->vC->Prop}{s:vC}
end
end Hk
namespace L2
open PySem PySem.Spec PyProof.Rows Hk
end L2
namespace Hk
open PySem L2
end Hk
namespace L2
open PySem PySem.Spec PyProof.Rows
noncomputable def Itk(a:vF)(ob:Obj)(kvs:List (Key×V)):It :=
 ⟨λi H=>H a=some (.frz ob (.dK kvs))/\i<kvs.length,λi H x H'=>H'=H/\∃n v,kvs[i]?=some (Sum.inl n,v)/\x=.int n,λi H=>H a=some (.frz ob (.dK kvs))/\kvs.length<=i⟩
theorem qef{X:Cx}{pins:List (vF×Obj)}{σ:St}{H:Hp}{s:vC}{a:vF}{ob:Obj}{kvs:List (Key×V)}{es0:Array DictEntry}{ep:Nat}(I:Inv X pins σ H s)(h:H a=some (.frz ob (.dK kvs)))(hd:ob.data=.dict es0 ep):
  (a==uD)=false/\∃vs,KV kvs vs/\s.heap.DictAt (Yb X.prog X.w) a vs ep:=by
 obtain⟨e,_,lo,vs,r,o,es,ep',e',c1,c2,c3⟩:=(show Yc X.prog X.w H s.heap a (.frz ob (.dK kvs))from I.hok a _ h);refine⟨lo,vs,r,o,es,e',c1,?_,c3⟩;rw[e]at e';cases e';rw[hd]at c2;cases c2;exact hd
theorem qe4{P:vO}{w:vU}{K:zC}{tg:vP}{ob:Obj}{kvs:List (Key×V)}{es0:Array DictEntry}{ep:Nat}(a it:vF)(hne:a≠it)(hd:ob.data=.dict es0 ep)(hk:∀p∈kvs,∃n:Int,p.1=(Sum.inl n:Key)):
  Turn P w K tg (Itk a ob kvs) [it] it (λi h=>h.IsKeyIter it a i kvs.length ep) where
 mem:=by simp
 obj:=λi h st b hb=>by
  have e:b=it:=by simpa using hb
  subst e;obtain⟨o,e,c,d⟩:=st;exact⟨o,e,λv z=>by rw[d]at z;cases z⟩
 keep:=λi h h' st k=>st.at λo e=>k it (by simp) o e
 item:=by
  intro X hP hw hK hc i pins s σ H E I hf st hg;subst hP hw hK;obtain⟨hq,hi⟩:=hg;obtain⟨lo,vs,r,hm⟩:=qef I hq hd;have hl:kvs.length=vs.length:=by have:=vq yd r.keys;simpa using this
  obtain⟨⟨k,v⟩,hx⟩:∃p,kvs[i]?=some p:=⟨kvs[i],zB hi⟩;obtain⟨n,rfl⟩:=hk _ (zg hx);obtain⟨⟨k',u⟩,hu⟩:∃p,vs[i]?=some p:=⟨vs[i]'∅,zB _⟩;have ek:k'=(Sum.inl n:Key):=by
   have h1:(kvs.map (·.1))[i]?=some (Sum.inl n):=by rw[zK,hx];rfl
   rw[r.keys,zK,hu]at h1;exact zn h1
  subst ek;obtain⟨f0,f1,f2,f3,f4,f5⟩:=hf it (by simp);rw[hl]at st;refine wpAny_pyNext_dict_item st hm hu λkey h' hkey st' sb=>?_;have I1:Inv X pins σ H { s with heap:=h' }:=I.turned (t':=s.toks) (λb o hb e=>(sb.2 b hb).trans e) f0 f1 f3 f4 f5;obtain⟨t,rfl⟩:∃t,key=.int n t:=by
   rcases qB (k:=(Sum.inl n:Key)) hkey with⟨i,t,e4,rfl⟩|⟨x,t,e4,_⟩
   ·cases e4;exact⟨t,rfl⟩
   ·cases e4
  obtain⟨o,e,c,d⟩:=id st';rw[<- hl]at st';exact⟨.int n t,rfl,q8c (s:={ s with heap:=h' }) e c d (by decide) ⟨.int n,H,I1,⟨t,rfl⟩,⟨rfl,n,v,hx,rfl⟩,st',λb hb=>(hf b hb).1⟩⟩
 done:=by
  intro X hP hw hK hc i pins s σ H E I hf st hg;subst hP hw hK;obtain⟨hq,hi⟩:=hg;obtain⟨lo,vs,r,hm⟩:=qef I hq hd;have hl:kvs.length=vs.length:=by have:=vq yd r.keys;simpa using this
  obtain⟨f0,f1,f2,f3,f4,f5⟩:=hf it (by simp);rw[hl]at st;exact wpAny_pyNext_dict_end (I.ok.hd hc) st hm (ze ∅) λh' eb=>⟨rfl,I.turned (t':=s.toks) (λb o hb e=>eb b o hb e) f0 f1 f3 f4 f5⟩
 self:=λ_ _ _ _ _ st h=>wpAny_pyIter_keyiter st h
noncomputable def iKeys(tl:TE):TI:=λσ H R=>tl σ H λv H1=>∃a ob kvs,v=.ref a/\H1 a=some (.frz ob (.dK kvs))/\(∀p∈kvs,∃n:Int,p.1=(Sum.inl n:Key))/\R (Itk a ob kvs) H1
theorem qgH{X:Cx}{tg l:vP}{tl:TE}(hl:PE X l tl):PI X tg l (iKeys tl):=by
 intro pins s σ H R I h;refine thn (hl pins s σ H _ I h) λv s1 ⟨x,H1,I1,r1,q1⟩=>?_;obtain⟨a,ob,kvs,e,hq,hk,q⟩:=q1;subst e;cases r1;obtain⟨e0,_,lo,vs,r,o,es,ep,e',c1,c2,c3⟩:=(show Yc X.prog X.w H1 s1.heap a (.frz ob (.dK kvs))from I1.hok a _ hq);have hob:ob.data=.dict es ep:=by rw[e0]at e';cases e';exact c2
 have hm:s1.heap.DictAt (Yb X.prog X.w) a vs ep:=⟨o,es,e',c1,c2,c3⟩;have hlen:kvs.length=vs.length:=by have:=vq yd r.keys;simpa using this
 have hlt:a<s1.heap.objs.size:=zN e0;refine wpAny_pyIter_dict lo hm ?_;refine⟨s1.heap.objs.size,[s1.heap.objs.size],_,_,H1,rfl,I1.kept (t':=s1.toks) λb o e=>zD _ e,qe4 a _ (zm hlt) hob hk,⟨_,zR _ rfl,rfl,by rw[hlen];rfl⟩,λb hb=>?_,q⟩;have e:b=s1.heap.objs.size:=by simpa using hb
 subst e;exact I1.fpOk (zI _) (I1.hok.fresh (zI _))
end L2
namespace Hk
open PySem L2
theorem q7k:∀{ks:List Int}{vs:List V}{i:Nat}{n:Int}{v:V},(kvsOf ks vs)[i]?=some (Sum.inl n,v)->ks[i]?=some n
 | [],_,_,_,_,h=>by cases h
 | _::_,[],_,_,_,h=>by cases h
 | k::ks,v::vs,0,n,u,h=>by cases h;rfl
 | k::ks,v::vs,i+1,n,u,h=>q7k (ks:=ks) (vs:=vs) h
theorem q7B:∀{ks:List Int}{vs:List V},∀p∈kvsOf ks vs,∃n:Int,p.1=(Sum.inl n:Key)
 | [],_,_,h=>by cases h
 | _::_,[],_,h=>by cases h
 | k::ks,v::vs,p,h=>by
  rcases zF.mp h with rfl|h
  ·exact⟨k,rfl⟩
  ·exact q7B p h
theorem qdY{K:zC}{G:Hp}{a:vF}{ob:Obj}{ks:List Int}{vs:List V}(h1:G a=some (.frz ob (.dK (kvsOf ks vs))))(hl:ks.length=vs.length):IterOf K (Itk a ob (kvsOf ks vs)) G (ks.map D.int):=by
 have l1:=q2V hl;refine⟨λH i s hi=>⟨s _ _ h1,by rw[zA]at hi;omega⟩,λG2 H i x H' d s0 s1 hd hy=>?_,λH s=>⟨s _ _ h1,by rw[zA];omega⟩⟩;obtain⟨e,n,v,q1,q2⟩:=hy;subst e q2;have:=q7k q1;rw[zK,this]at hd;cases hd;exact⟨G2,Ext.refl s1,rfl⟩
noncomputable def zAb:Option (Option W)->Option (List D)
 | some ↥(.dic ks _)=>some (ks.map D.int)
 | _=>none
noncomputable def iDk(i:Nat):FI:=λω=>zAb ω[i]?
theorem qg6{X:Cx}{tg o:vP}{i:Nat}(ho:PE X o (Yz i)):XI X tg o (iDk i):=by
 refine⟨_,qgH ho,λG0 H0 G ω σ H ds R ow e k=>?_⟩;unfold iDk zAb at e
 split at e
 ·rename_i ks ds' q
  cases e;obtain⟨v,h1,p,vs,rfl,⟨ob,h2⟩,h3,h4⟩:=ow.sh i _ q;exact⟨.ref p,h1,p,ob,_,rfl,ow.gh _ _ h2,q7B,k _ G H (Ext.refl ow.gh) (qdY h2 (by rw[h3];exact h4.len))⟩
 ·cases e
abbrev Cal(P:vO)(w:vU)(K:zC)(mg:Str->Option vB)(base:vY)(k:Nat)(f:vF)(d:vM)(x:Str)(ps:List Str)(n:Nat)(m:List D->Option O):Prop :=
 FnOk P w K mg base CX0 k f d ps (spD K n m)/\mg x=some (.ref f)/\xD K (.ref f)=true/\Binds K d ps []
section
variable{X:Cx}{x:Str}{pos:Pos}
theorem xc{e:vP}{es:List vP}{k k0:Nat}{f:vF}{fd:vM}{ps:List Str}{m:List D->Option O}{p:Pos}{g:FA}(c:Cal X.prog X.w X.K X.mg X.base k f fd x ps (e::es).length m)(hr:Room k0 X.A)(ha:XA X (e::es) g)(hk:k<=k0:=by decide)(hg:Gl X x:=by exact rfl)(hdb:(x==("__debug__" : Str))=false:=by decide)(he:vK (e::es) X.env=(false,eval e X.env)::vK es X.env:=by rfl)(hpl:(vn pos (vK es X.env)).any (·.1)=false:=by rfl):
  XE X (.Call (.Name x p) (e::es) [] pos) (YR m g):=zAz c.1 (hr.mono hk) hg c.2.1 c.2.2.1 c.2.2.2 zAK ha hdb he hpl
theorem vE(i:Nat)(hN:X.N[i]?=some x:=by rfl)(hv:Vis X.env.scope x:=by first|exact Or.inl rfl|exact Or.inr (Or.inl rfl)|exact Or.inr (Or.inr rfl))(hd:(x==("__debug__" : Str))=false:=by decide)(hcd:(x==("__classdict__" : Str))=false:=by decide):XE X (.Name x pos) (YJ i):=zAH i (pv i hN hv hd hcd)
theorem vV(i:Nat)(hN:X.N[i]?=some x:=by rfl)(hv:Vis X.env.scope x:=by first|exact Or.inl rfl|exact Or.inr (Or.inl rfl)|exact Or.inr (Or.inr rfl))(hd:(x==("__debug__" : Str))=false:=by decide)(hcd:(x==("__classdict__" : Str))=false:=by decide):XV X (.Name x pos) (vOf (YJ i)):=XE.toV (zAH i (pv i hN hv hd hcd))
theorem vD(i:Nat)(hN:X.N[i]?=some x:=by rfl)(hv:Vis X.env.scope x:=by first|exact Or.inl rfl|exact Or.inr (Or.inl rfl)|exact Or.inr (Or.inr rfl))(hd:(x==("__debug__" : Str))=false:=by decide)(hcd:(x==("__classdict__" : Str))=false:=by decide):XD X (.Name x pos) (dOf (YJ i)):=XE.toD (zAH i (pv i hN hv hd hcd))
end
def Fd(K:zC)(x:Str)(st:vo)(f:vF):Prop:=yK K vQ x=some (some (.ref f))/\∃fd,Fun K x x st f fd
section
variable{P:vO}{w:vU}{K:zC}{mg:Str->Option vB}{base h:vY}{x:Str}{st:vo}{f:vF}{fd:vM}
theorem qi4{oc:vB}{od an:Option vF}{osl:Array (Option vB)}{kV doc pm cdv ct:vB}(a:yK K vQ x=some (some (.ref f)))(l:K.lookup f=some ⟨oc,od,.func (y8 x x (XB st) (Ys st) (YL st) .none kV doc pm an cdv ct),osl⟩)(c:wI K cdv x=true)(k:xD K (.ref f)=true):Fd K x st f:=⟨a,_,qh6 l c k⟩
theorem qj(P:vO)(w:vU)(base:vY)(X:K.In h)(G:h.Ns vQ mg){x:Str}{st:vo}{f:vF}{fd:vM}{k n:Nat}{ps:List Str}{m:List D->Option O}(D:Fd K x st f)(F:Fun K x x st f fd)(o:FnOk P w K mg base CX0 k f fd ps (spD K n m))(b:∀(kV doc pm:vB)(an:Option vF)(cdv ct:vB)(us:List vB),us.length=ps.length->bindArgs (y8 x x (XB st) (Ys st) (YL st) .none kV doc pm an cdv ct) ⟨us,[]⟩=pure (ps.zip us)):Cal P w K mg base k f fd x ps n m :=
 ⟨o,wR X G D.1,F.kp,F.binds b⟩
end
noncomputable def zAD(i:Nat)(fk fv:FD):FS:=λω=>(fv ω).bind λd=>(fk ω).bind λc=>match c,ω[i]? with
 | .int k,some (some (.pw ds))=>(ixN ds.length k).map λj=>(.nx,ω.set i (some (.pw (ds.set j d))))
 | _,_=>none
section
variable{X:Cx}{o e k:vP}{pos pos' apos cpos:Pos}{i:Nat}{fd fk fv:FD}
theorem qfk(ho:PE X o (Yz i))(hk:XD X k fk)(hv:XD X e fv)(hs:t6 [.Subscript o k pos'] e pos.line X.env=pure false:=by rfl)(hw:t7 [.Subscript o k pos'] e X.env=pure none:=by rfl)(h1':(uE [.Subscript o k pos'] X.env).map (·.2)=[assign (.Subscript o k pos') X.env]:=by rfl)(ha:∀v,assign (.Subscript o k pos') X.env v=(do
   let ov <- holding [v] (eval o X.env)
   let iv <- holding [v,ov] (eval k X.env)
   tu pos'
   holding [v,ov,iv] (sQ ov iv v)
   release [v,ov,iv] []):=by intro _;rfl):XS X (.Assign [.Subscript o k pos'] e pos) (zAD i fk fv):=by
 obtain⟨tk,h1,h2⟩:=hk;obtain⟨tv,h3,h4⟩:=hv;refine⟨_,q5O h3 (q5T ho h1 q3Q ha) hs hw h1',λG0 H0 G ω σ H out ω' E ow e kk=>?_⟩;obtain⟨d,q1,e⟩:=bnd e;obtain⟨c,q2,e⟩:=bnd e;refine h4 G0 H0 G ω σ H d _ ow q1 λv G1 H1 x1 y1=>?_;cases c with
 | int m=>
  split at e
  ·rename_i _ _ _ m' ds ek q3
   cases ek;obtain⟨j,hj,e⟩:=mpd e;cases e;have o1:=ow.keep x1;obtain⟨vs,r1,r2,r3,r4,r5,r6⟩:=o1.pw i ds q3;refine⟨.ref _,r1,h2 G0 H0 G1 ω σ H1 _ _ o1 q2 λu G2 H2 x2 y2=>?_⟩;cases (show u=.int m from y2);have o2:=o1.keep x2;refine⟨_,vs,m,j,rfl,rfl,x2.hh _ _ r2,by rw[<- r5.len];exact hj,?_⟩;exact kk G2 σ _ (o2.mutP q3 ((r5.mono x2.gg).set j (y1.mono x2.gg))) (x1.gg.trans x2.gg)
  ·cases e
 | _=>cases e
end
structure ArgW (K:zC) (G H:Hp) (ws:List W) (vs:List V):Prop where
 len:ws.length=vs.length
 sh:∀(j:Nat)d,ws[j]?=↥d->∃v,vs[j]?=some v/\Rep K G d v
 pw:∀(j:Nat)ds,ws[j]?=some (.pw ds)->∃l us,vs[j]?=some (.ref l)/\H l=some (.lst us)/\G l=none/\YQ K G ds us
 no:∀(j:Nat)w,ws[j]?=some w->(∃d,w=.sh d)\/∃ds,w=.pw ds
structure ArgI (ω:WSt) (σ:St) (is:List (Option Nat)) (ws:List W) (vs:List V):Prop where
 pw:∀(j:Nat)ds,ws[j]?=some (.pw ds)->∃i l,is[j]?=some (some i)/\vs[j]?=some (.ref l)/\σ[i]?=some (some (.ref l))/\(ω[i]?=some (some (.ow ds))\/ω[i]?=some (some (.pw ds)))
 is:∀(j:Nat)i,is[j]?=some (some i)->∃ds,ws[j]?=some (.pw ds)
noncomputable abbrev FW:=WSt->Option (List W)
def SimWA(K:zC)(t:TA)(is:List (Option Nat))(f:FW):Prop:=∀G0 H0 G ω σ H ws(Q:List V->Hp->Prop),Own K G0 H0 G ω σ H->f ω=some ws ->
 (∀vs G' H',Ext G H G' H'->ArgW K G' H' ws vs->ArgI ω σ is ws vs->Q vs H')->t σ H Q
def XWA(X:Cx)(es:List vP)(is:List (Option Nat))(f:FW):Prop:=(∃t,PA X es t/\SimWA X.K t is f)/\∀ω ws,f ω=some ws->ws.length=es.length
noncomputable def zAo:FW:=λ_=>some []
noncomputable def wSh(f:FD)(g:FW):FW:=λω=>(f ω).bind λd=>(g ω).map λws=>.sh d::ws
noncomputable def pwOf(w:Option (Option W)):Option (List D):=match w with
 | some (some (.ow ds))=>some ds
 | some (some (.pw ds))=>some ds
 | _=>none
noncomputable def wPw(i:Nat)(g:FW):FW:=λω=>(pwOf ω[i]?).bind λds=>(g ω).map λws=>.pw ds::ws
theorem qcM{w:Option (Option W)}{ds:List D}(h:pwOf w=some ds):w=some (some (.ow ds))\/w=some (some (.pw ds)):=by
 unfold pwOf at h
 split at h
 ·cases h;exact .inl rfl
 ·cases h;exact .inr rfl
 ·cases h
section
variable{X:Cx}{e:vP}{es:List vP}{is:List (Option Nat)}{g:FW}
theorem q4I:XWA X [] [] zAo:=⟨⟨_,qI,λG0 H0 G ω σ H ds Q o e k=>by
 cases e;exact k [] G H (Ext.refl o.gh) ⟨rfl,λj d h=>by simp at h,λj d h=>by simp at h,λj w h=>by simp at h⟩ ⟨λj d h=>by simp at h,λj d h=>by simp at h⟩⟩,λω ds e=>by cases e;rfl⟩
theorem q1X{f:FD}(h:XD X e f)(hr:XWA X es is g)(hs:vK (e::es) X.env=(false,eval e X.env)::vK es X.env:=by rfl):XWA X (e::es) (none::is) (wSh f g):=by
 obtain⟨t,h1,h2⟩:=h;obtain⟨⟨u,h3,h4⟩,h5⟩:=hr;refine⟨⟨_,qq h1 h3 hs,λG0 H0 G ω σ H ds Q o e k=>?_⟩,λω ds e=>?_⟩
 ·obtain⟨d,q,e⟩:=bnd e
  obtain⟨r,q2,e⟩:=mpd e;subst e;refine h2 G0 H0 G ω σ H d _ o q λv G1 H1 x1 y1=>?_;refine h4 G0 H0 G1 ω σ H1 r _ (o.keep x1) q2 λvs G2 H2 x2 a2 i2=>?_;refine k _ G2 H2 (x1.trans x2) ⟨by rw[zG,zG,a2.len],λj d' hj=>?_,λj ds hj=>?_,λj w hj=>?_⟩ ⟨λj ds hj=>?_,λj i hj=>?_⟩
  ·cases j with
   | zero=>simp at hj;subst hj;exact⟨v,rfl,y1.mono x2.gg⟩
   | succ j=>exact a2.sh j d' ⇑hj
  ·cases j with
   | zero=>simp at hj
   | succ j=>exact a2.pw j ds ⇑hj
  ·cases j with
   | zero=>simp at hj;subst hj;exact .inl ⟨_,rfl⟩
   | succ j=>exact a2.no j w ⇑hj
  ·cases j with
   | zero=>simp at hj
   | succ j=>exact i2.pw j ds ⇑hj
  ·cases j with
   | zero=>simp at hj
   | succ j=>exact i2.is j i ⇑hj
 ·obtain⟨d,q,e⟩:=bnd e
  obtain⟨r,q2,e⟩:=mpd e;subst e;rw[zG,zG,h5 ω r q2]
theorem q68{i:Nat}(h:PE X e (Yz i))(hr:XWA X es is g)(hs:vK (e::es) X.env=(false,eval e X.env)::vK es X.env:=by rfl):XWA X (e::es) (some i::is) (wPw i g):=by
 obtain⟨⟨u,h3,h4⟩,h5⟩:=hr;refine⟨⟨_,qq h h3 hs,λG0 H0 G ω σ H ds Q o e k=>?_⟩,λω ds e=>?_⟩
 ·obtain⟨d,q,e⟩:=bnd e
  obtain⟨r,q2,e⟩:=mpd e;subst e;have hw:=qcM q;obtain⟨l,us,r1,r2,r3,r4⟩:∃l us,σ[i]?=some (some (.ref l))/\H l=some (.lst us)/\G l=none/\YQ X.K G d us:=by
   rcases hw with hw|hw
   ·obtain⟨l,vs,z1,z2,z3,z4,z5⟩:=o.ow i d hw
    exact⟨l,vs,z1,z2,z3,z5⟩
   ·obtain⟨vs,z1,z2,z3,z4,z5,_⟩:=o.pw i d hw
    exact⟨_,vs,z1,z2,z3,z5⟩
  refine⟨.ref l,r1,?_⟩;refine h4 G0 H0 G ω σ H r _ o q2 λvs G2 H2 x2 a2 i2=>?_;refine k _ G2 H2 x2 ⟨by rw[zG,zG,a2.len],λj d' hj=>?_,λj ds hj=>?_,λj w hj=>?_⟩ ⟨λj ds hj=>?_,λj i' hj=>?_⟩
  ·cases j with
   | zero=>simp at hj
   | succ j=>exact a2.sh j d' ⇑hj
  ·cases j with
   | zero=>simp at hj;subst hj;exact⟨l,us,rfl,x2.hh _ _ r2,x2.new l r3 (by rw[r2];exact λz=>by cases z),r4.mono x2.gg⟩
   | succ j=>exact a2.pw j ds ⇑hj
  ·cases j with
   | zero=>simp at hj;subst hj;exact .inr ⟨_,rfl⟩
   | succ j=>exact a2.no j w ⇑hj
  ·cases j with
   | zero=>simp at hj;subst hj;exact⟨i,l,rfl,rfl,r1,hw⟩
   | succ j=>exact i2.pw j ds ⇑hj
  ·cases j with
   | zero=>exact⟨d,rfl⟩
   | succ j=>exact i2.is j i' ⇑hj
 ·obtain⟨d,q,e⟩:=bnd e
  obtain⟨r,q2,e⟩:=mpd e;subst e;rw[zG,zG,h5 ω r q2]
end
def Pn(ws:List W)(vs:List V)(b:vF):Prop:=∃(j:Nat) (ds:List D),ws[j]?=some (.pw ds)/\vs[j]?=some (.ref b)
open Classical in
noncomputable def Xa(P:vF->Prop)(H:Hp):Hp:=λb=>if P b then none else H b
theorem qah{P:vF->Prop}{H:Hp}{b:vF}(h:P b):Xa P H b=none:=vG h
theorem q1P{P:vF->Prop}{H:Hp}{b:vF}(h:¬P b):Xa P H b=H b:=vJ h
theorem qdx{P:vF->Prop}{H:Hp}:YX (Xa P H) H:=λb u z=>by
 by_cases h:P b
 ·rw[qah h]at z;cases z
 ·rw[q1P h]at z;exact z
def NdW(ws:List W)(vs:List V):Prop:=∀(j k:Nat)ds es l,ws[j]?=some (.pw ds)->ws[k]?=some (.pw es)->vs[j]?=some (.ref l)->vs[k]?=some (.ref l)->j=k
noncomputable def spW(K:zC)(n:Nat)(m:List W->Option (D×WSt)):Sp:=λvs H Q _=>∃G ws d ω',m ws=some (d,ω')/\ws.length=n/\YX G H/\ArgW K G H ws vs/\NdW ws vs /\
 ∀v G' H',Ext G (Xa (Pn ws vs) H) G' H'->(∀(j:Nat)ds ds' l,ws[j]?=some (.pw ds)->vs[j]?=some (.ref l)->ω'[j]?=some (some (.pw ds'))->∃us,H' l=some (.lst us)/\G' l=none/\YQ K G' ds' us)->Rep K G' d v->Q v H'
noncomputable def Y2(n:Nat)(ws:List W):WSt:=ws.map some++xl (n-ws.length) none
noncomputable def mirW(n:Nat)(body:FS)(ws:List W):Option (D×WSt):=match body (Y2 n ws)with
 | some (.rt (.sh d),ω')=>some (d,ω')
 | some (.nx,ω')=>some (.non,ω')
 | _=>none
theorem qO{n:Nat}{ws:List W}{i:Nat}{w:W}(e:(Y2 n ws)[i]?=some (some w)):ws[i]?=some w:=by
 unfold Y2 at e;rcases zo i ws.length with y|y
 ·rw[zV ⇑y,zK]at e
  cases q:ws[i]? with
  | none=>rw[q]at e;cases e
  | some d'=>rw[q]at e;cases e;rfl
 ·rw[zP ⇑y,yT]at e
  split at e <;> cases e
theorem q7p{N:List Str}{vs:List V}{i:Nat}{v:V}(h:vs[i]?=some v):(L2.start N vs)[i]?=some (some v):=by
 unfold L2.start;have hl:i<vs.length:=(zS.mp h).1;rw[zV ⇑hl,zK,h];rfl
noncomputable def refOf(v:Option V):vF:=match v with
 | some (.ref l)=>l
 | _=>0
theorem fnW{P:vO}{w:vU}{K:zC}{mg:Str->Option vB}{base:vY}{x qual:Str}{st:vo}{f:vF}{fd:vM}{N ps:List Str}{k:Nat}{body:FS}(F:Fun K x qual st f fd)(S:FnScope N ps (YL st))(hb:∀(cdv:vB)(A:vZ)(outer:List Env)(s:vC)(H:Hp)(E:XK),Room k (A.deeper (PyProof.Rows.envOfC qual (YL st) s.heap.objs.size f cdv))->XSs (zAv CX0 P w K mg base N qual (YL st) f cdv A outer s H E).nox (Ys st) body):
  FnOk P w K mg base CX0 (k+1) f fd ps (spW K ps.length (mirW N.length body)):=by
 refine F.ok S (λvs H Q E h=>?_) (λcdv A outer s H vs Q E hr h=>?_)
 ·obtain⟨G,ws,d,ω',_,h2,_,h4,_⟩:=h
  rw[<- h4.len];exact h2
 ·obtain⟨G,ws,d,ω',h1,h2,h3,h4,hnd,h5⟩:=h
  obtain⟨t,p1,p2⟩:=hb cdv A outer s H E hr;refine⟨t,p1,?_⟩;unfold mirW at h1;have hl:=h4.len;have hpl:ps.length<=N.length:=by have:=vq yd S.pre;rw[zY]at this;omega
  have o0:Own K G ⟨Xa (Pn ws vs) H,λi=>refOf vs[i]?⟩ G (Y2 N.length ws) (L2.start N vs) H:=by
   refine⟨⟨YX.refl _,h3,qdx,λb z _=>z⟩,?_,λi d e=>?_,λi es e=>?_,λi j es fs l e=>?_,λi ks es e=>?_,λi ds e=>?_⟩
   ·unfold Y2 L2.start
    simp only[zE,zA,yZ];omega
   ·obtain⟨v,e1,e2⟩:=h4.sh i d (qO e)
    exact⟨v,q7p e1,e2⟩
   ·rcases h4.no i _ (qO e)with⟨_,z⟩|⟨_,z⟩ <;> cases z
   ·rcases h4.no i _ (qO e)with⟨_,z⟩|⟨_,z⟩ <;> cases z
   ·rcases h4.no i _ (qO e)with⟨_,z⟩|⟨_,z⟩ <;> cases z
   ·obtain⟨l,us,e1,e2,e3,e4⟩:=h4.pw i ds (qO e)
    have er:(⟨Xa (Pn ws vs) H,λi=>refOf vs[i]?⟩:Fr).pin i=l:=by show refOf vs[i]?=l;rw[e1];rfl
    rw[er];refine⟨us,q7p e1,e2,e3,qah ⟨i,ds,qO e,e1⟩,e4,λj es hj y=>?_,λj es hj=>?_⟩
    ·obtain⟨l',us',f1,_⟩:=h4.pw j es (qO hj)
     have er':(⟨Xa (Pn ws vs) H,λi=>refOf vs[i]?⟩:Fr).pin j=l':=by show refOf vs[j]?=l';rw[f1];rfl
     rw[er']at y;exact hnd j i es ds l (qO hj) (qO e) (by rw[<- y];exact f1) e1
    ·rcases h4.no j _ (qO hj)with⟨_,z⟩|⟨_,z⟩ <;> cases z
  have fin:∀G' σ' H' v,Own K G ⟨Xa (Pn ws vs) H,λi=>refOf vs[i]?⟩ G' ω' σ' H'->Rep K G' d v->Q v H':=λG' σ' H' v o' y=>by
   refine h5 v G' H' o'.ext (λj ds ds' l a1 a2 a3=>?_) y;obtain⟨us,_,b2,b3,_,b5,_⟩:=o'.pw j ds' a3;have er:refOf vs[j]?=l:=by rw[a2];rfl
   refine⟨us,?_,?_,b5⟩
   ·rw[<- er];exact b2
   ·rw[<- er];exact b3
  cases q:body (Y2 N.length ws)with
  | none=>rw[q]at h1;cases h1
  | some p=>
   obtain⟨out,ω1⟩:=p;rw[q]at h1;refine p2 G _ G _ _ H out ω1 _ o0 q λG' σ' H' o' s'=>?_;cases out with
   | nx=>cases h1;exact fin G' σ' H' _ o' rfl
   | bk=>cases h1
   | ct=>cases h1
   | rt r'=>
    cases r' with
    | sh d'=>cases h1;exact λv y=>fin G' σ' H' v o' y
    | fr ds=>cases h1
noncomputable def WO(c:Option (List D))(w:Option W):Option W:=match c,w with
 | some ds,some (.ow _)=>some (.ow ds)
 | some ds,some (.pw _)=>some (.pw ds)
 | _,w=>w
noncomputable def XL(I:Nat->Option (List D))(ω:WSt):WSt:=ω.mapIdx λi w=>WO (I i) w
theorem q05{I:Nat->Option (List D)}{ω:WSt}{i:Nat}{w:Option W}(h:(XL I ω)[i]?=some w):∃u,ω[i]?=some u/\WO (I i) u=w:=by
 unfold XL at h;rw[List.getElem?_mapIdx]at h;exact mpd h
theorem q4m{w:Option W}:WO none w=w:=by unfold WO;split <;> first|rfl|(rename_i h;cases h)
theorem qgd{c:Option (List D)}{u:Option W}{d:D}(h:WO c u=↥d):u=↥d:=by
 unfold WO at h;split at h <;> first|exact h|cases h
theorem qap{c:Option (List D)}{u:Option W}{ks:List Int}{ds:List D}(h:WO c u=some (.od ks ds)):u=some (.od ks ds):=by
 unfold WO at h;split at h <;> first|exact h|cases h
theorem q4A{c:Option (List D)}{u:Option W}{ds:List D}(h:WO c u=some (.ow ds)):(c=some ds/\∃es,u=some (.ow es))\/(c=none/\u=some (.ow ds)):=by
 cases c with
 | none=>rw[q4m]at h;exact .inr ⟨rfl,h⟩
 | some es=>
  unfold WO at h
  split at h
  ·rename_i hc;cases hc;cases h;exact .inl ⟨rfl,_,rfl⟩
  ·cases h
  ·rename_i z1 z2;subst h;exact vN rfl (z1 _ _ rfl)
theorem q7g{c:Option (List D)}{u:Option W}{ds:List D}(h:WO c u=some (.pw ds)):(c=some ds/\∃es,u=some (.pw es))\/(c=none/\u=some (.pw ds)):=by
 cases c with
 | none=>rw[q4m]at h;exact .inr ⟨rfl,h⟩
 | some es=>
  unfold WO at h
  split at h
  ·cases h
  ·rename_i hc;cases hc;cases h;exact .inl ⟨rfl,_,rfl⟩
  ·rename_i z1 z2;subst h;exact vN rfl (z2 _ _ rfl)
section
variable{K:zC}{G0:Hp}{F:Fr}{G G' H H':Hp}{ω:WSt}{σ:St}{I:Nat->Option (List D)}{P:vF->Prop}
theorem Own.at(o:Own K G0 F G ω σ H){i:Nat}{es:List D}(h:ω[i]?=some (some (.ow es))\/ω[i]?=some (some (.pw es))):∃l vs,σ[i]?=some (some (.ref l))/\H l=some (.lst vs)/\G l=none/\F.hp l=none:=by
 rcases h with h|h
 ·obtain⟨l,vs,z1,z2,z3,z4,z5⟩:=o.ow i es h
  exact⟨l,vs,z1,z2,z3,z4⟩
 ·obtain⟨vs,z1,z2,z3,z4,z5,_⟩:=o.pw i es h
  exact⟨_,vs,z1,z2,z3,z4⟩
theorem Own.apart(o:Own K G0 F G ω σ H){i j:Nat}{es fs:List D}{l:vF}(h:ω[i]?=some (some (.ow es))\/ω[i]?=some (some (.pw es)))(h':ω[j]?=some (some (.ow fs))\/ω[j]?=some (some (.pw fs)))(s:σ[i]?=some (some (.ref l)))(s':σ[j]?=some (some (.ref l))):i=j:=by
 rcases h with h|h
 ·rcases h' with h'|h'
  ·exact o.nd i j es fs l h h' s s'
  ·obtain⟨vs,z1,z2,z3,z4,z5,z6,z7⟩:=o.pw j fs h'
   rw[s']at z1;cases z1;exact vN s (z7 i es h)
 ·rcases h' with h'|h'
  ·obtain⟨vs,z1,z2,z3,z4,z5,z6,z7⟩:=o.pw i es h
   rw[s]at z1;cases z1;exact vN s' (z7 j fs h')
  ·obtain⟨vs,z1,z2,z3,z4,z5,z6,z7⟩:=o.pw i es h
   obtain⟨vs',y1,_⟩:=o.pw j fs h';rw[s]at z1;rw[s']at y1;have e1:l=F.pin i:=by cases z1;rfl
   have e2:l=F.pin j:=by cases y1;rfl
   exact(z6 j fs h' (e2.symm.trans e1)).symm
theorem Own.back(o:Own K G0 F G ω σ H)(hI:∀(i:Nat)ds,I i=some ds->∃es,ω[i]?=some (some (.ow es))\/ω[i]?=some (some (.pw es)))(hP:∀b,P b->∃i ds,I i=some ds/\σ[i]?=some (some (.ref b)))(x:Ext G (Xa P H) G' H')(hn:∀(i:Nat)ds l,I i=some ds->σ[i]?=some (some (.ref l))->∃us,H' l=some (.lst us)/\G' l=none/\YQ K G' ds us):Own K G0 F G' (XL I ω) σ H':=by
 have nP:∀{i:Nat}{es:List D}{l:vF},I i=none->(ω[i]?=some (some (.ow es))\/ω[i]?=some (some (.pw es)))->σ[i]?=some (some (.ref l))->¬P l:=λ{i es l} h1 h2 h3 z=>by
  obtain⟨j,ds,a1,a2⟩:=hP l z;obtain⟨fs,a3⟩:=hI j ds a1;have:=o.apart h2 a3 h3 a2;subst this;rw[h1]at a1;cases a1
 have Pl:∀{b:vF},P b->∃vs,H b=some (.lst vs)/\F.hp b=none:=λ{b} z=>by
  obtain⟨j,ds,a1,a2⟩:=hP b z;obtain⟨fs,a3⟩:=hI j ds a1;obtain⟨l,vs,b1,b2,b3,b4⟩:=o.at a3;rw[a2]at b1;cases b1;exact⟨vs,b2,b4⟩
 refine⟨⟨o.ext.gg.trans x.gg,x.gh,λb u z=>?_,λb z1 z2=>?_⟩,?_,λi d h=>?_,λi ds h=>?_,λi j ds es l h h' s s'=>?_,λi ks ds h=>?_,λi ds h=>?_⟩
 ·refine x.hh b u ?_
  rw[q1P λp=>by obtain⟨_,_,e⟩:=Pl p;rw[e]at z;cases z];exact o.ext.hh b u z
 ·refine x.new b (o.ext.new b z1 z2) ?_
  rw[q1P λp=>z2 (Pl p).choose_spec.2];exact λe=>z2 (o.ext.hh.free e)
 ·unfold XL;rw[List.length_mapIdx,o.len]
 ·obtain⟨u,e1,e2⟩:=q05 h
  have:=qgd e2;subst this;obtain⟨v,a1,a2⟩:=o.sh i d e1;exact⟨v,a1,a2.mono x.gg⟩
 ·obtain⟨u,e1,e2⟩:=q05 h
  rcases q4A e2 with⟨c1,es,rfl⟩|⟨c1,rfl⟩
  ·obtain⟨l,vs,a1,a2,a3,a4,a5⟩:=o.ow i es e1
   obtain⟨us,b1,b2,b3⟩:=hn i ds l c1 a1;exact⟨l,us,a1,b1,b2,a4,b3⟩
  ·obtain⟨l,vs,a1,a2,a3,a4,a5⟩:=o.ow i ds e1
   have np:=nP c1 (.inl e1) a1;have hl:Xa P H l=some (.lst vs):=by rw[q1P np];exact a2
   exact⟨l,vs,a1,x.hh _ _ hl,x.new l a3 (by rw[hl];exact λz=>by cases z),a4,a5.mono x.gg⟩
 ·obtain⟨u,e1,e2⟩:=q05 h
  obtain⟨u',e1',e2'⟩:=q05 h';have w:∃es,ω[i]?=some (some (.ow es)):=by rcases q4A e2 with⟨c1,es,rfl⟩|⟨c1,rfl⟩ <;> exact⟨_,e1⟩
  have w':∃es,ω[j]?=some (some (.ow es)):=by rcases q4A e2' with⟨c1,es,rfl⟩|⟨c1,rfl⟩ <;> exact⟨_,e1'⟩
  obtain⟨a,w⟩:=w;obtain⟨b,w'⟩:=w';exact o.nd i j a b l w w' s s'
 ·obtain⟨u,e1,e2⟩:=q05 h
  have:=qap e2;subst this;obtain⟨p,vs,a1,a2,a3,a4,a5,a6,a7⟩:=o.od i ks ds e1;have np:¬P p:=λz=>by obtain⟨_,e,_⟩:=Pl z;rw[a2]at e;cases e
  have hl:Xa P H p=some (.dK (kvsOf ks vs)):=by rw[q1P np];exact a2
  refine⟨p,vs,a1,x.hh _ _ hl,x.new p a3 (by rw[hl];exact λz=>by cases z),a4,a5,a6.mono x.gg,λj ks' es h' s'=>?_⟩;obtain⟨u',e1',e2'⟩:=q05 h';have:=qap e2';subst this;exact a7 j ks' es e1' s'
 ·obtain⟨u,e1,e2⟩:=q05 h
  obtain⟨es,w⟩:∃es,ω[i]?=some (some (.pw es)):=by rcases q7g e2 with⟨c1,es,rfl⟩|⟨c1,rfl⟩ <;> exact⟨_,e1⟩
  obtain⟨vs,a1,a2,a3,a4,a5,a6,a7⟩:=o.pw i es w;have uq:∀(j:Nat)es',(XL I ω)[j]?=some (some (.pw es'))->F.pin j=F.pin i->j=i:=λj es' h' y=>by
   obtain⟨u',e1',e2'⟩:=q05 h';rcases q7g e2' with⟨c1,fs,rfl⟩|⟨c1,rfl⟩
   ·exact a6 j _ e1' y
   ·exact a6 j _ e1' y
  have ap:∀(j:Nat)es',(XL I ω)[j]?=some (some (.ow es'))->σ[j]?≠some (some (.ref (F.pin i))):=λj es' h'=>by
   obtain⟨u',e1',e2'⟩:=q05 h';rcases q4A e2' with⟨c1,fs,rfl⟩|⟨c1,rfl⟩
   ·exact a7 j _ e1'
   ·exact a7 j _ e1'
  rcases q7g e2 with⟨c1,fs,rfl⟩|⟨c1,rfl⟩
  ·obtain⟨us,b1,b2,b3⟩:=hn i ds _ c1 a1
   exact⟨us,a1,b1,b2,a4,b3,uq,ap⟩
  ·rw[w]at e1
   cases e1;have np:=nP c1 (.inr w) a1;have hl:Xa P H (F.pin i)=some (.lst vs):=by rw[q1P np];exact a2
   exact⟨vs,a1,x.hh _ _ hl,x.new _ a3 (by rw[hl];exact λz=>by cases z),a4,a5.mono x.gg,uq,ap⟩
end
noncomputable def Ym:List (Option Nat)->WSt->Nat->Option (List D)
 | some k::is,some (.pw ds)::r,i=>if i=k then some ds else Ym is r i
 | _::is,_::r,i=>Ym is r i
 | _,_,_=>none
noncomputable def Yg:List (Option Nat)->WSt->Bool
 | some _::is,some (.pw _)::r=>Yg is r
 | some _::_,_=>false
 | none::is,_::r=>Yg is r
 | none::is,[]=>Yg is []
 | [],_=>true
noncomputable def Yj:List (Option Nat)->Bool
 | some i::is=>!is.contains (some i)&&Yj is
 | none::is=>Yj is
 | []=>true
theorem q07:∀{is:List (Option Nat)}{ω:WSt}{i:Nat}{ds:List D},Ym is ω i=some ds->∃j:Nat,is[j]?=some (some i)/\ω[j]?=some (some (.pw ds))
 | some k::is,some (.pw es)::r,i,ds,h=>by
  unfold Ym at h
  by_cases z:i=k
  ·rw[vG z]at h;cases h;subst z;exact⟨0,rfl,rfl⟩
  ·rw[vJ z]at h
   obtain⟨j,a,b⟩:=q07 h;exact⟨j+1,by simpa using a,by simpa using b⟩
 | some k::is,none::r,i,ds,h=>by
  obtain⟨j,a,b⟩:=q07 (is:=is) (ω:=r) (i:=i) (ds:=ds) (by unfold Ym at h;exact h);exact⟨j+1,by simpa using a,by simpa using b⟩
 | some k::is,↥d::r,i,ds,h=>by
  obtain⟨j,a,b⟩:=q07 (is:=is) (ω:=r) (i:=i) (ds:=ds) (by unfold Ym at h;exact h);exact⟨j+1,by simpa using a,by simpa using b⟩
 | some k::is,some (.ow d)::r,i,ds,h=>by
  obtain⟨j,a,b⟩:=q07 (is:=is) (ω:=r) (i:=i) (ds:=ds) (by unfold Ym at h;exact h);exact⟨j+1,by simpa using a,by simpa using b⟩
 | some k::is,some (.od ks d)::r,i,ds,h=>by
  obtain⟨j,a,b⟩:=q07 (is:=is) (ω:=r) (i:=i) (ds:=ds) (by unfold Ym at h;exact h);exact⟨j+1,by simpa using a,by simpa using b⟩
 | none::is,w::r,i,ds,h=>by
  obtain⟨j,a,b⟩:=q07 (is:=is) (ω:=r) (i:=i) (ds:=ds) (by unfold Ym at h;exact h);exact⟨j+1,by simpa using a,by simpa using b⟩
 | [],_,_,_,h=>by unfold Ym at h;cases h
 | some _::_,[],_,_,h=>by unfold Ym at h;cases h
 | none::_,[],_,_,h=>by unfold Ym at h;cases h
theorem q2S:∀{is:List (Option Nat)}{ω:WSt},Yg is ω=true->Yj is=true->∀{j i:Nat},is[j]?=some (some i)->∃ds,Ym is ω i=some ds/\ω[j]?=some (some (.pw ds))
 | some k::is,some (.pw es)::r,hb,hs,j,i,h=>by
  rw[Yj,zr]at hs;rw[Yg]at hb;cases j with
  | zero=>
   have:k=i:=by simpa using h
   subst this;exact⟨es,by unfold Ym;rw[vG rfl],rfl⟩
  | succ j=>
   have h':is[j]?=some (some i):=by simpa using h
   obtain⟨ds,a,b⟩:=q2S hb hs.2 h';refine⟨ds,?_,by simpa using b⟩;unfold Ym;rw[vJ λz=>?_]
   ·exact a
   ·have:=hs.1
    rw[<- z]at this;have m:some i∈is:=zg h';simp[m]at this
 | none::is,w::r,hb,hs,j,i,h=>by
  rw[Yj]at hs;rw[Yg]at hb;cases j with
  | zero=>simp at h
  | succ j=>
   obtain⟨ds,a,b⟩:=q2S hb hs (j:=j) (i:=i) ⇑h;exact⟨ds,by unfold Ym;exact a,by simpa using b⟩
 | none::is,[],hb,hs,j,i,h=>by
  rw[Yj]at hs;rw[Yg]at hb;cases j with
  | zero=>simp at h
  | succ j=>
   obtain⟨ds,a,b⟩:=q2S hb hs (j:=j) (i:=i) ⇑h;simp at b
 | [],_,_,_,j,i,h=>by simp at h
 | some _::_,[],hb,_,_,_,_=>by unfold Yg at hb;cases hb
 | some _::_,none::_,hb,_,_,_,_=>by unfold Yg at hb;cases hb
 | some _::_,↥_::_,hb,_,_,_,_=>by unfold Yg at hb;cases hb
 | some _::_,some (.ow _)::_,hb,_,_,_,_=>by unfold Yg at hb;cases hb
 | some _::_,some (.od _ _)::_,hb,_,_,_,_=>by unfold Yg at hb;cases hb
theorem q5l:∀{is:List (Option Nat)},Yj is=true->∀{j k i:Nat},is[j]?=some (some i)->is[k]?=some (some i)->j=k
 | [],_,j,k,i,h,_=>by simp at h
 | none::is,hs,0,k,i,h,h'=>by simp at h
 | none::is,hs,j+1,0,i,h,h'=>by simp at h'
 | none::is,hs,j+1,k+1,i,h,h'=>by
  rw[Yj]at hs;rw[q5l hs (j:=j) (k:=k) (i:=i) ⇑h ⇑h']
 | some a::is,hs,0,0,i,h,h'=>rfl
 | some a::is,hs,0,k+1,i,h,h'=>by
  rw[Yj,zr]at hs;have e:a=i:=by simpa using h
  have m:some i∈is:=zg (i:=k) ⇑h';have:=hs.1;rw[e]at this;simp[m]at this
 | some a::is,hs,j+1,0,i,h,h'=>by
  rw[Yj,zr]at hs;have e:a=i:=by simpa using h'
  have m:some i∈is:=zg (i:=j) ⇑h;have:=hs.1;rw[e]at this;simp[m]at this
 | some a::is,hs,j+1,k+1,i,h,h'=>by
  rw[Yj,zr]at hs;rw[q5l hs.2 (j:=j) (k:=k) (i:=i) ⇑h ⇑h']
noncomputable def WQ(is:List (Option Nat))(m:List W->Option (D×WSt))(g:FW)(ω:WSt):Option (D×WSt):=(g ω).bind λws=>(m ws).bind λp=>if Yg is p.2=true then some (p.1,XL (Ym is p.2) ω)else none
noncomputable def Xy(is:List (Option Nat))(m:List W->Option (D×WSt))(g:FW):FS:=λω=>(WQ is m g ω).map λp=>(.nx,p.2)
section
variable{X:Cx}{e:vP}{es:List vP}{is:List (Option Nat)}{g:FW}{m:List W->Option (D×WSt)}{k k0:Nat}{f:vF}{fd:vM}{ps:List Str}{x:Str}{p pos pos' spos:Pos}
abbrev CalW(P:vO)(w:vU)(K:zC)(mg:Str->Option vB)(base:vY)(k:Nat)(f:vF)(d:vM)(x:Str)(ps:List Str)(n:Nat)(m:List W->Option (D×WSt)):Prop :=
 FnOk P w K mg base CX0 k f d ps (spW K n m)/\mg x=some (.ref f)/\xD K (.ref f)=true/\Binds K d ps []
theorem q7K{E:XK}{n:Nat}{t:TA}(hs:Yj is=true)(h2:SimWA X.K t is g)(h5:∀ω ws,g ω=some ws->ws.length=n){G0:Hp}{H0:Fr}{G:Hp}{ω:WSt}{σ:St}{H:Hp}{d:D}{ω':WSt}{Q:VK}(o:Own X.K G0 H0 G ω σ H)(ec:WQ is m g ω=some (d,ω'))(kk:∀v G' H',Own X.K G0 H0 G' ω' σ H'->YX G G'->Rep X.K G' d v->Q v H'):zA6 (spW X.K n m) [] E t σ H Q:=by
 obtain⟨ws,q,ec⟩:=bnd ec;obtain⟨⟨d1,ω1⟩,q2,ec⟩:=bnd ec
 by_cases hb:Yg is ω1=true
 case neg=>rw[vJ hb]at ec;cases ec
 rw[vG hb]at ec;cases ec;refine h2 G0 H0 G ω σ H ws _ o q λvs G1 H1 x1 a1 i1=>?_;have o1:=o.keep x1;refine⟨G1,ws,_,ω1,q2,h5 ω ws q,x1.gh,by rw[za];exact a1,?_,λv G2 H2 x2 y2 y3=>kk v G2 H2 ?_ (x1.gg.trans x2.gg) y3⟩
 ·rw[za]
  intro j k ds es l hj hk vj vk;obtain⟨ij,lj,b1,b2,b3,b4⟩:=i1.pw j ds hj;obtain⟨ik,lk,c1,c2,c3,c4⟩:=i1.pw k es hk;rw[vj]at b2;cases b2;rw[vk]at c2;cases c2;have:=o.apart b4 c4 b3 c3;subst this;exact q5l hs b1 c1
 ·rw[za]at x2 y2
  refine o1.back (P:=Pn ws vs) (λi ds hi=>?_) (λb ⟨j,ds,hj,hv⟩=>?_) x2 λi ds l hi hl=>?_
  ·obtain⟨j,b1,b2⟩:=q07 hi
   obtain⟨es,b3⟩:=i1.is j i b1;obtain⟨i',l,c1,c2,c3,c4⟩:=i1.pw j es b3;rw[b1]at c1;cases c1;exact⟨es,c4⟩
  ·obtain⟨i,l,c1,c2,c3,c4⟩:=i1.pw j ds hj
   rw[hv]at c2;cases c2;obtain⟨es,e1,e2⟩:=q2S hb hs c1;exact⟨i,es,e1,c3⟩
  ·obtain⟨j,b1,b2⟩:=q07 hi
   obtain⟨es,b3⟩:=i1.is j i b1;obtain⟨i',l',c1,c2,c3,c4⟩:=i1.pw j es b3;rw[b1]at c1;cases c1;rw[hl]at c3;cases c3;exact y2 j es ds l b3 c2 b2
theorem q5i(c:CalW X.prog X.w X.K X.mg X.base k f fd x ps (e::es).length m)(hr:Room k0 X.A)(ha:XWA X (e::es) is g)(hs:Yj is=true:=by rfl)(hk:k<=k0:=by decide)(hg:Gl X x:=by exact rfl)(hdb:(x==("__debug__" : Str))=false:=by decide)(he:vK (e::es) X.env=(false,eval e X.env)::vK es X.env:=by rfl)(hpl:(vn pos (vK es X.env)).any (·.1)=false:=by rfl)(hsw:vv (.Call (.Name x p) (e::es) [] pos) none spos.line X.env=pure false:=by rfl):XS X (.Expr (.Call (.Name x p) (e::es) [] pos) spos) (Xy is m g):=by
 obtain⟨⟨t,h1,h2⟩,h5⟩:=ha;refine⟨_,q2j (q3y c.1 (hr.mono hk) hg c.2.1 c.2.2.1 c.2.2.2 .nil zAK h1 hdb he hpl) hsw,λG0 H0 G ω σ H out ω' E o ec kk=>?_⟩;obtain⟨⟨d,ω1⟩,q,ec⟩:=mpd ec;cases ec;exact q7K hs h2 h5 o q λv G' H' o' s' _=>kk G' σ H' o' s'
end
noncomputable def lsetP(i:Nat)(ω:WSt)(v c:Option D)(w:Option (Option W)):Option (Out×WSt):=v.bind λd=>c.bind λc=>match c,w with
 | .int k,some (some (.pw ds))=>(ixN ds.length k).map λj=>(.nx,ω.set i (some (.pw (ds.set j d))))
 | _,_=>none
noncomputable def wshR(a:Option D)(b:Option (List W)):Option (List W):=a.bind λd=>b.map λws=>.sh d::ws
noncomputable def wpwR(a:Option (Option W))(b:Option (List W)):Option (List W):=(pwOf a).bind λds=>b.map λws=>.pw ds::ws
noncomputable def cwR(is:List (Option Nat))(m:List W->Option (D×WSt))(ω:WSt)(a:Option (List W)):Option (D×WSt):=a.bind λws=>(m ws).bind λp=>if Yg is p.2=true then some (p.1,XL (Ym is p.2) ω)else none
noncomputable def cwB(is:List (Option Nat))(ω:WSt)(a:Option (D×WSt)):Option (D×WSt):=a.bind λp=>if Yg is p.2=true then some (p.1,XL (Ym is p.2) ω)else none
noncomputable def dropP(a:Option (D×WSt)):Option (Out×WSt):=a.map λp=>(.nx,p.2)
section
variable{i k:Nat}{ω r:WSt}{d:D}{ds es:List D}{fd fk fv:FD}{g:FW}{ws:List W}{is:List (Option Nat)}{m:List W->Option (D×WSt)}{w:Option W}{I:Nat->Option (List D)}{b:FS}{n:Nat}
theorem q4L:zAD i fk fv ω=lsetP i ω (fv ω) (fk ω) ω[i]?:=rfl
theorem p_ls{k:Int}(h0:0<=k)(h1:k<ds.length):lsetP i ω (some d) (some (.int k)) (some (some (.pw ds)))=some (.nx,ω.set i (some (.pw (ds.set k.toNat d)))):=by
 show Z3 _ (ixN ds.length k)=_;have:ixN ds.length k=some k.toNat:=by
  unfold ixN;simp only[h0,h1,Int.not_lt.mpr h0]
  first|rfl|(simp;omega)
 rw[this];rfl
theorem q1y:varR (some (some (.pw ds)))=some (.vw ds):=rfl
theorem q9l:zAo ω=some []:=rfl
theorem qcx:wSh fd g ω=wshR (fd ω) (g ω):=rfl
theorem qcg:wshR (some d) (some ws)=some (.sh d::ws):=rfl
theorem qcA:wPw i g ω=wpwR ω[i]? (g ω):=rfl
theorem q6h:wpwR (some (some (.ow ds))) (some ws)=some (.pw ds::ws):=rfl
theorem e_cw:WQ is m g ω=cwR is m ω (g ω):=rfl
theorem qbE:cwR is m ω (some ws)=cwB is ω (m ws):=rfl
theorem qbS:cwB is ω (some (d,r))=if Yg is r=true then some (d,XL (Ym is r) ω)else none:=rfl
theorem q63:Xy is m g ω=dropP (WQ is m g ω):=rfl
theorem e_dp:dropP (some (d,r))=some (.nx,r):=rfl
theorem qbz:Yg (some k::is) (some (.pw ds)::r)=Yg is r:=rfl
theorem qbQ:Yg (none::is) (w::r)=Yg is r:=rfl
theorem qbI:Yg [] r=true:=by cases r <;> rfl
theorem qbU:XL I (w::r)=WO (I 0) w::XL (λi=>I (i+1)) r:=by unfold XL;rw[List.mapIdx_cons]
theorem qbf:XL I []=[]:=rfl
theorem qcy{j:Nat}:Ym (some k::is) (some (.pw ds)::r) j=if j=k then some ds else Ym is r j:=rfl
theorem qbh{j:Nat}:Ym (none::is) (w::r) j=Ym is r j:=by
 cases w with
 | none=>rfl
 | some w=>cases w <;> rfl
theorem qbs{j:Nat}:Ym [] r j=none:=by cases r <;> rfl
theorem qcp:WO none w=w:=q4m
theorem qcn:WO (some ds) (some (.ow es))=some (.ow ds):=rfl
end
end Hk
namespace Hk
open PySem PyProof.Rows
noncomputable def kcl(c:Int)(l:List ui):List ui:=l.filter λp=>t9 p.1==c
def WX(l m:List ui):Prop:=∀c,kcl c l=kcl c m
theorem q0q(c:Int)(a b:List ui):kcl c (a++b)=kcl c a++kcl c b:=xg ..
theorem q4N(c:Int)(a:List ui):kcl c a.reverse=(kcl c a).reverse:=List.filter_reverse ..
theorem q5X{c:Int}{l:List ui}(h:∀p∈l,t9 p.1≠c):kcl c l=[]:=List.filter_eq_nil_iff.mpr λp hp=>by simpa using h p hp
theorem q3z{xs:Array ui}{i:Nat}{p:ui}(h:xs.toList[i]?=some p):K xs i=t9 p.1:=by
 unfold K;rw[<- zZ,h]
theorem qav{α:Type}{l:List α}{i j:Nat}{p:α}(h:p∈(l.take j).drop i):∃n,i<=n/\n<j/\l[n]?=some p:=by
 obtain⟨m,hm⟩:=yn.mp h;rw[yr,yc]at hm
 split at hm
 ·exact⟨i+m,∅,by assumption,hm⟩
 ·cases hm
theorem cut3{α:Type}(l:List α){i j:Nat}(h:i<=j):l.take i++((l.take j).drop i++l.drop j)=l:=by
 have:l.take i=(l.take j).take i:=by rw[Z4,Zs h]
 rw[this,<- yB,yy,yy]
theorem q39{xs:Array ui}{i j:Nat}(hij:i<=j)(hj:j<=xs.size):(mirror xs i j ((j-i)/2)).toList=xs.toList.take i++(((xs.toList.take j).drop i).reverse++xs.toList.drop j):=by
 apply yY;intro k;rw[zZ,getElem?_mirror_all hj];have hl:xs.toList.length=xs.size:=zL;rcases zo k i with h1|h1
 ·rw[vJ ∅,zV (by rw[zY];omega),yc,vG h1,zZ]
 ·rw[zP (by rw[zY];omega),zY,show min i xs.toList.length=i by omega]
  have ld:((xs.toList.take j).drop i).length=j-i:=by rw[yG,zY];omega
  rcases zo k j with h2|h2
  ·rw[vG ⟨h1,h2⟩,zV (by rw[xC,ld];omega),List.getElem?_reverse (by rw[ld];omega),ld,yr,yc,vG ∅,zZ]
   congr 1;omega
  ·rw[vJ ∅,zP (by rw[xC,ld];omega),xC,ld,yr,zZ]
   congr 1;omega
theorem qa6{xs:Array ui}{j l:Nat}(hs:j<xs.size)(hl:l<=j):(bubble xs j (j-l)).toList=xs.toList.take l++(xs[j]::((xs.toList.take j).drop l++xs.toList.drop (j+1))):=by
 apply yY;intro k;rw[zZ,getElem?_bubble hs _ ∅,show j-(j-l)=l by omega];have hn:xs.toList.length=xs.size:=zL;rcases zo k l with h1|h1
 ·rw[vJ ∅,vJ ∅,zV (by rw[zY];omega),yc,vG h1,zZ]
 ·rw[zP (by rw[zY];omega),zY,show min l xs.toList.length=l by omega]
  rcases xh h1 with h2|h2
  ·subst h2
   rw[vG rfl,wG,ye,getElem?_pos xs j hs]
  ·rw[vJ ∅]
   obtain⟨m,hm⟩:∃m,k-l=m+1:=⟨k-l-1,∅⟩;rw[hm,yf];have ld:((xs.toList.take j).drop l).length=j-l:=by rw[yG,zY];omega
   rcases zo m (j-l)with h3|h3
   ·rw[vG ∅,zV (by rw[ld];exact h3),yr,yc,vG ∅,zZ]
    congr 1;omega
   ·rw[vJ ∅,zP (by rw[ld];exact h3),ld,yr,zZ]
    congr 1;omega
theorem q9U{xs:Array ui}{j l:Nat}(hs:j<xs.size)(hl:l<=j)(h:∀i,l<=i->i<j->K xs j<K xs i):WX (bubble xs j (j-l)).toList xs.toList:=by
 intro c;have hx:xs.toList[j]?=some xs[j]:=by rw[zZ,getElem?_pos xs j hs]
 have e:xs.toList=xs.toList.take l++((xs.toList.take j).drop l++(xs[j]::xs.toList.drop (j+1))):=by
  have d:xs.toList.drop j=xs[j]::xs.toList.drop (j+1):=by
   rw[yz (by rw[zL];exact hs),Array.getElem_toList]
  rw[<- d,cut3 _ hl]
 rw[qa6 hs hl,q0q];have e2:kcl c xs.toList=kcl c (xs.toList.take l)++(kcl c ((xs.toList.take j).drop l)++kcl c (xs[j]::xs.toList.drop (j+1))):=by
  conv=>lhs;rw[e]
  rw[q0q,q0q]
 rw[e2]
 congr 1
 show kcl c ([xs[j]]++((xs.toList.take j).drop l++xs.toList.drop (j+1)))=_++kcl c ([xs[j]]++xs.toList.drop (j+1));rw[q0q,q0q,q0q]
 by_cases z:t9 xs[j].1=c
 ·have no:kcl c ((xs.toList.take j).drop l)=[]:=q5X λp hp=>by
   obtain⟨n,n1,n2,n3⟩:=qav hp;have k1:=q3z n3;have k2:=q3z hx;have:=h n n1 n2;omega
  rw[no,yQ,yQ]
 ·have no:kcl c [xs[j]]=[]:=q5X λp hp=>by cases zT.mp hp;exact z
  rw[no,yQ,yQ]
structure DInv (a₀:Array ui) (xs:Array ui) (x neq:Nat):Prop where
 le:neq+1<=x
 ni:sV xs x
 eq:∀i,x-(neq+1)<=i->i<x->K xs i=K xs (x-1)
 lt:0<x-(neq+1)->K xs (x-(neq+1))<K xs (x-(neq+1)-1)
 cl:∀c,kcl c (xs.toList.take (x-(neq+1)))=(kcl c (a₀.toList.take (x-(neq+1)))).reverse
 dr:xs.toList.drop (x-(neq+1))=a₀.toList.drop (x-(neq+1))
theorem DInv.flip{a₀ xs:Array ui}{x neq:Nat}(D:DInv a₀ xs x neq)(hx:x<=xs.size)(hz:xs.size=a₀.size):
  (∀c,kcl c ((mirror xs (x-(neq+1)) x ((x-(x-(neq+1)))/2)).toList.take x)=(kcl c (a₀.toList.take x)).reverse)/\(mirror xs (x-(neq+1)) x ((x-(x-(neq+1)))/2)).toList.drop x=a₀.toList.drop x:=by
 have hb:x-(neq+1)<=x:=Nat.sub_le _ _;have hle:=D.le;have hbx:x-(neq+1)<x:=∅
 have lt:=D.lt;have eq:=D.eq;have ni:=D.ni;have cl:=D.cl;have dr:=D.dr;generalize x-(neq+1)=b at hb hbx lt eq cl dr;have hn:xs.toList.length=xs.size:=zL;have hn0:a₀.toList.length=a₀.size:=zL;have run:(xs.toList.take x).drop b=(a₀.toList.take x).drop b:=by
  rw[Z5,Z5,dr]
 have lrun:((xs.toList.take x).drop b).length=x-b:=by rw[yG,zY];omega
 rw[q39 hb hx];have l1:(xs.toList.take b++((xs.toList.take x).drop b).reverse).length=x:=by
  rw[zE,xC,lrun,zY];omega
 rw[<- yB];refine⟨λc=>?_,?_⟩
 ·rw[Zt l1,q0q,q4N,run]
  have e0:a₀.toList.take x=a₀.toList.take b++(a₀.toList.take x).drop b:=by
   have:a₀.toList.take b=(a₀.toList.take x).take b:=by rw[Z4,Zs hb]
   rw[this,yy]
  have e9:kcl c (a₀.toList.take x)=kcl c (a₀.toList.take b)++kcl c ((a₀.toList.take x).drop b):=(vq (kcl c) e0).trans (q0q c _ _);rw[e9,List.reverse_append,<- cl c]
  by_cases z:c=K xs (x-1)
  ·have no:kcl c (xs.toList.take b)=[]:=q5X λp hp=>by
    obtain⟨m,hm⟩:=yn.mp hp;rw[yc]at hm
    split at hm
    ·rename_i hmb
     have k1:=q3z hm;have k2:=lt ∅;have k3:=ni m (b-1) ∅ ∅;have k4:K xs b=K xs (x-1):=eq b (zI _) hbx;omega
    ·cases hm
   rw[no,yQ,za]
  ·have no:kcl c ((a₀.toList.take x).drop b)=[]:=q5X λp hp=>by
    rw[<- run]at hp;obtain⟨n,n1,n2,n3⟩:=qav hp;have k1:=q3z n3;have k2:=eq n n1 n2;intro y;exact z ∅
   rw[no,List.reverse_nil,za,yQ]
 ·rw[Zu l1]
  have e1:xs.toList.drop x=(xs.toList.drop b).drop (x-b):=by rw[Z6];congr 1;omega
  have e2:a₀.toList.drop x=(a₀.toList.drop b).drop (x-b):=by rw[Z6];congr 1;omega
  rw[e1,e2,dr]
section
variable{prog:vO}{w:vU}{A:vZ}{E:vB->vC->Prop}{s:vC}{a₀:Array ui}
theorem q4C{xs ys:Array ui}{x:Nat}(h:sV xs x)(e:∀k,K ys k=K xs k)(hl:x=0\/K xs x<=K xs (x-1)):sV ys (x+1):=by
 intro i j hij hj;rw[e,e];rcases zo j x with y|y
 ·exact h i j hij y
 ·obtain rfl:j=x:=∅
  rcases xh hij with z|z
  ·rw[z];exact yk _
  ·rcases hl with hl|hl
   ·omega
   ·exact Ze hl (h i (j-1) ∅ ∅)
theorem qab{st:ur}{n nrem:Nat}{Q:DescSt->ur->Prop}(h0:IntKeys a₀)(hn:nrem<=a₀.size)(h1:1<=n)(hnn:n<=nrem)(hB:tE a₀ st)(hD:DInv a₀ (vT st) n 0)(h:∀m neq st',tE a₀ st'->n<=m->m<=nrem->DInv a₀ (vT st') m neq->Q (none,m,neq) st'):wpS (model prog w) A E s (descLoop n nrem) Q st:=by
 unfold descLoop;refine u3 (I:=λx c st'=>∃neq,c=(none,x,neq)/\tE a₀ st'/\DInv a₀ (vT st') x neq) ?turn ?done ⟨0,rfl,hB,hD⟩
 case done=>
  rintro c st' ⟨neq,rfl,b1,b2⟩;rw[Nat.max_eq_right hnn]at b2 ⊢;exact h nrem neq st' b1 hnn (zI _) b2
 case turn=>
  rintro x c st' hx1 hx2 ⟨neq,rfl,b1,D⟩
  dsimp only
  have hsz:(vT st').size=a₀.size:=b1.size;have hle:=D.le;refine vp (wpS_ltK b1 h0 ∅ ∅ ?_)
  by_cases less:K (vT st') x<K (vT st') (x-1)
  ·rw[vW less]
   simp only[if_true];obtain⟨f1,f2⟩:=D.flip ∅ hsz;have ke:=tj (xs:=vT st') (i:=x-(neq+1)) (j:=x) ∅ D.eq;have next:DInv a₀ (mirror (vT st') (x-(neq+1)) x ((x-(x-(neq+1)))/2)) (x+1) 0:=by
    refine⟨∅,q4C D.ni ke (.inr (xp less)),λi i1 i2=>?_,λ_=>?_,?_,?_⟩
    ·congr 1;omega
    ·show K _ x<K _ (x-1)
     rw[ke,ke];exact less
    ·exact f1
    ·exact f2
   by_cases hq:neq>0
   ·rw[vG hq]
    exact vp (tm (uC ⟨0,rfl,b1.setArr (tF _ _ _ _),next⟩))
   ·rw[vJ hq]
    have hq0:neq=0:=∅
    subst hq0;have e:mirror (vT st') (x-(0+1)) x ((x-(x-(0+1)))/2)=vT st':=by
     have:(x-(x-(0+1)))/2=0:=∅
     rw[this];rfl
    rw[e]at next
    exact uC ⟨0,rfl,b1,next⟩
  ·rw[vS less]
   simp only[yC,if_false];refine vp (wpS_ltK b1 h0 ∅ ∅ ?_)
   by_cases more:K (vT st') (x-1)<K (vT st') x
   ·rw[vW more]
    simp only[if_true];exact uC (h x neq st' b1 hx1 ∅ D)
   ·rw[vS more]
    simp only[yC,if_false];have ex:K (vT st') x=K (vT st') (x-1):=∅
    have eb:x+1-(neq+1+1)=x-(neq+1):=∅
    refine uC ⟨neq+1,rfl,b1,∅,q4C D.ni (λ_=>rfl) (.inr ∅),λi i1 i2=>?_,?_,?_,?_⟩
    ·rw[eb]at i1
     rw[show x+1-1=x by omega,ex];rcases zo i x with y|y
     ·exact D.eq i i1 y
     ·obtain rfl:i=x:=∅
      exact ex
    ·rw[eb];exact D.lt
    ·rw[eb];exact D.cl
    ·rw[eb];exact D.dr
theorem qao{st:ur}{n nrem:Nat}{Q:Option Nat->ur->Prop}(h0:IntKeys a₀)(hn:nrem<=a₀.size)(h1:1<=n)(hnn:n<=nrem)(hB:tE a₀ st)(hs:sV (vT st) n)(hc:∀c,kcl c ((vT st).toList.take n)=(kcl c (a₀.toList.take n)).reverse)(hd:(vT st).toList.drop n=a₀.toList.drop n)(h:∀m st',tE a₀ st'->1<=m->m<=nrem->uj (vT st') m->WX (vT st').toList a₀.toList->Q (some m) st'):wpS (model prog w) A E s (tail3 n nrem) Q st:=by
 unfold tail3;have hsz:n<=(vT st).size:=by rw[hB.size];omega
 refine vp (tm ?_);have b1:tE a₀ (setArr st (mirror (vT st) 0 n ((n-0)/2))):=hB.setArr (tF _ _ _ _);have stb:WX (mirror (vT st) 0 n ((n-0)/2)).toList a₀.toList:=λc=>by
  rw[q39 (zy _) hsz,Z7,yQ,wy,q0q,q4N,hc c,wz,hd,<- q0q,yy]
 refine vp (wpS_ascLoop h0 hn h1 hnn b1 (λi j hij hj=>?_) λm m1 m2 m3 _=>uC (h m _ b1 ∅ m2 m3 stb));show K (mirror (vT st) 0 n ((n-0)/2)) i<=K (mirror (vT st) 0 n ((n-0)/2)) j;rw[K_mirror hsz,K_mirror hsz,vG ∅,vG ∅];exact hs _ _ ∅ ∅
theorem q4W{st:ur}{n nrem:Nat}{Q:Option Nat->ur->Prop}(h0:IntKeys a₀)(hn:nrem<=a₀.size)(hnn:n+1<=nrem)(hB:tE a₀ st)(hD:DInv a₀ (vT st) (n+1) 0)(h:∀m st',tE a₀ st'->1<=m->m<=nrem->uj (vT st') m->WX (vT st').toList a₀.toList->Q (some m) st'):wpS (model prog w) A E s (descPart n nrem) Q st:=by
 unfold descPart;refine vp (wpS_lift (uP ⟨rfl,?_⟩));refine vp (qab h0 hn ∅ hnn hB hD λm neq st' b1 m1 m2 D=>?_)
 dsimp only
 have hsz:(vT st').size=a₀.size:=b1.size;have hle:=D.le;obtain⟨f1,f2⟩:=D.flip ∅ hsz;have ke:=tj (xs:=vT st') (i:=m-(neq+1)) (j:=m) ∅ D.eq
 by_cases hq:neq>0
 ·rw[vG hq]
  refine vp (tm (qao h0 hn ∅ m2 (b1.setArr (tF _ _ _ _)) (λi j hij hj=>?_) f1 f2 h));show K (mirror (vT st') _ _ _) j<=K (mirror (vT st') _ _ _) i;rw[ke,ke];exact D.ni i j hij hj
 ·rw[vJ hq]
  have hq0:neq=0:=∅
  subst hq0;have e:mirror (vT st') (m-(0+1)) m ((m-(m-(0+1)))/2)=vT st':=by
   have:(m-(m-(0+1)))/2=0:=∅
   rw[this];rfl
  rw[e]at f1 f2;exact qao h0 hn ∅ m2 b1 D.ni f1 f2 h
theorem q9W{st:ur}{nrem:Nat}{Q:Option Nat->ur->Prop}(h0:IntKeys a₀)(hn:nrem<=a₀.size)(h1:1<=nrem)(hB:tE a₀ st)(hA:vT st=a₀)(h:∀m st',tE a₀ st'->1<=m->m<=nrem->uj (vT st') m->WX (vT st').toList a₀.toList->Q (some m) st'):wpS (model prog w) A E s (countRun' 0 nrem) Q st:=by
 rw[countRun0_eq];refine vp (wpS_ascLoop h0 hn (zI 1) h1 hB (λi j hij hj=>by obtain rfl:i=j:=∅;exact yk _) λn n1 n2 n3 n4=>?_)
 dsimp only
 have same:WX (vT st).toList a₀.toList:=λc=>by rw[hA]
 by_cases e1:n=nrem
 ·rw[vG ⇑e1]
  exact uC (h n st hB n1 n2 n3 same)
 ·rw[vJ ⇑e1]
  have lt:=n4.resolve_left e1
  by_cases e2:n>1
  ·rw[vG e2]
   refine vp (wpS_ltK hB h0 ∅ ∅ ?_)
   by_cases rose:K (vT st) 0<K (vT st) (n-1)
   ·rw[vW rose]
    simp only[if_true];exact uC (h n st hB n1 n2 n3 same)
   ·rw[vS rose]
    simp only[yC,if_false];have hsz:n<=(vT st).size:=by rw[hB.size];omega
    have all:∀k,0<=k->k<n->K (vT st) k=K (vT st) (n-1):=λk _ hk=>by
     have a1:=n3 0 k ∅ hk;have a2:=n3 k (n-1) ∅ ∅;omega
    have ke:=tj (xs:=vT st) (i:=0) (j:=n) hsz all;refine vp (tm (q4W h0 hn ∅ (hB.setArr (tF _ _ _ _)) ?_ h));show DInv a₀ (mirror (vT st) 0 n ((n-0)/2)) (n+1) 0;have ml:=q39 (zy n) hsz;rw[Z7,yQ,wy]at ml;have ll:(((vT st).toList.take n).reverse).length=n:=by rw[xC,zY,zL];omega
    have ni:sV (vT st) n:=λi j hij hj=>by rw[all i ∅ ∅,all j ∅ hj];exact yk _
    refine⟨∅,q4C ni ke (.inr (xp lt)),λi i1 i2=>?_,λ_=>?_,λc=>?_,?_⟩
    ·congr 1;omega
    ·show K _ n<K _ (n-1)
     rw[ke,ke];exact lt
    ·show kcl c ((mirror (vT st) 0 n ((n-0)/2)).toList.take n)=(kcl c (a₀.toList.take n)).reverse
     rw[ml,Zt ll,q4N,hA]
    ·show (mirror (vT st) 0 n ((n-0)/2)).toList.drop n=a₀.toList.drop n
     rw[ml,Zu ll,hA]
  ·rw[vJ e2]
   obtain rfl:n=1:=∅
   refine q4W h0 hn ∅ hB ?_ h;have ni:sV (vT st) 1:=λi j hij hj=>by obtain rfl:i=j:=∅;exact yk _
   refine⟨∅,q4C ni (λ_=>rfl) (.inr (xp lt)),λi i1 i2=>?_,λ_=>lt,λc=>?_,?_⟩
   ·congr 1;omega
   ·show kcl c ((vT st).toList.take 1)=(kcl c (a₀.toList.take 1)).reverse
    rw[hA,<- q4N];cases a₀.toList with
    | nil=>rfl
    | cons p r=>rfl
   ·rw[hA]
theorem qcE{st:ur}{n ok:Nat}{Q:Bool->ur->Prop}(h0:IntKeys a₀)(hn:n<=a₀.size)(hok:ok<=n)(hB:tE a₀ st)(hs:uj (vT st) ok)(hS:WX (vT st).toList a₀.toList)(h:∀st',tE a₀ st'->uj (vT st') n->WX (vT st').toList a₀.toList->Q true st'):wpS (model prog w) A E s (binarySort' 0 n ok) Q st:=by
 rw[binarySort'_eq];simp only[xV];refine vp (sW (u3 (I:=λj c st'=>c=(none,())/\tE a₀ st'/\uj (vT st') (min j n)/\WX (vT st').toList a₀.toList)
  (Q:=λc st'=>c=(none,())/\tE a₀ st'/\uj (vT st') n/\WX (vT st').toList a₀.toList) ?turn ?done ?first) λc st' z=>?_)
 case first=>
  refine⟨rfl,hB,λi j hij hj=>?_,hS⟩
  by_cases y:ok=0
  ·obtain rfl:i=j:=∅
   exact yk _
  ·exact hs i j hij ∅
 case done=>
  rintro c st' ⟨hc,b1,b2,b3⟩;rw[show min (max (max ok 1) n) n=n by omega]at b2;exact⟨hc,b1,b2,b3⟩
 case turn=>
  rintro j c st' j1 j2 ⟨rfl,b1,b2,b3⟩;rw[show min j n=j by omega]at b2;have hj:j<a₀.size:=∅
  have hjs:j<(vT st').size:=by rw[b1.size];exact hj
  refine vp (sW (u3 (I:=λx c st2=>st2=st'/\∃l r,c=(none,l,r)/\l<=r/\r<=j/\r-l<=j-x/\(∀i,i<l->K (vT st') i<=K (vT st') j)/\∀i,r<=i->i<j->K (vT st') j<K (vT st') i)
   (Q:=λc st2=>st2=st'/\∃l r,c=(none,l,r)/\l<=j/\(∀i,i<l->K (vT st') i<=K (vT st') j)/\∀i,l<=i->i<j->K (vT st') j<K (vT st') i) ?half ?found ?all) λc st2 z=>?_)
  case all=>exact⟨rfl,0,j,rfl,zy _,zI _,∅,λi y=>∅,λi y1 y2=>∅⟩
  case found=>
   rintro c st2 ⟨rfl,l,r,rfl,c1,c2,c3,c4,c5⟩;obtain rfl:l=r:=∅
   exact⟨rfl,l,l,rfl,c2,c4,c5⟩
  case half=>
   rintro x c st2 _ hx ⟨rfl,l,r,rfl,c1,c2,c3,c4,c5⟩
   dsimp only
   by_cases y:l>=r
   ·rw[vG y]
    obtain rfl:l=r:=∅
    exact uC ⟨rfl,l,l,rfl,c2,c4,c5⟩
   ·rw[vJ y]
    refine vp (wpS_ltK b1 h0 hj ∅ ?_)
    by_cases less:K (vT st2) j<K (vT st2) ((l+r)/2)
    ·rw[vW less]
     simp only[if_true];refine uC ⟨rfl,l,(l+r)/2,rfl,∅,∅,∅,c4,λi i1 i2=>?_⟩;exact Int.lt_of_lt_of_le less (b2 _ _ i1 i2)
    ·rw[vS less]
     simp only[yC,if_false];refine uC ⟨rfl,(l+r)/2+1,r,rfl,∅,∅,∅,λi i1=>?_,c5⟩;have:=b2 i ((l+r)/2) ∅ ∅;omega
  obtain⟨rfl,l,r,rfl,c1,c2,c3⟩:=z;show wpS _ _ _ _ (do moveDown' j l;pure (ForInStep.yield (none,()))) _ _;rw[moveDown'_eq];refine vp (wpS_modify (uC ⟨rfl,b1.setArr (bubble_perm _ _ _),?_,?_⟩))
  ·rw[show min (j+1) n=j+1 by omega]
   intro i k hik hk;show K (bubble (vT st2) j (j-l)) i<=K (bubble (vT st2) j (j-l)) k;rw[K_bubble hjs ∅,K_bubble hjs ∅,show j-(j-l)=l by omega]
   repeat' split
   all_goals first
    | (exfalso;omega)
    | exact yk _
    | exact c2 _ ∅
    | exact xp (c3 _ ∅ ∅)
    | exact b2 _ _ ∅ ∅
  ·intro c
   rw[<- b3 c];exact q9U hjs c1 c3 c
 obtain⟨rfl,b1,b2,b3⟩:=z;exact uC (h st' b1 b2 b3)
def zAs(a₀:Array ui)(st:ur):Prop:=SDone a₀ st/\WX (vT st).toList a₀.toList
theorem q9X{st:ur}{Q:Unit->ur->Prop}(h0:IntKeys a₀)(hB:tE a₀ st)(hA:vT st=a₀)(h2:2<=a₀.size)(h64:a₀.size<64)(h:∀st',(vT st').Perm a₀->sX st'=none->uj (vT st') a₀.size->WX (vT st').toList a₀.toList->Q () st'):wpS (model prog w) A E s sortRuns' Q st:=by
 rw[sortRuns'_eq];refine vp (wpS_get ?_)
 dsimp only
 have mr:minRun' a₀.size a₀.size 0=a₀.size:=by
  cases e:a₀.size with
  | zero=>omega
  | succ f=>rw[minRun'_succ,vG ∅]
 simp only[hB.size,mr];refine vp (sW (u3 (I:=λx c st'=>(x=0/\c=(none,0)/\st'=st)\/(1<=x/\c=(none,a₀.size)/\zAs a₀ st')) (Q:=λc st'=>c=(none,a₀.size)/\zAs a₀ st') ?turn ?done (.inl ⟨rfl,rfl,rfl⟩)) λc st' z=>?_)
 case done=>
  rintro c st' (⟨y,_,_⟩|⟨_,y1,y2⟩)
  ·omega
  ·exact⟨y1,y2⟩
 case turn=>
  rintro x c st' _ hx (⟨rfl,rfl,rfl⟩|⟨x1,rfl,D⟩)
  ·dsimp only
   rw[vJ ∅];simp only[Nat.sub_zero,Nat.min_self,xV];refine vp (q9W h0 (zI _) ∅ hB hA λm st2 b1 m1 m2 m3 m4=>?_)
   dsimp only
   by_cases y:m<a₀.size
   ·rw[vG y]
    refine vp (wpS_lift (uP ⟨rfl,?_⟩));refine vp (qcE h0 (zI _) m2 b1 m3 m4 λst3 d1 d2 d3=>?_);simp only[wT,yC,if_false];refine vp (wpS_get ?_);have nb:(pendingOf st3).back?=none:=by rw[d1.pend];rfl
    rw[nb]
    dsimp only
    exact vp (wpS_modify (uC (.inr ⟨∅,rfl,d1.done d2,d3⟩)))
   ·rw[vJ y]
    obtain rfl:m=a₀.size:=∅
    refine vp (wpS_get ?_);have nb:(pendingOf st2).back?=none:=by rw[b1.pend];rfl
    rw[nb]
    dsimp only
    exact vp (wpS_modify (uC (.inr ⟨∅,rfl,b1.done m3,m4⟩)))
  ·dsimp only
   rw[vG (zI _)];exact uC ⟨rfl,D⟩
 obtain⟨rfl,D⟩:=z
 dsimp only
 refine vp (sW (u3 (I:=λ_ c st2=>st2=st'/\c=(none,())) (Q:=λc st2=>st2=st'/\c=(none,())) (λx c st2 _ _ y=>?_) (λ_ _ y=>y) ⟨rfl,rfl⟩) λc st2 y=>?_)
 ·obtain⟨rfl,rfl⟩:=y
  refine vp (wpS_get ?_);rw[vG (by rw[D.1.2.2.1];exact zI 1)];exact uC ⟨rfl,rfl⟩
 ·obtain⟨rfl,rfl⟩:=y
  exact uC (h _ D.1.1 D.1.2.1 D.1.2.2.2 D.2)
end
section
variable{α β:Type}
noncomputable def Xu(f:α->Int)(x:α):List α->List α
 | []=>[x]
 | y::r=>if f x<=f y then x::y::r else y::Xu f x r
noncomputable def YV(f:α->Int)(l:List α):List α:=l.foldr (Xu f) []
noncomputable def clK(f:α->Int)(c:Int)(l:List α):List α:=l.filter λx=>f x==c
theorem q4j{f:α->Int}{x:α}:∀{l:List α},(Xu f x l).Perm (x::l)
 | []=>.refl _
 | y::r=>by
  unfold Xu
  split
  ·exact .refl _
  ·exact(q4j.cons y).trans (.swap x y r)
theorem qY{f:α->Int}:∀{l:List α},(YV f l).Perm l
 | []=>.refl _
 | y::r=>q4j.trans ((qY (l:=r)).cons y)
theorem q7E(f:α->Int)(l:List α):(YV f l).length=l.length:=qY.length_eq
theorem qb1{f:α->Int}{x:α}:∀{l:List α},l.Pairwise (λa b=>f a<=f b)->(Xu f x l).Pairwise (λa b=>f a<=f b)
 | [],_=>xj _ _
 | y::r,h=>by
  obtain⟨h1,h2⟩:=zW.mp h;unfold Xu
  split
  ·rename_i z
   refine zW.mpr ⟨λa ha=>?_,h⟩;rcases zF.mp ha with rfl|ha
   ·exact z
   ·exact Ze z (h1 a ha)
  ·rename_i z
   refine zW.mpr ⟨λa ha=>?_,qb1 h2⟩;rcases zF.mp (q4j.mem_iff.mp ha)with rfl|ha
   ·omega
   ·exact h1 a ha
theorem q55{f:α->Int}:∀{l:List α},(YV f l).Pairwise (λa b=>f a<=f b)
 | []=>.nil
 | y::r=>qb1 (q55 (l:=r))
theorem qaE{f:α->Int}{x:α}(c:Int):∀{l:List α},l.Pairwise (λa b=>f a<=f b)->clK f c (Xu f x l)=clK f c (x::l)
 | [],_=>rfl
 | y::r,h=>by
  obtain⟨h1,h2⟩:=zW.mp h;unfold Xu
  split
  ·rfl
  ·rename_i z
   have ih:=qaE (x:=x) c h2;unfold clK at ih ⊢;rw[yE,ih,yE,yE,yE]
   by_cases a:f x=c
   ·have:¬f y=c:=∅
    simp[a,this]
   ·simp[a]
theorem q8M{f:α->Int}(c:Int):∀{l:List α},clK f c (YV f l)=clK f c l
 | []=>rfl
 | y::r=>by
  show clK f c (Xu f y (YV f r))=_;rw[qaE c q55];unfold clK;rw[yE,yE];have ih:=q8M (f:=f) c (l:=r);unfold clK at ih;rw[ih]
theorem q2k{f:α->Int}{a:α}{l:List α}:clK f (f a) (a::l)=a::clK f (f a) l:=by
 unfold clK;rw[yE,vG (by simp)]
theorem qaY{f:α->Int}:∀{l m:List α},l.Pairwise (λa b=>f a<=f b)->m.Pairwise (λa b=>f a<=f b)->(∀c,clK f c l=clK f c m)->l=m
 | [],m,_,_,h=>by
  cases m with
  | nil=>rfl
  | cons b m=>have:=h (f b);rw[q2k]at this;cases this
 | a::l,m,h1,h2,h=>by
  cases m with
  | nil=>have:=h (f a);rw[q2k]at this;cases this
  | cons b m=>
   obtain⟨p1,p2⟩:=zW.mp h1;obtain⟨q1,q2⟩:=zW.mp h2;have x1:a∈b::m:=by
    have:a∈clK f (f a) (b::m):=by rw[<- h,q2k];exact zH
    exact(xG.mp this).1
   have x2:b∈a::l:=by
    have:b∈clK f (f b) (a::l):=by rw[h,q2k];exact zH
    exact(xG.mp this).1
   have e:f a=f b:=by
    rcases zF.mp x1 with y|y
    ·rw[y]
    ·rcases zF.mp x2 with z|z
     ·rw[z]
     ·have:=q1 a y;have:=p1 b z;omega
   have hab:=h (f a);rw[q2k]at hab;rw[e,q2k]at hab;obtain⟨rfl,_⟩:=YC hab;refine vq (a::·) (qaY p2 q2 λc=>?_);have hc:=h c;unfold clK at hc ⊢;rw[yE,yE]at hc
   by_cases z:(f a==c)=true
   ·rw[vG z,vG z]at hc;exact(YC hc).2
   ·rw[vJ z,vJ z]at hc;exact hc
theorem q9p{f:β->Int}{g:α->β}{x:α}:∀{l:List α},Xu f (g x) (l.map g)=(Xu (λa=>f (g a)) x l).map g
 | []=>rfl
 | y::r=>by
  show (if f (g x)<=f (g y)then _ else _)=(if f (g x)<=f (g y)then _ else _:List α).map g
  split
  ·rfl
  ·rw[q9p];rfl
theorem q1b{f:β->Int}{g:α->β}:∀{l:List α},YV f (l.map g)=(YV (λa=>f (g a)) l).map g
 | []=>rfl
 | y::r=>by
  show Xu f (g y) (YV f (r.map g))=(Xu _ y (YV _ r)).map g;rw[q1b,q9p]
end
theorem qgB{a₀ xs:Array ui}(hp:xs.Perm a₀)(hs:uj xs a₀.size)(hS:WX xs.toList a₀.toList):xs.toList=YV (λp=>t9 p.1) a₀.toList:=by
 have hn:xs.size=a₀.size:=hp.size_eq;refine qaY (f:=λp:ui=>t9 p.1) (zq.mpr λi j hi hj hij=>?_) q55 λc=>(hS c).trans (q8M c).symm;have e1:=q3z (xs:=xs) (i:=i) (zB hi);have e2:=q3z (xs:=xs) (i:=j) (zB hj);rw[<- e1,<- e2];exact hs i j ∅ (by rw[zL]at hj;omega)
end Hk
namespace Hk
open PySem PySem.Spec PyProof.Rows L2
section
variable{X:Cx}{pins:List (vF×Obj)}{σ:L2.St}{H:Hp}{s:vC}
theorem qdK{h':vY}{a:vF}{ys:List V}{its:List vB}{n t':Nat}(I:Inv X pins σ H s)(fa:Xe X pins H a)(k:∀b o,b≠a->s.heap.get? b=some o->h'.get? b=some o)(new:h'.get? a=some { cls:=.type "list", data:=.seq its.toArray n })(hv:YZ ys its)(hz:ys.length<=sizeLine):Inv X pins σ (upd H a (.lst ys)) { s with heap:=h',toks:=t' }:=by
 obtain⟨f0,f1,f2,f3,f4,f5⟩:=fa;have I1:=I.turned (h':=h') (t':=t') (it:=a) k f0 f1 f3 f4 f5;have na:∀{b:vF}{u:HO},H b=some u->b≠a:=λq z=>by rw[z,f0]at q;cases q
 refine Inv.step (s:={ s with heap:=h',toks:=t' }) (H':=upd H a (.lst ys)) (h':=h') (g':=s.gens) (d':=s.drawn) (t':=t') (ch:=[a]) I1 (λb hb=>?_) (λb o _ _ _ e _=>e) (λb o _ _ _ e _=>⟨o.slots,e⟩)
  (λb o hc e n=>by rw[qc ⇑hc];exact n) (λb o _ e=>⟨o,e⟩) (λb xs q=>by rw[qc (na q)];exact q) (λb o u q=>by rw[qc (na q)];exact q)
  (λb ps q=>⟨#[],by rw[qc (na q),q];simp⟩) (λ_ hm=>hm) (λb u q=>?_) I1.bare
 ·cases zT.mp hb
  exact⟨f3,f1,f4,f5⟩
 ·by_cases z:b=a
  ·subst z
   rw[qe]at q;cases q;exact⟨hz,its,n,hv,new⟩
  ·rw[qc z]at q
   exact(I1.hok b u q).stay (λ_ _ _ q=>q) (λc q=>by rw[qc (na q)];exact q) (λc xs q=>by rw[qc (na q)];exact q)
theorem qfY{k:Nat}{f:vF}{fd:vM}{ps:List Str}{sp:Sp}{E:XK}{Q:VK}{us:List vB}{vs:List V}{E':vB->vC->Prop}(F:FnOk X.prog X.w X.K X.mg X.base CX0 k f fd ps sp)(hr:Room (k+2) X.A)(hb:Binds X.K fd ps [])(I:Inv X pins σ H s)(r:YZ vs us)(h:sp vs H Q E):vL (model X.prog X.w) X.A.in1.in1 (call (.ref f) us) (EP X pins σ Q) E' s:=by
 have hl:(us++[]).length=ps.length:=by rw[za,<- r.length];exact F.len _ _ _ _ h
 have b:=hb s us I.kIn hl;rw[za]at b;refine wpAny_call (uX (F.run X.A.in1.in1 X.stack s H ⟨us,[]⟩ us vs Q E hr.in1.in1 I.env0.in1.in1 b r h) λr s' hq=>?_);cases r with
 | error e=>exact False.elim hq
 | ok fl=>
  cases fl with
  | ret u=>exact I.after hq
  | next=>exact False.elim hq
  | brk=>exact False.elim hq
  | cont=>exact False.elim hq
end
theorem q3g{α:Type}{f g:α->Int}:∀{l:List α},(∀x∈l,f x=g x)->YV f l=YV g l
 | [],_=>rfl
 | y::r,h=>by
  show Xu f y (YV f r)=Xu g y (YV g r);rw[q3g λx hx=>h x (zJ _ hx)];have:∀{l:List α},(∀x∈l,f x=g x)->Xu f y l=Xu g y l:=λ{l} hl=>by
   induction l with
   | nil=>rfl
   | cons z r ih=>
    unfold Xu;rw[h y zH,hl z zH,ih λx hx=>hl x (zJ _ hx)]
  exact this λx hx=>h x (zJ _ (qY.mem_iff.mp hx))
theorem q8m{α:Type}{f:α->V}{g:α->vB}:∀{l:List α},(∀t∈l,RelV (f t) (g t))->YZ (l.map f) (l.map g)
 | [],_=>.nil
 | t::r,h=>.cons (h t zH) (q8m λx hx=>h x (zJ _ hx))
theorem q6B:∀{xs:List V}{vs:List vB}{i:Nat}{v:vB},YZ xs vs->vs[i]?=some v->∃x,xs[i]?=some x/\RelV x v
 | _,_,i,v,.nil,h=>by simp at h
 | _,_,0,v,.cons r _,h=>by simp at h;subst h;exact⟨_,rfl,r⟩
 | _,_,i+1,v,.cons _ r,h=>by
  obtain⟨x,a,b⟩:=q6B (i:=i) r ⇑h;exact⟨x,by simpa using a,b⟩
theorem q9o:∀{vs:List vB}{ns:List Int}{i:Nat}{v:vB},uA vs ns->vs[i]?=some v->ns[i]?=some (t9 v)
 | _,_,i,v,.nil,h=>by simp at h
 | _,_,0,v,.cons _ _ _,h=>by simp at h;subst h;rfl
 | _,_,i+1,v,.cons _ _ r,h=>by
  have:=q9o (i:=i) r ⇑h;simpa using this
theorem qaa{xs:List V}{vs ks:List vB}{ds:List D}{kf:D->Int}(rv:YZ xs vs)(hd:ds.length=xs.length)(hk:uA ks (ds.map kf)):YZ ((YV (λz:D×V=>kf z.1) (ds.zip xs)).map (·.2)) ((YV (λp:vB×vB=>t9 p.1) (ks.zip vs)).map (·.2)):=by
 have l1:=rv.length;have l2:=hk.length;rw[zA]at l2
 let L:=(ds.zip xs).zip (ks.zip vs)
 have e1:ds.zip xs=L.map Prod.fst:=by
  rw[xv];rw[yR,yR];omega
 have e2:ks.zip vs=L.map Prod.snd:=by
  rw[Zp];rw[yR,yR];omega
 have mem:∀t∈L,kf t.1.1=t9 t.2.1/\RelV t.1.2 t.2.2:=λt ht=>by
  obtain⟨i,hi⟩:=yn.mp ht;obtain⟨a1,a2⟩:=yl.mp hi;obtain⟨b1,b2⟩:=yl.mp a1;obtain⟨c1,c2⟩:=yl.mp a2;obtain⟨x,g1,g2⟩:=q6B rv c2;rw[b2]at g1;cases g1;have g3:=q9o hk c1;rw[zK,b1]at g3;exact⟨zn g3,g2⟩
 rw[e1,e2,q1b,q1b,zt,zt,q3g λt ht=>(mem t ht).1];exact q8m λt ht=>(mem t (qY.mem_iff.mp ht)).2
section
variable{X:Cx}{pins:List (vF×Obj)}{σ:L2.St}{G H:Hp}{s:vC}{a kS:vF}{xs:List V}{vs:List vB}{ds:List D}{kf:D->Int}
noncomputable def apart(pins:List (vF×Obj))(a kS:vF)(e1:Nat)(ks:Array vB)(e:Nat):List (vF×Obj):=pins++[(kS,vf "list" ks e),(a,vf "list" #[] e1)]
theorem q5v(I:Inv X (apart pins a kS e1 ks e) σ H s):s.heap.get? kS=some (vf "list" ks e)/\H kS=none:=by
 have:=I.pin (kS,vf "list" ks e) (zd _ (zd _ zH));exact⟨this.1,this.2.1⟩
theorem q6G(I:Inv X (apart pins a kS e1 ks e) σ H s):s.heap.get? a=some (vf "list" #[] e1)/\H a=none:=by
 have:=I.pin (a,vf "list" #[] e1) (zd _ (zd _ (zJ _ zH)));exact⟨this.1,this.2.1⟩
theorem q7z(I:Inv X (apart pins a kS e1 ks e) σ H s):Inv X pins σ H s:=I.unpinned
theorem q9B{e1 e:Nat}{ks:Array vB}(I:Inv X pins σ H s)(fk:Xe X pins H kS)(fa:Xe X pins H a)(hk:s.heap.get? kS=some (vf "list" ks e))(ha:s.heap.get? a=some (vf "list" #[] e1)):Inv X (apart pins a kS e1 ks e) σ H s :=
 I.pins_of λp hp=>by
  rcases zb.mp hp with z|z
  ·exact I.pin p (zd _ z)
  ·rcases zF.mp z with rfl|z
   ·exact⟨hk,fk.1,fk.2.1,fk.2.2.1,λv h=>by cases h⟩
   ·cases zT.mp z
    exact⟨ha,fa.1,fa.2.1,fa.2.2.1,λv h=>by cases h⟩
theorem q7f{h:vY}{b:vF}{ys:Array vB}{n:Nat}(q:h.get? b=some (vf "list" ys n))(f:Array vB->Array vB):∃n',(h.update b (Obj.mapSeq f)).get? b=some (vf "list" (f ys) n'):=⟨_,get?_update_seq q f⟩
theorem q4R{H':Hp}{b:vF}(h:Xe X pins H b)(n:H' b=none):Xe X pins H' b:=⟨n,h.2⟩
theorem q8G{st:ur}{ks:Array vB}{e e1:Nat}{P:PySem.Fin->vC->Prop}{E:vB->vC->Prop}{A:vZ}(I:Inv X (apart pins a kS e1 ks e) σ H s)(ne:kS≠a)(fk:Xe X pins H kS)(fa:Xe X pins H a)(rv:YZ xs vs)(hd:ds.length=xs.length)(hk:uA ks.toList (ds.map kf))(h64:vs.length<64)(ho:(vT st).toList=YV (λp:ui=>t9 p.1) (ks.toList.zip vs))(hf:sX st=none)(h:∀s',Inv X pins σ (upd H a (.lst ((YV (λz:D×V=>kf z.1) (ds.zip xs)).map (·.2)))) s'->P (.done (.ret .none)) s'):
  vL (model X.prog X.w) A (ksk_tail a false e1 (.ref kS) st) P E s:=by
 obtain⟨qk,hk0⟩:=q5v I;obtain⟨qa,ha0⟩:=q6G I;have I0:=q7z I;have lk:ks.toList.length=vs.length:=by have:=hk.length;have:=rv.length;rw[zA]at *;omega
 have lo:((vT st).map (·.2)).size=vs.length:=by
  rw[Array.size_map,<- zL,ho,q7E,yR];omega
 have qa1:(s.heap.update kS (Obj.mapSeq λ_=>(#[]:Array vB))).get? a=some (vf "list" #[] e1):=(zj _ _ ne).trans qa;obtain⟨c2,qa2⟩:=q7f qa1 (λ_=>(vT st).map (·.2));have sv:=qaa rv hd hk;have el:((vT st).map (·.2)).toList=(YV (λp:vB×vB=>t9 p.1) (ks.toList.zip vs)).map (·.2):=by rw[Array.toList_map,ho]
 unfold ksk_tail
 try dsimp only
 refine vA (uV qk rfl (vA (wpAny_letGo (vA (tG qa1 rfl ?_)))) (by rw[<- zL,lk,vX];omega) (zy _));refine vA (uV qa1 rfl ?_ (zy _) (by show ((vT st).map (·.2)).size<=_;rw[lo,vX];omega));rw[hf];simp only[bne_self_eq_false,yC,if_false];refine vH (h _ ?_);have I1:=I0.turned (h':=s.heap.update kS (Obj.mapSeq λ_=>(#[]:Array vB))) (t':=s.toks) (it:=kS) (λb o hb q=>(zj _ _ (Ne.symm hb)).trans q) fk.1 fk.2.1 fk.2.2.2.1 fk.2.2.2.2.1 fk.2.2.2.2.2;refine qdK (s:={ s with heap:=s.heap.update kS (Obj.mapSeq λ_=>(#[]:Array vB)) }) (its:=((vT st).map (·.2)).toList) (n:=c2) (t':=s.toks) I1 fa (λb o hb q=>(zj _ _ (Ne.symm hb)).trans q) ?_ (by rw[el];exact sv) ?_
 ·rw[xR];exact qa2
 ·rw[sv.length,<- el,zL,lo,vX];omega
theorem qgx{ks:Array vB}{e e1:Nat}{P:PySem.Fin->vC->Prop}{E:vB->vC->Prop}{A:vZ}(I:Inv X (apart pins a kS e1 ks e) σ H s)(ne:kS≠a)(fk:Xe X pins H kS)(fa:Xe X pins H a)(rv:YZ xs vs)(hd:ds.length=xs.length)(hk:uA ks.toList (ds.map kf))(h64:vs.length<64)(h:∀s',Inv X pins σ (upd H a (.lst ((YV (λz:D×V=>kf z.1) (ds.zip xs)).map (·.2)))) s'->P (.done (.ret .none)) s'):
  vL (model X.prog X.w) A (ksk_end a false vs.toArray e1 (.ref kS) ks) P E s:=by
 have lk:ks.size=vs.length:=by rw[<- zL];have:=hk.length;have:=rv.length;rw[zA]at *;omega
 have lz:(ks.zip vs.toArray).size=vs.length:=by rw[Array.size_zip,lk,zM,Nat.min_self]
 have ez:(ks.zip vs.toArray).toList=ks.toList.zip vs:=ksk_zip ks vs;unfold ksk_end
 try dsimp only
 rw[vJ (by decide)]
 by_cases h2:vs.toArray.size<2
 ·rw[vG h2,vG h2]
  refine vA (vH ?_);rw[StateT.run_pure];refine vA (vH (q8G (st:=SortSt.mk' general' (ks.zip vs.toArray) #[] 7 none) I ne fk fa rv hd hk h64 ?_ rfl h));show (ks.zip vs.toArray).toList=_;rw[ez];rw[zM]at h2;have l2:(ks.toList.zip vs).length<2:=by rw[yR];omega
  match ks.toList.zip vs,l2 with
  | [],_=>rfl
  | [_],_=>rfl
  | _::_::_,l2=>simp at l2;omega
 ·rw[vJ h2,vJ h2]
  rw[zM]at h2;rw[ksk_kind hk (by rw[lk];omega)];refine vA (vH (vA (vm (q9X (a₀:=ks.zip vs.toArray) (st:=SortSt.mk' oneType' (ks.zip vs.toArray) #[] 7 none)
   (Q:=λ_ st'=>(vT st').Perm (ks.zip vs.toArray)/\sX st'=none/\uj (vT st') (ks.zip vs.toArray).size/\WX (vT st').toList (ks.zip vs.toArray).toList)
   (ksk_intKeys hk) ⟨Array.Perm.refl _,rfl,rfl,rfl⟩ rfl (by rw[lz];omega) (by rw[lz];exact h64) λst' b1 b2 b3 b4=>⟨b1,b2,b3,b4⟩) ?_ λ_ _ z=>z)))
  rintro⟨⟨⟩,st'⟩ s' ⟨rfl,b1,b2,b3,b4⟩
  try dsimp only
  refine q8G I ne fk fa rv hd hk h64 ?_ b2 h;rw[qgB b1 b3 b4,ez]
theorem qeu{k:Nat}{f:vF}{fd:vM}{ps:List Str}{m:List D->Option O}{e1:Nat}{P:PySem.Fin->vC->Prop}{E:vB->vC->Prop}(F:FnOk X.prog X.w X.K X.mg X.base CX0 k f fd ps (spD X.K 1 m))(hr:Room (k+2) X.A)(hb:Binds X.K fd ps [])(I:Inv X (apart pins a kS e1 #[] 0) σ H s)(ne:kS≠a)(fk:Xe X pins H kS)(fa:Xe X pins H a)(sg:YX G H)(rp:YQ X.K G ds xs)(rv:YZ xs vs)(h64:vs.length<64)(hm:∀d∈ds,m [d]=↥(.int (kf d)))(h:∀G' H' s',Ext G H G' H'->H' a=none->Inv X pins σ (upd H' a (.lst ((YV (λz:D×V=>kf z.1) (ds.zip xs)).map (·.2)))) s'->P (.done (.ret .none)) s'):
  vL (model X.prog X.w) X.A.in1.in1 (ksk_rest a (.ref f) false vs.toArray e1 (.ref kS)) P E s:=by
 have ld:ds.length=xs.length:=rp.len;have lv:xs.length=vs.length:=rv.length;unfold ksk_rest;refine vA (uP ?_);rw[List.forIn_toArray];refine vA (ksk_fold (λi s'=>∃G' H' ks e,Inv X (apart pins a kS e1 ks e) σ H' s'/\Ext G H G' H'/\uA ks.toList ((ds.map kf).take i)) vs 0 s
  ⟨G,H,#[],0,I,Ext.refl sg,by simpa using IntsAre.nil⟩ ?turn ?done)
 case turn=>
  rintro j x s' hx ⟨G',H',ks,e,I',x',hk⟩;simp only[xV]at hk ⊢;have hj:j<vs.length:=(zS.mp hx).1;obtain⟨y,hy,ry⟩:=q6B rv hx;have hdj:ds[j]?=some ds[j]:=zB ∅;obtain⟨y',hy',rd⟩:=rp.get hdj;rw[hy]at hy';cases hy';have lks:ks.size<=vs.length:=by
   have:=hk.length;rw[zL,zY]at this;omega
  refine vA (uU (vm (qfY (Q:=λv H2=>v=.int (kf ds[j])/\∃G2,Ext G H G2 H2) (E:=λ_ _ _=>False) (E':=λ_ _=>False) F hr hb I' (.cons ry .nil) ?_) (λu s2 he=>?_) λ_ _ z=>False.elim z))
  ·exact⟨G',[ds[j]],_,hm _ (zk ∅),rfl,x'.gh,YQ.cons (rd.mono x'.gg) YQ.nil,λv G2 H2 x2 y2=>⟨y2,G2,x'.trans x2⟩⟩
  ·obtain⟨v,H2,I2,rvu,rfl,G2,x2⟩:=he
   obtain⟨t2,rfl⟩:∃t,u=.int (kf ds[j]) t:=by
    obtain⟨t,z⟩:=rvu;exact⟨t,z⟩
   try dsimp only
   obtain⟨qk,hk0⟩:=q5v I2;obtain⟨qa,ha0⟩:=q6G I2;obtain⟨c2,qk2⟩:=q7f qk (·.push (.int (kf ds[j]) t2));have fk2:=q4R fk hk0;refine vA (uV qk rfl (vH ⟨rfl,G2,H2,ks.push (.int (kf ds[j]) t2),c2,?_,x2,?_⟩) (by rw[vX];omega) (by rw[wm,vX];omega))
   ·have I3:=(q7z I2).turned (h':=s2.heap.update kS (Obj.mapSeq (·.push (.int (kf ds[j]) t2)))) (t':=s2.toks) (it:=kS) (λb o hb q=>(zj _ _ (Ne.symm hb)).trans q) fk2.1 fk2.2.1 fk2.2.2.2.1 fk2.2.2.2.2.1 fk2.2.2.2.2.2
    exact q9B I3 fk2 (q4R fa ha0) qk2 ((zj _ _ ne).trans qa)
   ·have ek:(ds.map kf).take (j+1)=(ds.map kf).take j++[kf ds[j]]:=by
     rw[Zd,zK,hdj];rfl
    have ea:(ks.push (Value.int (kf ds[j]) t2)).toList=ks.toList++[Value.int (kf ds[j]) t2]:=by simp
    rw[ea,ek];exact ksk_snoc hk
 case done=>
  rintro s' ⟨G',H',ks,e,I',x',hk⟩;rw[wd (by rw[zA];omega)]at hk;obtain⟨qk,hk0⟩:=q5v I';obtain⟨qa,ha0⟩:=q6G I'
  try dsimp only
  exact vA (sH qk rfl (qgx I' ne (q4R fk hk0) (q4R fa ha0) rv ld hk h64 λs2 I2=>h G' H' s2 x' ha0 I2))
end
section
variable{X:Cx}{pins:List (vF×Obj)}{σ:L2.St}{G H:Hp}{s:vC}{a:vF}{xs:List V}{vs:List vB}{ds:List D}{kf:D->Int}{k:Nat}{f:vF}{fd:vM}{ps:List Str}{m:List D->Option O}
theorem qeI{n:Nat}{P:PySem.Fin->vC->Prop}{E:vB->vC->Prop}(F:FnOk X.prog X.w X.K X.mg X.base CX0 k f fd ps (spD X.K 1 m))(hr:Room (k+2) X.A)(hb:Binds X.K fd ps [])(I:Inv X pins σ H s)(fa:Xe X pins H a)(qa:s.heap.get? a=some (vf "list" vs.toArray n))(sg:YX G H)(rp:YQ X.K G ds xs)(rv:YZ xs vs)(h64:vs.length<64)(hm:∀d∈ds,m [d]=some (.sh (.int (kf d))))(h:∀G' H' s',Ext G H G' H'->H' a=none->Inv X pins σ (upd H' a (.lst ((YV (λz:D×V=>kf z.1) (ds.zip xs)).map (·.2)))) s'->P (.done (.ret .none)) s'):
  vL (model X.prog X.w) X.A.in1.in1 (ksk_tree a (.ref f) false) P E s:=by
 obtain⟨e1,qa1⟩:=q7f qa (λ_=>(#[]:Array vB));have la:a<s.heap.objs.size:=zN qa;have I3:=I.turned (h':=s.heap.update a (Obj.mapSeq λ_=>(#[]:Array vB))) (t':=s.toks) (it:=a) (λb o hb q=>(zj _ _ (Ne.symm hb)).trans q) fa.1 fa.2.1 fa.2.2.2.1 fa.2.2.2.2.1 fa.2.2.2.2.2;have I4:=I3.kept (h':=(s.heap.update a (Obj.mapSeq λ_=>(#[]:Array vB))).push (vf "tuple" vs.toArray 0)) (t':=s.toks) λb u q=>zD _ q;have fk:=I4.fpOk (zI _) (I4.hok.fresh (zI _));have I5:=I4.kept (h':=((s.heap.update a (Obj.mapSeq λ_=>(#[]:Array vB))).push (vf "tuple" vs.toArray 0)).push (vf "list" #[] 0)) (t':=s.toks) λb u q=>zD _ q;have qa5:(((s.heap.update a (Obj.mapSeq λ_=>(#[]:Array vB))).push (vf "tuple" vs.toArray 0)).push (vf "list" #[] 0)).get? a=some (vf "list" #[] e1):=zD _ (zD _ qa1);have hn:((s.heap.update a (Obj.mapSeq λ_=>(#[]:Array vB))).push (vf "tuple" vs.toArray 0)).objs.size=s.heap.objs.size+1:=by rw[size_push',yx]
 have I6:=q9B (e:=0) (ks:=#[]) I5 fk fa (zR _ rfl) qa5;have z64:vs.toArray.size<=sizeLine:=by rw[zM,vX];omega
 unfold ksk_tree;refine vA (sH qa rfl (vA (uV qa rfl (vA (tG qa1 rfl (vA (u8 (vA (ub (ve ?_) (zy _))) ⇑z64)))) z64 (zy _))));exact qeu F hr hb I6 (by rw[hn];exact xU (yI la)) fk fa sg rp rv h64 hm h
theorem qci{p:vF}{Q:VK}{E:vB->vC->Prop}(F:FnOk X.prog X.w X.K X.mg X.base CX0 k f fd ps (spD X.K 1 m))(hr:Room (k+2) X.A)(hb:Binds X.K fd ps [])(I:Inv X pins σ H s)(hp:H p=some (.lst xs))(sg:YX G H)(rp:YQ X.K G ds xs)(h64:xs.length<64)(hm:∀d∈ds,m [d]=↥(.int (kf d)))(q:∀G' H' l,Ext G H G' H'->H' l=none->H l=none->Q (.ref l) (upd H' l (.lst ((YV (λz:D×V=>kf z.1) (ds.zip xs)).map (·.2))))):
  vL (model X.prog X.w) X.A (call (.builtin "sorted") [.ref p] [(Str.ofString "key", .ref f)]) (EP X pins σ Q) E s:=by
 obtain⟨vs,n0,rv,e0,_⟩:=I.lst hp;have lv:xs.length=vs.length:=rv.length;have z64:vs.length<=sizeLine:=by rw[vX];omega
 have hn:((s.heap.push (vf "list" #[] 0)).update s.heap.objs.size (Obj.mapSeq (·++vs.toArray))).objs.size=s.heap.objs.size+1:=by rw[yx,size_push']
 have keep:∀b o,s.heap.get? b=some o->(((s.heap.push (vf "list" #[] 0)).update s.heap.objs.size (Obj.mapSeq (·++vs.toArray))).push (vf "list" vs.toArray 0)).get? b=some o:=λb o z=>by
  have lt:b<s.heap.objs.size:=zN z;exact zD _ ((zj _ _ (xU lt)).trans (zD _ z))
 have I2:=I.kept (t':=s.toks) keep;have fa:Xe X pins H (s.heap.objs.size+1):=I.fpOk (yt _) (I.hok.fresh (yt _));have qa:(((s.heap.push (vf "list" #[] 0)).update s.heap.objs.size (Obj.mapSeq (·++vs.toArray))).push (vf "list" vs.toArray 0)).get? (s.heap.objs.size+1)=some (vf "list" vs.toArray 0):=by
  rw[<- hn];exact zR _ rfl
 refine call_function_entry_kw tY tS tT (ksk_s1 _ _) ?_;unfold Builtin.«sorted»;apply vA (m:=sB "sorted" 1 1 _);apply vH;refine vA (collect_list ⟨_,e0,rfl,n0,rfl⟩ (vA (ub ?_ z64)) z64);show vL _ _ _ _ _ { s with heap:=((s.heap.push (vf "list" #[] 0)).update s.heap.objs.size (Obj.mapSeq (·++vs.toArray))).push (vf "list" vs.toArray 0) };rw[hn];refine vA (ve (wpAny_call_entry_kw slot_list_sort ⟨_,qa,rfl⟩ entry_list_sort ?go (ksk_l1 _ _)))
 case go=>
  show vL (model X.prog X.w) X.A.in1.in1 (Builtin.«list.sort» ⟨[.ref (s.heap.objs.size+1)],[(Str.ofString "key", .ref f)]⟩) _ _ _;rw[ksk_t1];refine qeI F hr hb I2 fa qa sg rp rv ∅ hm λG' H' s' x' hn' I'=>⟨_,rfl,?_⟩;exact vH ⟨_,rfl,.ref _,_,I',rfl,q G' H' _ x' hn' fa.1⟩
theorem q8y{K:zC}{G:Hp}:∀{l:List (D×V)},(∀t∈l,Rep K G t.1 t.2)->YQ K G (l.map (·.1)) (l.map (·.2))
 | [],_=>rfl
 | t::r,h=>YQ.cons (h t zH) (q8y λx hx=>h x (zJ _ hx))
theorem qbo{K:zC}{G:Hp}{ds:List D}{xs:List V}{kf:D->Int}(h:YQ K G ds xs):YQ K G (YV kf ds) ((YV (λz:D×V=>kf z.1) (ds.zip xs)).map (·.2)):=by
 have l:=h.len;have e:ds=(ds.zip xs).map Prod.fst:=by rw[xv];omega
 have mem:∀t∈ds.zip xs,Rep K G t.1 t.2:=λt ht=>by
  obtain⟨i,hi⟩:=yn.mp ht;obtain⟨a1,a2⟩:=yl.mp hi;obtain⟨v,b1,b2⟩:=h.get a1;rw[a2]at b1;cases b1;exact b2
 have e2:YV kf ds=(YV (λz:D×V=>kf z.1) (ds.zip xs)).map (·.1):=by
  conv=>lhs;rw[e]
  rw[q1b]
 rw[e2];exact q8y λt ht=>mem t (qY.mem_iff.mp ht)
noncomputable def W4(m:List D->Option O)(d:D):Int:=match m [d]with
 | ↥(.int k)=>k
 | _=>0
noncomputable def keyOk(m:List D->Option O)(d:D):Bool:=match m [d]with
 | ↥(.int _)=>true
 | _=>false
theorem qeH{m:List D->Option O}{d:D}(h:keyOk m d=true):m [d]=↥(.int (W4 m d)):=by
 unfold keyOk at h;unfold W4
 split at h
 ·rename_i k e;rw[e]
 ·cases h
noncomputable def tSortK(K:zC)(m:List D->Option O)(te:TE):TE:=λσ H Q=>te σ H λv H1=>∃p xs G ds,v=.ref p/\H1 p=some (.lst xs)/\YX G H1/\YQ K G ds xs/\xs.length<64/\(∀d∈ds,keyOk m d=true) /\
 ∀G' H' l,Ext G H1 G' H'->H' l=none->H1 l=none->Q (.ref l) (upd H' l (.lst ((YV (λz:D×V=>W4 m z.1) (ds.zip xs)).map (·.2))))
def askK(K:zC)(m:List D->Option O)(Q:VK):V->Hp->Prop:=λv H1=>∃p xs G ds,v=.ref p/\H1 p=some (.lst xs)/\YX G H1/\YQ K G ds xs/\xs.length<64/\(∀d∈ds,keyOk m d=true) /\
 ∀G' H' l,Ext G H1 G' H'->H' l=none->H1 l=none->Q (.ref l) (upd H' l (.lst ((YV (λz:D×V=>W4 m z.1) (ds.zip xs)).map (·.2))))
def one1(R:V->Hp->Prop):List V->Hp->Prop:=λus H1=>match us with
 | [v]=>R v H1
 | _=>False
theorem qg7{R:V->Hp->Prop}{us:List V}{H1:Hp}(h:one1 R us H1):∃v,us=[v]/\R v H1:=by
 unfold one1 at h
 split at h
 ·exact⟨_,rfl,h⟩
 ·exact h.elim
theorem qf9{e:vP}{te:TE}{x:Str}{p p2 p3 pos:Pos}{k0:Nat}(c:Cal X.prog X.w X.K X.mg X.base k f fd x ps 1 m)(hr:Room k0 X.A)(hg:Gl X "sorted")(hm:X.mg "sorted" = none)(hx:Gl X x)(he:PE X e te)(hk:k+2<=k0)(hd:(x==("__debug__" : Str))=false:=by decide)(hs:vK [e] X.env=(false,eval e X.env)::vK [] X.env:=by rfl)(h1:vn pos (vK [e] X.env)=(false,eval e X.env)::vn pos (vK [] X.env):=by rfl)(h2:(vn pos (vK [e] X.env)).any (·.1)=false:=by rfl)(h3:(uM pos (vz [⟨some (Str.ofString "key"),.Name x p2,p3⟩] X.env)).all (·.1.isSome)=true:=by rfl)(h4:(uM pos (vz [⟨some (Str.ofString "key"),.Name x p2,p3⟩] X.env)).any (·.1.isNone)=false:=by rfl)(h5:(uM pos (vz [⟨some (Str.ofString "key"),.Name x p2,p3⟩] X.env)).filterMap (·.1)=[Str.ofString "key"]:=by rfl):
  PE X (.Call (.Name "sorted" p) [e] [⟨some (Str.ofString "key"),.Name x p2,p3⟩] pos) (tSortK X.K m te):=by
 intro pins s σ H Q I h;refine uF (q0S I hg hm q1Z ?_ (by decide) (by decide));refine callWith_kw (thn (qq he qI hs pos pins s σ H (one1 (askK X.K m Q)) I h) λus s1 ⟨ws,H1,I1,r1,q1⟩=>?_) h1 h2 h3 h4;obtain⟨v,rfl,p,xs,G,ds,rfl,b1,b2,b3,b4,b5,b6⟩:=qg7 q1;obtain⟨u,rfl,ru⟩:=vals1 r1;cases ru;refine thn (qgo (kpos:=p3) (nm:=some (Str.ofString "key")) (qgL (v:=.ref f) hx c.2.1 rfl hd) qhF pos pins s1 σ H1 (λzs H2=>zs=[.ref f]/\H2=H1) I1 ⟨rfl,rfl⟩) λzs s2 ⟨ys,H2,I2,rz,e1,e2⟩=>?_;subst e1;subst e2;obtain⟨u,rfl,ru⟩:=vals1 rz;cases ru;rw[h5];exact qci c.1 (hr.mono hk) c.2.2.2 I2 b1 b2 b3 b4 (λd hd=>qeH (b5 d hd)) b6
end
noncomputable def zAr(m:List D->Option O):D->Option R
 | .lst ds=>if ds.length<64/\ds.all (keyOk m)=true then some (.fr (YV (W4 m) ds))else none
 | _=>none
noncomputable def zAE(m:List D->Option O)(f:FD):FE:=λω=>(f ω).bind (zAr m)
theorem qf0{X:Cx}{k:Nat}{f:vF}{fd:vM}{ps:List Str}{m:List D->Option O}{e:vP}{fe:FD}{x:Str}{p p2 p3 pos:Pos}{k0:Nat}(c:Cal X.prog X.w X.K X.mg X.base k f fd x ps 1 m)(hr:Room k0 X.A)(hm:X.mg "sorted" = none)(he:XV X e fe)(hg:Gl X "sorted" := by exact rfl)(hx:Gl X x:=by exact rfl)(hk:k+2<=k0:=by decide)(hd:(x==("__debug__" : Str))=false:=by decide)(hs:vK [e] X.env=(false,eval e X.env)::vK [] X.env:=by rfl)(h1:vn pos (vK [e] X.env)=(false,eval e X.env)::vn pos (vK [] X.env):=by rfl)(h2:(vn pos (vK [e] X.env)).any (·.1)=false:=by rfl)(h3:(uM pos (vz [⟨some (Str.ofString "key"),.Name x p2,p3⟩] X.env)).all (·.1.isSome)=true:=by rfl)(h4:(uM pos (vz [⟨some (Str.ofString "key"),.Name x p2,p3⟩] X.env)).any (·.1.isNone)=false:=by rfl)(h5:(uM pos (vz [⟨some (Str.ofString "key"),.Name x p2,p3⟩] X.env)).filterMap (·.1)=[Str.ofString "key"]:=by rfl):
  XE X (.Call (.Name "sorted" p) [e] [⟨some (Str.ofString "key"),.Name x p2,p3⟩] pos) (zAE m fe):=by
 obtain⟨t,g1,g2⟩:=he;refine⟨_,qf9 c hr hg hm hx g1 hk hd hs h1 h2 h3 h4 h5,λG0 H0 G ω σ H r Q o er kk=>?_⟩;obtain⟨d,q,er⟩:=bnd er;refine g2 G0 H0 G ω σ H d _ o q λv G1 H1 x1 y1=>?_;cases d with
 | lst ds=>
  have er':(if ds.length<64/\ds.all (keyOk m)=true then some (R.fr (YV (W4 m) ds))else none)=some r:=er
  by_cases z:ds.length<64/\ds.all (keyOk m)=true
  ·rw[vG z]at er'
   cases er';obtain⟨p,vs,rfl,w1,w2⟩:=y1.lst x1.gh;refine⟨p,vs,G1,ds,rfl,w1,x1.gh,w2,by rw[<- w2.len];exact z.1,yq.mp z.2,λG2 H2 l x2 n2 n1=>?_⟩;have x3:=Ext.hide x2.gh n2 (.lst ((YV (λz:D×V=>W4 m z.1) (ds.zip vs)).map (·.2)));exact kk _ G2 _ ((x1.trans x2).trans x3) ⟨l,_,rfl,x1.hh.free n1,x2.gh.free n2,qe,qbo (w2.mono x2.gg)⟩
  ·rw[vJ z]at er';cases er'
 | _=>cases er
end Hk
namespace Hk
open PySem L2
noncomputable def skR(m:List D->Option O)(o:Option D):Option R:=o.bind (zAr m)
section
variable{m:List D->Option O}{f:FD}{ω:WSt}{d:D}{i:Nat}{ks:List Int}{ds:List D}
theorem q6i:zAE m f ω=skR m (f ω):=rfl
theorem q9i:iDk i ω=zAb ω[i]?:=rfl
theorem q8K:zAb (some ↥(.dic ks ds))=some (ks.map D.int):=rfl
theorem qhZ(h:ds.length<64)(h':∀d∈ds,keyOk m d=true):skR m (some (.lst ds))=some (.fr (YV (W4 m) ds)):=vG ⟨h,yq.mpr h'⟩
end
def rIdx:V->List V->Hp->VK->Prop:=λx vs H Q=>∃(l:vF) (ns:List Int) (k:Int) (j:Nat),x=.ref l/\vs=[.int k]/\H l=some (.lst (ns.map V.int))/\Ww k ns=some j/\Q (.int (j:Int)) H
theorem qf6{X:Cx}:MtM X "list.index" rIdx:=by
 intro pins s σ H x vs v us Q I rx rv h;obtain⟨l,ns,k,j,rfl,rfl,hH,hj,q⟩:=h;cases rx;obtain⟨u,rfl,ru⟩:=rv.one;obtain⟨t,rfl⟩:=ru;obtain⟨z,its,n,r,hl,e⟩:=I.lstM hH;obtain⟨e1,e2⟩:=qar (k:=k) r;rw[hj]at e2;obtain⟨a,b,c⟩:=PySem.W.kf_at_spec e2;refine tQ F.slot_list_index ⟨_,e,rfl⟩ F.entry_list_index (F.args_list_index_2 _ _)
  (MeetsSeq.list_index l its.toArray n (.int k t) (PyProof.Rows.isInt k) (λy hy=>PySem.W.kf_eq e1 y ⇑hy) j ⇑a (by have:=Xk;omega) ⇑b (λi hi hlt=>(by simpa using c i ⇑hi hlt))) ⟨e,?_⟩
 exact⟨.int (j:Int),H,I.tok _,⟨_,rfl⟩,q⟩
noncomputable def idxD:D->D->Option R
 | .lst ds,.int k=>(intsOf ds).bind λns=>(Ww k ns).map λ(j:Nat)=>.sh (.int (j:Int))
 | _,_=>none
noncomputable def zA3(f g:FD):FE:=λω=>(f ω).bind λd=>(g ω).bind λc=>idxD d c
section
variable{X:Cx}{o e:vP}{apos cpos:Pos}{f g:FD}
theorem q2F(ho:XV X o f)(he:XD X e g)(hbase:uT o "index" X.env (eval o X.env)=eval o X.env:=by rfl)(hfew:((vn cpos (vK [e] X.env)).all (λx=>!x.1)&&(uM cpos (vz [] X.env)).all (λx=>x.1.isSome)
   && decide (([e]:List vP).length+([]:List uY).length+(if ([]:List uY).isEmpty then 0 else 1)<30))=true:=by rfl)
  (hline:(apos.endLine==cpos.line)=true:=by rfl) (hs:vK [e] X.env=(false,eval e X.env)::vK [] X.env:=by rfl) (hplain:(vn cpos (vK [] X.env)).any (·.1)=false:=by rfl) :
  XE X (.Call (.Attribute o "index" apos) [e] [] cpos) (zA3 f g):=by
 obtain⟨t,h1,h2⟩:=ho;obtain⟨u,h3,h4⟩:=he;refine⟨_,q5B PySem.F.plainAttrs_list PySem.F.slot_list_index PySem.F.type_list_index qf6 h1 (qq h3 qI hs) hbase hfew hline hs hplain,λG0 H0 G ω σ H r Q ow e kk=>?_⟩;obtain⟨d,q1,e⟩:=bnd e;obtain⟨c,q2,e⟩:=bnd e;obtain⟨ds,k,rfl,rfl,e⟩:∃ds k,d=.lst ds/\c=.int k/\((intsOf ds).bind λns=>(Ww k ns).map λ(j:Nat)=>R.sh (.int (j:Int)))=some r:=by
  cases d with
  | lst ds=>
   cases c with
   | int k=>exact⟨ds,k,rfl,rfl,e⟩
   | _=>cases e
  | _=>cases e
 obtain⟨ns,q3,e⟩:=bnd e;obtain⟨j,q4,e⟩:=mpd e;subst e;have hds:=q04 q3;subst hds;refine h2 G0 H0 G ω σ H _ _ ow q1 λv G1 H1 x1 y1=>?_;obtain⟨p,vs,rfl,g1,g2⟩:=y1.lst x1.gh;have hv:=g2.of_ints;subst hv;refine⟨.inl ⟨rfl,_,SqL.of g1⟩,h4 G0 H0 G1 ω σ H1 _ _ (ow.keep x1) q2 λw G2 H2 x2 y2=>?_⟩;cases (show w=.int k from y2);exact⟨p,ns,k,j,rfl,rfl,x2.hh _ _ g1,q4,kk _ G2 H2 (x1.trans x2) rfl⟩
end
noncomputable def Y9:List D->Option (List (Int×Int×Int))
 | []=>some []
 | .tup [.int a,.int b,.int c]::r=>(Y9 r).map λl=>(a,b,c)::l
 | _=>none
noncomputable def zBH(e:Int×Int×Int):D:=.tup [.int e.1,.int e.2.1,.int e.2.2]
theorem q65:∀{ds:List D}{es:List (Int×Int×Int)},Y9 ds=some es->ds=es.map zBH
 | [],_,h=>by cases h;rfl
 | d::r,es,h=>by
  unfold Y9 at h
  split at h
  ·rename_i e;cases e
  ·rename_i e
   cases e;obtain⟨l,h1,h2⟩:=mpd h;subst h2;rw[q65 h1];rfl
  ·cases h
theorem q53:∀es:List (Int×Int×Int),Y9 (es.map zBH)=some es
 | []=>rfl
 | e::r=>by show (Y9 (r.map zBH)).map _=_;rw[q53 r];rfl
noncomputable def numsOf(mn:List D->Option O)(ns:List Int)(a b:Int):Option (List Int):=match mn [.lst (ns.map D.int),.int a,.int b]with
 | some (.fr ds)=>(intsOf ds).bind λks=>if (∀k∈ks,0<=k/\k<(ns.length:Int))/\ks.length<=1000 then some ks else none
 | _=>none
noncomputable def zA4(b:Bool)(c:Int×Int):Int×Int:=if b=true then (c.1+1,c.2)else (c.1,c.2+1)
noncomputable def bmp(b:Bool)(cs:List (Int×Int))(k:Int):List (Int×Int):=match cs[k.toNat]? with
 | some c=>cs.set k.toNat (zA4 b c)
 | none=>cs
noncomputable def Xi(mn:List D->Option O)(ns:List Int)(cs:List (Int×Int))(e:Int×Int×Int):Option (List (Int×Int)) :=
 if e.2.2=1 then (numsOf mn ns e.1 e.2.1).map λks=>ks.foldl (bmp true) cs else (numsOf mn ns e.2.1 e.1).map λks=>ks.foldl (bmp false) cs
noncomputable def W1(mn:List D->Option O)(ns:List Int):List (Int×Int×Int)->List (Int×Int)->Option (List (Int×Int))
 | [],cs=>some cs
 | e::es,cs=>(Xi mn ns cs e).bind λcs'=>W1 mn ns es cs'
noncomputable def Wm(c:Int×Int):D:=.lst [.int c.1,.int c.2]
noncomputable def mCt(mn:List D->Option O):List D->Option O
 | [.lst a,.lst b]=>(intsOf a).bind λns=>(Y9 b).bind λes=>if ns.length<=1000/\es.length<=1000 then (W1 mn ns es (ns.map λ_=>(0,0))).map λcs=>.fr (cs.map Wm)else none
 | _=>none
theorem qgf{b:Bool}{cs:List (Int×Int)}{k:Int}:(bmp b cs k).length=cs.length:=by
 unfold bmp
 split
 ·rw[yF]
 ·rfl
theorem q1x{b:Bool}:∀{ks:List Int}{cs:List (Int×Int)},(ks.foldl (bmp b) cs).length=cs.length
 | [],_=>rfl
 | k::ks,cs=>by rw[Zv,q1x,qgf]
structure Ct (H0 H:Hp) (p:vF) (ls:List vF) (cs:List (Int×Int)):Prop where
 top:H p=some (.lst (ls.map V.ref))
 hp:H0 p=none
 len:ls.length=cs.length
 row:∀(j:Nat)l c,ls[j]?=some l->cs[j]?=some c->H l=some (.lst [.int c.1,.int c.2])
 hl:∀l∈ls,H0 l=none
 nd:ls.Nodup
 pl:p∉ls
 same:YX H0 H
theorem Ct.mono{H0 H H':Hp}{p:vF}{ls:List vF}{cs:List (Int×Int)}(T:Ct H0 H p ls cs)(s:YX H H'):Ct H0 H' p ls cs :=
 ⟨s _ _ T.top,T.hp,T.len,λj l c h1 h2=>s _ _ (T.row j l c h1 h2),T.hl,T.nd,T.pl,T.same.trans s⟩
theorem Ct.inn{H0 H:Hp}{p:vF}{ls:List vF}{cs:List (Int×Int)}(T:Ct H0 H p ls cs){l:vF}(h:l∈ls):∃xs,H l=some (.lst xs):=by
 obtain⟨j,hj,rfl⟩:=zv.mp h;have hj2:j<cs.length:=by rw[<- T.len];exact hj
 exact⟨_,T.row j _ _ (zB hj) (zB hj2)⟩
theorem Ct.more{H0 H:Hp}{p l:vF}{ls:List vF}{cs:List (Int×Int)}(T:Ct H0 H p ls cs)(hl:H l=none):Ct H0 (upd (upd H l (.lst [.int 0,.int 0])) p (.lst ((ls++[l]).map V.ref))) p (ls++[l]) (cs++[(0,0)]):=by
 have hpl:p≠l:=λz=>by rw[<- z,T.top]at hl;cases hl
 have hll:l∉ls:=λz=>by obtain⟨xs,e⟩:=T.inn z;rw[hl]at e;cases e
 refine⟨qe,T.hp,by rw[zE,zE,T.len];rfl,λj m c h1 h2=>?_,λm hm=>?_,?_,λhm=>?_,λb u z=>?_⟩
 ·rcases zo j ls.length with z|z
  ·rw[zV z]at h1
   rw[zV (by rw[<- T.len];exact z)]at h2;have e1:=T.row j m c h1 h2;have n1:m≠p:=λy=>T.pl (y▸zg h1);have n2:m≠l:=λy=>hll (y▸zg h1);rw[qc n1,qc n2];exact e1
  ·rw[zP z]at h1
   rw[zP (by rw[<- T.len];exact z),<- T.len]at h2;cases hj:j-ls.length with
   | zero=>
    rw[hj]at h1 h2;cases h1;cases h2;rw[qc (Ne.symm hpl)];exact qe
   | succ n=>rw[hj]at h1;cases h1
 ·rcases zb.mp hm with h|h
  ·exact T.hl m h
  ·cases zT.mp h;exact T.same.free hl
 ·rw[yO]
  refine⟨T.nd,by simp,λa ha b hb z=>?_⟩;cases zT.mp hb;exact hll (z▸ha)
 ·rcases zb.mp hm with h|h
  ·exact T.pl h
  ·cases zT.mp h;exact hpl rfl
 ·have n1:b≠p:=λy=>by rw[y,T.hp]at z;cases z
  have n2:b≠l:=λy=>by rw[y,T.same.free hl]at z;cases z
  rw[qc n1,qc n2];exact T.same b u z
theorem Ct.set{H0 H:Hp}{p l:vF}{ls:List vF}{cs:List (Int×Int)}{j:Nat}{c:Int×Int}(T:Ct H0 H p ls cs)(h:ls[j]?=some l):Ct H0 (upd H l (.lst [.int c.1,.int c.2])) p ls (cs.set j c):=by
 have hm:=zg h;have hpl:p≠l:=λz=>T.pl (z▸hm);refine⟨by rw[qc hpl];exact T.top,T.hp,by rw[yF];exact T.len,λi m d h1 h2=>?_,T.hl,T.nd,T.pl,λb u z=>?_⟩
 ·rcases qd h2 with⟨rfl,_,rfl⟩|⟨ne,h3⟩
  ·rw[h]at h1
   cases h1;exact qe
  ·have hne:m≠l:=λz=>by
    subst z;obtain⟨i1,i2⟩:=zS.mp h1;obtain⟨j1,j2⟩:=zS.mp h;exact ne ((xT T.nd).mp (j2.trans i2.symm))
   rw[qc hne];exact T.row i m d h1 h3
 ·rw[qc λy=>by rw[y,T.hl l hm]at z;cases z];exact T.same b u z
noncomputable abbrev tCell(K:zC)(j:Int):TE:=tOp (rIxL K) (tOp (rIxL K) (Yz 2) (Yz 6)) (tC (.int j))
noncomputable abbrev tBump(K:zC)(j:Int):TS:=zBG (tAdd (tCell K j) (tC (.int 1))) (gSub (tOp (rIxL K) (Yz 2) (Yz 6)) (tC (.int j)) rSetL)
noncomputable abbrev zBC(K:zC)(sp:Sp)(E:XK)(a b:Nat)(j:Int):TS:=tFor (W0 K (zA6 sp [] E (WF (Yz 0) (WF (Yz a) (WF (Yz b) tNil))))) (Xb 6) (tBump K j)
noncomputable def tCt(K:zC)(sp:Sp)(E:XK):TS:=tSeq (zBG (zAc 1 [] (W0 K (Yz 0)) (Xb 0) (λ_ H Q=>Q true H) (tLst (WF (tC (.int 0)) (WF (tC (.int 0)) tNil)))) (Xb 2))
 (tSeq (tFor (W0 K (Yz 1)) (gTup K 3 (zAY (Xb 3) (zAY (Xb 4) (zAY (Xb 5) gNil)))) (tIfS (tB (tEqI (Yz 5) (tC (.int 1)))) (zBC K sp E 3 4 0) (zBC K sp E 4 3 1)))
 (tRet (Yz 2)))
theorem qhY{α:Type}{xs:List α}{k:Int}{x:α}(h0:0<=k)(h1:k<(xs.length:Int))(h:xs[k.toNat]?=some x):atI xs k=some x:=by
 unfold atI ixN;rw[vG h0,vG h1,yD];exact h
theorem qgM{K:zC}{H0 H:Hp}{p:vF}{ls:List vF}{cs:List (Int×Int)}{k:Int}{b:Bool}{σ:St}{E:Ends}(T:Ct H0 H p ls cs)(s2:σ[2]?=some (some (.ref p)))(s6:σ[6]?=some (some (.int k)))(h0:0<=k)(h1:k<(cs.length:Int))(h:∀l H',l∈ls->(∀q,q≠l->H' q=H q)->Ct H0 H' p ls (bmp b cs k)->E.nx σ H'):tBump K (if b=true then 0 else 1) E σ H:=by
 have hk:k.toNat<cs.length:=∅
 have hk':k.toNat<ls.length:=by rw[T.len];exact hk
 have e1:ls[k.toNat]?=some ls[k.toNat]:=zB hk';have e2:cs[k.toNat]?=some cs[k.toNat]:=zB hk;have er:=T.row _ _ _ e1 e2;have a1:atI (ls.map V.ref) k=some (.ref ls[k.toNat]):=qhY h0 (by rw[zA,T.len];exact h1) (by rw[zK,e1];rfl);have eb:bmp b cs k=cs.set k.toNat (zA4 b cs[k.toNat]):=by unfold bmp;rw[e2]
 have T':=T.set (c:=zA4 b cs[k.toNat]) e1;rw[<- eb]at T';have fin:=h _ _ (zg e1) (λq hq=>qc hq) T';cases b with
 | true=>
  refine⟨.ref p,s2,.int k,s6,p,_,k,.ref ls[k.toNat],rfl,rfl,SqL.of T.top,a1,ls[k.toNat],_,0,.int cs[k.toNat].1,rfl,rfl,SqL.of er,rfl,cs[k.toNat].1,1,rfl,rfl,.ref p,s2,.int k,s6,p,_,k,.ref ls[k.toNat],rfl,rfl,SqL.of T.top,a1,ls[k.toNat],_,0,0,rfl,rfl,er,rfl,?_⟩;exact fin
 | false=>
  refine⟨.ref p,s2,.int k,s6,p,_,k,.ref ls[k.toNat],rfl,rfl,SqL.of T.top,a1,ls[k.toNat],_,1,.int cs[k.toNat].2,rfl,rfl,SqL.of er,rfl,cs[k.toNat].2,1,rfl,rfl,.ref p,s2,.int k,s6,p,_,k,.ref ls[k.toNat],rfl,rfl,SqL.of T.top,a1,ls[k.toNat],_,1,1,rfl,rfl,er,rfl,?_⟩;exact fin
theorem qdE{b:Bool}{cs:List (Int×Int)}{ks:List Int}{i:Nat}(h:i<ks.length):bmp b ((ks.take i).foldl (bmp b) cs) ks[i]=(ks.take (i+1)).foldl (bmp b) cs:=by
 rw[(y9 h).symm,xM];rfl
theorem qaj{K:zC}{mn:List D->Option O}{G H0 H:Hp}{p A0 A1:vF}{ls:List vF}{cs:List (Int×Int)}{ns ks:List Int}{X:XK}{E:Ends}{b:Bool}{v3 v4 v5:Int}{x6:Option V}{a c:Int}(ia ic:Nat)(T:Ct H0 H p ls cs)(gs:YX G H0)(g0:G A0=some (.lst (ns.map V.int)))(hcs:cs.length=ns.length)(hn:numsOf mn ns a c=some ks)(sa:∀x6:Option V,[some (V.ref A0),some (.ref A1),some (.ref p),some (.int v3),some (.int v4),some (.int v5),x6][ia]?=some (some (.int a)))(sc:∀x6:Option V,[some (V.ref A0),some (.ref A1),some (.ref p),some (.int v3),some (.int v4),some (.int v5),x6][ic]?=some (some (.int c)))(h:∀H' x6,Ct H0 H' p ls (ks.foldl (bmp b) cs)->E.nx [some (.ref A0),some (.ref A1),some (.ref p),some (.int v3),some (.int v4),some (.int v5),x6] H'):
  zBC K (spD K 3 mn) X ia ic (if b=true then 0 else 1) E [some (.ref A0),some (.ref A1),some (.ref p),some (.int v3),some (.int v4),some (.int v5),x6] H:=by
 obtain⟨hm,hb,hz⟩:mn [.lst (ns.map D.int),.int a,.int c]=some (.fr (ks.map D.int))/\(∀k∈ks,0<=k/\k<(ns.length:Int))/\ks.length<=1000:=by
  unfold numsOf at hn
  split at hn
  ·rename_i ds q
   obtain⟨ks',q2,hn⟩:=bnd hn
   by_cases cond:(∀k∈ks',0<=k/\k<(ns.length:Int))/\ks'.length<=1000
   ·rw[vG cond]at hn
    cases hn;rw[q04 q2]at q;exact⟨q,cond⟩
   ·rw[vJ cond]at hn;cases hn
  ·cases hn
 have sg:YX G H:=gs.trans T.same;refine⟨.ref A0,rfl,.int a,sa x6,.int c,sc x6,G,[.lst (ns.map D.int),.int a,.int c],_,hm,rfl,sg,?_,λv G' H' x y=>?_⟩
 ·exact YQ.cons ⟨A0,_,rfl,g0,YQ.ints ns⟩ (YQ.cons rfl (YQ.cons rfl YQ.nil))
 ·obtain⟨l,us,rfl,l1,l2,l3,l4⟩:=y
  have hus:=l4.of_ints;subst hus;have T1:=T.mono x.hh;have nlp:l≠p:=λz=>by rw[z,T.top]at l1;cases l1
  have nll:∀m∈ls,m≠l:=λm hm z=>by
   obtain⟨xs,e⟩:=T.inn hm;rw[z,l1]at e;cases e
  refine⟨l,rfl,⟨_,SqL.of l3⟩,λi m σ3 H3=>∃x6,σ3=[some (.ref A0),some (.ref A1),some (.ref p),some (.int v3),some (.int v4),some (.int v5),x6]/\Ct H0 H3 p ls ((ks.take i).foldl (bmp b) cs)/\H3 l=some (.lst (ks.map V.int))/\i<=ks.length/\m=ks.length-i,
   ⟨_,x6,rfl,T1,l3,zy _,rfl⟩,?_⟩
  rintro i m σ3 H3 ⟨x6',rfl,T3,h3l,hi,rfl⟩
  by_cases hlt:i<ks.length
  ·refine .inr ⟨⟨_,.int ks[i],SqL.of h3l,by rw[zK,zB hlt];rfl⟩,λσ4 H4=>∃x6,σ4=[some (.ref A0),some (.ref A1),some (.ref p),some (.int v3),some (.int v4),some (.int v5),x6]/\Ct H0 H4 p ls ((ks.take (i+1)).foldl (bmp b) cs)/\H4 l=some (.lst (ks.map V.int)),
    λσ4 H4 ⟨x6,b1,b2,b3⟩=>⟨ks.length-(i+1),∅,x6,b1,b2,b3,hlt,rfl⟩,λw H4 hw=>?_⟩
   obtain⟨rfl,hw⟩:=hw;have hw:=hw _ (SqL.of h3l);rw[zK,zB hlt]at hw;cases hw;obtain⟨k0,k1⟩:=hb ks[i] (zk hlt);refine qgM T3 rfl rfl k0 (by rw[q1x,hcs];exact k1) λl' H' hl' ho T4=>?_;rw[qdE hlt]at T4;exact⟨some (.int ks[i]),rfl,T4,by rw[ho l λz=>nll l' hl' z.symm];exact h3l⟩
  ·have ei:i=ks.length:=∅
   subst ei;rw[yw]at T3;exact .inl ⟨⟨_,SqL.of h3l,by rw[zA];exact zI _⟩,h H3 x6' T3⟩
theorem qbK{mn:List D->Option O}{ns:List Int}{cs cs':List (Int×Int)}{e:Int×Int×Int}(h:Xi mn ns cs e=some cs'):cs'.length=cs.length:=by
 unfold Xi at h
 split at h
 ·obtain⟨ks,_,rfl⟩:=mpd h;exact q1x
 ·obtain⟨ks,_,rfl⟩:=mpd h;exact q1x
theorem qgE{K:zC}{G H0 H:Hp}{p:vF}{ls:List vF}{cs:List (Int×Int)}(T:Ct H0 H p ls cs)(gs:YX G H0):∃G',Ext G H0 G' H/\zAk K H0 G' H (.fr (cs.map Wm)) (.ref p):=by
 open Classical in
 let G':Hp:=λb=>if b∈ls then H b else G b
 have hin:∀b,b∈ls->G' b=H b:=λb h=>vG h;have hout:∀b,b∉ls->G' b=G b:=λb h=>vJ h;have gn:∀b,b∈ls->G b=none:=λb h=>gs.free (T.hl b h);refine⟨G',⟨λb u z=>?_,λb u z=>?_,T.same,λb z1 z2=>?_⟩,p,ls.map V.ref,rfl,T.hp,?_,T.top,?_⟩
 ·by_cases y:b∈ls
  ·rw[gn b y]at z;cases z
  ·rw[hout b y];exact z
 ·by_cases y:b∈ls
  ·rw[hin b y]at z;exact z
  ·rw[hout b y]at z;exact T.same b u (gs b u z)
 ·by_cases y:b∈ls
  ·exact vN (T.hl b y) z2
  ·rw[hout b y];exact z1
 ·rw[hout p T.pl];exact gs.free T.hp
 ·refine q2U (by rw[zA];exact T.len.symm) λj d t h1 h2=>?_
  rw[zK]at h1;cases q:cs[j]? with
  | none=>rw[q]at h1;cases h1
  | some c=>
   rw[q]at h1;cases h1;have hl:=T.row j t c h2 q;exact⟨t,_,rfl,by rw[hin t (zg h2)];exact hl,YQ.cons rfl (YQ.cons rfl YQ.nil)⟩
theorem qhW{K:zC}{mn:List D->Option O}{N:List Str}{vs:List V}{H:Hp}{Q:VK}{E X:XK}{nx:St->Hp->Prop}(hN:N.length=7)(h:spD K 2 (mCt mn) vs H Q E):tCt K (spD K 3 mn) X { nx:=nx,rt:=Q } (L2.start N vs) H:=by
 obtain⟨G,ds,r,h1,h2,gs,h4,q⟩:=h;obtain⟨a,b,rfl⟩:∃a b,ds=[.lst a,.lst b]:=by
  unfold mCt at h1
  split at h1
  ·exact⟨_,_,rfl⟩
  ·cases h1
 have h1:((intsOf a).bind λns=>(Y9 b).bind λes=>if ns.length<=1000/\es.length<=1000 then (W1 mn ns es (ns.map λ_=>(0,0))).map λcs=>O.fr (cs.map Wm)else none)=some r:=h1;obtain⟨ns,e1,h1⟩:=bnd h1;obtain⟨es,e2,h1⟩:=bnd h1
 by_cases cond:ns.length<=1000/\es.length<=1000
 case neg=>rw[vJ cond]at h1;cases h1
 rw[vG cond]at h1;obtain⟨csF,e3,e4⟩:=mpd h1;subst e4;have ha:=q04 e1;have hb:=q65 e2;subst ha hb;obtain⟨v0,v1,rfl,r0,r1⟩:=h4.two;obtain⟨A0,vs0,rfl,g0,i0⟩:=r0;obtain⟨A1,vs1,rfl,g1,i1⟩:=r1;have hv:=i0.of_ints;subst hv;have hs:L2.start N [.ref A0,.ref A1]=[some (.ref A0),some (.ref A1),none,none,none,none,none]:=by
  unfold L2.start;rw[hN];rfl
 rw[hs];have hA0:=gs _ _ g0;refine⟨.ref A0,rfl,A0,rfl,⟨_,SqL.of hA0⟩,λp hp=>?_⟩;refine⟨λi m σ' H'=>∃ls,Ct H H' p ls ((ns.take i).map λ_=>(0,0))/\i<=ns.length/\m=ns.length-i,
  ⟨_,[],⟨qe,hp,rfl,λj l c z=>(by simp at z),λl z=>(by cases z),xQ,λz=>(by cases z),Yq hp _⟩,zy _,rfl⟩,?_⟩
 rintro i m σ' H' ⟨ls,T,hi,rfl⟩;have hA':=T.same _ _ hA0
 by_cases hlt:i<ns.length
 ·refine .inr ⟨⟨_,.int ns[i],SqL.of hA',by rw[zK,zB hlt];rfl⟩,λx H2 hx=>?_⟩
  obtain⟨rfl,_⟩:=hx
  dsimp only[Xb]
  rw[vG rfl];refine⟨by show 2<=sizeLine;rw[vX];decide,λl hl=>?_⟩;have hpl:p≠l:=λz=>by rw[<- z,T.top]at hl;cases hl
  refine⟨ls.map V.ref,by rw[qc hpl];exact T.top,by rw[zA,T.len,zA,zY,vX];omega,ns.length-(i+1),∅,ls++[l],?_,hlt,rfl⟩;have T2:=T.more hl;rw[(y9 hlt).symm,zc];rw[zc]at T2;exact T2
 ·have ei:i=ns.length:=∅
  subst ei;rw[yw]at T;refine .inl ⟨⟨_,SqL.of hA',by rw[zA];exact zI _⟩,?_⟩;have hA1:=T.same _ _ (gs _ _ g1);have l1:es.length=vs1.length:=by have:=i1.len;rw[zA]at this;exact this
  refine⟨.ref A1,rfl,A1,rfl,⟨_,SqL.of hA1⟩,λn m σ2 H2=>∃(x3 x4 x5 x6:Option V) (cs:List (Int×Int)),σ2=[some (.ref A0),some (.ref A1),some (.ref p),x3,x4,x5,x6]/\Ct H H2 p ls cs/\cs.length=ns.length/\W1 mn ns (es.drop n) cs=some csF/\n<=es.length/\m=es.length-n,
   ⟨_,none,none,none,none,_,rfl,T,by rw[zA],e3,zy _,rfl⟩,?_⟩
  rintro n m σ2 H2 ⟨x3,x4,x5,x6,cs,rfl,T2,lc,rn,hn,rfl⟩;have hA2:=T2.same _ _ (gs _ _ g1)
  by_cases hlt2:n<es.length
  ·have hlv:n<vs1.length:=by rw[<- l1];exact hlt2
   rw[yz hlt2]at rn;obtain⟨cs',c1,c2⟩:=bnd rn;have lc':cs'.length=ns.length:=by rw[qbK c1];exact lc
   refine .inr ⟨⟨_,vs1[n],SqL.of hA2,zB hlv⟩,λσ3 H3=>∃(x3 x4 x5 x6:Option V),σ3=[some (.ref A0),some (.ref A1),some (.ref p),x3,x4,x5,x6]/\Ct H H3 p ls cs',
    λσ3 H3 ⟨x3,x4,x5,x6,b1,b2⟩=>⟨es.length-(n+1),∅,x3,x4,x5,x6,cs',b1,b2,lc',c2,hlt2,rfl⟩,λw H3 hw=>?_⟩
   obtain⟨rfl,hw⟩:=hw;have hw:=hw _ (SqL.of hA2);rw[zB hlv]at hw;cases hw;have hd:(es.map zBH)[n]?=some (zBH es[n]):=by rw[zK,zB hlt2];rfl
   obtain⟨v,hv1,hv2⟩:=i1.get hd;rw[zB hlv]at hv1;cases hv1;obtain⟨t,us,ev,gt,ru⟩:=hv2;obtain⟨u0,r',rfl,ru0,ru'⟩:=ru;obtain⟨u1,u2,rfl,ru1,ru2⟩:=YQ.two ru';cases (show u0=.int es[n].1 from ru0);cases (show u1=.int es[n].2.1 from ru1);cases (show u2=.int es[n].2.2 from ru2);refine⟨t,_,ev,SqT.of (T2.same _ _ (gs _ _ gt)),rfl,_,_,rfl,_,_,rfl,_,_,rfl,rfl,?_⟩;refine⟨.int es[n].2.2,rfl,es[n].2.2,1,rfl,rfl,_,rfl,?_⟩;unfold Xi at c1
   by_cases z:es[n].2.2=1
   ·rw[vG z]at c1
    obtain⟨ks,k1,rfl⟩:=mpd c1
    dsimp only
    rw[vG (vW z)];exact qaj (b:=true) 3 4 T2 gs g0 lc k1 (λ_=>rfl) (λ_=>rfl) λH' x6 T'=>⟨_,_,_,x6,rfl,T'⟩
   ·rw[vJ z]at c1
    obtain⟨ks,k1,rfl⟩:=mpd c1
    dsimp only
    rw[vJ (by rw[vS z];decide)];exact qaj (b:=false) 4 3 T2 gs g0 lc k1 (λ_=>rfl) (λ_=>rfl) λH' x6 T'=>⟨_,_,_,x6,rfl,T'⟩
  ·have en:n=es.length:=∅
   subst en;rw[xu]at rn;cases rn;refine .inl ⟨⟨_,SqL.of hA2,by rw[l1];exact zI _⟩,.ref p,rfl,?_⟩;obtain⟨G',x,y⟩:=qgE (K:=K) T2 gs;exact q (.ref p) G' H2 x y
section
variable{X:Cx}
end
theorem q2t{α β:Type}(f:α->β):∀{ks:List Int}{xs:List α}{k:Int},Yh ks (xs.map f) k=(Yh ks xs k).map f
 | [],_,_=>rfl
 | _::_,[],_=>rfl
 | k'::ks,x::xs,k=>by
  show (if k'=k then some (f x)else Yh ks (xs.map f) k)=Z3 f (if k'=k then some x else Yh ks xs k)
  by_cases z:k'=k
  ·rw[vG z,vG z];rfl
  ·rw[vJ z,vJ z,q2t f]
section
variable{X:Cx}{o e1 e2:vP}{i k k0:Nat}{fa fb:FD}{f:vF}{fd:vM}{ps:List Str}{x:Str}{p pos pos' spos:Pos}
noncomputable def sIfM(f:FM)(g h:FS):FS:=λω=>(f ω).bind λp=>match p.1 with
 | .bl b=>if b=true then g p.2 else h p.2
 | _=>none
theorem qhP{e:vP}{as bs:List vo}{fm:FM}{g h:FS}(he:XM X e fm)(ha:XSs X as g)(hb:XSs X bs h)(ht:∀whole,sJ e X.env whole=(do let v <- whole;tu e.pos;holding [v] (truthy v)):=by intro _;rfl):XS X (.If e as bs pos) (sIfM fm g h):=by
 obtain⟨t,h1,h2⟩:=he;obtain⟨ta,h3,h4⟩:=ha;obtain⟨tb,h5,h6⟩:=hb;refine⟨_,qbp (q9E h1 ht) h3 h5,λG0 H0 G ω σ H out ω' E ow e kk=>?_⟩;obtain⟨⟨d,ω1⟩,q,e⟩:=bnd e;refine h2 G0 H0 G ω σ H d ω1 _ ow q λv G1 H1 o1 g1 r1=>?_;cases d with
 | bl b=>
  cases (show v=.bl b from r1);refine⟨b,rfl,?_⟩;cases b with
  | true=>rw[vG rfl];exact h4 G0 H0 G1 ω1 σ H1 out ω' E o1 e λG2 σ2 H2 o2 g2=>kk G2 σ2 H2 o2 (g1.trans g2)
  | false=>exact h6 G0 H0 G1 ω1 σ H1 out ω' E o1 e λG2 σ2 H2 o2 g2=>kk G2 σ2 H2 o2 (g1.trans g2)
 | _=>cases e
end
section
variable{X:Cx}{st:vo}{rest:List vo}{i:Nat}
end
end Hk
namespace Hk
open PySem PySem.W PyProof.Rows
structure Lt (n:Nat) (r:Nat->Nat->Bool):Prop where
 tr:∀i j k,r i j=true->r j k=true->r i k=true
 to:∀i j,i<n->j<n->i≠j->r i j=false->r j i=true
 no:∀i j,r i j=true->r j i=false
noncomputable def gA(p:Array Nat)(k:Nat):Nat:=p.getD k 0
def Pm(n:Nat)(p:Array Nat):Prop:=p.toList.Perm (zO n)
section
variable{n:Nat}{r:Nat->Nat->Bool}{p:Array Nat}
theorem Pm.size(P:Pm n p):p.size=n:=by rw[<- zL,List.Perm.length_eq P,zX]
theorem q4r{k:Nat}(h:k<p.size):p.toList[k]?=some (gA p k):=by
 unfold gA;rw[zZ,yg,zx h];rfl
theorem Pm.lt(P:Pm n p){k:Nat}(h:k<n):gA p k<n:=zw.mp (P.mem_iff.mp (zg (q4r (by rw[P.size];exact h))))
theorem Pm.inj(P:Pm n p){a b:Nat}(ha:a<n)(hb:b<n)(h:a≠b):gA p a≠gA p b:=λe=>by
 have nd:p.toList.Nodup:=List.Perm.nodup_iff P |>.mpr Zq
 have s:=P.size;have l:p.toList.length=p.size:=zL;have e1:=q4r (p:=p) (k:=a) ∅;have e2:=q4r (p:=p) (k:=b) ∅;rw[<- e]at e2;exact h ((List.getElem?_inj ∅ nd).mp (e1.trans e2.symm))
def Up(r:Nat->Nat->Bool)(p:Array Nat)(m:Nat):Prop:=∀a b,a<b->b<m->r (gA p a) (gA p b)=true
def Dn(r:Nat->Nat->Bool)(p:Array Nat)(m:Nat):Prop:=∀a b,a<b->b<m->r (gA p b) (gA p a)=true
theorem Up.next(L:Lt n r){m:Nat}(h:Up r p m)(h1:1<=m)(e:r (gA p (m-1)) (gA p m)=true):Up r p (m+1):=λa b hab hb=>by
 rcases zo b m with z|z
 ·exact h a b hab z
 ·have:b=m:=∅
  subst this;rcases zo a (b-1)with y|y
  ·exact L.tr _ _ _ (h a (b-1) y ∅) e
  ·rw[show a=b-1 by omega];exact e
theorem Dn.next(L:Lt n r){m:Nat}(h:Dn r p m)(h1:1<=m)(e:r (gA p m) (gA p (m-1))=true):Dn r p (m+1):=λa b hab hb=>by
 rcases zo b m with z|z
 ·exact h a b hab z
 ·have:b=m:=∅
  subst this;rcases zo a (b-1)with y|y
  ·exact L.tr _ _ _ e (h a (b-1) y ∅)
  ·rw[show a=b-1 by omega];exact e
variable{cmp:Nat->Nat->(Bool->vC->Prop)->vC->Prop}{s:vC}
def Cmp(n:Nat)(r:Nat->Nat->Bool)(cmp:Nat->Nat->(Bool->vC->Prop)->vC->Prop)(s:vC):Prop:=∀i j C,i<n->j<n->C (r i j) s->cmp i j C s
theorem q8e(L:Lt n r)(H:Cmp n r cmp s)(P:Pm n p){Q:Nat->vC->Prop}:∀(f m:Nat),1<=m->m+f<=n->Up r p m->(∀m',m<=m'->m'<=m+f->Up r p m'->(m'=m+f\/r (gA p m') (gA p (m'-1))=true)->Q m' s)->(kas_asc p f m).kasWp cmp Q s
 | 0,m,_,_,u,k=>k m (zI _) ∅ u (.inl rfl)
 | f+1,m,h1,hm,u,k=>by
  refine H (gA p m) (gA p (m-1)) _ (P.lt ∅) (P.lt ∅) ?_;cases e:r (gA p m) (gA p (m-1))with
  | true=>exact k m (zI _) ∅ u (.inr e)
  | false=>exact q8e L H P f (m+1) ∅ ∅ (u.next L h1 (L.to _ _ (P.lt ∅) (P.lt ∅) (P.inj ∅ ∅ ∅) e)) λm' a b c d=>k m' ∅ ∅ c (d.imp (λz=>∅) id)
theorem qaq(L:Lt n r)(H:Cmp n r cmp s)(P:Pm n p){Q:Array Nat×Nat×Nat->vC->Prop}:∀(f m:Nat),1<=m->m+f<=n->Dn r p m->(∀m',m<=m'->m'<=m+f->Dn r p m'->Q (p,m',0) s)->(kas_desc f p m 0).kasWp cmp Q s
 | 0,m,_,_,u,k=>k m (zI _) ∅ u
 | f+1,m,h1,hm,u,k=>by
  refine H (gA p m) (gA p (m-1)) _ (P.lt ∅) (P.lt ∅) ?_;cases e:r (gA p m) (gA p (m-1))with
  | true=>exact qaq L H P f (m+1) ∅ ∅ (u.next L h1 e) λm' a b c=>k m' ∅ ∅ c
  | false=>
   refine H (gA p (m-1)) (gA p m) _ (P.lt ∅) (P.lt ∅) ?_;rw[L.to _ _ (P.lt ∅) (P.lt ∅) (P.inj ∅ ∅ ∅) e];exact k m (zI _) ∅ u
theorem qdM{m:Nat}(hm:m<=p.size){k:Nat}(hk:k<m):gA (kas_rev p 0 m) k=gA p (m-1-k):=by
 have e:=getElem?_mirror_all (xs:=p) (i:=0) (j:=m) hm k;rw[vG ⟨zy _,hk⟩]at e;unfold gA kas_rev;rw[yg,yg,e]
 congr 2;omega
theorem qdn{m:Nat}(P:Pm n p):Pm n (kas_rev p 0 m):=(wL.mp (tF p 0 m _)).trans P
theorem qg1(L:Lt n r)(H:Cmp n r cmp s)(P:Pm n p){m:Nat}(h1:1<=m)(hm:m<=n)(d:Dn r p m){Q:Nat×Array Nat->vC->Prop}(k:∀m' p',Pm n p'->Up r p' m'->1<=m'->m'<=n->Q (m',p') s):(sL m n p).kasWp cmp Q s:=by
 unfold sL;rw[KasT.kasWp_bind];have s0:=P.size;refine q8e L H (qdn P) (n-m) m h1 ∅ (λa b hab hb=>?_) λm' a b c _=>k m' _ (qdn P) c ∅ ∅;rw[qdM ∅ ∅,qdM ∅ hb];exact d _ _ ∅ ∅
theorem qff(L:Lt n r)(H:Cmp n r cmp s)(P:Pm n p)(h1:1<=n){Q:Nat×Array Nat->vC->Prop}(k:∀m' p',Pm n p'->Up r p' m'->1<=m'->m'<=n->Q (m',p') s):(kas_count n p).kasWp cmp Q s:=by
 unfold kas_count;rw[KasT.kasWp_bind];refine q8e L H P (n-1) 1 (zI _) ∅ (λa b hab hb=>∅) λm h2 h3 u hd=>?_
 by_cases e:(m==n)=true
 ·rw[vG e];exact k m p P u h2 ∅
 ·rw[vJ e]
  have e':m≠n:=by simpa using e
  by_cases g:m>1
  ·rw[vG g]
   refine H (gA p 0) (gA p (m-1)) _ (P.lt ∅) (P.lt ∅) ?_;rw[u 0 (m-1) ∅ ∅];exact k m p P u h2 ∅
  ·rw[vJ g]
   unfold kas_descPart;rw[KasT.kasWp_bind];have hm:m=1:=∅
   subst hm;have h0:r (gA p 1) (gA p 0)=true:=hd.resolve_left ∅;have d2:Dn r p 2:=λa b hab hb=>by
    rw[show a=0 by omega,show b=1 by omega];exact h0
   refine qaq L H P (n-(1+1)) (1+1) ∅ ∅ d2 λm' a b c=>?_;show ((if 0>0 then sL m' n (kas_rev p (m'-(0+1)) m')else sL m' n p):KasT _).kasWp cmp Q s;rw[vJ (by decide)];exact qg1 L H P ∅ ∅ c k
theorem q5f(L:Lt n r)(H:Cmp n r cmp s)(P:Pm n p){k:Nat}(hk:k<n)(u:Up r p k){Q:Nat->vC->Prop}(q:∀l,l<=k->(∀a,a<l->r (gA p a) (gA p k)=true)->(∀a,l<=a->a<k->r (gA p k) (gA p a)=true)->Q l s):
  ∀(f l v:Nat),l<=v->v<=k->v-l<=f->(∀a,a<l->r (gA p a) (gA p k)=true)->(∀a,v<=a->a<k->r (gA p k) (gA p a)=true)->(kas_place p k f l v).kasWp cmp Q s
 | 0,l,v,h1,h2,h3,A,B=>q l ∅ A λa ha hk'=>B a ∅ hk'
 | f+1,l,v,h1,h2,h3,A,B=>by
  unfold kas_place
  by_cases z:l>=v
  ·rw[vG z]
   exact q l ∅ A λa ha hk'=>B a ∅ hk'
  ·rw[vJ z]
   refine H (gA p k) (gA p ((l+v)/2)) _ (P.lt hk) (P.lt ∅) ?_;cases e:r (gA p k) (gA p ((l+v)/2))with
   | true=>
    refine q5f L H P hk u q f l ((l+v)/2) ∅ ∅ ∅ A λa ha hak=>?_;rcases xh ha with y|y
    ·rw[<- y];exact e
    ·exact L.tr _ _ _ e (u _ _ y hak)
   | false=>
    have e2:=L.to _ _ (P.lt hk) (P.lt ∅) (P.inj hk ∅ ∅) e;refine q5f L H P hk u q f ((l+v)/2+1) v ∅ ∅ ∅ (λa ha=>?_) B;rcases xh (Nat.le_of_lt_succ ha)with y|y
    ·rw[y];exact e2
    ·exact L.tr _ _ _ (u _ _ y ∅) e2
theorem qcY{k l:Nat}(hk:k<p.size)(hl:l<=k)(a:Nat):gA (bubble p k (k-l)) a=if a=l then gA p k else if l<a/\a<=k then gA p (a-1)else gA p a:=by
 have e:=getElem?_bubble hk (k-l) ∅ a;rw[show k-(k-l)=l by omega]at e;unfold gA;simp only[yg];rw[e]
 split
 ·rfl
 ·split <;> rfl
theorem qdF(L:Lt n r)(H:Cmp n r cmp s){Q:Array Nat->vC->Prop}(q:∀p',Pm n p'->Up r p' n->Q p' s):∀(f:Nat)(p:Array Nat)(k:Nat),Pm n p->k+f=n->Up r p k->(kas_bin f p k).kasWp cmp Q s
 | 0,p,k,P,e,u=>q p P (by rw[<- e];exact u)
 | f+1,p,k,P,e,u=>by
  show ((kas_place p k k 0 k).bind λl=>kas_bin f (bubble p k (k-l)) (k+1)).kasWp cmp Q s;rw[KasT.kasWp_bind];have s0:=P.size;refine q5f L H P ∅ u (λl hl A B=>?_) k 0 k (zy _) (zI _) ∅ (λa ha=>vN ha (xH _)) (λa ha hak=>∅);refine qdF L H q f _ (k+1) ((wL.mp (bubble_perm p k _)).trans P) ∅ λa b hab hb=>?_;rw[qcY ∅ hl,qcY ∅ hl]
  by_cases a1:a=l
  ·rw[vG a1,vJ ∅,vG ∅]
   exact B _ ∅ ∅
  ·rw[vJ a1]
   by_cases b1:b=l
   ·rw[vG b1,vJ ∅]
    exact A _ ∅
   ·rw[vJ b1]
    by_cases a2:l<a/\a<=k
    ·rw[vG a2,vG ∅]
     exact u _ _ ∅ ∅
    ·rw[vJ a2]
     by_cases b2:l<b/\b<=k
     ·rw[vG b2]
      exact u _ _ ∅ ∅
     ·rw[vJ b2]
      exact u _ _ hab ∅
theorem qgk(L:Lt n r)(H:Cmp n r cmp s)(h1:1<=n){Q:Array Nat->vC->Prop}(q:∀p,Pm n p->Up r p n->Q p s):(kas_sort n).kasWp cmp Q s:=by
 unfold kas_sort;rw[KasT.kasWp_bind];refine qff L H (.refl _) h1 λm p P u h2 h3=>?_
 by_cases z:m<n
 ·rw[vG z,show max m 1=m by omega]
  exact qdF L H q (n-m) p m P ∅ u
 ·rw[vJ z]
  exact q p P (by rw[show n=m by omega];exact u)
end
end Hk
set_option maxHeartbeats 2000000
namespace Hk
open PySem PySem.W PyProof.Rows
noncomputable def ltP(a b:Int×Int):Bool:=decide (a.1<b.1) || (a.1==b.1&&decide (a.2<b.2))
theorem q1e{a b:Int×Int}:ltP a b=true↔(a.1<b.1\/(a.1=b.1/\a.2<b.2)):=by
 unfold ltP;simp
theorem qfw{ps:List (Int×Int)}(nd:ps.Nodup):Lt ps.length λi j=>ltP (ps.getD i (0,0)) (ps.getD j (0,0)):=by
 refine⟨λi j k h1 h2=>?_,λi j hi hj ne h=>?_,λi j h=>?_⟩
 ·rw[q1e]at *;omega
 ·have hn:ps.getD i (0,0)≠ps.getD j (0,0):=λe=>by
   rw[zQ,zQ,zB hi,zB hj]at e;exact ne ((xT nd).mp e)
  have h':¬ltP (ps.getD i (0,0)) (ps.getD j (0,0))=true:=by rw[h];decide
  rw[q1e]at h' ⊢;have:¬((ps.getD i (0,0)).1=(ps.getD j (0,0)).1/\(ps.getD i (0,0)).2=(ps.getD j (0,0)).2):=λz=>hn (Prod.ext z.1 z.2);omega
 ·have:¬ltP (ps.getD j (0,0)) (ps.getD i (0,0))=true:=by rw[q1e]at *;omega
  simpa using this
def TpA(h:vY)(v:vB)(p:Int×Int):Prop:=∃a o n t u,v=.ref a/\h.get? a=some o/\o.cls=.type "tuple" /\ o.data=.seq #[.int p.1 t,.int p.2 u] n
def X4(h:vY):List vB->List (Int×Int)->Prop
 | [],[]=>True
 | v::vs,p::ps=>TpA h v p/\X4 h vs ps
 | _,_=>False
theorem X4.len{h:vY}:∀{vs:List vB}{ps:List (Int×Int)},X4 h vs ps->vs.length=ps.length
 | [],[],_=>rfl
 | [],_::_,z=>z.elim
 | _::_,[],z=>z.elim
 | _::vs,_::ps,z=>by rw[zG,zG,X4.len z.2]
theorem X4.at{h:vY}:∀{vs:List vB}{ps:List (Int×Int)}{i:Nat},X4 h vs ps->i<ps.length->TpA h (vs.getD i Value.none) (ps.getD i (0,0))
 | [],[],_,_,z=>vN z (xH _)
 | [],_::_,_,z,_=>z.elim
 | _::_,[],_,z,_=>z.elim
 | _::_,_::_,0,z,_=>z.1
 | _::vs,_::ps,i+1,z,hi=>X4.at (vs:=vs) (ps:=ps) z.2 ⇑hi
theorem X4.keep{h h':vY}(k:∀a o,o.cls=.type "tuple" -> h.get? a=some o->h'.get? a=some o):∀{vs:List vB}{ps:List (Int×Int)},X4 h vs ps->X4 h' vs ps
 | [],[],_=>trivial
 | [],_::_,z=>z.elim
 | _::_,[],z=>z.elim
 | _::vs,_::ps,⟨⟨a,o,n,t,u,e1,e2,e3,e4⟩,z⟩=>⟨⟨a,o,n,t,u,e1,k a o e3 e2,e3,e4⟩,X4.keep k z⟩
theorem X4.kat{h:vY}:∀{vs:List vB}{ps:List (Int×Int)},X4 h vs ps->∃fs,KatTups h vs fs/\fs.length=ps.length/\∀v∈fs,∃i t,v=Value.int i t
 | [],[],_=>⟨[],trivial,rfl,λv hv=>by cases hv⟩
 | [],_::_,z=>z.elim
 | _::_,[],z=>z.elim
 | _::vs,p::ps,⟨⟨a,o,n,t,u,e1,e2,e3,e4⟩,z⟩=>by
  obtain⟨fs,f1,f2,f3⟩:=X4.kat z;refine⟨.int p.1 t::fs,⟨⟨a,o,_,n,e1,e2,e3,e4,rfl⟩,f1⟩,by rw[zG,f2,zG],λv hv=>?_⟩;rcases zF.mp hv with rfl|hv
  ·exact⟨_,_,rfl⟩
  ·exact f3 v hv
section
variable{prog:vO}{w:vU}{A:vZ}{E:vB->vC->Prop}{s:vC}
theorem qhJ{x y:vB}{p q:Int×Int}{Q:Bool->vC->Prop}(hx:TpA s.heap x p)(hy:TpA s.heap y q)(h:Q (ltP p q) s):vL (model prog w) A (keyLt' (tuples' true) x y) Q E s:=by
 obtain⟨a,o,n,t,u,rfl,e2,e3,e4⟩:=hx;obtain⟨b,o',n',t',u',rfl,f2,f3,f4⟩:=hy;refine kat_lt e2 e4 f2 f4 ?_;refine kat_cons (p:=.int p.1 t) (q:=.int q.1 t') (r:=[(.int p.2 u,.int q.2 u')]) (tJ ?_);refine kat_go (λe=>?_) λe=>?_
 ·have e:p.1=q.1:=by simpa using e
  refine kat_yes (kat_cons (tJ (kat_go (λe'=>?_) λe'=>?_)))
  ·have e':p.2=q.2:=by simpa using e'
   refine kat_yes (kat_nil ?_);have:ltP p q=false:=by
    have:¬ltP p q=true:=by rw[q1e];omega
    simpa using this
   rw[this]at h;exact h
  ·refine kat_no (kat_one _ _ ?_)
   refine PySem.P.lt_int ?_;show Q (decide (p.2<q.2)) s;have e':p.2≠q.2:=by simpa using e'
   have:decide (p.2<q.2)=ltP p q:=by
    rw[Zw,q1e,decide_eq_true_iff];omega
   rw[this];exact h
 ·have e:p.1≠q.1:=by simpa using e
  refine kat_no ?_;refine oneLt_int ?_;have:decide (p.1<q.1)=ltP p q:=by
   rw[Zw,q1e,decide_eq_true_iff];omega
  rw[this];exact h
noncomputable def zAT(vs:List vB)(p:Array Nat):Array vB:=(p.toList.map λi=>vs.getD i Value.none).toArray
theorem qdR(vs:List vB):zAT vs (zO vs.length).toArray=vs.toArray:=by
 unfold zAT
 congr 1
 apply wY
 ·simp
 ·intro i h1 h2
  simp[zQ,zB h2]
theorem qet{a:vF}{xs:List vB}{ps:List (Int×Int)}{k:Nat}{P:Fin->vC->Prop}(at_:s.heap.get? a=some (vf "list" xs.toArray k))(ht:X4 s.heap xs ps)(nd:ps.Nodup)(few:xs.length<64)(h:∀p,Pm xs.length p->Up (λi j=>ltP (ps.getD i (0,0)) (ps.getD j (0,0))) p xs.length->P (.done (.ret .none)) { s with heap:=sortedHeap s.heap a xs (zAT xs p) }):vL (model prog w) A (Builtin.«list.sort» ⟨[.ref a],[]⟩) P E s:=by
 have la:=zN at_;have hlen:=ht.len;have empty:=get?_update_seq at_ (λ_=>(#[]:Array vB));rw[list_sort_plain];refine vA (sH at_ rfl (vA (uV at_ rfl ?_ (by rw[zM,vX];omega) (zy _))));refine vA (tG empty rfl (vA (u8 (vA (ub (ve ?_) (zy _))) (by show xs.length<=_;rw[vX];omega))));have still:(((s.heap.update a (Obj.mapSeq λ_=>#[])).push (vf "tuple" xs.toArray 0)).push (vf "list" #[] 0)).get? a=some _:=zD _ (zD _ empty);have ht3:X4 (((s.heap.update a (Obj.mapSeq λ_=>#[])).push (vf "tuple" xs.toArray 0)).push (vf "list" #[] 0)) xs ps:=ht.keep λb o hc hb=>by
  have ne:b≠a:=λz=>by
   rw[z,at_]at hb;cases hb;exact vN (show Value.type "list" = Value.type "tuple" from hc) (by decide)
  exact zD _ (zD _ (by rw[ZC _ _ _ _ ne];exact hb))
 change vL (model prog w) A _ P E (Shared.mk (((s.heap.update a (Obj.mapSeq λ_=>#[])).push (vf "tuple" xs.toArray 0)).push (vf "list" #[] 0)) _ _ _ _)
 dsimp only
 by_cases many:xs.toArray.size<2
 ·rw[vG many,vG many]
  have hs2:xs.length<2:=by simpa using many
  refine vA (vH ?_);rw[StateT.run_pure];refine vA (vH ?_)
  dsimp only
  refine vA (tG still rfl (vA (uV still rfl ?_ (hsz2:=?_))))
  ·simp only[bne_self_eq_false,yC,if_false]
   refine vH ?_;have:=h (zO xs.length).toArray (by unfold Pm;simp) (λi j hij hj=>∅);rw[qdR]at this;have e:((vT (SortSt.mk' general' (xs.toArray.zip xs.toArray) #[] 7 none)).map (·.2))=xs.toArray:=by
    show (xs.toArray.zip xs.toArray).map (·.2)=_;simp
    induction xs with
    | nil=>rfl
    | cons x xs ih=>simp[ZV,Zp]
   rw[e];exact this
  ·show ((xs.toArray.zip xs.toArray).map (·.2)).size<=_
   simp;rw[vX];omega
 ·have hs2:2<=xs.length:=by simpa using many
  rw[vJ many,vJ many];obtain⟨fs,f1,f2,f3⟩:=ht3.kat;refine vA (kat_kind (T:=.type "int") f1 ∅ (λv hv=>by obtain⟨i,t,rfl⟩:=f3 v hv;exact Looks.of_pure rfl) rfl ?_);rw[show (Value.type "int" != Value.type "tuple")=true by decide];refine vA (vm (kat_run (ks:=xs) (vs:=xs) (κ:=tuples' true) (Q:=λst' s'=>∃p:Array Nat,(vT st').map (·.2)=zAT xs p/\sX st'=none/\Pm xs.length p/\Up (λi j=>ltP (ps.getD i (0,0)) (ps.getD j (0,0))) p xs.length/\s'=Shared.mk (((s.heap.update a (Obj.mapSeq λ_=>#[])).push (vf "tuple" xs.toArray 0)).push (vf "list" #[] 0)) _ _ _ _)
   (G:=λp s'=>Pm xs.length p/\Up (λi j=>ltP (ps.getD i (0,0)) (ps.getD j (0,0))) p xs.length/\s'=Shared.mk (((s.heap.update a (Obj.mapSeq λ_=>#[])).push (vf "tuple" xs.toArray 0)).push (vf "list" #[] 0)) _ _ _ _)
   rfl hs2 few (λp st' s' a1 a2 a3 a4=>⟨p,kat_snds rfl a2,a3,a4.1,a4.2.1,a4.2.2⟩) (qgk (r:=λi j=>ltP (ps.getD i (0,0)) (ps.getD j (0,0))) (by rw[hlen];exact qfw nd) (λi j C hi hj hc=>?_) ∅ λp P u=>⟨P,u,rfl⟩)) (λr s3 hr=>?_) λ_ _ z=>z)
  ·exact qhJ (ht3.at ∅) (ht3.at ∅) hc
  ·obtain⟨⟨⟩,t⟩:=r
   obtain⟨p,q1,q2,q3,q4,rfl⟩:=hr
   dsimp only
   rw[q1];have lt:(zAT xs p).size<=sizeLine:=by
    unfold zAT;rw[zM,zA,zL,q3.size,vX];omega
   refine vA (tG still rfl (vA (uV still rfl ?_ (zy _) (xo lt))));rw[q2];simp only[bne_self_eq_false,yC,if_false];exact vH (h p q3 q4)
theorem qbD{l:vF}{xs:List vB}{ps:List (Int×Int)}{Q:vB->vC->Prop}(isl:s.heap.IsList l xs.toArray)(ht:X4 s.heap xs ps)(nd:ps.Nodup)(few:xs.length<64)(h:∀p,Pm xs.length p->Up (λi j=>ltP (ps.getD i (0,0)) (ps.getD j (0,0))) p xs.length->Q (.ref (s.heap.objs.size+1)) { s with heap:=sortedAll s.heap xs (zAT xs p) }):vL (model prog w) A (call (.builtin "sorted") [.ref l]) Q E s:=by
 refine Calls.call_function_entry tY tS tT (sG (.ref l)) ?_;unfold Builtin.«sorted»;refine vA (m:=sB "sorted" 1 1 _) (vH (vA (collect_list isl ?_ (by rw[vX];omega))));have many:((s.heap.push (vf "list" #[] 0)).update s.heap.objs.size (Obj.mapSeq (·++xs.toArray))).objs.size=s.heap.objs.size+1:=(yx _ _ _).trans (size_push' _ _);refine vA (ub ?_ (by rw[vX];omega));have ht2:X4 (((s.heap.push (vf "list" #[] 0)).update s.heap.objs.size (Obj.mapSeq (·++xs.toArray))).push (vf "list" xs.toArray 0)) xs ps:=ht.keep λb o hc hb=>by
  have ne:b≠s.heap.objs.size:=zm (zN hb);exact zD _ (by rw[ZC _ _ _ _ ne];exact zD _ hb)
 generalize hh:(s.heap.push (vf "list" #[] 0)).update s.heap.objs.size (Obj.mapSeq (·++xs.toArray))=h2 at many ht2 ⊢;have here:(h2.push (vf "list" xs.toArray 0)).get? (s.heap.objs.size+1)=some (vf "list" xs.toArray 0):=by
  have:=zR h2 (o:=vf "list" xs.toArray 0) rfl
  rwa [many]at this
 change vL _ _ _ _ _ (Shared.mk (h2.push (vf "list" xs.toArray 0)) _ _ _ _)
 rw[many];refine vA (ve (vh slot_list_sort ⟨_,here,rfl⟩ entry_list_sort ?_ (tZ _)));refine qet here ht2 nd few λp c1 c2=>?_;refine⟨_,rfl,vH ⟨_,rfl,?_⟩⟩;subst hh;exact h p c1 c2
end
end Hk
namespace Hk
open PySem L2
section
variable{α β:Type}
noncomputable def WY(lt:α->α->Bool)(x:α):List α->List α
 | []=>[x]
 | y::r=>if lt x y=true then x::y::r else y::WY lt x r
noncomputable def sortBy(lt:α->α->Bool)(l:List α):List α:=l.foldr (WY lt) []
theorem q4l{lt:α->α->Bool}{x:α}:∀{l:List α},(WY lt x l).Perm (x::l)
 | []=>.refl _
 | y::r=>by
  unfold WY
  split
  ·exact .refl _
  ·exact(q4l.cons y).trans (.swap _ _ _)
theorem q0V{lt:α->α->Bool}:∀{l:List α},(sortBy lt l).Perm l
 | []=>.refl _
 | _::_=>q4l.trans (q0V.cons _)
theorem q9m{lt:β->β->Bool}{f:α->β}{x:α}:∀{l:List α},(WY (λa b=>lt (f a) (f b)) x l).map f=WY lt (f x) (l.map f)
 | []=>rfl
 | y::r=>by
  show (if lt (f x) (f y)=true then x::y::r else y::WY (λa b=>lt (f a) (f b)) x r).map f=if lt (f x) (f y)=true then f x::f y::r.map f else f y::WY lt (f x) (r.map f)
  by_cases z:lt (f x) (f y)=true
  ·rw[vG z,vG z];rfl
  ·rw[vJ z,vJ z,zi,q9m]
theorem q64{lt:β->β->Bool}{f:α->β}:∀{l:List α},(sortBy (λa b=>lt (f a) (f b)) l).map f=sortBy lt (l.map f)
 | []=>rfl
 | x::l=>by
  show (WY _ x (sortBy _ l)).map f=WY lt (f x) (sortBy lt (l.map f));rw[q9m,q64]
theorem qai{lt:α->α->Bool}{x:α}:∀{l:List α},(∀a b c,lt a b=true->lt b c=true->lt a c=true)->(∀y∈l,lt x y=false->lt y x=true)->l.Pairwise (λa b=>lt a b=true)->(WY lt x l).Pairwise (λa b=>lt a b=true)
 | [],_,_,_=>xj _ _
 | y::r,tr,to,h=>by
  have h':=zW.mp h;unfold WY
  by_cases z:lt x y=true
  ·rw[vG z]
   refine zW.mpr ⟨λb hb=>?_,h⟩;rcases zF.mp hb with rfl|hb
   ·exact z
   ·exact tr _ _ _ z (h'.1 b hb)
  ·rw[vJ z]
   refine zW.mpr ⟨λb hb=>?_,qai tr (λw hw=>to w (zJ _ hw)) h'.2⟩;rcases zF.mp (q4l.mem_iff.mp hb)with rfl|hb
   ·exact to y zH ⇑z
   ·exact h'.1 b hb
theorem q7n{lt:α->α->Bool}(tr:∀a b c,lt a b=true->lt b c=true->lt a c=true):∀{l:List α},l.Pairwise (λa b=>lt a b=false->lt b a=true)->(sortBy lt l).Pairwise (λa b=>lt a b=true)
 | [],_=>xL
 | x::l,h=>by
  have h':=zW.mp h;exact qai tr (λy hy=>h'.1 y (q0V.mem_iff.mp hy)) (q7n tr h'.2)
theorem qbb{lt:α->α->Bool}(no:∀a b,lt a b=true->lt b a=false):∀{l m:List α},l.Perm m->l.Pairwise (λa b=>lt a b=true)->m.Pairwise (λa b=>lt a b=true)->l=m
 | [],m,p,_,_=>(List.nil_perm.mp p).symm
 | x::l,[],p,_,_=>vN p.symm (by simp)
 | x::l,y::m,p,hl,hm=>by
  have hl':=zW.mp hl;have hm':=zW.mp hm;have e:x=y:=by
   rcases zF.mp (p.mem_iff.mp zH)with e|hx
   ·exact e
   ·rcases zF.mp (p.mem_iff.mpr zH)with e|hy
    ·exact e.symm
    ·have a:=hm'.1 x hx
     have b:=hl'.1 y hy;rw[no _ _ a]at b;cases b
  subst e;rw[qbb no p.cons_inv hl'.2 hm'.2]
end
noncomputable def ixT(ps:List (Int×Int)):List Nat:=sortBy (λi j=>ltP (ps.getD i (0,0)) (ps.getD j (0,0))) (zO ps.length)
theorem qht{ps:List (Int×Int)}(nd:ps.Nodup){p:Array Nat}(P:Pm ps.length p)(u:Up (λi j=>ltP (ps.getD i (0,0)) (ps.getD j (0,0))) p ps.length):p.toList=ixT ps:=by
 have L:=qfw nd;refine qbb L.no (wo P q0V.symm) ?_ (q7n L.tr ?_)
 ·rw[zq]
  intro i j hi hj hij;have s:=P.size;have l:p.toList.length=p.size:=zL;have e1:=q4r (p:=p) (k:=i) ∅;have e2:=q4r (p:=p) (k:=j) ∅;rw[zB hi]at e1;rw[zB hj]at e2;rw[zn e1,zn e2];exact u i j hij ∅
 ·rw[zq]
  intro i j hi hj hij h;rw[wM,wM]at h ⊢;rw[zX]at hi hj;exact L.to i j hi hj ∅ h
theorem qdS{ps:List (Int×Int)}:∀i∈ixT ps,i<ps.length:=λi hi=>zw.mp (q0V.mem_iff.mp hi)
theorem qfF(ps:List (Int×Int)):(ixT ps).map (λi=>ps.getD i (0,0))=sortBy ltP ps:=by
 unfold ixT;rw[q64 (lt:=ltP) (f:=λi=>ps.getD i (0,0))]
 congr 1
 apply wY
 ·simp
 ·intro i h1 h2
  simp[zQ,zB h2]
def TupV(K:zC)(H:Hp):List V->List (Int×Int)->Prop
 | [],[]=>True
 | v::vs,p::ps=>(∃a,v=.ref a/\SqT K H a [.int p.1,.int p.2])/\TupV K H vs ps
 | _,_=>False
def rSortT(K:zC):List V->Hp->VK->Prop:=λxs H Q=>∃p vs ps,xs=[.ref p]/\H p=some (.lst vs)/\TupV K H vs ps/\ps.Nodup/\ps.length<64/\∀l,H l=none->Q (.ref l) (upd H l (.lst ((ixT ps).map λi=>vs.getD i .non)))
section
variable{X:Cx}
theorem qb2{pins:List (vF×Obj)}{σ:L2.St}{H:Hp}{s:vC}(I:L2.Inv X pins σ H s):∀{vs:List V}{ps:List (Int×Int)}{its:List vB},TupV X.K H vs ps->YZ vs its->X4 s.heap its ps
 | [],[],_,_,.nil=>trivial
 | [],_::_,_,z,_=>z.elim
 | _::_,[],_,z,_=>z.elim
 | _::vs,p::ps,_,⟨⟨a,rfl,ha⟩,z⟩,.cons r t=>by
  refine⟨?_,qb2 I z t⟩;cases r;obtain⟨its2,r2,p2,_⟩:=I.tuple ha;obtain⟨u1,u2,rfl,e1,e2⟩:=vals2 r2;obtain⟨t1,rfl⟩:=e1;obtain⟨t2,rfl⟩:=e2;obtain⟨o,ho,hc,n,hd⟩:=p2;exact⟨a,o,n,t1,t2,rfl,ho,hc,by rw[hd]⟩
theorem q7q{vs:List V}{its:List vB}(r:YZ vs its):∀{l:List Nat},(∀i∈l,i<vs.length)->YZ (l.map λi=>vs.getD i .non) (l.map λi=>its.getD i Value.none)
 | [],_=>.nil
 | i::l,h=>by
  have hi:=h i zH;obtain⟨u,h1,h2⟩:=YZ.get r (zB hi);refine .cons ?_ (q7q r λj hj=>h j (zJ _ hj));show RelV (vs.getD i .non) (its.getD i Value.none);rw[zQ,zQ,h1,zB hi];exact h2
theorem qct:Yy X (.builtin "sorted") (rSortT X.K):=by
 intro pins s σ H xs us Q I r h;obtain⟨p,vs,ps,rfl,hp,ht,nd,hz,q⟩:=h;obtain⟨u,rfl,rx⟩:=vals1 r;cases rx;obtain⟨its,n,rv,e,_⟩:=I.lst hp;have tp:=qb2 I ht rv;have hlen:its.length=vs.length:=rv.length.symm;have hl2:=tp.len;refine qbD ⟨_,e,rfl,n,rfl⟩ tp nd ∅ λpa P U=>?_;rw[hl2]at P U;have ep:=qht nd P U;obtain⟨m,hm⟩:=PyProof.Rows.sortedAll_at s.heap its (zAT its pa);have hvs:YZ ((ixT ps).map λi=>vs.getD i .non) ((ixT ps).map λi=>its.getD i Value.none):=q7q rv λi hi=>by have:=qdS i hi;omega
 have ln:((ixT ps).map λi=>vs.getD i .non).length<=sizeLine:=by
  rw[zA,show (ixT ps).length=ps.length from q0V.length_eq.trans zX,vX];omega
 have I2:=I.laid (a:=s.heap.objs.size+1) (o:=.lst ((ixT ps).map λi=>vs.getD i .non)) (t':=s.toks) (λb o e=>PyProof.Rows.sortedAll_old e) (yt _)
  (show Yc X.prog X.w _ (PyProof.Rows.sortedAll s.heap its (zAT its pa)) _ (.lst _)from ⟨ln,_,m,hvs,by rw[hm];unfold zAT;rw[ep]⟩)
 exact⟨.ref _,_,I2,rfl,q _ (I.hok.fresh (yt _))⟩
end
noncomputable def pr2(p:Int×Int):D:=.tup [.int p.1,.int p.2]
noncomputable def X2:List D->Option (List (Int×Int))
 | []=>some []
 | .tup [.int a,.int b]::r=>(X2 r).map λl=>(a,b)::l
 | _=>none
theorem q7l:∀{ps:List (Int×Int)},X2 (ps.map pr2)=some ps
 | []=>rfl
 | p::ps=>by
  show (X2 (ps.map pr2)).map _=_;rw[q7l];rfl
theorem qeN{ds:List D}{ps:List (Int×Int)}(e:X2 ds=some ps):ds=ps.map pr2:=by
 fun_induction X2 ds generalizing ps with
 | case1=>cases e;rfl
 | case2 a b r ih=>
  cases h:X2 r with
  | none=>rw[h]at e;cases e
  | some l=>rw[h]at e;cases e;rw[ih h];rfl
 | case3=>cases e
noncomputable def zAq:D->Option R
 | .lst ds=>(X2 ds).bind λps=>if ps.Nodup/\ps.length<64 then some (.fr ((sortBy ltP ps).map pr2))else none
 | _=>none
noncomputable def W7(f:FD):FE:=λω=>(f ω).bind zAq
section
variable{K:zC}{G H:Hp}
theorem qaF(s:YX G H):∀{ps:List (Int×Int)}{vs:List V},YQ K G (ps.map pr2) vs->TupV K H vs ps
 | [],_,e=>by cases e;trivial
 | p::ps,_,⟨v,r,e,h,t⟩=>by
  subst e;obtain⟨a,us,rfl,h1,h2⟩:=h;obtain⟨x,y,rfl,e1,e2⟩:=YQ.two h2;cases e1;cases e2;exact⟨⟨a,rfl,.inl (.inl (s _ _ h1))⟩,qaF s t⟩
theorem q7I{ps:List (Int×Int)}{vs:List V}(h:YQ K G (ps.map pr2) vs):∀{l:List Nat},(∀i∈l,i<ps.length)->YQ K G ((l.map λi=>ps.getD i (0,0)).map pr2) (l.map λi=>vs.getD i .non)
 | [],_=>rfl
 | i::l,hl=>by
  have hi:=hl i zH;obtain⟨v,e1,e2⟩:=h.get (i:=i) (d:=pr2 ps[i]) (by rw[zK,zB hi];rfl);refine⟨_,_,rfl,?_,q7I h λj hj=>hl j (zJ _ hj)⟩;show Rep K G (pr2 (ps.getD i (0,0))) (vs.getD i .non);rw[zQ,zQ,e1,zB hi];exact e2
end
section
variable{X:Cx}
theorem qer{a:vP}{f:FD}{p q:Pos}(hg:Gl X "sorted")(hm:X.mg "sorted" = none)(ha:XV X a f)(he:vK [a] X.env=(false,eval a X.env)::vK [] X.env:=by rfl)(hpl:(vn q (vK [] X.env)).any (·.1)=false:=by rfl):XE X (.Call (.Name "sorted" p) [a] [] q) (W7 f):=by
 obtain⟨t,h1,h2⟩:=ha;refine⟨_,q1H qct hg hm q1Z (qq h1 qI he) (by decide) (by decide) he hpl,λG0 H0 G ω σ H r Q o e k=>?_⟩;obtain⟨d,z,e⟩:=bnd e;refine h2 G0 H0 G ω σ H d _ o z λv G1 H1 x1 y1=>?_;cases d with
 | lst ds=>
  obtain⟨ps,e1,e2⟩:=bnd (show (X2 ds).bind _=some r from e);have hds:=qeN e1;subst hds
  by_cases hz:ps.Nodup/\ps.length<64
  ·rw[vG hz]at e2
   cases e2;obtain⟨p,vs,rfl,g1,g2⟩:=y1.lst x1.gh;refine⟨p,vs,ps,rfl,g1,qaF x1.gh g2,hz.1,hz.2,λl hl=>?_⟩;have x2:=Ext.hide x1.gh hl (.lst ((ixT ps).map λi=>vs.getD i .non));refine k _ G1 _ (x1.trans x2) ⟨l,_,rfl,x1.hh.free hl,x1.gh.free hl,qe,?_⟩;rw[<- qfF];exact q7I g2 qdS
  ·rw[vJ hz]at e2;cases e2
 | _=>cases e
noncomputable def zAp(o:Option D):Option R:=o.bind zAq
theorem qeV{fd:FD}{ω:WSt}:W7 fd ω=zAp (fd ω):=rfl
theorem qia{ps:List (Int×Int)}(h:ps.Nodup)(h2:ps.length<64):zAp (some (.lst (ps.map pr2)))=some (.fr ((sortBy ltP ps).map pr2)):=by
 show (X2 (ps.map pr2)).bind _=_;rw[q7l];exact vG ⟨h,h2⟩
end
section
variable{X:Cx}{e:vP}{es:List vP}{is:List (Option Nat)}{g:FW}{m:List W->Option (D×WSt)}{k k0:Nat}{f:vF}{fd:vM}{ps:List Str}{x:Str}{p pos:Pos}
theorem qeT(c:CalW X.prog X.w X.K X.mg X.base k f fd x ps (e::es).length m)(hr:Room k0 X.A)(ha:XWA X (e::es) is g)(hs:Yj is=true:=by rfl)(hk:k<=k0:=by decide)(hg:Gl X x:=by exact rfl)(hdb:(x==("__debug__" : Str))=false:=by decide)(he:vK (e::es) X.env=(false,eval e X.env)::vK es X.env:=by rfl)(hpl:(vn pos (vK es X.env)).any (·.1)=false:=by rfl):XM X (.Call (.Name x p) (e::es) [] pos) (WQ is m g):=by
 obtain⟨⟨t,h1,h2⟩,h5⟩:=ha;refine⟨_,q3y c.1 (hr.mono hk) hg c.2.1 c.2.2.1 c.2.2.2 .nil zAK h1 hdb he hpl,λG0 H0 G ω σ H d ω' Q o ec kk=>?_⟩;exact q7K hs h2 h5 o ec λv G' H' o' s' y'=>kk v G' H' o' s' y'
end
end Hk
set_option maxHeartbeats 4000000
namespace Kx
open PySem L2 Hk
noncomputable def top(i:Nat):vo:=PySem.Challenge.pw_hookrail_k63_turns.main.body.getD i (.Pass ⟨0,0,0,0⟩)
section
variable{P:vO}{w:vU}{K:zC}{mg:Str->Option vB}{base:vY}{f:vF}{fd:vM}
noncomputable def q5J:FS:=(Yr (eOf (WM (dOf (Wp .int (vOf (YJ 0)))) (vNot (dOf (Wp .bl (vOf (YJ 0))))))))
noncomputable def qw:List D->Option O:=mir 1 q5J
noncomputable abbrev q3V:vo:=top 5
theorem qco:FnScope ["thing"] ["thing"] (YL q3V):=⟨rfl,rfl,rfl,⋯,rfl,⋯,⋯⟩
theorem qac (F:Fun K "is_whole" "is_whole" q3V f fd)(z_isinstance:mg "isinstance" = none)(z_bool:mg "bool" = none)(z_int:mg "int" = none)(i_int:IsT K .int)(i_bool:IsT K .bl):
  FnOk P w K mg base CX0 1 f fd ["thing"] (spD K 1 qw):=by
 have h:=fnD (P:=P) (w:=w) (mg:=mg) (base:=base) (k:=0) (body:=q5J) F qco (λcdv A outer s H E hr=>
   (qb (ql (XD.toE (q0f (XE.toD (q0X (vV 0) i_int rfl z_isinstance rfl z_int q9k)) (q1U (qdo (XE.toD (q0X (vV 0) i_bool rfl z_isinstance rfl z_bool qay)))))))))
 exact h
noncomputable def q57:FS:=(Yr (eOf (WM (dOf (Wp .tup (vOf (YJ 0)))) (WM (dOf (YO (oEq false) (vOf (Yv Xo (YI (vOf (YJ 0)) YS))) (fC (.int 2)))) (WM (dOf (YR qw (YI (dOf (YO oIx (vOf (YJ 0)) (fC (.int 0)))) YS))) (dOf (YR qw (YI (dOf (YO oIx (vOf (YJ 0)) (fC (.int 1)))) YS))))))))
noncomputable def q2p:List D->Option O:=mir 1 q57
noncomputable abbrev q5w:vo:=top 6
theorem qeX:FnScope ["thing"] ["thing"] (YL q5w):=⟨rfl,rfl,rfl,⋯,rfl,⋯,⋯⟩
theorem qdp{f_is_whole:vF}{d_is_whole:vM}(F:Fun K "is_box" "is_box" q5w f fd)(c_is_whole:Cal P w K mg base 1 f_is_whole d_is_whole "is_whole" ["thing"] 1 qw)(z_len:mg "len" = none)(z_isinstance:mg "isinstance" = none)(z_tuple:mg "tuple" = none)(i_tuple:IsT K .tup):
  FnOk P w K mg base CX0 2 f fd ["thing"] (spD K 1 q2p):=by
 have h:=fnD (P:=P) (w:=w) (mg:=mg) (base:=base) (k:=1) (body:=q57) F qeX (λcdv A outer s H E hr=>
   (qb (ql (XD.toE (q0f (XE.toD (q0X (vV 0) i_tuple rfl z_isinstance rfl z_tuple q5y)) (q0f (XE.toD (zA7 hr.units (XE.toV (qr qo qV rfl z_len qU (qf (vV 0) qh))) (XD.toV YK))) (q0f (XE.toD (xc c_is_whole hr (YH (XE.toD (YN (vV 0) (XD.toV YK))) YM))) (q1U (XE.toD (xc c_is_whole hr (YH (XE.toD (YN (vV 0) (XD.toV YK))) YM)))))))))))
 exact h
noncomputable def q4k:FD:=(dOf (YR q2p (YI (dOf (YJ 0)) YS)))
noncomputable def q3k:FS:=(YY (sIf (zAP (XC (X5 (vOf (YR qw (YI (dOf (YJ 0)) YS))))) (zAP (XC (X5 (vOf (YR qw (YI (dOf (YJ 1)) YS))))) (XC (X5 (vOf (Wp .lst (vOf (YJ 2)))))))) (Yr (eOf (fC (.bl false)))) X8)
  (Yr (Yv bAll (YI (vOf (Yp 1 [] (XX (dOf (YJ 2))) (gN 0) Yn q4k)) YS))))
noncomputable def q0r:List D->Option O:=mir 3 q3k
noncomputable abbrev q37:vo:=top 7
theorem q9S:FnScope ["home", "last", "boxes"] ["home", "last", "boxes"] (YL q37):=⟨rfl,rfl,rfl,⋯,rfl,⋯,⋯⟩
theorem q8i{f_is_whole:vF}{d_is_whole:vM}{f_is_box:vF}{d_is_box:vM}(F:Fun K "is_errand" "is_errand" q37 f fd)(c_is_whole:Cal P w K mg base 1 f_is_whole d_is_whole "is_whole" ["thing"] 1 qw)(c_is_box:Cal P w K mg base 2 f_is_box d_is_box "is_box" ["thing"] 1 q2p)(z_isinstance:mg "isinstance" = none)(z_list:mg "list" = none)(z_all:mg "all" = none)(i_list:IsT K .lst):
  FnOk P w K mg base CX0 3 f fd ["home", "last", "boxes"] (spD K 3 q0r):=by
 have h:=fnD (P:=P) (w:=w) (mg:=mg) (base:=base) (k:=2) (body:=q3k) F q9S (λcdv A outer s H E hr=>
   (q0 (q0b (XW.toT (q34 (q0e (qQ (XE.toV (xc c_is_whole hr (YH (vD 0) YM))))) (q34 (q0e (qQ (XE.toV (xc c_is_whole hr (YH (vD 1) YM))))) (q5K (q0e (qQ (XE.toV (q0X (vV 2) i_list rfl z_isinstance rfl z_list q2i)))))))) (qb (ql (XD.toE Xw))) qD)
   (qb (ql (qr (q7m rfl) qcG rfl z_all qe8 (qf (XE.toV (q0c rfl (blk ["box"] [] [] rfl ⋯ ⋯ rfl trivial) (qy (vD 2)) (qz 0) (λ_ _ _ _=>⟨(qg (i:=0) (show ((["box"]:List Str)++([]:List Str):List Str).Nodup from by decide +kernel) rfl (Or.inl rfl)),qK,(XE.toD (xc c_is_box hr (YH (vD 0) YM)))⟩))) qh))))))
 exact h
noncomputable def q1I:FS:=(sIf (XC (X5 (vOf (YR q0r (YI (dOf (YJ 0)) (YI (dOf (YJ 1)) (YI (dOf (YJ 2)) YS))))))) sNo X8)
noncomputable def q0k:List D->Option O:=mir 3 q1I
noncomputable abbrev q1J:vo:=top 8
theorem q6P:FnScope ["home", "last", "boxes"] ["home", "last", "boxes"] (YL q1J):=⟨rfl,rfl,rfl,⋯,rfl,⋯,⋯⟩
theorem q5P{f_is_errand:vF}{d_is_errand:vM}(F:Fun K "check_errand" "check_errand" q1J f fd)(c_is_errand:Cal P w K mg base 3 f_is_errand d_is_errand "is_errand" ["home", "last", "boxes"] 3 q0r):
  FnOk P w K mg base CX0 4 f fd ["home", "last", "boxes"] (spD K 3 q0k):=by
 have h:=fnD (P:=P) (w:=w) (mg:=mg) (base:=base) (k:=3) (body:=q1I) F q6P (λcdv A outer s H E hr=>
   (qb (q0b (q0e (qQ (XE.toV (xc c_is_errand hr (YH (vD 0) (YH (vD 1) (YH (vD 2) YM))))))) (qb qfC) qD)))
 exact h
noncomputable def q5s:FS:=(sExt 3 (dOf (YJ 4)))
noncomputable def q72:FS:=(YY (zAd (YR q0k (YI (dOf (YJ 0)) (YI (dOf (YJ 1)) (YI (dOf (YJ 2)) YS)))))
  (YY (Yk 3 (WD (YI (dOf (YJ 0)) (YI (dOf (YJ 1)) YS))))
  (YY (Xp (XX (dOf (YJ 2))) (gN 4) q5s)
  (Yr (Y5 (vOf (YJ 3)))))))
noncomputable def q3x:List D->Option O:=mir 5 q72
noncomputable abbrev q6D:vo:=top 9
theorem q70:FnScope ["home", "last", "boxes", "places", "box"] ["home", "last", "boxes"] (YL q6D):=⟨rfl,rfl,rfl,⋯,rfl,⋯,⋯⟩
theorem qev{f_check_errand:vF}{d_check_errand:vM}(F:Fun K "stops" "stops" q6D f fd)(c_check_errand:Cal P w K mg base 4 f_check_errand d_check_errand "check_errand" ["home", "last", "boxes"] 3 q0k)(z_sorted:mg "sorted" = none)(z_set:mg "set" = none):
  FnOk P w K mg base CX0 5 f fd ["home", "last", "boxes"] (spD K 3 q3x):=by
 have h:=fnD (P:=P) (w:=w) (mg:=mg) (base:=base) (k:=4) (body:=q72) F q70 (λcdv A outer s H E hr=>
   (q0 (qak (xc c_check_errand hr (YH (vD 0) (YH (vD 1) (YH (vD 2) YM)))))
   (q0 (qi (i:=3) q70.nd rfl (Or.inl rfl) (Yo (YH (vD 0) (YH (vD 1) YM))))
   (q0 (qG PassesOwn.never rfl (qy (vD 2)) (qg (i:=4) q70.nd rfl (Or.inl rfl)) (qb (qh9 (pv 3) (vD 4))))
   (qb (ql (q5Z rfl z_sorted rfl z_set (vV 3))))))))
 exact h
noncomputable def q4g:FS:=sNb
noncomputable def q1r:List D->Option O:=mir 5 q4g
noncomputable abbrev q2G:vo:=top 11
theorem q4f:FnScope ["things", "ties", "beside", "thing", "tie"] ["things", "ties"] (YL q2G):=⟨rfl,rfl,rfl,⋯,rfl,⋯,⋯⟩
theorem q7Y (F:Fun K "neighbours" "neighbours" q2G f fd):
  FnOk P w K mg base CX0 1 f fd ["things", "ties"] (spD K 2 q1r):=by
 have h:=fnD (P:=P) (w:=w) (mg:=mg) (base:=base) (k:=0) (body:=q4g) F q4f (λcdv A outer s H E hr=>
   (qhx hr.units PassesOwn.never rfl q4f.nd rfl rfl rfl (by first|exact Or.inl rfl|exact Or.inr rfl) (by first|exact Or.inl rfl|exact Or.inr rfl) (by first|exact Or.inl rfl|exact Or.inr rfl) (by first|exact .inl rfl|exact .inr rfl) (by first|exact .inl rfl|exact .inr rfl) (by first|exact .inl rfl|exact .inr rfl) (pv 0) (pv 1) (pv 2) (pv 2) (pv 2) (pv 3) (pv 2) (XE.toD (YN (vV 4) (XD.toV YK))) (XE.toD (YN (vV 4) (XD.toV YK))) (XE.toD (YN (vV 4) (XD.toV YK))) (XE.toD (YN (vV 4) (XD.toV YK))) (λω e h=>qhf h) (λω e h=>qh5 h)))
 exact h
noncomputable def q3b:FS:=(sIf (zAC true 2 (dOf (YJ 5))) (YY (Wj 2 (dOf (YJ 5)) (fC (.bl true)))
  (zAQ 3 (dOf (YJ 5)))) X8)
noncomputable def q1R:FT:=(X5 (vOf (YJ 3)))
noncomputable def q3t:FS:=(YY (zAX 4 (zAW 3))
  (Xp (XX (dOf (WP 1 (dOf (YJ 4))))) (gN 5) q3b))
noncomputable def q3T:FS:=(YY (W2 2 (dOf (YJ 0)) (fC (.bl true)))
  (YY (Yk 3 (WD (YI (dOf (YJ 0)) YS)))
  (YY (sWh 1000000 q1R q3t)
  (Yr (Wy 2)))))
noncomputable def q1l:List D->Option O:=mir 6 q3T
noncomputable abbrev q3J:vo:=top 12
theorem q1j:FnScope ["thing", "beside", "found", "waiting", "here", "other"] ["thing", "beside"] (YL q3J):=⟨rfl,rfl,rfl,⋯,rfl,⋯,⋯⟩
theorem q9Z (F:Fun K "group_of" "group_of" q3J f fd)(z_sorted:mg "sorted" = none):
  FnOk P w K mg base CX0 1 f fd ["thing", "beside"] (spD K 2 q1l):=by
 have h:=fnD (P:=P) (w:=w) (mg:=mg) (base:=base) (k:=0) (body:=q3T) F q1j (λcdv A outer s H E hr=>
   (q0 (qel (i:=2) q1j.nd rfl (Or.inl rfl) (vD 0) Xw)
   (q0 (qi (i:=3) q1j.nd rfl (Or.inl rfl) (Yo (YH (vD 0) YM)))
   (q0 (q8O PassesOwn.never (qQ (vV 3)) (q0 (qfZ (i:=4) q1j.nd rfl (Or.inl rfl) (qfG (pv 3)))
   (qb (qG PassesOwn.never rfl (qy (XE.toD (q3v hr.units (pv 1) (vD 4)))) (qg (i:=5) q1j.nd rfl (Or.inl rfl)) (qb (q0b (q7V hr.units (vD 5) (pv 2)) (q0 (q4U hr.units (pv 2) (vD 5) Xw)
   (qb (q1V (pv 3) (vD 5)))) qD))))))
   (qb (ql (qeD rfl rfl z_sorted (pv 2))))))))
 exact h
noncomputable def q4c:FS:=(Wj 3 (dOf (YJ 7)) (fC (.bl true)))
noncomputable def q41:FS:=(sIf (zAC true 3 (dOf (YJ 5))) (YY (Yk 6 (eOf (dOf (YR q1l (YI (dOf (YJ 5)) (YI (dOf (YJ 2)) YS))))))
  (YY (zAQ 4 (dOf (YJ 6)))
  (Xp (XX (dOf (YJ 6))) (gN 7) q4c))) X8)
noncomputable def q5q:FS:=(YY (Yk 2 (eOf (dOf (YR q1r (YI (dOf (YJ 0)) (YI (dOf (YJ 1)) YS))))))
  (YY (Wz 3)
  (YY (Yk 4 (WD YS))
  (YY (Xp (XX (dOf (W9 (vOf (YJ 0))))) (gN 5) q41)
  (WA 4)))))
noncomputable def q1Q:List D->Option O:=mir 8 q5q
noncomputable abbrev q5k:vo:=top 13
theorem q19:FnScope ["things", "ties", "beside", "grouped", "told", "thing", "group", "member"] ["things", "ties"] (YL q5k):=⟨rfl,rfl,rfl,⋯,rfl,⋯,⋯⟩
theorem qe7{f_neighbours:vF}{d_neighbours:vM}{f_group_of:vF}{d_group_of:vM}(F:Fun K "groups" "groups" q5k f fd)(c_neighbours:Cal P w K mg base 1 f_neighbours d_neighbours "neighbours" ["things", "ties"] 2 q1r)(c_group_of:Cal P w K mg base 1 f_group_of d_group_of "group_of" ["thing", "beside"] 2 q1l)(z_sorted:mg "sorted" = none):
  FnOk P w K mg base CX0 2 f fd ["things", "ties"] (spD K 2 q1Q):=by
 have h:=fnD (P:=P) (w:=w) (mg:=mg) (base:=base) (k:=1) (body:=q5q) F q19 (λcdv A outer s H E hr=>
   (q0 (qi (i:=2) q19.nd rfl (Or.inl rfl) (XD.toE (XE.toD (xc c_neighbours hr (YH (vD 0) (YH (vD 1) YM))))))
   (q0 (q6q (i:=3) q19.nd rfl (Or.inl rfl))
   (q0 (qi (i:=4) q19.nd rfl (Or.inl rfl) (Yo YM))
   (q0 (qG PassesOwn.never rfl (qy (XE.toD (qfW rfl z_sorted (vV 0)))) (qg (i:=5) q19.nd rfl (Or.inl rfl)) (qb (q0b (q7V hr.units (vD 5) (pv 3)) (q0 (qi (i:=6) q19.nd rfl (Or.inl rfl) (XD.toE (XE.toD (xc c_group_of hr (YH (vD 5) (YH (vD 2) YM))))))
   (q0 (q1V (pv 4) (vD 6))
   (qb (qG PassesOwn.never rfl (qy (vD 6)) (qg (i:=7) q19.nd rfl (Or.inl rfl)) (qb (q4U hr.units (pv 3) (vD 7) Xw)))))) qD)))
   (qb (q2l (pv 4))))))))
 exact h
noncomputable def qdk:FS:=(Yr (YO oIx (vOf (YJ 0)) (fC (.int 2))))
noncomputable def q0y:List D->Option O:=mir 1 qdk
noncomputable abbrev q96:vo:=top 15
theorem qhp:FnScope ["edge"] ["edge"] (YL q96):=⟨rfl,rfl,rfl,⋯,rfl,⋯,⋯⟩
theorem qfN (F:Fun K "cost" "cost" q96 f fd):
  FnOk P w K mg base CX0 1 f fd ["edge"] (spD K 1 q0y):=by
 have h:=fnD (P:=P) (w:=w) (mg:=mg) (base:=base) (k:=0) (body:=qdk) F qhp (λcdv A outer s H E hr=>
   (qb (ql (YN (vV 0) (XD.toV YK)))))
 exact h
noncomputable def q0Z:FS:=(Wj 1 (dOf (YJ 4)) (dOf (YJ 2)))
noncomputable def q17:FS:=(Xp (XX (dOf (YJ 3))) (gN 4) q0Z)
noncomputable def q1s:FS:=(YY (Wz 1)
  (YY (Xp (iEn (YI (dOf (YJ 0)) YS)) (gT 2 (YT (gN 2) (YT (gN 3) Yt))) q17)
  (Y3 1 (Yr (YJ 1)))))
noncomputable def qS:List D->Option O:=mir 5 q1s
noncomputable abbrev q1q:vo:=top 16
theorem q06:FnScope ["parts", "numbers", "number", "part", "thing"] ["parts"] (YL q1q):=⟨rfl,rfl,rfl,⋯,rfl,⋯,⋯⟩
theorem q5d (F:Fun K "group_numbers" "group_numbers" q1q f fd)(z_enumerate:mg "enumerate" = none):
  FnOk P w K mg base CX0 1 f fd ["parts"] (spD K 1 qS):=by
 have h:=fnD (P:=P) (w:=w) (mg:=mg) (base:=base) (k:=0) (body:=q1s) F q06 (λcdv A outer s H E hr=>
   (q0 (q6q (i:=1) q06.nd rfl (Or.inl rfl))
   (q0 (qG PassesOwn.never rfl (qgT rfl z_enumerate (YH (vD 0) YM)) (q1Y rfl (qx (qg (i:=2) q06.nd rfl (Or.inl rfl)) (qx (qg (i:=3) q06.nd rfl (Or.inl rfl)) q1c))) (qb (qG PassesOwn.never rfl (qy (vD 3)) (qg (i:=4) q06.nd rfl (Or.inl rfl)) (qb (q4U hr.units (pv 1) (vD 4) (vD 2))))))
   (q03 1 (qb (ql (vE 1)))))))
 exact h
noncomputable def q0H:FS:=(Wj 3 (dOf (YJ 4)) (dOf (fIte (tOf (YO (oEq false) (vOf (WP 0 (dOf (YJ 4)))) (vOf (YJ 2)))) (YJ 1) (WP 0 (dOf (YJ 4))))))
noncomputable def q0N:FS:=(YY (Wz 3)
  (YY (Xp (iDk 0) (gN 4) q0H)
  (Y3 3 (Yr (YJ 3)))))
noncomputable def qW:List D->Option O:=mir 5 q0N
noncomputable abbrev q0O:vo:=top 17
theorem q0P:FnScope ["numbers", "one", "other", "joined", "thing"] ["numbers", "one", "other"] (YL q0O):=⟨rfl,rfl,rfl,⋯,rfl,⋯,⋯⟩
theorem q45 (F:Fun K "with_two_joined" "with_two_joined" q0O f fd):
  FnOk P w K mg base CX0 1 f fd ["numbers", "one", "other"] (spD K 3 qW):=by
 have h:=fnD (P:=P) (w:=w) (mg:=mg) (base:=base) (k:=0) (body:=q0N) F q0P (λcdv A outer s H E hr=>
   (q0 (q6q (i:=3) q0P.nd rfl (Or.inl rfl))
   (q0 (qG PassesOwn.never rfl (qg6 (pv 0)) (qg (i:=4) q0P.nd rfl (Or.inl rfl)) (qb (q4U hr.units (pv 3) (vD 4) (XE.toD (q9H (WL hr.units (XE.toV (q3v hr.units (pv 0) (vD 4))) (vV 2)) (vE 1) (q3v hr.units (pv 0) (vD 4)))))))
   (q03 3 (qb (ql (vE 3)))))))
 exact h
noncomputable def q4a:FS:=(YY (Yk 6 (eOf (dOf (WP 3 (dOf (YO oIx (vOf (YJ 5)) (fC (.int 0))))))))
  (YY (Yk 7 (eOf (dOf (WP 3 (dOf (YO oIx (vOf (YJ 5)) (fC (.int 1))))))))
  (sIf (tOf (YO (oEq true) (vOf (YJ 6)) (vOf (YJ 7)))) (YY (zAQ 4 (dOf (YJ 5)))
  (Yk 3 (eOf (dOf (YR qW (YI (dOf (YJ 3)) (YI (dOf (YJ 6)) (YI (dOf (YJ 7)) YS)))))))) X8)))
noncomputable def q5p:FS:=(YY (Yk 3 (eOf (dOf (YR qS (YI (dOf (YR q1Q (YI (dOf (YJ 0)) (YI (dOf (YJ 1)) YS)))) YS)))))
  (YY (Yk 4 (WD YS))
  (YY (Xp (XX (dOf (zAE q0y (vOf (YJ 2))))) (gN 5) q4a)
  (WA 4))))
noncomputable def q2v:List D->Option O:=mir 8 q5p
noncomputable abbrev q5c:vo:=top 18
theorem q18:FnScope ["things", "knots", "edges", "numbers", "taken", "edge", "one", "other"] ["things", "knots", "edges"] (YL q5c):=⟨rfl,rfl,rfl,⋯,rfl,⋯,⋯⟩
theorem qdL{f_group_numbers:vF}{d_group_numbers:vM}{f_groups:vF}{d_groups:vM}{f_cost:vF}{d_cost:vM}{f_with_two_joined:vF}{d_with_two_joined:vM}(F:Fun K "forest" "forest" q5c f fd)(c_group_numbers:Cal P w K mg base 1 f_group_numbers d_group_numbers "group_numbers" ["parts"] 1 qS)(c_groups:Cal P w K mg base 2 f_groups d_groups "groups" ["things", "ties"] 2 q1Q)(c_cost:Cal P w K mg base 1 f_cost d_cost "cost" ["edge"] 1 q0y)(c_with_two_joined:Cal P w K mg base 1 f_with_two_joined d_with_two_joined "with_two_joined" ["numbers", "one", "other"] 3 qW)(z_sorted:mg "sorted" = none):
  FnOk P w K mg base CX0 4 f fd ["things", "knots", "edges"] (spD K 3 q2v):=by
 have h:=fnD (P:=P) (w:=w) (mg:=mg) (base:=base) (k:=3) (body:=q5p) F q18 (λcdv A outer s H E hr=>
   (q0 (qi (i:=3) q18.nd rfl (Or.inl rfl) (XD.toE (XE.toD (xc c_group_numbers hr (YH (XE.toD (xc c_groups hr (YH (vD 0) (YH (vD 1) YM)))) YM)))))
   (q0 (qi (i:=4) q18.nd rfl (Or.inl rfl) (Yo YM))
   (q0 (qG PassesOwn.never rfl (qy (XE.toD (qf0 c_cost hr z_sorted (vV 2)))) (qg (i:=5) q18.nd rfl (Or.inl rfl)) (q0 (qi (i:=6) q18.nd rfl (Or.inl rfl) (XD.toE (XE.toD (q3v hr.units (pv 3) (XE.toD (YN (vV 5) (XD.toV YK)))))))
   (q0 (qi (i:=7) q18.nd rfl (Or.inl rfl) (XD.toE (XE.toD (q3v hr.units (pv 3) (XE.toD (YN (vV 5) (XD.toV YK)))))))
   (qb (q0b (Wg hr.units (vV 6) (vV 7)) (q0 (q1V (pv 4) (vD 5))
   (qb (qi (i:=3) q18.nd rfl (Or.inl rfl) (XD.toE (XE.toD (xc c_with_two_joined hr (YH (vD 3) (YH (vD 6) (YH (vD 7) YM))))))))) qD)))))
   (qb (q2l (pv 4)))))))
 exact h
noncomputable def q5m:FS:=(Yr (eOf (WM (dOf (YR qw (YI (dOf (YJ 0)) YS))) (dOf (YO (oIn false) (vOf (YJ 0)) (zAi (YI (fC (.int 1)) (YI (dOf (zA1 (fC (.int 1)))) YS))))))))
noncomputable def q2n:List D->Option O:=mir 1 q5m
noncomputable abbrev q5u:vo:=top 20
theorem qfg:FnScope ["thing"] ["thing"] (YL q5u):=⟨rfl,rfl,rfl,⋯,rfl,⋯,⋯⟩
theorem qcI{f_is_whole:vF}{d_is_whole:vM}(F:Fun K "is_way" "is_way" q5u f fd)(c_is_whole:Cal P w K mg base 1 f_is_whole d_is_whole "is_whole" ["thing"] 1 qw):
  FnOk P w K mg base CX0 2 f fd ["thing"] (spD K 1 q2n):=by
 have h:=fnD (P:=P) (w:=w) (mg:=mg) (base:=base) (k:=1) (body:=q5m) F qfg (λcdv A outer s H E hr=>
   (qb (ql (XD.toE (q0f (XE.toD (xc c_is_whole hr (YH (vD 0) YM))) (q1U (XE.toD (xe_in (vV 0) (XD.toV (Xl (YH YK (YH (XE.toD (q4h (XD.toV YK))) YM))))))))))))
 exact h
noncomputable def q3f:FS:=(Yr (eOf (WM (dOf (YR qw (YI (dOf (YJ 1)) YS))) (WM (dOf (YO oGe (vOf (YJ 1)) (fC (.int 0)))) (dOf (YO oLt (vOf (YJ 1)) (vOf (YJ 0))))))))
noncomputable def qN:List D->Option O:=mir 2 q3f
noncomputable abbrev q3p:vo:=top 21
theorem q9O:FnScope ["size", "thing"] ["size", "thing"] (YL q3p):=⟨rfl,rfl,rfl,⋯,rfl,⋯,⋯⟩
theorem q8W{f_is_whole:vF}{d_is_whole:vM}(F:Fun K "has_place" "has_place" q3p f fd)(c_is_whole:Cal P w K mg base 1 f_is_whole d_is_whole "is_whole" ["thing"] 1 qw):
  FnOk P w K mg base CX0 2 f fd ["size", "thing"] (spD K 2 qN):=by
 have h:=fnD (P:=P) (w:=w) (mg:=mg) (base:=base) (k:=1) (body:=q3f) F q9O (λcdv A outer s H E hr=>
   (qb (ql (XD.toE (q0f (XE.toD (xc c_is_whole hr (YH (vD 1) YM))) (q0f (XE.toD (qi3 (vV 1) (XD.toV YK))) (q1U (XE.toD (qfz (vV 1) (vV 0))))))))))
 exact h
noncomputable def q2d:FS:=(YY (sIf (zAP (XC (X5 (vOf (Wp .tup (vOf (YJ 1)))))) (tOf (YO (oEq true) (vOf (Yv Xo (YI (vOf (YJ 1)) YS))) (fC (.int 3))))) (Yr (eOf (fC (.bl false)))) X8)
  (Yr (eOf (WM (dOf (YR qN (YI (dOf (YJ 0)) (YI (dOf (YO oIx (vOf (YJ 1)) (fC (.int 0)))) YS)))) (WM (dOf (YR qN (YI (dOf (YJ 0)) (YI (dOf (YO oIx (vOf (YJ 1)) (fC (.int 1)))) YS)))) (dOf (YR q2n (YI (dOf (YO oIx (vOf (YJ 1)) (fC (.int 2)))) YS))))))))
noncomputable def q0o:List D->Option O:=mir 2 q2d
noncomputable abbrev q21:vo:=top 22
theorem q84:FnScope ["size", "thing"] ["size", "thing"] (YL q21):=⟨rfl,rfl,rfl,⋯,rfl,⋯,⋯⟩
theorem q6M{f_is_way:vF}{d_is_way:vM}{f_has_place:vF}{d_has_place:vM}(F:Fun K "is_ring_box" "is_ring_box" q21 f fd)(c_is_way:Cal P w K mg base 2 f_is_way d_is_way "is_way" ["thing"] 1 q2n)(c_has_place:Cal P w K mg base 2 f_has_place d_has_place "has_place" ["size", "thing"] 2 qN)(z_len:mg "len" = none)(z_isinstance:mg "isinstance" = none)(z_tuple:mg "tuple" = none)(i_tuple:IsT K .tup):
  FnOk P w K mg base CX0 3 f fd ["size", "thing"] (spD K 2 q0o):=by
 have h:=fnD (P:=P) (w:=w) (mg:=mg) (base:=base) (k:=2) (body:=q2d) F q84 (λcdv A outer s H E hr=>
   (q0 (q0b (XW.toT (q34 (q0e (qQ (XE.toV (q0X (vV 1) i_tuple rfl z_isinstance rfl z_tuple q5y)))) (q5K (Wg hr.units (XE.toV (qr qo qV rfl z_len qU (qf (vV 1) qh))) (XD.toV YK))))) (qb (ql (XD.toE Xw))) qD)
   (qb (ql (XD.toE (q0f (XE.toD (xc c_has_place hr (YH (vD 0) (YH (XE.toD (YN (vV 1) (XD.toV YK))) YM)))) (q0f (XE.toD (xc c_has_place hr (YH (vD 0) (YH (XE.toD (YN (vV 1) (XD.toV YK))) YM)))) (q1U (XE.toD (xc c_is_way hr (YH (XE.toD (YN (vV 1) (XD.toV YK))) YM)))))))))))
 exact h
noncomputable def q3I:FD:=(dOf (YR q0o (YI (dOf (YJ 1)) (YI (dOf (YJ 0)) YS))))
noncomputable def q47:FS:=(YY (sIf (zAP (XC (X5 (vOf (YR qw (YI (dOf (YJ 0)) YS))))) (zAP (XC (X5 (vOf (YR qN (YI (dOf (YJ 0)) (YI (dOf (YJ 1)) YS)))))) (XC (X5 (vOf (YR qN (YI (dOf (YJ 0)) (YI (dOf (YJ 2)) YS)))))))) (Yr (eOf (fC (.bl false)))) X8)
  (Yr (eOf (WM (dOf (Wp .lst (vOf (YJ 3)))) (dOf (Yv bAll (YI (vOf (Yp 1 [0] (XX (dOf (YJ 3))) (gN 0) Yn q3I)) YS)))))))
noncomputable def q1W:List D->Option O:=mir 4 q47
noncomputable abbrev q4d:vo:=top 23
theorem qdy:FnScope ["size", "home", "last", "boxes"] ["size", "home", "last", "boxes"] (YL q4d):=⟨rfl,rfl,rfl,⋯,rfl,⋯,⋯⟩
theorem qch{f_has_place:vF}{d_has_place:vM}{f_is_whole:vF}{d_is_whole:vM}{f_is_ring_box:vF}{d_is_ring_box:vM}(F:Fun K "is_ring" "is_ring" q4d f fd)(c_has_place:Cal P w K mg base 2 f_has_place d_has_place "has_place" ["size", "thing"] 2 qN)(c_is_whole:Cal P w K mg base 1 f_is_whole d_is_whole "is_whole" ["thing"] 1 qw)(c_is_ring_box:Cal P w K mg base 3 f_is_ring_box d_is_ring_box "is_ring_box" ["size", "thing"] 2 q0o)(z_all:mg "all" = none)(z_isinstance:mg "isinstance" = none)(z_list:mg "list" = none)(i_list:IsT K .lst):
  FnOk P w K mg base CX0 4 f fd ["size", "home", "last", "boxes"] (spD K 4 q1W):=by
 have h:=fnD (P:=P) (w:=w) (mg:=mg) (base:=base) (k:=3) (body:=q47) F qdy (λcdv A outer s H E hr=>
   (q0 (q0b (XW.toT (q34 (q0e (qQ (XE.toV (xc c_is_whole hr (YH (vD 0) YM))))) (q34 (q0e (qQ (XE.toV (xc c_has_place hr (YH (vD 0) (YH (vD 1) YM)))))) (q5K (q0e (qQ (XE.toV (xc c_has_place hr (YH (vD 0) (YH (vD 2) YM)))))))))) (qb (ql (XD.toE Xw))) qD)
   (qb (ql (XD.toE (q0f (XE.toD (q0X (vV 3) i_list rfl z_isinstance rfl z_list q2i)) (q1U (XE.toD (qr (q7m rfl) qcG rfl z_all qe8 (qf (XE.toV (q0c rfl (blk ["box"] ["size"] [0] rfl ⋯ ⋯ rfl ⟨⟨rfl,(by first|exact Or.inl rfl|exact Or.inr rfl),rfl⟩,trivial⟩) (qy (vD 3)) (qz 0) (λ_ _ _ _=>⟨(qg (i:=0) (show ((["box"]:List Str)++(["size"]:List Str):List Str).Nodup from by decide +kernel) rfl (Or.inl rfl)),qK,(XE.toD (xc c_is_ring_box hr (YH (vD 1) (YH (vD 0) YM))))⟩))) qh))))))))))
 exact h
noncomputable def q2O:FS:=(sIf (XC (X5 (vOf (YR q1W (YI (dOf (YJ 0)) (YI (dOf (YJ 1)) (YI (dOf (YJ 2)) (YI (dOf (YJ 3)) YS)))))))) sNo X8)
noncomputable def q0v:List D->Option O:=mir 4 q2O
noncomputable abbrev q2N:vo:=top 24
theorem q8D:FnScope ["size", "home", "last", "boxes"] ["size", "home", "last", "boxes"] (YL q2N):=⟨rfl,rfl,rfl,⋯,rfl,⋯,⋯⟩
theorem q85{f_is_ring:vF}{d_is_ring:vM}(F:Fun K "check_ring" "check_ring" q2N f fd)(c_is_ring:Cal P w K mg base 4 f_is_ring d_is_ring "is_ring" ["size", "home", "last", "boxes"] 4 q1W):
  FnOk P w K mg base CX0 5 f fd ["size", "home", "last", "boxes"] (spD K 4 q0v):=by
 have h:=fnD (P:=P) (w:=w) (mg:=mg) (base:=base) (k:=4) (body:=q2O) F q8D (λcdv A outer s H E hr=>
   (qb (q0b (q0e (qQ (XE.toV (xc c_is_ring hr (YH (vD 0) (YH (vD 1) (YH (vD 2) (YH (vD 3) YM)))))))) (qb qfC) qD)))
 exact h
noncomputable def q30:FD:=(dOf (fSl (vOf (YJ 0)) pNo (pAt (fC (.int 2)))))
noncomputable def q1C:FS:=(Yr (Yp 1 [] (XX (dOf (YJ 0))) (gN 0) Yn q30))
noncomputable def qL:List D->Option O:=mir 1 q1C
noncomputable abbrev q1F:vo:=top 25
theorem q6t:FnScope ["boxes"] ["boxes"] (YL q1F):=⟨rfl,rfl,rfl,⋯,rfl,⋯,⋯⟩
theorem q6c (F:Fun K "without_ways" "without_ways" q1F f fd):
  FnOk P w K mg base CX0 1 f fd ["boxes"] (spD K 1 qL):=by
 have h:=fnD (P:=P) (w:=w) (mg:=mg) (base:=base) (k:=0) (body:=q1C) F q6t (λcdv A outer s H E hr=>
   (qb (ql (q0c rfl (blk ["box"] [] [] rfl ⋯ ⋯ rfl trivial) (qy (vD 0)) (qz 0) (λ_ _ _ _=>⟨(qg (i:=0) (show ((["box"]:List Str)++([]:List Str):List Str).Nodup from by decide +kernel) rfl (Or.inl rfl)),qK,(XE.toD (XJ (vV 0) X9 (XR (XD.toV YK))))⟩)))))
 exact h
noncomputable def q4M:FS:=(Yr (YO oMod (vOf (YO WS (vOf (YO Wk (vOf (YJ 2)) (vOf (YJ 1)))) (vOf (YJ 3)))) (vOf (YJ 0))))
noncomputable def q02:List D->Option O:=mir 4 q4M
noncomputable abbrev q6j:vo:=top 26
theorem qgK:FnScope ["size", "start", "goal", "way"] ["size", "start", "goal", "way"] (YL q6j):=⟨rfl,rfl,rfl,⋯,rfl,⋯,⋯⟩
theorem qf2 (F:Fun K "steps" "steps" q6j f fd):
  FnOk P w K mg base CX0 1 f fd ["size", "start", "goal", "way"] (spD K 4 q02):=by
 have h:=fnD (P:=P) (w:=w) (mg:=mg) (base:=base) (k:=0) (body:=q4M) F qgK (λcdv A outer s H E hr=>
   (qb (ql (qR (XE.toV (q4p (XE.toV (q0x (vV 2) (vV 1))) (vV 3))) (vV 0)))))
 exact h
noncomputable def q3q:FS:=(YY (zAd (YR q0v (YI (dOf (YJ 0)) (YI (dOf (YJ 1)) (YI (dOf (YJ 2)) (YI (dOf (YJ 3)) YS))))))
  (YY (Yk 4 (eOf (dOf (YR q3x (YI (dOf (YJ 1)) (YI (dOf (YJ 2)) (YI (dOf (YR qL (YI (dOf (YJ 3)) YS))) YS)))))))
  (Yr (Yv Xf (YI (vOf (YJ 4)) (YI (vOf (YO Yw (vOf (fSl (vOf (YJ 4)) (pAt (fC (.int 1))) pNo)) (vOf (fSl (vOf (YJ 4)) pNo (pAt (fC (.int 1))))))) YS))))))
noncomputable def q08:List D->Option O:=mir 5 q3q
noncomputable abbrev q3h:vo:=top 27
theorem q4Y:FnScope ["size", "home", "last", "boxes", "places"] ["size", "home", "last", "boxes"] (YL q3h):=⟨rfl,rfl,rfl,⋯,rfl,⋯,⋯⟩
theorem q8J{f_check_ring:vF}{d_check_ring:vM}{f_stops:vF}{d_stops:vM}{f_without_ways:vF}{d_without_ways:vM}(F:Fun K "ring_gaps" "ring_gaps" q3h f fd)(c_check_ring:Cal P w K mg base 5 f_check_ring d_check_ring "check_ring" ["size", "home", "last", "boxes"] 4 q0v)(c_stops:Cal P w K mg base 5 f_stops d_stops "stops" ["home", "last", "boxes"] 3 q3x)(c_without_ways:Cal P w K mg base 1 f_without_ways d_without_ways "without_ways" ["boxes"] 1 qL)(z_list:mg "list" = none)(z_zip:mg "zip" = none):
  FnOk P w K mg base CX0 6 f fd ["size", "home", "last", "boxes"] (spD K 4 q08):=by
 have h:=fnD (P:=P) (w:=w) (mg:=mg) (base:=base) (k:=5) (body:=q3q) F q4Y (λcdv A outer s H E hr=>
   (q0 (qak (xc c_check_ring hr (YH (vD 0) (YH (vD 1) (YH (vD 2) (YH (vD 3) YM))))))
   (q0 (qi (i:=4) q4Y.nd rfl (Or.inl rfl) (XD.toE (XE.toD (xc c_stops hr (YH (vD 1) (YH (vD 2) (YH (XE.toD (xc c_without_ways hr (YH (vD 3) YM))) YM)))))))
   (qb (ql (qbJ rfl z_list rfl z_zip (qf (vV 4) (qf (XE.toV (qt (XE.toV (XJ (vV 4) (XR (XD.toV YK)) X9)) (XE.toV (XJ (vV 4) X9 (XR (XD.toV YK)))))) qh))))))))
 exact h
noncomputable def q2x:FS:=(Yr (fIte (tOf (YO (oEq false) (vOf (YO oIx (vOf (YJ 1)) (fC (.int 0)))) (vOf (YO oIx (vOf (YJ 1)) (fC (.int 1)))))) (YJ 0) (YR q02 (YI (dOf (YJ 0)) (YI (dOf (YO oIx (vOf (YJ 1)) (fC (.int 0)))) (YI (dOf (YO oIx (vOf (YJ 1)) (fC (.int 1)))) (YI (fC (.int 1)) YS)))))))
noncomputable def q0C:List D->Option O:=mir 2 q2x
noncomputable abbrev q2z:vo:=top 28
theorem q8P:FnScope ["size", "gap"] ["size", "gap"] (YL q2z):=⟨rfl,rfl,rfl,⋯,rfl,⋯,⋯⟩
theorem q87{f_steps:vF}{d_steps:vM}(F:Fun K "gap_length" "gap_length" q2z f fd)(c_steps:Cal P w K mg base 1 f_steps d_steps "steps" ["size", "start", "goal", "way"] 4 q02):
  FnOk P w K mg base CX0 2 f fd ["size", "gap"] (spD K 2 q0C):=by
 have h:=fnD (P:=P) (w:=w) (mg:=mg) (base:=base) (k:=1) (body:=q2x) F q8P (λcdv A outer s H E hr=>
   (qb (ql (q9H (WL hr.units (XE.toV (YN (vV 1) (XD.toV YK))) (XE.toV (YN (vV 1) (XD.toV YK)))) (vE 0) (xc c_steps hr (YH (vD 0) (YH (XE.toD (YN (vV 1) (XD.toV YK))) (YH (XE.toD (YN (vV 1) (XD.toV YK))) (YH YK YM)))))))))
 exact h
noncomputable def q2b:FD:=(dOf (YO Yw (vOf (YJ 0)) (zAi (YI (dOf (YR q0C (YI (dOf (YJ 1)) (YI (dOf (YJ 0)) YS)))) YS))))
noncomputable def q2L:FS:=(Yr (Yp 1 [0] (XX (dOf (YR q08 (YI (dOf (YJ 0)) (YI (dOf (YJ 1)) (YI (dOf (YJ 2)) (YI (dOf (YJ 3)) YS))))))) (gN 0) Yn q2b))
noncomputable def q0j:List D->Option O:=mir 4 q2L
noncomputable abbrev q2s:vo:=top 29
theorem q8g:FnScope ["size", "home", "last", "boxes"] ["size", "home", "last", "boxes"] (YL q2s):=⟨rfl,rfl,rfl,⋯,rfl,⋯,⋯⟩
theorem q7X{f_ring_gaps:vF}{d_ring_gaps:vM}{f_gap_length:vF}{d_gap_length:vM}(F:Fun K "ring_edges" "ring_edges" q2s f fd)(c_ring_gaps:Cal P w K mg base 6 f_ring_gaps d_ring_gaps "ring_gaps" ["size", "home", "last", "boxes"] 4 q08)(c_gap_length:Cal P w K mg base 2 f_gap_length d_gap_length "gap_length" ["size", "gap"] 2 q0C):
  FnOk P w K mg base CX0 7 f fd ["size", "home", "last", "boxes"] (spD K 4 q0j):=by
 have h:=fnD (P:=P) (w:=w) (mg:=mg) (base:=base) (k:=6) (body:=q2L) F q8g (λcdv A outer s H E hr=>
   (qb (ql (q0c rfl (blk ["gap"] ["size"] [0] rfl ⋯ ⋯ rfl ⟨⟨rfl,(by first|exact Or.inl rfl|exact Or.inr rfl),rfl⟩,trivial⟩) (qy (XE.toD (xc c_ring_gaps hr (YH (vD 0) (YH (vD 1) (YH (vD 2) (YH (vD 3) YM))))))) (qz 0) (λ_ _ _ _=>⟨(qg (i:=0) (show ((["gap"]:List Str)++(["size"]:List Str):List Str).Nodup from by decide +kernel) rfl (Or.inl rfl)),qK,(XE.toD (qt (vV 0) (XD.toV (Xl (YH (XE.toD (xc c_gap_length hr (YH (vD 1) (YH (vD 0) YM)))) YM)))))⟩)))))
 exact h
noncomputable def q3a:FS:=(Yr (YO oLt (vOf (YR q02 (YI (dOf (YJ 0)) (YI (dOf (YJ 1)) (YI (dOf (YO oIx (vOf (YJ 3)) (fC (.int 0)))) (YI (fC (.int 1)) YS)))))) (vOf (YR q02 (YI (dOf (YJ 0)) (YI (dOf (YJ 1)) (YI (dOf (YJ 2)) (YI (fC (.int 1)) YS))))))))
noncomputable def q09:List D->Option O:=mir 4 q3a
noncomputable abbrev q3j:vo:=top 30
theorem q9Y:FnScope ["size", "start", "goal", "gap"] ["size", "start", "goal", "gap"] (YL q3j):=⟨rfl,rfl,rfl,⋯,rfl,⋯,⋯⟩
theorem q9d{f_steps:vF}{d_steps:vM}(F:Fun K "goes_over" "goes_over" q3j f fd)(c_steps:Cal P w K mg base 1 f_steps d_steps "steps" ["size", "start", "goal", "way"] 4 q02):
  FnOk P w K mg base CX0 2 f fd ["size", "start", "goal", "gap"] (spD K 4 q09):=by
 have h:=fnD (P:=P) (w:=w) (mg:=mg) (base:=base) (k:=1) (body:=q3a) F q9Y (λcdv A outer s H E hr=>
   (qb (ql (qfz (XE.toV (xc c_steps hr (YH (vD 0) (YH (vD 1) (YH (XE.toD (YN (vV 3) (XD.toV YK))) (YH YK YM)))))) (XE.toV (xc c_steps hr (YH (vD 0) (YH (vD 1) (YH (vD 2) (YH YK YM))))))))))
 exact h
noncomputable def q2A:FT:=(zAJ (tOf (YO (oEq false) (vOf (YO oIx (vOf (YJ 0)) (fC (.int 2)))) (fC (.int 1)))) (X5 (vOf (YR q09 (YI (dOf (YJ 1)) (YI (dOf (YO oIx (vOf (YJ 0)) (fC (.int 0)))) (YI (dOf (YO oIx (vOf (YJ 0)) (fC (.int 1)))) (YI (dOf (YJ 2)) YS))))))))
noncomputable def q4q:FD:=(dOf (YJ 0))
noncomputable def q2I:FT:=(zAJ (tOf (YO (oEq false) (vOf (YO oIx (vOf (YJ 0)) (fC (.int 2)))) (vOf (zA1 (fC (.int 1)))))) (X5 (vOf (YR q09 (YI (dOf (YJ 1)) (YI (dOf (YO oIx (vOf (YJ 0)) (fC (.int 1)))) (YI (dOf (YO oIx (vOf (YJ 0)) (fC (.int 0)))) (YI (dOf (YJ 2)) YS))))))))
noncomputable def q4b:FD:=(dOf (YJ 0))
noncomputable def q3o:FS:=(YY (Yk 5 (eOf (dOf (fIte (X5 (vOf (YR q09 (YI (dOf (YJ 0)) (YI (dOf (YJ 1)) (YI (dOf (YJ 2)) (YI (dOf (YJ 4)) YS))))))) (eOf (fC (.int 1))) (eOf (fC (.int 0)))))))
  (YY (Yk 6 (Yp 1 [0,4] (XX (dOf (YJ 3))) (gN 0) q2A q4q))
  (Y3 6 (YY (Yk 7 (Yp 1 [0,4] (XX (dOf (YJ 3))) (gN 0) q2I q4b))
  (Y3 7 (Yr (YO Yw (vOf (YO Wk (vOf (YJ 5)) (vOf (Yv Xo (YI (vOf (YJ 6)) YS))))) (vOf (Yv Xo (YI (vOf (YJ 7)) YS))))))))))
noncomputable def q0R:List D->Option O:=mir 8 q3o
noncomputable abbrev q36:vo:=top 31
theorem q1T:FnScope ["size", "home", "last", "boxes", "gap", "own", "rights", "lefts"] ["size", "home", "last", "boxes", "gap"] (YL q36):=⟨rfl,rfl,rfl,⋯,rfl,⋯,⋯⟩
theorem q9t{f_goes_over:vF}{d_goes_over:vM}(F:Fun K "bare_lack" "bare_lack" q36 f fd)(c_goes_over:Cal P w K mg base 2 f_goes_over d_goes_over "goes_over" ["size", "start", "goal", "gap"] 4 q09)(z_len:mg "len" = none):
  FnOk P w K mg base CX0 3 f fd ["size", "home", "last", "boxes", "gap"] (spD K 5 q0R):=by
 have h:=fnD (P:=P) (w:=w) (mg:=mg) (base:=base) (k:=2) (body:=q3o) F q1T (λcdv A outer s H E hr=>
   (q0 (qi (i:=5) q1T.nd rfl (Or.inl rfl) (XD.toE (XE.toD (q9H (qQ (XE.toV (xc c_goes_over hr (YH (vD 0) (YH (vD 1) (YH (vD 2) (YH (vD 4) YM))))))) (XD.toE YK) (XD.toE YK)))))
   (q0 (q1L (i:=6) rfl q1T.nd rfl rfl (blk ["box"] ["size", "gap"] [0,4] rfl ⋯ ⋯ rfl ⟨⟨rfl,(by first|exact Or.inl rfl|exact Or.inr rfl),rfl⟩,⟨⟨rfl,(by first|exact Or.inl rfl|exact Or.inr rfl),rfl⟩,trivial⟩⟩) (qy (vD 3)) (qz 0) (λ_ _ _ _=>⟨(qg (i:=0) (show ((["box"]:List Str)++(["size", "gap"]:List Str):List Str).Nodup from by decide +kernel) rfl (Or.inl rfl)),(q7c (XW.toT (qdi (WL hr.units (XE.toV (YN (vV 0) (XD.toV YK))) (XD.toV YK)) (qb4 (qQ (XE.toV (xc c_goes_over hr (YH (vD 1) (YH (XE.toD (YN (vV 0) (XD.toV YK))) (YH (XE.toD (YN (vV 0) (XD.toV YK))) (YH (vD 2) YM))))))))))),(vD 0)⟩))
   (q03 6 (q0 (q1L (i:=7) rfl q1T.nd rfl rfl (blk ["box"] ["size", "gap"] [0,4] rfl ⋯ ⋯ rfl ⟨⟨rfl,(by first|exact Or.inl rfl|exact Or.inr rfl),rfl⟩,⟨⟨rfl,(by first|exact Or.inl rfl|exact Or.inr rfl),rfl⟩,trivial⟩⟩) (qy (vD 3)) (qz 0) (λ_ _ _ _=>⟨(qg (i:=0) (show ((["box"]:List Str)++(["size", "gap"]:List Str):List Str).Nodup from by decide +kernel) rfl (Or.inl rfl)),(q7c (XW.toT (qdi (WL hr.units (XE.toV (YN (vV 0) (XD.toV YK))) (XE.toV (q4h (XD.toV YK)))) (qb4 (qQ (XE.toV (xc c_goes_over hr (YH (vD 1) (YH (XE.toD (YN (vV 0) (XD.toV YK))) (YH (XE.toD (YN (vV 0) (XD.toV YK))) (YH (vD 2) YM))))))))))),(vD 0)⟩))
   (q03 7 (qb (ql (qt (XE.toV (q0x (vV 5) (XE.toV (qr qo qV rfl z_len qU (qf (vV 6) qh))))) (XE.toV (qr qo qV rfl z_len qU (qf (vV 7) qh))))))))))))
 exact h
noncomputable def q26:FD:=(dOf (YO Yw (vOf (YJ 1)) (vOf (YR q0R (YI (dOf (YJ 2)) (YI (dOf (YJ 3)) (YI (dOf (YJ 4)) (YI (dOf (YJ 5)) (YI (dOf (YJ 0)) YS)))))))))
noncomputable def q2u:FS:=(Yr (Yp 1 [4,0,1,2,3] (XX (dOf (YR q08 (YI (dOf (YJ 0)) (YI (dOf (YJ 1)) (YI (dOf (YJ 2)) (YI (dOf (YJ 3)) YS))))))) (gN 0) Yn q26))
noncomputable def q0D:List D->Option O:=mir 5 q2u
noncomputable abbrev q2Q:vo:=top 32
theorem q8h:FnScope ["size", "home", "last", "boxes", "c"] ["size", "home", "last", "boxes", "c"] (YL q2Q):=⟨rfl,rfl,rfl,⋯,rfl,⋯,⋯⟩
theorem q7W{f_ring_gaps:vF}{d_ring_gaps:vM}{f_bare_lack:vF}{d_bare_lack:vM}(F:Fun K "ring_lacks" "ring_lacks" q2Q f fd)(c_ring_gaps:Cal P w K mg base 6 f_ring_gaps d_ring_gaps "ring_gaps" ["size", "home", "last", "boxes"] 4 q08)(c_bare_lack:Cal P w K mg base 3 f_bare_lack d_bare_lack "bare_lack" ["size", "home", "last", "boxes", "gap"] 5 q0R):
  FnOk P w K mg base CX0 7 f fd ["size", "home", "last", "boxes", "c"] (spD K 5 q0D):=by
 have h:=fnD (P:=P) (w:=w) (mg:=mg) (base:=base) (k:=6) (body:=q2u) F q8h (λcdv A outer s H E hr=>
   (qb (ql (q0c rfl (blk ["gap"] ["c", "size", "home", "last", "boxes"] [4,0,1,2,3] rfl ⋯ ⋯ rfl ⟨⟨rfl,(by first|exact Or.inl rfl|exact Or.inr rfl),rfl⟩,⟨⟨rfl,(by first|exact Or.inl rfl|exact Or.inr rfl),rfl⟩,⟨⟨rfl,(by first|exact Or.inl rfl|exact Or.inr rfl),rfl⟩,⟨⟨rfl,(by first|exact Or.inl rfl|exact Or.inr rfl),rfl⟩,⟨⟨rfl,(by first|exact Or.inl rfl|exact Or.inr rfl),rfl⟩,trivial⟩⟩⟩⟩⟩) (qy (XE.toD (xc c_ring_gaps hr (YH (vD 0) (YH (vD 1) (YH (vD 2) (YH (vD 3) YM))))))) (qz 0) (λ_ _ _ _=>⟨(qg (i:=0) (show ((["gap"]:List Str)++(["c", "size", "home", "last", "boxes"]:List Str):List Str).Nodup from by decide +kernel) rfl (Or.inl rfl)),qK,(XE.toD (qt (vV 1) (XE.toV (xc c_bare_lack hr (YH (vD 2) (YH (vD 3) (YH (vD 4) (YH (vD 5) (YH (vD 0) YM)))))))))⟩)))))
 exact h
noncomputable def q1K:FT:=(tOf (YO (oEq true) (vOf (YJ 1)) (fC (.int 0))))
noncomputable def q3D:FD:=(dOf (fSl (vOf (YJ 0)) pNo (pAt (fC (.int 2)))))
noncomputable def q1z:FD:=(dOf (YO oIx (vOf (YJ 0)) (fC (.int 0))))
noncomputable def q24:FS:=(YY (Yk 5 (Yp 2 [] (iZp (YI (dOf (YJ 3)) (YI (dOf (YJ 4)) YS))) (gT 2 (YT (gN 0) (YT (gN 1) Yt))) q1K q3D))
  (Y3 5 (YY (Yk 6 (Yp 1 [] (XX (dOf (YJ 3))) (gN 0) Yn q1z))
  (Y3 6 (Yr (YR q2v (YI (dOf (YJ 6)) (YI (dOf (YO Yw (vOf (YO Yw (vOf (YR qL (YI (dOf (YJ 2)) YS))) (vOf (WD (YI (zAi (YI (dOf (YJ 0)) (YI (dOf (YJ 1)) YS))) YS))))) (vOf (YJ 5)))) (YI (dOf (YJ 3)) YS)))))))))
noncomputable def q0n:List D->Option O:=mir 7 q24
noncomputable abbrev q27:vo:=top 33
theorem q2c:FnScope ["home", "last", "boxes", "edges", "lacks", "lacking", "places"] ["home", "last", "boxes", "edges", "lacks"] (YL q27):=⟨rfl,rfl,rfl,⋯,rfl,⋯,⋯⟩
theorem q6m{f_forest:vF}{d_forest:vM}{f_without_ways:vF}{d_without_ways:vM}(F:Fun K "ring_forest" "ring_forest" q27 f fd)(c_forest:Cal P w K mg base 4 f_forest d_forest "forest" ["things", "knots", "edges"] 3 q2v)(c_without_ways:Cal P w K mg base 1 f_without_ways d_without_ways "without_ways" ["boxes"] 1 qL)(z_zip:mg "zip" = none):
  FnOk P w K mg base CX0 5 f fd ["home", "last", "boxes", "edges", "lacks"] (spD K 5 q0n):=by
 have h:=fnD (P:=P) (w:=w) (mg:=mg) (base:=base) (k:=4) (body:=q24) F q2c (λcdv A outer s H E hr=>
   (q0 (q1L (i:=5) rfl q2c.nd rfl rfl (blk ["edge", "lack"] [] [] rfl ⋯ ⋯ rfl trivial) (qdb rfl z_zip (YH (vD 3) (YH (vD 4) YM))) (q5N (qX (qz 0) (qX (qz 1) q2Z))) (λ_ _ _ _=>⟨(q1Y rfl (qx (qg (i:=0) (show ((["edge", "lack"]:List Str)++([]:List Str):List Str).Nodup from by decide +kernel) rfl (Or.inl rfl)) (qx (qg (i:=1) (show ((["edge", "lack"]:List Str)++([]:List Str):List Str).Nodup from by decide +kernel) rfl (Or.inl rfl)) q1c))),(q7c (Wg hr.units (vV 1) (XD.toV YK))),(XE.toD (XJ (vV 0) X9 (XR (XD.toV YK))))⟩))
   (q03 5 (q0 (q1L (i:=6) rfl q2c.nd rfl rfl (blk ["edge"] [] [] rfl ⋯ ⋯ rfl trivial) (qy (vD 3)) (qz 0) (λ_ _ _ _=>⟨(qg (i:=0) (show ((["edge"]:List Str)++([]:List Str):List Str).Nodup from by decide +kernel) rfl (Or.inl rfl)),qK,(XE.toD (YN (vV 0) (XD.toV YK)))⟩))
   (q03 6 (qb (ql (xc c_forest hr (YH (vD 6) (YH (XE.toD (qt (XE.toV (qt (XE.toV (xc c_without_ways hr (YH (vD 2) YM))) (XE.toV (Yo (YH (Xl (YH (vD 0) (YH (vD 1) YM))) YM))))) (vV 5))) (YH (vD 3) YM)))))))))))
 exact h
noncomputable def q1i:FD:=(dOf (YO WS (vOf (YR q0y (YI (dOf (YJ 0)) YS))) (vOf (Yv bAbs (YI (vOf (YJ 1)) YS)))))
noncomputable def q1h:FD:=(dOf (YR q0y (YI (dOf (YJ 0)) YS)))
noncomputable def q1t:FS:=(YY (Yk 5 (Yp 2 [] (iZp (YI (dOf (YJ 3)) (YI (dOf (YJ 4)) YS))) (gT 2 (YT (gN 0) (YT (gN 1) Yt))) Yn q1i))
  (Y3 5 (Yr (YO Yw (vOf (Yv bSum (YI (vOf (YJ 5)) YS))) (vOf (YO WS (fC (.int 2)) (vOf (Yv bSum (YI (vOf (Yp 1 [] (XX (dOf (YR q0n (YI (dOf (YJ 0)) (YI (dOf (YJ 1)) (YI (dOf (YJ 2)) (YI (dOf (YJ 3)) (YI (dOf (YJ 4)) YS)))))))) (gN 0) Yn q1h)) YS)))))))))
noncomputable def qC:List D->Option O:=mir 6 q1t
noncomputable abbrev q1N:vo:=top 34
theorem q3u:FnScope ["home", "last", "boxes", "edges", "lacks", "crossings"] ["home", "last", "boxes", "edges", "lacks"] (YL q1N):=⟨rfl,rfl,rfl,⋯,rfl,⋯,⋯⟩
theorem q5R{f_cost:vF}{d_cost:vM}{f_ring_forest:vF}{d_ring_forest:vM}(F:Fun K "empty_weight" "empty_weight" q1N f fd)(c_cost:Cal P w K mg base 1 f_cost d_cost "cost" ["edge"] 1 q0y)(c_ring_forest:Cal P w K mg base 5 f_ring_forest d_ring_forest "ring_forest" ["home", "last", "boxes", "edges", "lacks"] 5 q0n)(z_zip:mg "zip" = none)(z_abs:mg "abs" = none)(z_sum:mg "sum" = none):
  FnOk P w K mg base CX0 6 f fd ["home", "last", "boxes", "edges", "lacks"] (spD K 5 qC):=by
 have h:=fnD (P:=P) (w:=w) (mg:=mg) (base:=base) (k:=5) (body:=q1t) F q3u (λcdv A outer s H E hr=>
   (q0 (q1L (i:=5) rfl q3u.nd rfl rfl (blk ["edge", "lack"] [] [] rfl ⋯ ⋯ rfl trivial) (qdb rfl z_zip (YH (vD 3) (YH (vD 4) YM))) (q5N (qX (qz 0) (qX (qz 1) q2Z))) (λ_ _ _ _=>⟨(q1Y rfl (qx (qg (i:=0) (show ((["edge", "lack"]:List Str)++([]:List Str):List Str).Nodup from by decide +kernel) rfl (Or.inl rfl)) (qx (qg (i:=1) (show ((["edge", "lack"]:List Str)++([]:List Str):List Str).Nodup from by decide +kernel) rfl (Or.inl rfl)) q1c))),qK,(XE.toD (q4p (XE.toV (xc c_cost hr (YH (vD 0) YM))) (XE.toV (qr q8r qd0 rfl z_abs qdu (qf (vV 1) qh)))))⟩))
   (q03 5 (qb (ql (qt (XE.toV (qr (q4v rfl) q8I rfl z_sum q8S (qf (vV 5) qh))) (XE.toV (q4p (XD.toV YK) (XE.toV (qr (q4v rfl) q8I rfl z_sum q8S (qf (XE.toV (q0c rfl (blk ["edge"] [] [] rfl ⋯ ⋯ rfl trivial) (qy (XE.toD (xc c_ring_forest hr (YH (vD 0) (YH (vD 1) (YH (vD 2) (YH (vD 3) (YH (vD 4) YM)))))))) (qz 0) (λ_ _ _ _=>⟨(qg (i:=0) (show ((["edge"]:List Str)++([]:List Str):List Str).Nodup from by decide +kernel) rfl (Or.inl rfl)),qK,(XE.toD (xc c_cost hr (YH (vD 0) YM)))⟩))) qh)))))))))))
 exact h
noncomputable def q2C:FD:=(dOf (YR q02 (YI (dOf (YJ 3)) (YI (dOf (YJ 0)) (YI (dOf (YJ 1)) (YI (dOf (YJ 2)) YS))))))
noncomputable def q5g:FD:=(dOf (YO Yw (vOf (YJ 0)) (vOf (YJ 1))))
noncomputable def q3L:FS:=(YY (Yk 9 (Yp 1 [8] (XX (dOf (YJ 5))) (gN 0) Yn q5g))
  (Y3 9 (zAQ 7 (zAi (YI (dOf (YJ 8)) (YI (dOf (YO Yw (vOf (YJ 6)) (vOf (YR qC (YI (dOf (YJ 1)) (YI (dOf (YJ 2)) (YI (dOf (YJ 3)) (YI (dOf (YJ 4)) (YI (dOf (YJ 9)) YS))))))))) YS))))))
noncomputable def q6u:FS:=(YY (Yk 4 (eOf (dOf (YR q0j (YI (dOf (YJ 0)) (YI (dOf (YJ 1)) (YI (dOf (YJ 2)) (YI (dOf (YJ 3)) YS))))))))
  (YY (Yk 5 (eOf (dOf (YR q0D (YI (dOf (YJ 0)) (YI (dOf (YJ 1)) (YI (dOf (YJ 2)) (YI (dOf (YJ 3)) (YI (fC (.int 0)) YS)))))))))
  (YY (Yk 6 (eOf (dOf (Yv bSum (YI (vOf (Yp 3 [0] (XX (dOf (YJ 3))) (gT 3 (YT (gN 0) (YT (gN 1) (YT (gN 2) Yt)))) Yn q2C)) YS)))))
  (YY (Yk 7 (WD YS))
  (YY (Xp (iRg2 (YI (vOf (YO Wk (vOf (zA1 (fC (.int 1)))) (vOf (Yv bMax (YI (vOf (YJ 5)) YS))))) (YI (vOf (YO Wk (fC (.int 2)) (vOf (Yv zBI (YI (vOf (YJ 5)) YS))))) YS))) (gN 8) q3L)
  (WA 7))))))
noncomputable def q1d:List D->Option O:=mir 10 q6u
noncomputable abbrev q6F:vo:=top 35
theorem q1A:FnScope ["size", "home", "last", "boxes", "edges", "bare", "loaded", "told", "c", "lacks"] ["size", "home", "last", "boxes"] (YL q6F):=⟨rfl,rfl,rfl,⋯,rfl,⋯,⋯⟩
theorem qeq{f_ring_edges:vF}{d_ring_edges:vM}{f_ring_lacks:vF}{d_ring_lacks:vM}{f_steps:vF}{d_steps:vM}{f_empty_weight:vF}{d_empty_weight:vM}(F:Fun K "turns" "turns" q6F f fd)(c_ring_edges:Cal P w K mg base 7 f_ring_edges d_ring_edges "ring_edges" ["size", "home", "last", "boxes"] 4 q0j)(c_ring_lacks:Cal P w K mg base 7 f_ring_lacks d_ring_lacks "ring_lacks" ["size", "home", "last", "boxes", "c"] 5 q0D)(c_steps:Cal P w K mg base 1 f_steps d_steps "steps" ["size", "start", "goal", "way"] 4 q02)(c_empty_weight:Cal P w K mg base 6 f_empty_weight d_empty_weight "empty_weight" ["home", "last", "boxes", "edges", "lacks"] 5 qC)(z_sum:mg "sum" = none)(z_min:mg "min" = none)(z_max:mg "max" = none)(z_range:mg "range" = none):
  FnOk P w K mg base CX0 8 f fd ["size", "home", "last", "boxes"] (spD K 4 q1d):=by
 have h:=fnD (P:=P) (w:=w) (mg:=mg) (base:=base) (k:=7) (body:=q6u) F q1A (λcdv A outer s H E hr=>
   (q0 (qi (i:=4) q1A.nd rfl (Or.inl rfl) (XD.toE (XE.toD (xc c_ring_edges hr (YH (vD 0) (YH (vD 1) (YH (vD 2) (YH (vD 3) YM))))))))
   (q0 (qi (i:=5) q1A.nd rfl (Or.inl rfl) (XD.toE (XE.toD (xc c_ring_lacks hr (YH (vD 0) (YH (vD 1) (YH (vD 2) (YH (vD 3) (YH YK YM)))))))))
   (q0 (qi (i:=6) q1A.nd rfl (Or.inl rfl) (XD.toE (XE.toD (qr (q4v rfl) q8I rfl z_sum q8S (qf (XE.toV (q0c rfl (blk ["start", "goal", "way"] ["size"] [0] rfl ⋯ ⋯ rfl ⟨⟨rfl,(by first|exact Or.inl rfl|exact Or.inr rfl),rfl⟩,trivial⟩) (qy (vD 3)) (q5N (qX (qz 0) (qX (qz 1) (qX (qz 2) q2Z)))) (λ_ _ _ _=>⟨(q1Y rfl (qx (qg (i:=0) (show ((["start", "goal", "way"]:List Str)++(["size"]:List Str):List Str).Nodup from by decide +kernel) rfl (Or.inl rfl)) (qx (qg (i:=1) (show ((["start", "goal", "way"]:List Str)++(["size"]:List Str):List Str).Nodup from by decide +kernel) rfl (Or.inl rfl)) (qx (qg (i:=2) (show ((["start", "goal", "way"]:List Str)++(["size"]:List Str):List Str).Nodup from by decide +kernel) rfl (Or.inl rfl)) q1c)))),qK,(XE.toD (xc c_steps hr (YH (vD 3) (YH (vD 0) (YH (vD 1) (YH (vD 2) YM))))))⟩))) qh)))))
   (q0 (qi (i:=7) q1A.nd rfl (Or.inl rfl) (Yo YM))
   (q0 (qG PassesOwn.never rfl (q7v rfl z_range (qf (XE.toV (q0x (XE.toV (q4h (XD.toV YK))) (XE.toV (qr (q7S rfl) qcD rfl z_max qdO (qf (vV 5) qh))))) (qf (XE.toV (q0x (XD.toV YK) (XE.toV (qr (q2Y rfl) q5C rfl z_min q5M (qf (vV 5) qh))))) qh))) (qg (i:=8) q1A.nd rfl (Or.inr rfl)) (q0 (q1L (i:=9) rfl q1A.nd rfl rfl (blk ["lack"] ["c"] [8] rfl ⋯ ⋯ rfl ⟨⟨rfl,(by first|exact Or.inl rfl|exact Or.inr rfl),rfl⟩,trivial⟩) (qy (vD 5)) (qz 0) (λ_ _ _ _=>⟨(qg (i:=0) (show ((["lack"]:List Str)++(["c"]:List Str):List Str).Nodup from by decide +kernel) rfl (Or.inl rfl)),qK,(XE.toD (qt (vV 0) (vV 1)))⟩))
   (q03 9 (qb (q1V (pv 7) (Xl (YH (vD 8) (YH (XE.toD (qt (vV 6) (XE.toV (xc c_empty_weight hr (YH (vD 1) (YH (vD 2) (YH (vD 3) (YH (vD 4) (YH (vD 9) YM))))))))) YM))))))))
   (qb (q2l (pv 7)))))))))
 exact h
noncomputable def q3Y:FD:=(dOf (YJ 1))
noncomputable def q2w:FS:=(Yr (Yv zBI (YI (vOf (Yp 2 [] (XX (dOf (YR q1d (YI (dOf (YJ 0)) (YI (dOf (YJ 1)) (YI (dOf (YJ 2)) (YI (dOf (YJ 3)) YS))))))) (gT 2 (YT (gN 0) (YT (gN 1) Yt))) Yn q3Y)) YS)))
noncomputable def q0G:List D->Option O:=mir 4 q2w
noncomputable abbrev q2q:vo:=top 36
theorem q9g:FnScope ["size", "home", "last", "boxes"] ["size", "home", "last", "boxes"] (YL q2q):=⟨rfl,rfl,rfl,⋯,rfl,⋯,⋯⟩
theorem q82{f_turns:vF}{d_turns:vM}(F:Fun K "ring_least" "ring_least" q2q f fd)(c_turns:Cal P w K mg base 8 f_turns d_turns "turns" ["size", "home", "last", "boxes"] 4 q1d)(z_min:mg "min" = none):
  FnOk P w K mg base CX0 9 f fd ["size", "home", "last", "boxes"] (spD K 4 q0G):=by
 have h:=fnD (P:=P) (w:=w) (mg:=mg) (base:=base) (k:=8) (body:=q2w) F q9g (λcdv A outer s H E hr=>
   (qb (ql (qr (q2Y rfl) q5C rfl z_min q5M (qf (XE.toV (q0c rfl (blk ["c", "weight"] [] [] rfl ⋯ ⋯ rfl trivial) (qy (XE.toD (xc c_turns hr (YH (vD 0) (YH (vD 1) (YH (vD 2) (YH (vD 3) YM))))))) (q5N (qX (qz 0) (qX (qz 1) q2Z))) (λ_ _ _ _=>⟨(q1Y rfl (qx (qg (i:=0) (show ((["c", "weight"]:List Str)++([]:List Str):List Str).Nodup from by decide +kernel) rfl (Or.inl rfl)) (qx (qg (i:=1) (show ((["c", "weight"]:List Str)++([]:List Str):List Str).Nodup from by decide +kernel) rfl (Or.inl rfl)) q1c))),qK,(vD 1)⟩))) qh)))))
 exact h
noncomputable def q3r:FS:=(YY (sIf (tOf (YO oLt (vOf (YJ 1)) (vOf (Yv Xo (YI (vOf (YJ 0)) YS))))) (Yr (YO oIx (vOf (YJ 0)) (vOf (YJ 1)))) X8)
  (Yr (eOf (fC (.int 0)))))
noncomputable def qE:List D->Option O:=mir 2 q3r
noncomputable abbrev q3e:vo:=top 38
theorem qa3:FnScope ["script", "k"] ["script", "k"] (YL q3e):=⟨rfl,rfl,rfl,⋯,rfl,⋯,⋯⟩
theorem q98 (F:Fun K "_law_cell" "_law_cell" q3e f fd)(z_len:mg "len" = none):
  FnOk P w K mg base CX0 1 f fd ["script", "k"] (spD K 2 qE):=by
 have h:=fnD (P:=P) (w:=w) (mg:=mg) (base:=base) (k:=0) (body:=q3r) F qa3 (λcdv A outer s H E hr=>
   (q0 (q0b (qfA (vV 1) (XE.toV (qr qo qV rfl z_len qU (qf (vV 0) qh)))) (qb (ql (YN (vV 0) (vV 1)))) qD)
   (qb (ql (XD.toE YK)))))
 exact h
noncomputable def q3m:FS:=(YY (Yk 1 (eOf (dOf (YR qE (YI (dOf (YJ 0)) (YI (fC (.int 0)) YS))))))
  (Yr (YO oIx (vOf (WD (YI (dOf (YO Yw (fC (.int 1)) (vOf (YO oMod (vOf (YO oDiv (vOf (YJ 1)) (fC (.int 4)))) (fC (.int 12)))))) (YI (dOf (YO Yw (fC (.int 1)) (vOf (YO oMod (vOf (YO oDiv (vOf (YJ 1)) (fC (.int 4)))) (fC (.int 100)))))) (YI (dOf (YO Yw (fC (.int 1)) (vOf (YO oMod (vOf (YO oDiv (vOf (YJ 1)) (fC (.int 4)))) (vOf (YO oPow (fC (.int 10)) (fC (.int 39)))))))) (YI (fC (.int 24)) YS)))))) (vOf (YO oMod (vOf (YJ 1)) (fC (.int 4)))))))
noncomputable def q0Q:List D->Option O:=mir 2 q3m
noncomputable abbrev q3l:vo:=top 39
theorem q4X:FnScope ["script", "cell"] ["script"] (YL q3l):=⟨rfl,rfl,rfl,⋯,rfl,⋯,⋯⟩
theorem q8v{f__law_cell:vF}{d__law_cell:vM}(F:Fun K "_law_size" "_law_size" q3l f fd)(c__law_cell:Cal P w K mg base 1 f__law_cell d__law_cell "_law_cell" ["script", "k"] 2 qE):
  FnOk P w K mg base CX0 2 f fd ["script"] (spD K 1 q0Q):=by
 have h:=fnD (P:=P) (w:=w) (mg:=mg) (base:=base) (k:=1) (body:=q3m) F q4X (λcdv A outer s H E hr=>
   (q0 (qi (i:=1) q4X.nd rfl (Or.inl rfl) (XD.toE (XE.toD (xc c__law_cell hr (YH (vD 0) (YH YK YM))))))
   (qb (ql (YN (XE.toV (Yo (YH (XE.toD (qt (XD.toV YK) (XE.toV (qR (XE.toV (q0d (vV 1) (XD.toV YK))) (XD.toV YK))))) (YH (XE.toD (qt (XD.toV YK) (XE.toV (qR (XE.toV (q0d (vV 1) (XD.toV YK))) (XD.toV YK))))) (YH (XE.toD (qt (XD.toV YK) (XE.toV (qR (XE.toV (q0d (vV 1) (XD.toV YK))) (XE.toV (qhu (XD.toV YK) (XD.toV YK))))))) (YH YK YM)))))) (XE.toV (qR (vV 1) (XD.toV YK))))))))
 exact h
noncomputable def q2M:FS:=(YY (Yk 4 (eOf (dOf (YR qE (YI (dOf (YJ 0)) (YI (dOf (YO Yw (fC (.int 2)) (vOf (YJ 3)))) YS))))))
  (zAQ 2 (dOf (YO oMod (vOf (YO oIx (vOf (WD (YI (dOf (YO Yw (vOf (YJ 3)) (vOf (YO oDiv (vOf (YJ 4)) (fC (.int 3)))))) (YI (dOf (YO oDiv (vOf (YJ 4)) (fC (.int 3)))) (YI (dOf (YO Wk (vOf (YO Wk (fC (.int 0)) (fC (.int 1)))) (vOf (YO oDiv (vOf (YJ 4)) (fC (.int 3)))))) YS))))) (vOf (YO oMod (vOf (YJ 4)) (fC (.int 3)))))) (vOf (YJ 1))))))
noncomputable def q35:FS:=(YY (Yk 2 (WD YS))
  (YY (Xp (zAg (YI (fC (.int 7)) YS)) (gN 3) q2M)
  (YY (sIf (tOf (YO (oEq false) (vOf (YO oMod (vOf (YO oDiv (vOf (YR qE (YI (dOf (YJ 0)) (YI (fC (.int 1)) YS)))) (fC (.int 28)))) (fC (.int 3)))) (fC (.int 1)))) (zBB 2 (fC (.int 1)) (dOf (YO oIx (vOf (YJ 2)) (fC (.int 0))))) X8)
  (WA 2))))
noncomputable def q0U:List D->Option O:=mir 5 q35
noncomputable abbrev q3i:vo:=top 40
theorem q1S:FnScope ["script", "size", "some", "k", "cell"] ["script", "size"] (YL q3i):=⟨rfl,rfl,rfl,⋯,rfl,⋯,⋯⟩
theorem q8f{f__law_cell:vF}{d__law_cell:vM}(F:Fun K "_law_menu" "_law_menu" q3i f fd)(c__law_cell:Cal P w K mg base 1 f__law_cell d__law_cell "_law_cell" ["script", "k"] 2 qE)(z_range:mg "range" = none):
  FnOk P w K mg base CX0 2 f fd ["script", "size"] (spD K 2 q0U):=by
 have h:=fnD (P:=P) (w:=w) (mg:=mg) (base:=base) (k:=1) (body:=q35) F q1S (λcdv A outer s H E hr=>
   (q0 (qi (i:=2) q1S.nd rfl (Or.inl rfl) (Yo YM))
   (q0 (qG PassesOwn.never rfl (q0z rfl z_range (qf (XD.toV YK) qh)) (qg (i:=3) q1S.nd rfl (Or.inl rfl)) (q0 (qi (i:=4) q1S.nd rfl (Or.inl rfl) (XD.toE (XE.toD (xc c__law_cell hr (YH (vD 0) (YH (XE.toD (qt (XD.toV YK) (vV 3))) YM))))))
   (qb (q1V (pv 2) (XE.toD (qR (XE.toV (YN (XE.toV (Yo (YH (XE.toD (qt (vV 3) (XE.toV (q0d (vV 4) (XD.toV YK))))) (YH (XE.toD (q0d (vV 4) (XD.toV YK))) (YH (XE.toD (q0x (XE.toV (q0x (XD.toV YK) (XD.toV YK))) (XE.toV (q0d (vV 4) (XD.toV YK))))) YM))))) (XE.toV (qR (vV 4) (XD.toV YK))))) (vV 1)))))))
   (q0 (q0b (WL hr.units (XE.toV (qR (XE.toV (q0d (XE.toV (xc c__law_cell hr (YH (vD 0) (YH YK YM)))) (XD.toV YK))) (XD.toV YK))) (XD.toV YK)) (qb (qgr (pv 2) YK (XE.toD (YN (vV 2) (XD.toV YK))))) qD)
   (qb (q2l (pv 2)))))))
 exact h
noncomputable def q22:FS:=(zAQ 4 (zAi (YI (dOf (YO oIx (vOf (YJ 1)) (vOf (YO oMod (vOf (YO oDiv (vOf (YJ 5)) (fC (.int 2)))) (fC (.int 7)))))) (YI (dOf (YO oIx (vOf (YJ 1)) (vOf (YO oMod (vOf (YO oDiv (vOf (YJ 5)) (fC (.int 14)))) (fC (.int 7)))))) (YI (dOf (YO oIx (vOf (WD (YI (fC (.int 1)) (YI (dOf (zA1 (fC (.int 1)))) YS)))) (vOf (YO oMod (vOf (YJ 5)) (fC (.int 2)))))) YS)))))
noncomputable def q2y:FS:=(YY (Yk 2 (eOf (dOf (YR qE (YI (dOf (YJ 0)) (YI (fC (.int 1)) YS))))))
  (YY (Yk 3 (eOf (dOf (YO oIx (vOf (WD (YI (fC (.int 5)) (YI (fC (.int 5)) (YI (dOf (YO oMod (vOf (YO oDiv (vOf (YJ 2)) (fC (.int 4)))) (fC (.int 6)))) (YI (dOf (YO oMod (vOf (YO oDiv (vOf (YJ 2)) (fC (.int 4)))) (fC (.int 3)))) YS)))))) (vOf (YO oMod (vOf (YJ 2)) (fC (.int 4))))))))
  (YY (Yk 4 (WD YS))
  (YY (Xp (XX (dOf (fSl (vOf (YJ 0)) (pAt (fC (.int 9))) (pAt (vOf (YO Yw (fC (.int 9)) (vOf (YJ 3)))))))) (gN 5) q22)
  (WA 4)))))
noncomputable def q0w:List D->Option O:=mir 6 q2y
noncomputable abbrev q2D:vo:=top 41
theorem q0A:FnScope ["script", "some", "cell", "many", "boxes", "one"] ["script", "some"] (YL q2D):=⟨rfl,rfl,rfl,⋯,rfl,⋯,⋯⟩
theorem q89{f__law_cell:vF}{d__law_cell:vM}(F:Fun K "_law_boxes" "_law_boxes" q2D f fd)(c__law_cell:Cal P w K mg base 1 f__law_cell d__law_cell "_law_cell" ["script", "k"] 2 qE):
  FnOk P w K mg base CX0 2 f fd ["script", "some"] (spD K 2 q0w):=by
 have h:=fnD (P:=P) (w:=w) (mg:=mg) (base:=base) (k:=1) (body:=q2y) F q0A (λcdv A outer s H E hr=>
   (q0 (qi (i:=2) q0A.nd rfl (Or.inl rfl) (XD.toE (XE.toD (xc c__law_cell hr (YH (vD 0) (YH YK YM))))))
   (q0 (qi (i:=3) q0A.nd rfl (Or.inl rfl) (XD.toE (XE.toD (YN (XE.toV (Yo (YH YK (YH YK (YH (XE.toD (qR (XE.toV (q0d (vV 2) (XD.toV YK))) (XD.toV YK))) (YH (XE.toD (qR (XE.toV (q0d (vV 2) (XD.toV YK))) (XD.toV YK))) YM)))))) (XE.toV (qR (vV 2) (XD.toV YK)))))))
   (q0 (qi (i:=4) q0A.nd rfl (Or.inl rfl) (Yo YM))
   (q0 (qG PassesOwn.never rfl (qy (XE.toD (XJ (vV 0) (XR (XD.toV YK)) (XR (XE.toV (qt (XD.toV YK) (vV 3))))))) (qg (i:=5) q0A.nd rfl (Or.inl rfl)) (qb (q1V (pv 4) (Xl (YH (XE.toD (YN (vV 1) (XE.toV (qR (XE.toV (q0d (vV 5) (XD.toV YK))) (XD.toV YK))))) (YH (XE.toD (YN (vV 1) (XE.toV (qR (XE.toV (q0d (vV 5) (XD.toV YK))) (XD.toV YK))))) (YH (XE.toD (YN (XE.toV (Yo (YH YK (YH (XE.toD (q4h (XD.toV YK))) YM)))) (XE.toV (qR (vV 5) (XD.toV YK))))) YM)))))))
   (qb (q2l (pv 4))))))))
 exact h
noncomputable def q0Y:FS:=(Yk 3 (eOf (dOf (YO Yw (vOf (YJ 3)) (vOf (WD (YI (dOf (YJ 4)) (YI (dOf (YJ 5)) YS))))))))
noncomputable def q2K:FS:=(YY (Yk 3 (eOf (dOf (WD (YI (dOf (YJ 0)) (YI (dOf (YJ 1)) YS))))))
  (YY (Xp (XX (dOf (YJ 2))) (gT 3 (YT (gN 4) (YT (gN 5) (YT (gN 6) Yt)))) q0Y)
  (Yr (Y5 (vOf (YJ 3))))))
noncomputable def q0F:List D->Option O:=mir 7 q2K
noncomputable abbrev q2E:vo:=top 42
theorem q0g:FnScope ["home", "last", "boxes", "some", "start", "goal", "side"] ["home", "last", "boxes"] (YL q2E):=⟨rfl,rfl,rfl,⋯,rfl,⋯,⋯⟩
theorem q88 (F:Fun K "_law_stops" "_law_stops" q2E f fd)(z_sorted:mg "sorted" = none)(z_set:mg "set" = none):
  FnOk P w K mg base CX0 1 f fd ["home", "last", "boxes"] (spD K 3 q0F):=by
 have h:=fnD (P:=P) (w:=w) (mg:=mg) (base:=base) (k:=0) (body:=q2K) F q0g (λcdv A outer s H E hr=>
   (q0 (qi (i:=3) q0g.nd rfl (Or.inl rfl) (XD.toE (XE.toD (Yo (YH (vD 0) (YH (vD 1) YM))))))
   (q0 (qG PassesOwn.never rfl (qy (vD 2)) (q1Y rfl (qx (qg (i:=4) q0g.nd rfl (Or.inl rfl)) (qx (qg (i:=5) q0g.nd rfl (Or.inl rfl)) (qx (qg (i:=6) q0g.nd rfl (Or.inl rfl)) q1c)))) (qb (qi (i:=3) q0g.nd rfl (Or.inl rfl) (XD.toE (XE.toD (qt (vV 3) (XE.toV (Yo (YH (vD 4) (YH (vD 5) YM))))))))))
   (qb (ql (q5Z rfl z_sorted rfl z_set (vV 3)))))))
 exact h
noncomputable def q0u:FT:=(tOf (YO (oEq true) (vOf (YO oIx (vOf (YJ 0)) (vOf (YJ 3)))) (vOf (YJ 2))))
noncomputable def q1m:FS:=(YY (zAQ 4 (dOf (YJ 3)))
  (Yk 3 (eOf (dOf (YO oMod (vOf (YO Yw (vOf (YJ 3)) (fC (.int 1)))) (vOf (Yv Xo (YI (vOf (YJ 0)) YS))))))))
noncomputable def q1u:FS:=(YY (Yk 3 (eOf (dOf (zA3 (vOf (YJ 0)) (dOf (YJ 1))))))
  (YY (Yk 4 (WD YS))
  (YY (sWh 1000000 q0u q1m)
  (WA 4))))
noncomputable def qp:List D->Option O:=mir 5 q1u
noncomputable abbrev q1D:vo:=top 43
theorem q0I:FnScope ["some", "start", "goal", "k", "over"] ["some", "start", "goal"] (YL q1D):=⟨rfl,rfl,rfl,⋯,rfl,⋯,⋯⟩
theorem q5Y (F:Fun K "_law_numbers" "_law_numbers" q1D f fd)(z_len:mg "len" = none):
  FnOk P w K mg base CX0 1 f fd ["some", "start", "goal"] (spD K 3 qp):=by
 have h:=fnD (P:=P) (w:=w) (mg:=mg) (base:=base) (k:=0) (body:=q1u) F q0I (λcdv A outer s H E hr=>
   (q0 (qi (i:=3) q0I.nd rfl (Or.inl rfl) (XD.toE (XE.toD (q2F (vV 0) (vD 1)))))
   (q0 (qi (i:=4) q0I.nd rfl (Or.inl rfl) (Yo YM))
   (q0 (q8O PassesOwn.never (Wg hr.units (XE.toV (YN (vV 0) (vV 3))) (vV 2)) (q0 (q1V (pv 4) (vD 3))
   (qb (qi (i:=3) q0I.nd rfl (Or.inl rfl) (XD.toE (XE.toD (qR (XE.toV (qt (vV 3) (XD.toV YK))) (XE.toV (qr qo qV rfl z_len qU (qf (vV 0) qh))))))))))
   (qb (q2l (pv 4)))))))
 exact h
noncomputable abbrev q23:vo:=top 44
theorem qT:FnScope ["some", "boxes", "counts", "start", "goal", "side", "k"] ["some", "boxes"] (YL q23):=⟨rfl,rfl,rfl,⋯,rfl,⋯,⋯⟩
noncomputable def q01:List D->Option O:=mCt qp
theorem q6s{f__law_numbers:vF}{d__law_numbers:vM}(F:Fun K "_law_counts" "_law_counts" q23 f fd)(c__law_numbers:Cal P w K mg base 1 f__law_numbers d__law_numbers "_law_numbers" ["some", "start", "goal"] 3 qp):FnOk P w K mg base CX0 2 f fd ["some", "boxes"] (spD K 2 q01):=by
 refine F.ok qT (λvs H Q E h=>?_) (λcdv A outer s H vs Q E hr h=>?_)
 ·obtain⟨G,ds,r,_,h2,_,h4,_⟩:=h
  rw[<- h4.len];exact h2
 ·exact⟨tCt K (spD K 3 qp) _,q16 (qaO (i:=2) rfl qT.nd rfl rfl (blk ["place"] [] [] rfl ⋯ ⋯ rfl trivial) (q1G (pv 0)) (λ_ _ _ _=>⟨q0K (i:=0) (show ((["place"]:List Str)++([]:List Str):List Str).Nodup from by decide +kernel) rfl (Or.inl rfl),qaH,q8x (qq q0T (qq q0T qI rfl) rfl)⟩)) (q16 (q3B PassesOwn.never rfl (q1G (pv 1)) (qek rfl (q3U (q0K (i:=3) qT.nd rfl (by first|exact Or.inl rfl|exact Or.inr rfl) (by first|exact .inl rfl|exact .inr rfl)) (q3U (q0K (i:=4) qT.nd rfl (by first|exact Or.inl rfl|exact Or.inr rfl) (by first|exact .inl rfl|exact .inr rfl)) (q3U (q0K (i:=5) qT.nd rfl (by first|exact Or.inl rfl|exact Or.inr rfl) (by first|exact .inl rfl|exact .inr rfl)) qaA)))) (q0p (qbp (qcQ (qha (pv 5) q0T)) (q0p (q3B PassesOwn.never rfl (q1G (q3y c__law_numbers.1 (hr.mono (by decide)) rfl c__law_numbers.2.1 c__law_numbers.2.2.1 c__law_numbers.2.2.2 .nil zAK (qq (pv 0) (qq (pv 3) (qq (pv 4) qI rfl) rfl) rfl))) (q0K (i:=6) qT.nd rfl (by first|exact Or.inl rfl|exact Or.inr rfl) (by first|exact .inl rfl|exact .inr rfl)) (q0p (q5O (qda (q3K q1M (q3K q1M (pv 2) (pv 6) (λ_ _=>rfl)) q0T (λ_ _=>rfl)) q0T) (q5T (q3K q1M (pv 2) (pv 6) (λ_ _=>rfl)) q0T q3Q))))) (q0p (q3B PassesOwn.never rfl (q1G (q3y c__law_numbers.1 (hr.mono (by decide)) rfl c__law_numbers.2.1 c__law_numbers.2.2.1 c__law_numbers.2.2.2 .nil zAK (qq (pv 0) (qq (pv 4) (qq (pv 3) qI rfl) rfl) rfl))) (q0K (i:=6) qT.nd rfl (by first|exact Or.inl rfl|exact Or.inr rfl) (by first|exact .inl rfl|exact .inr rfl)) (q0p (q5O (qda (q3K q1M (q3K q1M (pv 2) (pv 6) (λ_ _=>rfl)) q0T (λ_ _=>rfl)) q0T) (q5T (q3K q1M (pv 2) (pv 6) (λ_ _=>rfl)) q0T q3Q)))))))) (q0p (q5I (pv 2)))),qhW rfl h⟩
noncomputable def q1a:FD:=(dOf (YO Yw (vOf (YO Wk (vOf (YO Yw (vOf (YJ 1)) (vOf (Yv bInt (YI (vOf (YO (oIn false) (vOf (YJ 0)) (vOf (YJ 3)))) YS))))) (vOf (YO oIx (vOf (YO oIx (vOf (YJ 2)) (vOf (YJ 0)))) (fC (.int 0)))))) (vOf (YO oIx (vOf (YO oIx (vOf (YJ 2)) (vOf (YJ 0)))) (fC (.int 1))))))
noncomputable def q1p:FS:=(YY (Yk 5 (eOf (dOf (YR q01 (YI (dOf (YJ 0)) (YI (dOf (YJ 3)) YS))))))
  (YY (Yk 6 (eOf (dOf (YR qp (YI (dOf (YJ 0)) (YI (dOf (YJ 1)) (YI (dOf (YJ 2)) YS)))))))
  (Yr (Yp 1 [4,5,6] (zAg (YI (vOf (Yv Xo (YI (vOf (YJ 0)) YS))) YS)) (gN 0) Yn q1a))))
noncomputable def qA:List D->Option O:=mir 7 q1p
noncomputable abbrev q1g:vo:=top 45
theorem q1f:FnScope ["some", "home", "last", "boxes", "c", "counts", "there"] ["some", "home", "last", "boxes", "c"] (YL q1g):=⟨rfl,rfl,rfl,⋯,rfl,⋯,⋯⟩
theorem q5b{f__law_counts:vF}{d__law_counts:vM}{f__law_numbers:vF}{d__law_numbers:vM}(F:Fun K "_law_lack_row" "_law_lack_row" q1g f fd)(c__law_counts:Cal P w K mg base 2 f__law_counts d__law_counts "_law_counts" ["some", "boxes"] 2 q01)(c__law_numbers:Cal P w K mg base 1 f__law_numbers d__law_numbers "_law_numbers" ["some", "start", "goal"] 3 qp)(z_len:mg "len" = none)(z_range:mg "range" = none)(z_int:mg "int" = none):
  FnOk P w K mg base CX0 3 f fd ["some", "home", "last", "boxes", "c"] (spD K 5 qA):=by
 have h:=fnD (P:=P) (w:=w) (mg:=mg) (base:=base) (k:=2) (body:=q1p) F q1f (λcdv A outer s H E hr=>
   (q0 (qi (i:=5) q1f.nd rfl (Or.inr rfl) (XD.toE (XE.toD (xc c__law_counts hr (YH (vD 0) (YH (vD 3) YM))))))
   (q0 (qi (i:=6) q1f.nd rfl (Or.inr rfl) (XD.toE (XE.toD (xc c__law_numbers hr (YH (vD 0) (YH (vD 1) (YH (vD 2) YM)))))))
   (qb (ql (q0c rfl (blk ["k"] ["c", "counts", "there"] [4,5,6] rfl ⋯ ⋯ rfl ⟨⟨rfl,(by first|exact Or.inl rfl|exact Or.inr rfl),rfl⟩,⟨⟨rfl,(by first|exact Or.inl rfl|exact Or.inr rfl),rfl⟩,⟨⟨rfl,(by first|exact Or.inl rfl|exact Or.inr rfl),rfl⟩,trivial⟩⟩⟩) (q0z rfl z_range (qf (XE.toV (qr qo qV rfl z_len qU (qf (vV 0) qh))) qh)) (qz 0) (λ_ _ _ _=>⟨(qg (i:=0) (show ((["k"]:List Str)++(["c", "counts", "there"]:List Str):List Str).Nodup from by decide +kernel) rfl (Or.inl rfl)),qK,(XE.toD (qt (XE.toV (q0x (XE.toV (qt (vV 1) (XE.toV (qbe qdm qh1 rfl z_int q9k (qf (XE.toV (xe_in (vV 0) (vV 3))) qh))))) (XE.toV (YN (XE.toV (YN (vV 2) (vV 0))) (XD.toV YK))))) (XE.toV (YN (XE.toV (YN (vV 2) (vV 0))) (XD.toV YK)))))⟩)))))))
 exact h
noncomputable def q0h:FS:=(sIf (tOf (YO (oEq false) (vOf (YO oIx (vOf (YJ 0)) (vOf (YJ 4)))) (vOf (YJ 3)))) (zAD 0 (dOf (YJ 4)) (dOf (YO oIx (vOf (YJ 0)) (vOf (YJ 2))))) X8)
noncomputable def qZ:FS:=(YY (sIf (tOf (YO (oEq false) (vOf (YO oIx (vOf (YJ 0)) (vOf (YJ 1)))) (vOf (YO oIx (vOf (YJ 0)) (vOf (YJ 2)))))) (Yr (eOf (fC (.bl false)))) X8)
  (YY (Yk 3 (eOf (dOf (YO oIx (vOf (YJ 0)) (vOf (YJ 1))))))
  (YY (Xp (zAg (YI (vOf (Yv Xo (YI (vOf (YJ 0)) YS))) YS)) (gN 4) q0h)
  (Yr (eOf (fC (.bl true)))))))
noncomputable def qu:List W->Option (D×WSt):=mirW 5 qZ
noncomputable abbrev q25:vo:=top 46
theorem q2a:FnScope ["group", "one", "other", "old", "k"] ["group", "one", "other"] (YL q25):=⟨rfl,rfl,rfl,⋯,rfl,⋯,⋯⟩
theorem q6I (F:Fun K "_law_joined" "_law_joined" q25 f fd)(z_len:mg "len" = none)(z_range:mg "range" = none):
  FnOk P w K mg base CX0 1 f fd ["group", "one", "other"] (spW K 3 qu):=by
 have h:=fnW (P:=P) (w:=w) (mg:=mg) (base:=base) (k:=0) (body:=qZ) F q2a (λcdv A outer s H E hr=>
   (q0 (q0b (WL hr.units (XE.toV (YN (vV 0) (vV 1))) (XE.toV (YN (vV 0) (vV 2)))) (qb (ql (XD.toE Xw))) qD)
   (q0 (qi (i:=3) q2a.nd rfl (Or.inl rfl) (XD.toE (XE.toD (YN (vV 0) (vV 1)))))
   (q0 (qG PassesOwn.never rfl (q0z rfl z_range (qf (XE.toV (qr qo qV rfl z_len qU (qf (vV 0) qh))) qh)) (qg (i:=4) q2a.nd rfl (Or.inl rfl)) (qb (q0b (WL hr.units (XE.toV (YN (vV 0) (vV 4))) (vV 3)) (qb (qfk (pv 0) (vD 4) (XE.toD (YN (vV 0) (vV 2))))) qD)))
   (qb (ql (XD.toE Xw)))))))
 exact h
noncomputable def q3c:FS:=(YY (sIf (tOf (YO oLt (vOf (YO Yw (vOf (YJ 2)) (fC (.int 1)))) (vOf (Yv Xo (YI (vOf (YJ 1)) YS))))) (Yr (YO Wk (vOf (YO oIx (vOf (YJ 1)) (vOf (YO Yw (vOf (YJ 2)) (fC (.int 1)))))) (vOf (YO oIx (vOf (YJ 1)) (vOf (YJ 2)))))) X8)
  (Yr (YO Yw (vOf (YO Wk (vOf (YJ 0)) (vOf (YO oIx (vOf (YJ 1)) (vOf (YJ 2)))))) (vOf (YO oIx (vOf (YJ 1)) (fC (.int 0)))))))
noncomputable def q0a:List D->Option O:=mir 3 q3c
noncomputable abbrev q3s:vo:=top 47
theorem qa0:FnScope ["size", "some", "k"] ["size", "some", "k"] (YL q3s):=⟨rfl,rfl,rfl,⋯,rfl,⋯,⋯⟩
theorem q9c (F:Fun K "_law_long" "_law_long" q3s f fd)(z_len:mg "len" = none):
  FnOk P w K mg base CX0 1 f fd ["size", "some", "k"] (spD K 3 q0a):=by
 have h:=fnD (P:=P) (w:=w) (mg:=mg) (base:=base) (k:=0) (body:=q3c) F qa0 (λcdv A outer s H E hr=>
   (q0 (q0b (qfA (XE.toV (qt (vV 2) (XD.toV YK))) (XE.toV (qr qo qV rfl z_len qU (qf (vV 1) qh)))) (qb (ql (q0x (XE.toV (YN (vV 1) (XE.toV (qt (vV 2) (XD.toV YK))))) (XE.toV (YN (vV 1) (vV 2)))))) qD)
   (qb (ql (qt (XE.toV (q0x (vV 0) (XE.toV (YN (vV 1) (vV 2))))) (XE.toV (YN (vV 1) (XD.toV YK))))))))
 exact h
noncomputable def q4o:FD:=(dOf (YJ 0))
noncomputable def q0E:FS:=(Xy [some 6,none,none] qu (wPw 6 (wSh (dOf (zA3 (vOf (YJ 1)) (dOf (YJ 7)))) (wSh (dOf (zA3 (vOf (YJ 1)) (dOf (YJ 8)))) zAo))))
noncomputable def q0l:FS:=(sIf (tOf (YO (oEq true) (vOf (YO oIx (vOf (YJ 5)) (vOf (YJ 10)))) (fC (.int 0)))) (Xy [some 6,none,none] qu (wPw 6 (wSh (dOf (YJ 10)) (wSh (dOf (YO oMod (vOf (YO Yw (vOf (YJ 10)) (fC (.int 1)))) (vOf (Yv Xo (YI (vOf (YJ 1)) YS))))) zAo)))) X8)
noncomputable def q2P:FD:=(zAi (YI (dOf (YR q0a (YI (dOf (YJ 1)) (YI (dOf (YJ 2)) (YI (dOf (YJ 0)) YS))))) (YI (dOf (YJ 0)) YS)))
noncomputable def q0B:FS:=(sIfM (WQ [some 6,none,none] qu (wPw 6 (wSh (dOf (YJ 10)) (wSh (dOf (YO oMod (vOf (YO Yw (vOf (YJ 10)) (fC (.int 1)))) (vOf (Yv Xo (YI (vOf (YJ 1)) YS))))) zAo)))) (Yk 11 (eOf (dOf (YO Yw (vOf (YJ 11)) (vOf (YJ 12)))))) X8)
noncomputable def q3n:FS:=(YY (Yk 6 (Yp 1 [] (zAg (YI (vOf (Yv Xo (YI (vOf (YJ 1)) YS))) YS)) (gN 0) Yn q4o))
  (YY (Xy [some 6,none,none] qu (wPw 6 (wSh (dOf (zA3 (vOf (YJ 1)) (dOf (YJ 2)))) (wSh (dOf (zA3 (vOf (YJ 1)) (dOf (YJ 3)))) zAo))))
  (YY (Xp (XX (dOf (YJ 4))) (gT 3 (YT (gN 7) (YT (gN 8) (YT (gN 9) Yt)))) q0E)
  (YY (Xp (zAg (YI (vOf (Yv Xo (YI (vOf (YJ 1)) YS))) YS)) (gN 10) q0l)
  (YY (Yk 11 (eOf (fC (.int 0))))
  (YY (Xp (XX (dOf (W7 (vOf (Yp 1 [0,1] (zAg (YI (vOf (Yv Xo (YI (vOf (YJ 1)) YS))) YS)) (gN 0) Yn q2P))))) (gT 2 (YT (gN 12) (YT (gN 10) Yt))) q0B)
  (Yr (YJ 11))))))))
noncomputable def q0t:List D->Option O:=mir 13 q3n
noncomputable abbrev q3d:vo:=top 48
theorem qF:FnScope ["size", "some", "home", "last", "boxes", "lack_row", "group", "start", "goal", "side", "k", "total", "far"] ["size", "some", "home", "last", "boxes", "lack_row"] (YL q3d):=⟨rfl,rfl,rfl,⋯,rfl,⋯,⋯⟩
theorem q8p{f__law_joined:vF}{d__law_joined:vM}{f__law_long:vF}{d__law_long:vM}(F:Fun K "_law_ties" "_law_ties" q3d f fd)(c__law_joined:CalW P w K mg base 1 f__law_joined d__law_joined "_law_joined" ["group", "one", "other"] 3 qu)(c__law_long:Cal P w K mg base 1 f__law_long d__law_long "_law_long" ["size", "some", "k"] 3 q0a)(z_len:mg "len" = none)(z_range:mg "range" = none)(z_sorted:mg "sorted" = none):
  FnOk P w K mg base CX0 2 f fd ["size", "some", "home", "last", "boxes", "lack_row"] (spD K 6 q0t):=by
 have h:=fnD (P:=P) (w:=w) (mg:=mg) (base:=base) (k:=1) (body:=q3n) F qF (λcdv A outer s H E hr=>
   (q0 (q1L (i:=6) rfl qF.nd rfl rfl (blk ["k"] [] [] rfl ⋯ ⋯ rfl trivial) (q0z rfl z_range (qf (XE.toV (qr qo qV rfl z_len qU (qf (vV 1) qh))) qh)) (qz 0) (λ_ _ _ _=>⟨(qg (i:=0) (show ((["k"]:List Str)++([]:List Str):List Str).Nodup from by decide +kernel) rfl (Or.inl rfl)),qK,(vD 0)⟩))
   (q0 (q5i c__law_joined hr (q68 (pv 6) (q1X (XE.toD (q2F (vV 1) (vD 2))) (q1X (XE.toD (q2F (vV 1) (vD 3))) q4I))))
   (q0 (qG PassesOwn.never rfl (qy (vD 4)) (q1Y rfl (qx (qg (i:=7) qF.nd rfl (Or.inl rfl)) (qx (qg (i:=8) qF.nd rfl (Or.inl rfl)) (qx (qg (i:=9) qF.nd rfl (Or.inl rfl)) q1c)))) (qb (q5i c__law_joined hr (q68 (pv 6) (q1X (XE.toD (q2F (vV 1) (vD 7))) (q1X (XE.toD (q2F (vV 1) (vD 8))) q4I))))))
   (q0 (qG PassesOwn.never rfl (q0z rfl z_range (qf (XE.toV (qr qo qV rfl z_len qU (qf (vV 1) qh))) qh)) (qg (i:=10) qF.nd rfl (Or.inl rfl)) (qb (q0b (Wg hr.units (XE.toV (YN (vV 5) (vV 10))) (XD.toV YK)) (qb (q5i c__law_joined hr (q68 (pv 6) (q1X (vD 10) (q1X (XE.toD (qR (XE.toV (qt (vV 10) (XD.toV YK))) (XE.toV (qr qo qV rfl z_len qU (qf (vV 1) qh))))) q4I))))) qD)))
   (q0 (qi (i:=11) qF.nd rfl (Or.inl rfl) (XD.toE YK))
   (q0 (qG PassesOwn.never rfl (qy (XE.toD (qer rfl z_sorted (XE.toV (q0c rfl (blk ["k"] ["size", "some"] [0,1] rfl ⋯ ⋯ rfl ⟨⟨rfl,(by first|exact Or.inl rfl|exact Or.inr rfl),rfl⟩,⟨⟨rfl,(by first|exact Or.inl rfl|exact Or.inr rfl),rfl⟩,trivial⟩⟩) (q0z rfl z_range (qf (XE.toV (qr qo qV rfl z_len qU (qf (vV 1) qh))) qh)) (qz 0) (λ_ _ _ _=>⟨(qg (i:=0) (show ((["k"]:List Str)++(["size", "some"]:List Str):List Str).Nodup from by decide +kernel) rfl (Or.inl rfl)),qK,(Xl (YH (XE.toD (xc c__law_long hr (YH (vD 1) (YH (vD 2) (YH (vD 0) YM))))) (YH (vD 0) YM)))⟩)))))) (q1Y rfl (qx (qg (i:=12) qF.nd rfl (Or.inl rfl)) (qx (qg (i:=10) qF.nd rfl (Or.inl rfl)) q1c))) (qb (qhP (qeT c__law_joined hr (q68 (pv 6) (q1X (vD 10) (q1X (XE.toD (qR (XE.toV (qt (vV 10) (XD.toV YK))) (XE.toV (qr qo qV rfl z_len qU (qf (vV 1) qh))))) q4I)))) (qb (qi (i:=11) qF.nd rfl (Or.inl rfl) (XD.toE (XE.toD (qt (vV 11) (vV 12)))))) qD)))
   (qb (ql (vE 11))))))))))
 exact h
noncomputable def q0J:FS:=(Yk 8 (eOf (dOf (YO Yw (vOf (YJ 8)) (vOf (YO WS (vOf (YR q0a (YI (dOf (YJ 0)) (YI (dOf (YJ 1)) (YI (dOf (YJ 9)) YS))))) (vOf (YO Yw (vOf (YO Yw (vOf (YO oIx (vOf (YO oIx (vOf (YJ 7)) (vOf (YJ 9)))) (fC (.int 0)))) (vOf (YO oIx (vOf (YO oIx (vOf (YJ 7)) (vOf (YJ 9)))) (fC (.int 1)))))) (vOf (Yv bAbs (YI (vOf (YO oIx (vOf (YJ 6)) (vOf (YJ 9)))) YS)))))))))))
noncomputable def q28:FS:=(YY (Yk 6 (eOf (dOf (YR qA (YI (dOf (YJ 1)) (YI (dOf (YJ 2)) (YI (dOf (YJ 3)) (YI (dOf (YJ 4)) (YI (dOf (YJ 5)) YS)))))))))
  (YY (Yk 7 (eOf (dOf (YR q01 (YI (dOf (YJ 1)) (YI (dOf (YJ 4)) YS))))))
  (YY (Yk 8 (eOf (dOf (YO WS (fC (.int 2)) (vOf (YR q0t (YI (dOf (YJ 0)) (YI (dOf (YJ 1)) (YI (dOf (YJ 2)) (YI (dOf (YJ 3)) (YI (dOf (YJ 4)) (YI (dOf (YJ 6)) YS))))))))))))
  (YY (Xp (zAg (YI (vOf (Yv Xo (YI (vOf (YJ 1)) YS))) YS)) (gN 9) q0J)
  (Yr (YJ 8))))))
noncomputable def qJ:List D->Option O:=mir 10 q28
noncomputable abbrev q29:vo:=top 49
theorem q00:FnScope ["size", "some", "home", "last", "boxes", "c", "lack_row", "counts", "total", "k"] ["size", "some", "home", "last", "boxes", "c"] (YL q29):=⟨rfl,rfl,rfl,⋯,rfl,⋯,⋯⟩
theorem q6J{f__law_lack_row:vF}{d__law_lack_row:vM}{f__law_counts:vF}{d__law_counts:vM}{f__law_ties:vF}{d__law_ties:vM}{f__law_long:vF}{d__law_long:vM}(F:Fun K "_law_weight" "_law_weight" q29 f fd)(c__law_lack_row:Cal P w K mg base 3 f__law_lack_row d__law_lack_row "_law_lack_row" ["some", "home", "last", "boxes", "c"] 5 qA)(c__law_counts:Cal P w K mg base 2 f__law_counts d__law_counts "_law_counts" ["some", "boxes"] 2 q01)(c__law_ties:Cal P w K mg base 2 f__law_ties d__law_ties "_law_ties" ["size", "some", "home", "last", "boxes", "lack_row"] 6 q0t)(c__law_long:Cal P w K mg base 1 f__law_long d__law_long "_law_long" ["size", "some", "k"] 3 q0a)(z_len:mg "len" = none)(z_range:mg "range" = none)(z_abs:mg "abs" = none):
  FnOk P w K mg base CX0 4 f fd ["size", "some", "home", "last", "boxes", "c"] (spD K 6 qJ):=by
 have h:=fnD (P:=P) (w:=w) (mg:=mg) (base:=base) (k:=3) (body:=q28) F q00 (λcdv A outer s H E hr=>
   (q0 (qi (i:=6) q00.nd rfl (Or.inl rfl) (XD.toE (XE.toD (xc c__law_lack_row hr (YH (vD 1) (YH (vD 2) (YH (vD 3) (YH (vD 4) (YH (vD 5) YM)))))))))
   (q0 (qi (i:=7) q00.nd rfl (Or.inl rfl) (XD.toE (XE.toD (xc c__law_counts hr (YH (vD 1) (YH (vD 4) YM))))))
   (q0 (qi (i:=8) q00.nd rfl (Or.inl rfl) (XD.toE (XE.toD (q4p (XD.toV YK) (XE.toV (xc c__law_ties hr (YH (vD 0) (YH (vD 1) (YH (vD 2) (YH (vD 3) (YH (vD 4) (YH (vD 6) YM))))))))))))
   (q0 (qG PassesOwn.never rfl (q0z rfl z_range (qf (XE.toV (qr qo qV rfl z_len qU (qf (vV 1) qh))) qh)) (qg (i:=9) q00.nd rfl (Or.inl rfl)) (qb (qi (i:=8) q00.nd rfl (Or.inl rfl) (XD.toE (XE.toD (qt (vV 8) (XE.toV (q4p (XE.toV (xc c__law_long hr (YH (vD 0) (YH (vD 1) (YH (vD 9) YM))))) (XE.toV (qt (XE.toV (qt (XE.toV (YN (XE.toV (YN (vV 7) (vV 9))) (XD.toV YK))) (XE.toV (YN (XE.toV (YN (vV 7) (vV 9))) (XD.toV YK))))) (XE.toV (qr q8r qd0 rfl z_abs qdu (qf (XE.toV (YN (vV 6) (vV 9))) qh)))))))))))))
   (qb (ql (vE 8))))))))
 exact h
noncomputable def q49:FS:=(Yr (eOf (WM (dOf (Wp .int (vOf (YJ 0)))) (vNot (dOf (Wp .bl (vOf (YJ 0))))))))
noncomputable def q0i:List D->Option O:=mir 1 q49
noncomputable abbrev q2H:vo:=top 50
theorem q9x:FnScope ["thing"] ["thing"] (YL q2H):=⟨rfl,rfl,rfl,⋯,rfl,⋯,⋯⟩
theorem q86 (F:Fun K "_law_whole" "_law_whole" q2H f fd)(z_isinstance:mg "isinstance" = none)(z_bool:mg "bool" = none)(z_int:mg "int" = none)(i_int:IsT K .int)(i_bool:IsT K .bl):
  FnOk P w K mg base CX0 1 f fd ["thing"] (spD K 1 q0i):=by
 have h:=fnD (P:=P) (w:=w) (mg:=mg) (base:=base) (k:=0) (body:=q49) F q9x (λcdv A outer s H E hr=>
   (qb (ql (XD.toE (q0f (XE.toD (q0X (vV 0) i_int rfl z_isinstance rfl z_int q9k)) (q1U (qdo (XE.toD (q0X (vV 0) i_bool rfl z_isinstance rfl z_bool qay)))))))))
 exact h
noncomputable def q8n:FS:=(sIf (zAP (XC (X5 (vOf (Wp .tup (vOf (YJ 7)))))) (zAP (tOf (YO (oEq true) (vOf (Yv Xo (YI (vOf (YJ 7)) YS))) (fC (.int 2)))) (zAP (XC (X5 (vOf (YR q0i (YI (dOf (YO oIx (vOf (YJ 7)) (fC (.int 0)))) YS))))) (XC (X5 (vOf (YR q0i (YI (dOf (YO oIx (vOf (YJ 7)) (fC (.int 1)))) YS)))))))) (Yr (eOf (fC (.bl false)))) X8)
noncomputable def q5G:FS:=(zAQ 10 (zAi (YI (dOf (YJ 11)) (YI (dOf (YR qJ (YI (dOf (YJ 1)) (YI (dOf (YJ 8)) (YI (dOf (YJ 4)) (YI (dOf (YJ 5)) (YI (dOf (YJ 3)) (YI (dOf (YJ 11)) YS)))))))) YS))))
noncomputable def qd7:FD:=(dOf (YO oIx (vOf (YJ 0)) (fC (.int 1))))
noncomputable def qbX:FS:=(YY (Yk 1 (eOf (dOf (YR q0Q (YI (dOf (YJ 0)) YS)))))
  (YY (Yk 2 (eOf (dOf (YR q0U (YI (dOf (YJ 0)) (YI (dOf (YJ 1)) YS))))))
  (YY (Yk 3 (eOf (dOf (YR q0w (YI (dOf (YJ 0)) (YI (dOf (YJ 2)) YS))))))
  (YY (Yk 4 (eOf (dOf (YO oIx (vOf (YJ 2)) (fC (.int 0))))))
  (YY (Yk 5 (eOf (dOf (YO oIx (vOf (YJ 2)) (fC (.int 1))))))
  (YY (Yk 6 (eOf (dOf (YR q1d (YI (dOf (YJ 1)) (YI (dOf (YJ 4)) (YI (dOf (YJ 5)) (YI (dOf (Yv zAe (YI (vOf (YJ 3)) YS))) YS))))))))
  (YY (sIf (XC (X5 (vOf (Wp .lst (vOf (YJ 6)))))) (Yr (eOf (fC (.bl false)))) X8)
  (YY (Xp (XX (dOf (YJ 6))) (gN 7) q8n)
  (YY (Yk 8 (eOf (dOf (YR q0F (YI (dOf (YJ 4)) (YI (dOf (YJ 5)) (YI (dOf (YJ 3)) YS)))))))
  (YY (Yk 9 (eOf (dOf (YR qA (YI (dOf (YJ 8)) (YI (dOf (YJ 4)) (YI (dOf (YJ 5)) (YI (dOf (YJ 3)) (YI (fC (.int 0)) YS)))))))))
  (YY (Yk 10 (WD YS))
  (YY (Xp (iRg2 (YI (vOf (YO Wk (vOf (zA1 (fC (.int 1)))) (vOf (Yv bMax (YI (vOf (YJ 9)) YS))))) (YI (vOf (YO Wk (fC (.int 2)) (vOf (Yv zBI (YI (vOf (YJ 9)) YS))))) YS))) (gN 11) q5G)
  (YY (Yk 12 (eOf (dOf (YR q0G (YI (dOf (YJ 1)) (YI (dOf (YJ 4)) (YI (dOf (YJ 5)) (YI (dOf (Yv zAe (YI (vOf (YJ 3)) YS))) YS))))))))
  (Y3 10 (Yr (eOf (WM (dOf (YO (oEq false) (vOf (YJ 6)) (vOf (YJ 10)))) (WM (dOf (YR q0i (YI (dOf (YJ 12)) YS))) (dOf (YO (oEq false) (vOf (YJ 12)) (vOf (Yv zBI (YI (vOf (Yp 1 [] (XX (dOf (YJ 10))) (gN 0) Yn qd7)) YS)))))))))))))))))))))))
noncomputable def q4z:List D->Option O:=mir 13 qbX
noncomputable abbrev q4H:vo:=top 51
theorem q0L:FnScope ["script", "size", "some", "boxes", "home", "last", "found", "row", "known", "lack_row", "due", "c", "low"] ["script"] (YL q4H):=⟨rfl,rfl,rfl,⋯,rfl,⋯,⋯⟩
theorem qhq{f__law_size:vF}{d__law_size:vM}{f__law_menu:vF}{d__law_menu:vM}{f__law_boxes:vF}{d__law_boxes:vM}{f_turns:vF}{d_turns:vM}{f__law_whole:vF}{d__law_whole:vM}{f__law_stops:vF}{d__law_stops:vM}{f__law_lack_row:vF}{d__law_lack_row:vM}{f__law_weight:vF}{d__law_weight:vM}{f_ring_least:vF}{d_ring_least:vM}(F:Fun K "law" "law" q4H f fd)(c__law_size:Cal P w K mg base 2 f__law_size d__law_size "_law_size" ["script"] 1 q0Q)(c__law_menu:Cal P w K mg base 2 f__law_menu d__law_menu "_law_menu" ["script", "size"] 2 q0U)(c__law_boxes:Cal P w K mg base 2 f__law_boxes d__law_boxes "_law_boxes" ["script", "some"] 2 q0w)(c_turns:Cal P w K mg base 8 f_turns d_turns "turns" ["size", "home", "last", "boxes"] 4 q1d)(c__law_whole:Cal P w K mg base 1 f__law_whole d__law_whole "_law_whole" ["thing"] 1 q0i)(c__law_stops:Cal P w K mg base 1 f__law_stops d__law_stops "_law_stops" ["home", "last", "boxes"] 3 q0F)(c__law_lack_row:Cal P w K mg base 3 f__law_lack_row d__law_lack_row "_law_lack_row" ["some", "home", "last", "boxes", "c"] 5 qA)(c__law_weight:Cal P w K mg base 4 f__law_weight d__law_weight "_law_weight" ["size", "some", "home", "last", "boxes", "c"] 6 qJ)(c_ring_least:Cal P w K mg base 9 f_ring_least d_ring_least "ring_least" ["size", "home", "last", "boxes"] 4 q0G)(z_list:mg "list" = none)(z_isinstance:mg "isinstance" = none)(z_len:mg "len" = none)(z_tuple:mg "tuple" = none)(z_min:mg "min" = none)(z_max:mg "max" = none)(z_range:mg "range" = none)(i_list:IsT K .lst)(i_tuple:IsT K .tup):
  FnOk P w K mg base CX0 10 f fd ["script"] (spD K 1 q4z):=by
 have h:=fnD (P:=P) (w:=w) (mg:=mg) (base:=base) (k:=9) (body:=qbX) F q0L (λcdv A outer s H E hr=>
   (q0 (qi (i:=1) q0L.nd rfl (Or.inl rfl) (XD.toE (XE.toD (xc c__law_size hr (YH (vD 0) YM)))))
   (q0 (qi (i:=2) q0L.nd rfl (Or.inl rfl) (XD.toE (XE.toD (xc c__law_menu hr (YH (vD 0) (YH (vD 1) YM))))))
   (q0 (qi (i:=3) q0L.nd rfl (Or.inl rfl) (XD.toE (XE.toD (xc c__law_boxes hr (YH (vD 0) (YH (vD 2) YM))))))
   (q0 (qi (i:=4) q0L.nd rfl (Or.inl rfl) (XD.toE (XE.toD (YN (vV 2) (XD.toV YK)))))
   (q0 (qi (i:=5) q0L.nd rfl (Or.inl rfl) (XD.toE (XE.toD (YN (vV 2) (XD.toV YK)))))
   (q0 (qi (i:=6) q0L.nd rfl (Or.inl rfl) (XD.toE (XE.toD (xc c_turns hr (YH (vD 1) (YH (vD 4) (YH (vD 5) (YH (XE.toD (qbe q4u qaB rfl z_list q2i (qf (vV 3) qh))) YM))))))))
   (q0 (q0b (q0e (qQ (XE.toV (q0X (vV 6) i_list rfl z_isinstance rfl z_list q2i)))) (qb (ql (XD.toE Xw))) qD)
   (q0 (qG PassesOwn.never rfl (qy (vD 6)) (qg (i:=7) q0L.nd rfl (Or.inl rfl)) (qb (q0b (XW.toT (q34 (q0e (qQ (XE.toV (q0X (vV 7) i_tuple rfl z_isinstance rfl z_tuple q5y)))) (q34 (Wg hr.units (XE.toV (qr qo qV rfl z_len qU (qf (vV 7) qh))) (XD.toV YK)) (q34 (q0e (qQ (XE.toV (xc c__law_whole hr (YH (XE.toD (YN (vV 7) (XD.toV YK))) YM))))) (q5K (q0e (qQ (XE.toV (xc c__law_whole hr (YH (XE.toD (YN (vV 7) (XD.toV YK))) YM)))))))))) (qb (ql (XD.toE Xw))) qD)))
   (q0 (qi (i:=8) q0L.nd rfl (Or.inl rfl) (XD.toE (XE.toD (xc c__law_stops hr (YH (vD 4) (YH (vD 5) (YH (vD 3) YM)))))))
   (q0 (qi (i:=9) q0L.nd rfl (Or.inl rfl) (XD.toE (XE.toD (xc c__law_lack_row hr (YH (vD 8) (YH (vD 4) (YH (vD 5) (YH (vD 3) (YH YK YM)))))))))
   (q0 (qi (i:=10) q0L.nd rfl (Or.inl rfl) (Yo YM))
   (q0 (qG PassesOwn.never rfl (q7v rfl z_range (qf (XE.toV (q0x (XE.toV (q4h (XD.toV YK))) (XE.toV (qr (q7S rfl) qcD rfl z_max qdO (qf (vV 9) qh))))) (qf (XE.toV (q0x (XD.toV YK) (XE.toV (qr (q2Y rfl) q5C rfl z_min q5M (qf (vV 9) qh))))) qh))) (qg (i:=11) q0L.nd rfl (Or.inl rfl)) (qb (q1V (pv 10) (Xl (YH (vD 11) (YH (XE.toD (xc c__law_weight hr (YH (vD 1) (YH (vD 8) (YH (vD 4) (YH (vD 5) (YH (vD 3) (YH (vD 11) YM)))))))) YM))))))
   (q0 (qi (i:=12) q0L.nd rfl (Or.inl rfl) (XD.toE (XE.toD (xc c_ring_least hr (YH (vD 1) (YH (vD 4) (YH (vD 5) (YH (XE.toD (qbe q4u qaB rfl z_list q2i (qf (vV 3) qh))) YM))))))))
   (q03 10 (qb (ql (XD.toE (q0f (XE.toD (zA7 hr.units (vV 6) (vV 10))) (q0f (XE.toD (xc c__law_whole hr (YH (vD 12) YM))) (q1U (XE.toD (zA7 hr.units (vV 12) (XE.toV (qr (q2Y rfl) q5C rfl z_min q5M (qf (XE.toV (q0c rfl (blk ["row"] [] [] rfl ⋯ ⋯ rfl trivial) (qy (vD 10)) (qz 0) (λ_ _ _ _=>⟨(qg (i:=0) (show ((["row"]:List Str)++([]:List Str):List Str).Nodup from by decide +kernel) rfl (Or.inl rfl)),qK,(XE.toD (YN (vV 0) (XD.toV YK)))⟩))) qh))))))))))))))))))))))))))
 exact h
end
set_option compiler.extract_closed false
set_option hygiene false
local macro_rules|`(tactic| simp_arith $c:optConfig [$xs,*])=>`(tactic| simp $c only[q4L,q1y,q9l,qcx,qcg,qcA,q6h,e_cw,qbE,qbS,q63,e_dp,qbz,qbQ,qbI,qbU,qbf,qcy,qbh,qbs,qcp,qcn,Y2,eq_self,wZ,wA,wB,reduceCtorEq,q6i,q9i,q8K,q6A,e_wd,q9b,e_wz,q6T,q8j,q7a,qbL,q9f,q8N,qck,qbd,qc1,q91,qbW,q7d,q73,qbn,q9s,qbq,qbr,qbg,q6x,q7h,q0M,q6y,q7b,qc6,qcw,q6E,q6k,e_if,q93,q8Z,qcj,q6n,q6U,q9z,q7e,qbG,zAI,qbj,q6f,q75,q77,qcB,e_fs,qcv,q6Y,q6v,e_c,e_e,e_ed,e_d,q6z,q6H,e_v,q6S,q6W,q6L,e_op,e_o2,q8Q,e_cl,q79,q6r,e_ac,e_ca,e_an,qbi,qcb,qcu,e_bl,qbH,e_sl,e_po,e_pa,e_ap,qc0,q8Y,q8X,qbc,q4y,q5j,q4x,q43,q42,q4w,e_t,e_tr,q92,e_ta,qce,qc5,e_to,qbC,q9L,e_tn,q9e,q74,q54,q8z,e_va,qbA,q8T,q90,qc3,qcc,q8R,Xq,qbV,e_ng,q6O,q6w,q71,q4Q,q5U,q94,q6g,q9a,q9J,q6o,qbm,qcq,qbO,at0,at1,at2,q0s,q6V,WU,entry,yD,yj,zG,xJ,zA,zi,yh,wb,yQ,wC,wE,wN,wO,yf,ye,ZG,ZH,Zg,Zh,Zi,ZI,ZJ,ZK,ZL,ZM,ZN,wU,ZO,wq,↓reduceIte,wT,ZP,wH,ZQ,xm,wg,wS,Zj,xZ,w8,xV,beq_self_eq_true,yC,$xs,*])
set_option compiler.extract_closed true
set_option hygiene true
noncomputable def Y1(p:Int×Int):D:=.tup [.int p.1,.int p.2]
noncomputable def Xj:D->Bool
 | .int _=>true
 | _=>false
noncomputable def nsD:D->Bool
 | .scr _=>false
 | .exc _=>false
 | .dic _ _=>false
 | _=>true
noncomputable def noScr:D->Bool
 | .scr _=>false
 | .exc _=>false
 | .dic _ _=>false
 | .tup [a,b]=>nsD a&&nsD b
 | _=>true
noncomputable def isBoxL:List D->Bool
 | []=>false
 | [_]=>false
 | [a,b]=>Xj a&&Xj b
 | _::_::_::_=>false
noncomputable def zAA:D->Bool
 | .tup ds=>isBoxL ds
 | _=>false
theorem q3N{d:D}(h:nsD d=true):qw [d]=↥(.bl (Xj d)):=by
 cases d <;> first|rfl|cases h
theorem qgX{d:D}(h:noScr d=true):q2p [d]=↥(.bl (zAA d)):=by
 unfold q2p q57
 match d,h with
 | .non,_=>rfl
 | .bl _,_=>rfl
 | .int _,_=>rfl
 | .str _,_=>rfl
 | .lst _,_=>rfl
 | .tup [],_=>rfl
 | .tup [_],_=>simp_arith[q0M];rfl
 | .tup [a,b],h=>
  have h':=wx.mp (show (_&&_)=true from h);have ha:=q3N h'.1;have hb:=q3N h'.2;simp_arith[ha,hb];simp_arith[show (((0+1+1:Nat):Int)==2)=true from rfl,ha,hb];cases a <;> cases b <;> rfl
 | .tup (a::b::c::r),_=>
  have hn:(((a::b::c::r).length:Int)==2)=false:=by
   simp only[zG,beq_eq_false_iff_ne,ne_eq];omega
  simp only[zG]at hn;simp_arith[hn];rfl
theorem q5a:∀(q:D->Bool)(ds:List D),allB (ds.map λd=>D.bl (q d))=some (ds.all q)
 | _,[]=>rfl
 | q,d::ds=>by
  show (allB (ds.map λd=>D.bl (q d))).map _=_;rw[q5a q ds];rfl
theorem qdg{h l:D}{ds:List D}(hh:nsD h=true)(hl:nsD l=true)(hd:∀d∈ds,noScr d=true)(hlen:ds.length<=1000000):
  q0r [h,l,.lst ds]=↥(.bl (Xj h&&(Xj l&&ds.all zAA))):=by
 unfold q0r q3k;have e1:=q3N hh;have e2:=q3N hl;simp_arith[e1,e2,Xq hlen];cases Xj h <;> cases Xj l <;> simp_arith[e2,Xq hlen] <;> first|rfl|skip
 rw[q7L (λd=>D.bl (zAA d))]
 ·simp_arith[bAll,q5a]
 ·intro d hd'
  unfold q4k;simp_arith[inW,qgX (hd d hd')]
noncomputable def flat(bs:List (Int×Int)):List Int:=bs.flatMap λp=>[p.1,p.2]
noncomputable def plc(h l:Int)(bs:List (Int×Int)):List Int:=h::l::flat bs
theorem qfe(bs:List (Int×Int))(p:Int×Int):flat (bs++[p])=flat bs++[p.1,p.2]:=by simp[flat]
theorem q1O(bs:List (Int×Int)):(flat bs).length=2*bs.length:=by
 induction bs with
 | nil=>rfl
 | cons p r ih=>simp[flat]at ih ⊢;omega
theorem qaD(h l:Int)(bs:List (Int×Int))(p:Int×Int):plc h l (bs++[p])=plc h l bs++[p.1,p.2]:=by unfold plc;rw[qfe];rfl
theorem Wl(x:Int):nsD (.int x)=true:=rfl
theorem qdw(p:Int×Int):zAA (Y1 p)=true:=rfl
theorem qd2(bs:List (Int×Int)):(bs.map Y1).all zAA=true:=by
 rw[wF];exact yq.mpr λp _=>qdw p
theorem qec{h l:Int}{bs:List (Int×Int)}(hb:bs.length<=1000):q0r [.int h,.int l,.lst (bs.map Y1)]=↥(.bl true):=by
 have:=qdg (h:=.int h) (l:=.int l) (ds:=bs.map Y1) (Wl h) (Wl l) (λd hd=>by
  obtain⟨p,_,rfl⟩:=yM.mp hd;rfl) (by rw[zA];omega)
 rw[qd2]at this;exact this
theorem qew{h l:Int}{bs:List (Int×Int)}(hb:bs.length<=1000):q0k [.int h,.int l,.lst (bs.map Y1)]=some (.sh .non):=by
 unfold q0k q1I;simp_arith[qec hb]
theorem qfr{h l:Int}{bs:List (Int×Int)}(hb:bs.length<=30):q3x [.int h,.int l,.lst (bs.map Y1)]=some (.fr ((Ya (plc h l bs)).map D.int)):=by
 unfold q3x q72;simp_arith[qew (show bs.length<=1000 by omega)];obtain⟨ω',e,x4,rfl⟩:=qv (g:=gN 4) (b:=q5s) Y1 bs
  (λpre ω=>∃x4,ω=[↥(.int h),↥(.int l),↥(.lst (bs.map Y1)),some (.ow ((plc h l pre).map D.int)),x4])
  (λpre p post ω hd ⟨x4,hω⟩=>by
   subst hω;refine⟨_,rfl,?_⟩;unfold q5s;have hl:(plc h l pre).length<=1000:=by
    have:=vq yd hd;rw[zE,zG]at this;show (flat pre).length+1+1<=1000;rw[q1O];omega
   have e1:=q6f (i:=3) (ω:=[↥(.int h),↥(.int l),↥(.lst (bs.map Y1)),some (.ow ((plc h l pre).map D.int)),↥(Y1 p)]) (ds:=(plc h l pre).map D.int) (ds':=[.int p.1,.int p.2]) (by rw[zA,zG,z9];omega);simp_arith[q0M];show XN (extS 3 _ (some (Y1 p)) _) _;rw[show Y1 p=D.tup [.int p.1,.int p.2]from rfl]at e1 ⊢;rw[e1,qaD,zc];exact⟨_,rfl⟩)
  (ω:=[↥(.int h),↥(.int l),↥(.lst (bs.map Y1)),some (.ow [.int h,.int l]),none]) ⟨none,rfl⟩
 simp_arith[e];have hlen:(plc h l bs).length<64:=by
  show (flat bs).length+1+1<64;rw[q1O];omega
 have:Y5 (vOf (YJ 3)) [↥(.int h),↥(.int l),↥(.lst (bs.map Y1)),some (.ow ((plc h l bs).map D.int)),x4]=some (.fr ((Ya (plc h l bs)).map D.int)):=by
  show WR (.lst ((plc h l bs).map D.int))=_;show (intsOf ((plc h l bs).map D.int)).bind _=_;rw[qH];exact vG (qdr hlen)
 simp_arith[this]
theorem q7J:∀(xs ys:List Int),wf pairD (xs.map D.int) (ys.map D.int)=(xs.zip ys).map Y1
 | [],_=>rfl
 | _::_,[]=>rfl
 | x::xs,y::ys=>by
  show _::wf pairD (xs.map D.int) (ys.map D.int)=_::(xs.zip ys).map Y1;rw[q7J xs ys];rfl
theorem qf8(ds:List D):cutD ds (some 1) none=ds.drop 1:=by
 unfold cutD;have e:HT.sIx ds.length 0 (some 1)=min 1 ds.length:=HT.q4E ds.length 0 1;rw[e,HT.q9r];cases ds with
 | nil=>rfl
 | cons d r=>
  have:min 1 (d::r).length=1:=by rw[zG];omega
  rw[this];show List.take _ r=r;rw[zG,ZU,yw]
structure Stp (P:List Int):Prop where
 ne:P≠[]
 rise:P.Pairwise (· < ·)
 len:P.length<=1000
theorem stp(h l:Int){bs:List (Int×Int)}(hb:bs.length<=30):Stp (Ya (plc h l bs)):=by
 refine⟨λe=>?_,q2f,?_⟩
 ·have:h∈Ya (plc h l bs):=q2W.mpr (by simp[plc])
  rw[e]at this;simp at this
 ·have:(Ya (plc h l bs)).length<=(plc h l bs).length:=q33 _
  have h2:(plc h l bs).length=2*bs.length+2:=by show (flat bs).length+1+1=_;rw[q1O]
  omega
theorem q1o{α:Type}{g:FG}{c:FT}{f:FD}(P:WSt->Prop)(q:α->Bool)(B F:α->D):∀(xs:List α){ω:WSt},P ω ->
  (∀x∈xs,∀ω,P ω->∃w,g (B x) ω=some w/\P w/\c w=some (q x)/\(q x=true->f w=some (F x)))->Y6 g c f (xs.map B) ω=some ((xs.filter q).map F)
 | [],_,_,_=>rfl
 | x::xs,ω,h,t=>by
  obtain⟨w,h1,h2,h3,h4⟩:=t x zH ω h;have ih:=q1o P q B F xs h2 (λe he=>t e (zJ _ he));rw[zi,Y6,h1,yD,h3,yD];cases hq:q x with
  | true=>rw[vG rfl,h4 hq,yD,ih,wW hq];rfl
  | false=>rw[vJ (by decide),ih,wX (by rw[hq];decide)]
theorem q3W{α:Type}{i:Nat}{c:FT}{f:FD}(q:α->Bool)(B F:α->D)(xs:List α){ω:WSt}(h:∀x∈xs,c (ω.set i ↥(B x))=some (q x)/\(q x=true->f (ω.set i ↥(B x))=some (F x))):Y6 (gN i) c f (xs.map B) ω=some ((xs.filter q).map F) :=
 q1o (g:=gN i) (c:=c) (f:=f) (λw=>∀x,w.set i x=ω.set i x) q B F xs (ω:=ω) (λx=>rfl) λd hd w hw=>
  ⟨w.set i ↥(B d),rfl,λx=>by rw[List.set_set,hw],by rw[hw];exact(h d hd).1,λz=>by rw[hw];exact(h d hd).2 z⟩
theorem qM{α:Type}{i:Nat}{f:FD}(B F:α->D)(xs:List α){ω:WSt}(h:∀x∈xs,f (ω.set i ↥(B x))=some (F x)):Y6 (gN i) Yn f (xs.map B) ω=some (xs.map F):=by
 have:=q3W (c:=Yn) (i:=i) (f:=f) (λ_=>true) B F xs (ω:=ω) λx hx=>⟨rfl,λ_=>h x hx⟩;rw[this,xB.mpr (λ_ _=>rfl)]
theorem qdX{α:Type}(f:α->Int):∀bs:List α,zBF (bs.map λp=>D.int (f p))=some (bs.map f).sum
 | []=>rfl
 | b::r=>by
  show (zBF (r.map λp=>D.int (f p))).map _=_;rw[qdX f r];rfl
theorem q9M{α:Type}(f:α->Int)(bs:List α):bSum [.lst (bs.map λp=>D.int (f p))]=↥(.int (bs.map f).sum):=by
 show (zBF _).map _=_;rw[qdX];rfl
theorem q3G{ns:List Int}{k:Int}(h:0<=k):qE [.scr ns,.int k]=↥(.int (ns.getD k.toNat 0)):=by
 unfold qE q3r
 by_cases hk:k<ns.length
 ·simp_arith[hk,decide_true,q0W h hk]
  simp[zQ,zB (show k.toNat<ns.length by omega)]
 ·simp_arith[hk,decide_false]
  simp[zQ,ze (show ns.length<=k.toNat by omega)]
theorem q66{ds:List D}{i:Int}(P:D->Prop)(h0:0<=i)(h1:i<ds.length)(h:∀d∈ds,P d):∃d,atI ds i=some d/\P d :=
 ⟨_,q0W h0 h1,h _ (zk _)⟩
noncomputable def tri(x:Int×Int×Int):D:=.tup [.int x.1,.int x.2.1,.int x.2.2]
theorem qgb{ns:List Int}:∃n:Int,q0Q [.scr ns]=↥(.int n)/\1<=n/\n<=10^39:=by
 unfold q0Q q3m;have hc:=q3G (ns:=ns) (k:=0) (by decide);generalize ns.getD (YD 0) 0=c at hc;have p39:oPow (.int 10) (.int 39)=↥(.int (10^39)):=rfl;have md:∀x,oMod (.int x) (.int (10^39))=↥(.int (x%10^39)):=λx=>q0s (by decide);simp only[wU]at p39 md ⊢;obtain⟨d,hd,n,rfl,hn⟩:=q66 (ds:=[.int (1+c/4%12),.int (1+c/4%100),.int (1+c/4%1000000000000000000000000000000000000000),.int 24]) (i:=c%4) (λd=>∃n:Int,d=D.int n/\1<=n/\n<=1000000000000000000000000000000000000000) ∅ (show c%4<4 by omega) (by
  intro d hd;simp only[zF,zh,or_false]at hd;rcases hd with rfl|rfl|rfl|rfl
  ·exact⟨_,rfl,∅,∅⟩
  ·exact⟨_,rfl,∅,∅⟩
  ·exact⟨_,rfl,∅,∅⟩
  ·exact⟨_,rfl,by decide,by decide⟩)
 simp_arith[hc,p39,md,hd];exact⟨n,rfl,hn⟩
theorem qeO{ns:List Int}{n:Int}(hn:1<=n):∃ps:List Int,q0U [.scr ns,.int n]=some (.fr (ps.map D.int))/\ps.length=7/\∀p∈ps,0<=p/\p<n:=by
 unfold q0U q35;have rg:rg1I (some [.int 7])=some (upTo 0 7):=rfl;obtain⟨ω',e,ps,y3,y4,rfl,i1,i2⟩:=qcZ (g:=gN 3) (b:=q2M) 0 7
  (λi ω=>∃(ps:List Int) (y3 y4:Option W),ω=[↥(.scr ns),↥(.int n),some (.ow (ps.map D.int)),y3,y4]/\ps.length=i/\∀p∈ps,0<=p/\p<n)
  (λi ω hi ⟨ps,y3,y4,hω,i1,i2⟩=>by
   subst hω;refine⟨_,rfl,?_⟩;have hc:=q3G (ns:=ns) (k:=2+(0+(i:Int))) ∅;generalize ns.getD (2+(0+(i:Int))).toNat 0=c at hc;obtain⟨d,hd,q,rfl⟩:=q66 (ds:=[.int (0+(i:Int)+c/3),.int (c/3),.int (-1-c/3)]) (i:=c%3) (λd=>∃q:Int,d=D.int q) ∅ (show c%3<3 by omega) (by
    intro d hd;simp only[zF,zh,or_false]at hd;rcases hd with rfl|rfl|rfl <;> exact⟨_,rfl⟩)
   have md:oMod (.int q) (.int n)=↥(.int (q%n)):=q0s ∅;have hll:(ps.map D.int).length<1000000:=by rw[zA];omega
   unfold q2M;simp_arith[hc,hd,md];rw[zAI hll,q4Q];refine⟨ps++[q%n],_,_,by rw[zc];rfl,by rw[zE,i1];rfl,λp hp=>?_⟩;rcases zb.mp hp with y|y
   ·exact i2 p y
   ·cases zT.mp y
    exact⟨Int.emod_nonneg _ ∅,Int.emod_lt_of_pos _ ∅⟩)
  (ω:=[↥(.scr ns),↥(.int n),some (.ow []),none,none]) ⟨[],none,none,rfl,rfl,by simp⟩
 have hc:=q3G (ns:=ns) (k:=1) (by decide);generalize ns.getD (YD 1) 0=c at hc
 match ps,i1,i2,e with
 | p0::p1::r,i1,i2,e=>
  by_cases z:c/28%3=1
  ·simp_arith[rg,e,hc,z]
   refine⟨p0::p0::r,?_,i1,λp hp=>?_⟩
   ·rw[qg4 (by decide) (by simp;omega)]
    rfl
   ·rcases zF.mp hp with rfl|hp
    ·exact i2 _ zH
    ·rcases zF.mp hp with rfl|hp
     ·exact i2 _ zH
     ·exact i2 p (by simp[hp])
  ·have z':(c/28%3==1)=false:=by simpa using z
   simp_arith[rg,e,hc,z'];exact⟨p0::p1::r,rfl,i1,i2⟩
theorem pick7{xs:List Int}(h7:xs.length=7)(x:Int):∃y,y∈xs/\atI (xs.map D.int) (x%7)=some (.int y):=by
 refine⟨xs[(x%7).toNat]'∅,zk _,?_⟩;rw[q0W ∅ (by rw[zA];omega),xE]
theorem qee{ns ps:List Int}(h7:ps.length=7)(hl:ns.length<=63):∃bs:List (Int×Int×Int),q0w [.scr ns,.lst (ps.map D.int)]=some (.fr (bs.map tri))/\(∀b∈bs,b.1∈ps/\b.2.1∈ps/\(b.2.2=1\/b.2.2=-1))/\bs.length<=5:=by
 unfold q0w q2y;have hc:=q3G (ns:=ns) (k:=1) (by decide);generalize ns.getD (YD 1) 0=c at hc;obtain⟨d,hd,k,rfl,hk⟩:=q66 (ds:=[.int 5,.int 5,.int (c/4%6),.int (c/4%3)]) (i:=c%4) (λd=>∃k:Nat,d=D.int (k:Int)/\k<=5) ∅ (show c%4<4 by omega) (by
  intro d hd;simp only[zF,zh,or_false]at hd;rcases hd with rfl|rfl|rfl|rfl
  ·exact⟨5,rfl,by decide⟩
  ·exact⟨5,rfl,by decide⟩
  ·exact⟨(c/4%6).toNat,by rw[ZD ∅],∅⟩
  ·exact⟨(c/4%3).toNat,by rw[ZD ∅],∅⟩)
 simp_arith[hc,hd,qib];have hcl:(cutD ns (some 9) (some (9+(k:Int)))).length<=5:=by
  have e1:HT.sIx ns.length 0 (some 9)=min 9 ns.length:=HT.q4E ns.length 0 9;have e2:HT.sIx ns.length ns.length (some (9+(k:Int)))=min (9+k) ns.length:=by
   have:=HT.q4E ns.length ns.length (9+k);rw[show ((9+k:Nat):Int)=9+(k:Int) by omega]at this;exact this
  unfold cutD;rw[e1,e2,zY];omega
 generalize cutD ns (some 9) (some (9+(k:Int)))=cells at hcl;obtain⟨ω',e,bs,x5,rfl,i1,i2⟩:=qv (g:=gN 5) (b:=q22) D.int cells
  (λpre ω=>∃(bs:List (Int×Int×Int)) (x5:Option W),ω=[↥(.scr ns),↥(.lst (ps.map D.int)),↥(.int c),↥(.int (k:Int)),some (.ow (bs.map tri)),x5]/\(∀b∈bs,b.1∈ps/\b.2.1∈ps/\(b.2.2=1\/b.2.2=-1))/\bs.length=pre.length)
  (λpre x post ω hd' ⟨bs,x5,hω,i1,i2⟩=>by
   subst hω;refine⟨_,rfl,?_⟩;have hp:pre.length<cells.length:=by rw[hd',zE,zG];omega
   obtain⟨y1,m1,a1⟩:=pick7 h7 (x/2);obtain⟨y2,m2,a2⟩:=pick7 h7 (x/14);obtain⟨d,hd,q,rfl,hq⟩:=q66 (ds:=[.int 1,.int (-1)]) (i:=x%2) (λd=>∃q:Int,d=D.int q/\(q=1\/q=-1)) ∅ (show x%2<2 by omega) (by
    intro d hd;simp only[zF,zh,or_false]at hd;rcases hd with rfl|rfl
    ·exact⟨_,rfl,.inl rfl⟩
    ·exact⟨_,rfl,.inr rfl⟩)
   have hll:(bs.map tri).length<1000000:=by rw[zA];omega
   unfold q22;simp_arith[a1,a2,hd,zAI hll];refine⟨bs++[(y1,y2,q)],_,by rw[zc];rfl,λb hb=>?_,by rw[zE,zE,i2];rfl⟩;rcases zb.mp hb with y|y
   ·exact i1 b y
   ·cases zT.mp y;exact⟨m1,m2,hq⟩)
  (ω:=[↥(.scr ns),↥(.lst (ps.map D.int)),↥(.int c),↥(.int (k:Int)),some (.ow []),none]) ⟨[],none,rfl,by simp,rfl⟩
 simp_arith[e];exact⟨bs,rfl,i1,∅⟩
noncomputable def wD:D->Bool
 | .int _=>true
 | _=>false
noncomputable def plD:D->Bool
 | .scr _=>false
 | .exc _=>false
 | .dic _ _=>false
 | _=>true
noncomputable def smD:D->Bool
 | .int w=>decide (w.natAbs<2^200)
 | d=>plD d
noncomputable def plB:D->Bool
 | .tup ds=>ds.all smD
 | d=>plD d
noncomputable def plL:D->Bool
 | .lst ds=>ds.all plB&&decide (ds.length<=20)
 | d=>plD d
noncomputable def inD(n:Int):D->Bool
 | .int x=>decide (0<=x)&&decide (x<n)
 | _=>false
noncomputable def zBL:D->Bool
 | .int w=>w==1 || w == -1
 | _=>false
noncomputable def zA0(n:Int):D->Bool
 | .tup [x,y,w]=>inD n x&&(inD n y&&zBL w)
 | _=>false
noncomputable def isRd:D->D->D->D->Bool
 | .int n,h,l,.lst ds=>inD n h&&(inD n l&&ds.all (zA0 n))
 | _,_,_,_=>false
theorem qbl{d:D}(h:smD d=true):plD d=true:=by cases d <;> first|rfl|cases h
theorem q44{d:D}(h:plD d=true):qw [d]=↥(.bl (wD d)):=by
 cases d <;> first|rfl|cases h
theorem qgI(w:Int):oIn false (.int w) (.tup [.int 1,.int (-1)])=↥(.bl (w==1 || w == -1)):=by
 have e:=q58 w [1,-1];have h:(Y0 (.int w)&&([1,-1].map D.int).all Y0)=true:=rfl;show (if (Y0 (.int w)&&([1,-1].map D.int).all Y0)=true then some (R.sh (D.bl (Hk.inD (.int w) ([1,-1].map D.int))))else none)=_;rw[vG h,e]
 congr 3
 by_cases a:w=1 <;> by_cases b:w=-1 <;> simp[a,b]
theorem qgS{d:D}(h:plD d=true):q2n [d]=↥(.bl (zBL d)):=by
 unfold q2n q5m;have e:=q44 h;cases d with
 | int w=>simp_arith[e,wD,qgI,zBL]
 | _=>first|(simp_arith[e,wD,zBL];done)|cases h
theorem q32{n:Int}{d:D}(h:plD d=true):qN [.int n,d]=↥(.bl (inD n d)):=by
 unfold qN q3f;have e:=q44 h;cases d with
 | int x=>
  simp_arith[e,wD,inD,ge_iff_le]
 | _=>first|(simp_arith[e,wD,inD];done)|cases h
theorem qhe{n:Int}{d:D}(h:plB d=true):q0o [.int n,d]=↥(.bl (zA0 n d)):=by
 unfold q0o q2d
 match d,h with
 | .non,_=>rfl
 | .bl _,_=>rfl
 | .int _,_=>rfl
 | .str _,_=>rfl
 | .lst _,_=>rfl
 | .tup [],_=>rfl
 | .tup [_],_=>rfl
 | .tup [_,_],_=>rfl
 | .tup (a::b::c::e::r),_=>
  have hn:(((a::b::c::e::r).length:Int)==3)=false:=by
   simp only[zG,beq_eq_false_iff_ne,ne_eq];omega
  simp only[zG]at hn;simp_arith[hn];rfl
 | .tup [a,b,c],h=>
  have h':smD a=true/\smD b=true/\smD c=true:=by simpa [plB]using h
  have e1:=q32 (n:=n) (qbl h'.1);have e2:=q32 (n:=n) (qbl h'.2.1);have e3:=qgS (qbl h'.2.2);have e4:(((0+1+1+1:Nat):Int)==3)=true:=rfl;simp_arith[e1,e2,e3];simp_arith[e4,e1,e2,e3];show _=some (O.sh (D.bl (inD n a&&(inD n b&&zBL c))));cases inD n a <;> cases inD n b <;> simp_arith[q0M]
theorem qdU(n h l b:D)(hn:plD n=true)(hh:plD h=true)(hl:plD l=true)(hb:plL b=true):q1W [n,h,l,b]=↥(.bl (isRd n h l b)):=by
 unfold q1W q47;have e1:=q44 hn;cases n with
 | int n=>
  have e2:=q32 (n:=n) hh;have e3:=q32 (n:=n) hl;have no:∀{b:D},(inD n h=false\/inD n l=false)->isRd (.int n) h l b=false:=by
   intro b z;cases b with
   | lst ds=>
    show (inD n h&&(inD n l&&ds.all (zA0 n)))=false;rcases z with z|z <;> rw[z]
    ·rfl
    ·cases inD n h <;> rfl
   | _=>rfl
  cases z1:inD n h with
  | false=>simp_arith[e1,wD,e2,z1,no (.inl z1)]
  | true=>
   cases z2:inD n l with
   | false=>simp_arith[e1,wD,e2,e3,z1,z2,no (.inr z2)]
   | true=>
    cases b with
    | lst ds=>
     have hb':ds.all plB=true/\ds.length<=20:=by simpa [plL]using hb
     have hll:ds.length<=1000000:=∅
     have cm:Y6 (gN 0) Yn q3I ds [none,↥(.int n)]=some (ds.map λd=>D.bl (zA0 n d)):=by
      refine q7L (λd=>D.bl (zA0 n d)) ds λd hd=>?_;have:=qhe (n:=n) (yq.mp hb'.1 d hd);unfold q3I;simp_arith[this]
     simp_arith[e1,wD,e2,e3,z1,z2,Xq hll,inW,WB,cm,bAll,q5a];show _=some (O.sh (D.bl (inD n h&&(inD n l&&ds.all (zA0 n)))));rw[z1,z2];rfl
    | _=>first|(simp_arith[e1,wD,e2,e3,z1,z2,isRd];done)|cases hb
 | _=>first|(simp_arith[e1,wD,isRd];done)|cases hn
theorem qd6{n h l:Int}{bs:List (Int×Int×Int)}(hn:n<=10^39)(hh:0<=h/\h<n)(hl:0<=l/\l<n)(hb:bs.length<=20)(hbs:∀b∈bs,(0<=b.1/\b.1<n)/\(0<=b.2.1/\b.2.1<n)/\(b.2.2=1\/b.2.2=-1)):
  q0v [.int n,.int h,.int l,.lst (bs.map tri)]=some (.sh .non):=by
 have smD':∀{x:Int},x.natAbs<=10^39->smD (.int x)=true:=λ{x} hx=>by
  show decide (x.natAbs<2^200)=true;exact vW (wJ hx (by decide))
 have pb:(bs.map tri).all plB=true:=by
  rw[wF];refine yq.mpr λb hb=>?_;obtain⟨a1,a2,a3⟩:=hbs b hb;show (smD (.int b.1)&&(smD (.int b.2.1)&&(smD (.int b.2.2)&&true)))=true;rw[smD' ∅,smD' ∅,smD' ∅];rfl
 have pL:plL (.lst (bs.map tri))=true:=by
  show ((bs.map tri).all plB&&decide ((bs.map tri).length<=20))=true;rw[pb,zA];simp;omega
 have e:=qdU (.int n) (.int h) (.int l) (.lst (bs.map tri)) rfl rfl rfl pL;have ok:isRd (.int n) (.int h) (.int l) (.lst (bs.map tri))=true:=by
  show (inD n (.int h)&&(inD n (.int l)&&(bs.map tri).all (zA0 n)))=true;have i1:∀{x:Int},0<=x/\x<n->inD n (.int x)=true:=λ{x} hx=>by
   show (decide (0<=x)&&decide (x<n))=true;simp;exact hx
  rw[i1 hh,i1 hl,wF];show bs.all _=true;refine yq.mpr λb hb=>?_;obtain⟨a1,a2,a3⟩:=hbs b hb;show (inD n (.int b.1)&&(inD n (.int b.2.1)&&zBL (.int b.2.2)))=true;rw[i1 a1,i1 a2];show (b.2.2==1 || b.2.2 == -1)=true;rcases a3 with z|z <;> rw[z] <;> rfl
 rw[ok]at e;unfold q0v q2O;simp_arith[e]
noncomputable def two(b:Int×Int×Int):Int×Int:=(b.1,b.2.1)
theorem q8w{bs:List (Int×Int×Int)}(hb:bs.length<=20):qL [.lst (bs.map tri)]=some (.fr ((bs.map two).map Y1)):=by
 unfold qL q1C;have hl:(bs.map tri).length<=1000000:=by rw[zA];omega
 have cm:=qM (i:=0) (f:=q30) tri (λb=>Y1 (two b)) bs (ω:=[none]) (λb _=>rfl);simp_arith[Xq hl,inW,WB,cm];rw[zt];rfl
noncomputable def rnd(P:List Int):List (Int×Int):=P.zip (P.drop 1++P.take 1)
theorem qg2(ds:List D):cutD ds none (some 1)=ds.take 1:=by
 unfold cutD;have e:HT.sIx ds.length ds.length (some 1)=min 1 ds.length:=HT.q4E ds.length ds.length 1;rw[e,HT.q9r,Nat.sub_zero,wy,List.take_eq_take_iff];omega
theorem q9C{n h l:Int}{bs:List (Int×Int×Int)}(hn:n<=10^39)(hh:0<=h/\h<n)(hl:0<=l/\l<n)(hb:bs.length<=20)(hbs:∀b∈bs,(0<=b.1/\b.1<n)/\(0<=b.2.1/\b.2.1<n)/\(b.2.2=1\/b.2.2=-1)):
  q08 [.int n,.int h,.int l,.lst (bs.map tri)]=some (.fr ((rnd (Ya (plc h l (bs.map two)))).map Y1)):=by
 unfold q08 q3q;have c:=qd6 hn hh hl hb hbs;have w:=q8w hb;have s:=qfr (h:=h) (l:=l) (bs:=bs.map two) (by rw[zA];omega);have sl:(Ya (plc h l (bs.map two))).length<=1000:=(stp h l (bs:=bs.map two) (by rw[zA];omega)).len;generalize Ya (plc h l (bs.map two))=P at s sl;have ad:Yw (.lst (cutD (P.map D.int) (some 1) none)) (.lst (cutD (P.map D.int) none (some 1)))=some (.fr ((P.drop 1++P.take 1).map D.int)):=by
  rw[qf8,qg2,<- YA,<- Z9,zc];exact vG (by rw[zA,zA,yG,zY];omega)
 have hz:Xf [.lst (P.map D.int),.lst ((P.drop 1++P.take 1).map D.int)]=some (.fr ((rnd P).map Y1)):=by
  show some (R.fr (wf pairD _ _))=_;rw[q7J];rfl
 simp_arith[c,w,s,qhV,ad,hz]
inductive Rch (es:List (Int×Int)) (a:Int):Int->Prop where
 | refl:Rch es a a
 | step {b c:Int}:Rch es a b->((b,c)∈es\/(c,b)∈es)->Rch es a c
theorem Rch.trans{es:List (Int×Int)}{a b c:Int}(h:Rch es a b)(h':Rch es b c):Rch es a c:=by
 induction h' with
 | refl=>exact h
 | step _ e ih=>exact ih.step e
theorem Rch.symm{es:List (Int×Int)}{a b:Int}(h:Rch es a b):Rch es b a:=by
 induction h with
 | refl=>exact .refl
 | step _ e ih=>exact(Rch.refl.step e.symm).trans ih
theorem Rch.inv{es:List (Int×Int)}{a:Int}(P:Int->Prop)(h0:P a)(hs:∀b c,P b->((b,c)∈es\/(c,b)∈es)->P c){c:Int}(h:Rch es a c):P c:=by
 induction h with
 | refl=>exact h0
 | step _ e ih=>exact hs _ _ ih e
theorem q2t{α β:Type}(f:α->β):∀(ks:List Int)(xs:List α)(k:Int),Yh ks (xs.map f) k=(Yh ks xs k).map f
 | [],_,_=>rfl
 | _::_,[],_=>rfl
 | k'::ks,x::xs,k=>by
  show (if k'=k then some (f x)else Yh ks (xs.map f) k)=(if k'=k then some x else Yh ks xs k).map f
  by_cases z:k'=k
  ·rw[vG z,vG z];rfl
  ·rw[vJ z,vJ z,q2t f ks xs k]
theorem q2X{α:Type}:∀{ks:List Int}{xs:List α}{k:Int},ks.length=xs.length->(Yh ks xs k).isSome=decide (k∈ks)
 | [],[],_,_=>rfl
 | [],_::_,_,h=>by simp at h
 | _::_,[],_,h=>by simp at h
 | k'::ks,x::xs,k,h=>by
  show (if k'=k then some x else Yh ks xs k).isSome=_
  by_cases z:k'=k
  ·rw[vG z];simp[z]
  ·have z':¬k=k':=λy=>z y.symm
   rw[vJ z,q2X ⇑h];simp[z']
theorem q5r:∀(ks:List Int)(xss:List (List Int))(a' b a:Int),Yh ks (Wv ks xss a' b) a=(Yh ks xss a).map λxs=>if a=a' then xs++[b]else xs
 | [],_,_,_,_=>rfl
 | _::_,[],_,_,_=>rfl
 | k::ks,x::xss,a',b,a=>by
  unfold Wv
  by_cases z:k=a'
  ·rw[vG z]
   show (if k=a then some (x++[b])else Yh ks xss a)=(if k=a then some x else Yh ks xss a).map _
   by_cases y:k=a
   ·rw[vG y,vG y,yj,vG (y▸z)]
   ·rw[vJ y,vJ y]
    have:¬a=a':=λe=>y (z.trans e.symm);cases Yh ks xss a with
    | none=>rfl
    | some v=>rw[yj,vJ this]
  ·rw[vJ z]
   show (if k=a then some x else Yh ks (Wv ks xss a' b) a)=(if k=a then some x else Yh ks xss a).map _
   by_cases y:k=a
   ·have:¬a=a':=λe=>z (y.trans e)
    rw[vG y,vG y,yj,vJ this]
   ·rw[vJ y,vJ y];exact q5r ks xss a' b a
theorem qgR(ts:List Int)(a:Int)(ha:a∈ts):∀(es:List (Int×Int)),∃xs,Yh ts (nbT ts es) a=some xs/\∀c,c∈xs↔((a,c)∈es\/(c,a)∈es):=by
 intro es;have key:∀(post pre:List (Int×Int))(T:List (List Int))(xs:List Int),Yh ts T a=some xs->(∀c,c∈xs↔((a,c)∈pre\/(c,a)∈pre))->∃xs',Yh ts (post.foldl (XF ts) T) a=some xs'/\∀c,c∈xs'↔((a,c)∈pre++post\/(c,a)∈pre++post):=by
  intro post
  induction post with
  | nil=>intro pre T xs h1 h2;exact⟨xs,h1,by rw[za];exact h2⟩
  | cons e post ih=>
   intro pre T xs h1 h2;have h3:Yh ts (XF ts T e) a=some (let ys:=if a=e.1 then xs++[e.2]else xs;if a=e.2 then ys++[e.1]else ys):=by
    unfold XF;rw[q5r,q5r,h1];rfl
   obtain⟨xs',g1,g2⟩:=ih (pre++[e]) (XF ts T e) _ h3 (λc=>by
    obtain⟨e1,e2⟩:=e;have m:∀x y:Int,(x,y)∈pre++[(e1,e2)]↔(x,y)∈pre\/(x=e1/\y=e2):=λx y=>by simp
    rw[m,m]
    by_cases y1:a=e1 <;> by_cases y2:a=e2 <;> simp[y1,y2,h2] <;> (try subst y1) <;> (try subst y2) <;> simp_all <;> grind)
   refine⟨xs',g1,λc=>?_⟩;rw[g2,yB];rfl
 have h0:Yh ts (ts.map λ_=>([]:List Int)) a=some []:=by
  have:(Yh ts (ts.map λ_=>([]:List Int)) a).isSome=true:=by rw[q2X (by rw[zA]),vW ha]
  obtain⟨x,hx⟩:=ya.mp this;rw[q2t]at hx ⊢;obtain⟨y,hy,e⟩:=xn.mp hx;rw[hy];rfl
 obtain⟨xs',g1,g2⟩:=key es [] _ [] h0 (by simp);exact⟨xs',g1,by simpa using g2⟩
structure Ok (ts:List Int) (es:List (Int×Int)):Prop where
 nd:ts.Nodup
 inn:∀e∈es,e.1∈ts/\e.2∈ts
 l1:ts.length<64
 l2:es.length<=1000
noncomputable def nbD(ts:List Int)(es:List (Int×Int)):List D:=(nbT ts es).map λxs=>.lst (xs.map D.int)
theorem q81{ts:List Int}{es:List (Int×Int)}(h:Ok ts es):q1r [.lst (ts.map D.int),.lst (es.map YU)]=↥(.dic ts (nbD ts es)):=by
 have hl:=h.l1;have e:nbM (ts.map D.int) (es.map YU)=some (.dic ts (nbD ts es)):=by
  unfold nbM;rw[qH,q51];exact vG ⟨h.nd,h.inn,∅,h.l2⟩
 show outM ((nbM (ts.map D.int) (es.map YU)).map _)=_;rw[e];rfl
theorem Rch.mem{ts:List Int}{es:List (Int×Int)}(h:Ok ts es){a c:Int}(ha:a∈ts)(r:Rch es a c):c∈ts :=
 r.inv (λx=>x∈ts) ha λb c _ e=>by
  rcases e with e|e
  ·exact(h.inn _ e).2
  ·exact(h.inn _ e).1
noncomputable def XH(F:List Int):List D:=F.map λ_=>.bl true
theorem q7y(F:List Int):F.length=(XH F).length:=by unfold XH;rw[zA]
theorem qaR{F:List Int}{c:Int}(h:c∉F):Xd F c=F++[c]/\putA F (XH F) c (.bl true)=XH (F++[c]):=by
 unfold Xd putA XH;rw[vJ h,vJ h,zc];exact⟨rfl,rfl⟩
theorem q1v:∀{F ts:List Int},F.Nodup->(∀c∈F,c∈ts)->F.length<=ts.length
 | [],_,_,_=>zy _
 | a::r,ts,hn,hs=>by
  obtain⟨h1,h2⟩:=yb.mp hn;have ha:=hs a zH;have:=q1v (F:=r) (ts:=ts.erase a) h2 λc hc=>(List.mem_erase_of_ne (show c≠a from λz=>h1 (by rw[<- z];exact hc))).mpr (hs c (zJ _ hc));rw[List.length_erase_of_mem ha]at this;have hp:0<ts.length:=List.length_pos_of_mem ha;rw[zG];omega
structure GI (ts:List Int) (es:List (Int×Int)) (a:Int) (F Wt:List Int):Prop where
 nd:F.Nodup
 st:a∈F
 wl:Wt.length<=F.length
 w:∀c∈Wt,c∈F
 r:∀c∈F,Rch es a c
 cl:∀b∈F,b∉Wt->∀c,((b,c)∈es\/(c,b)∈es)->c∈F
theorem q9P{ts:List Int}{es:List (Int×Int)}(h:Ok ts es){a:Int}(ha:a∈ts):
  ∃F:List Int,q1l [.int a,.dic ts (nbD ts es)]=some (.fr ((Yd F).map D.int))/\F.Nodup/\∀c,c∈F↔Rch es a c:=by
 unfold q1l q3T;simp_arith[q0M];have hl1:=h.l1;obtain⟨ω',e,F,x4,x5,rfl,gi⟩:=qd5 (fc:=q1R) (fb:=q3t) (n:=1000000)
  (λω=>∃(F Wt:List Int) (x4 x5:Option W),ω=[↥(.int a),↥(.dic ts (nbD ts es)),some (.od F (XH F)),some (.ow (Wt.map D.int)),x4,x5]/\GI ts es a F Wt)
  (λω=>match ω with
   | [_,_,some (.od F _),some (.ow w),_,_]=>(ts.length-F.length)+w.length
   | _=>0)
  (λω=>∃(F:List Int) (x4 x5:Option W),ω=[↥(.int a),↥(.dic ts (nbD ts es)),some (.od F (XH F)),some (.ow []),x4,x5]/\GI ts es a F [])
  (λω ⟨F,Wt,x4,x5,hω,gi⟩ hf=>by
   subst hω;unfold q1R at hf;simp -implicitDefEqProofs only[q4L,q1y,q9l,qcx,qcg,qcA,q6h,e_cw,qbE,qbS,q63,e_dp,qbz,qbQ,qbI,qbU,qbf,qcy,qbh,qbs,qcp,qcn,Y2,eq_self,wZ,wA,wB,reduceCtorEq,q6i,q9i,q8K,q6A,e_wd,q9b,e_wz,q6T,q8j,q7a,qbL,q9f,q8N,qck,qbd,qc1,q91,qbW,q7d,q73,qbn,q9s,qbq,qbr,qbg,q6x,q7h,q0M,q6y,q7b,qc6,qcw,q6E,q6k,e_if,q93,q8Z,qcj,q6n,q6U,q9z,q7e,qbG,zAI,qbj,q6f,q75,q77,qcB,e_fs,qcv,q6Y,q6v,e_c,e_e,e_ed,e_d,q6z,q6H,e_v,q6S,q6W,q6L,e_op,e_o2,q8Q,e_cl,q79,q6r,e_ac,e_ca,e_an,qbi,qcb,qcu,e_bl,qbH,e_sl,e_po,e_pa,e_ap,qc0,q8Y,q8X,qbc,q4y,q5j,q4x,q43,q42,q4w,e_t,e_tr,q92,e_ta,qce,qc5,e_to,qbC,q9L,e_tn,q9e,q74,q54,q8z,e_va,qbA,q8T,q90,qc3,qcc,q8R,Xq,qbV,e_ng,q6O,q6w,q71,q4Q,q5U,q94,q6g,q9a,q9J,q6o,qbm,qcq,qbO,at0,at1,at2,q0s,q6V,WU,entry,yD,yj,zG,xJ,zA,zi,yh,wb,yQ,wC,wE,wN,wO,yf,ye,ZG,ZH,Zg,Zh,Zi,ZI,ZJ,ZK,ZL,ZM,ZN,wU,ZO,wq,↓reduceIte,wT,ZP,wH,ZQ,xm,wg,wS,Zj,xZ,w8,xV,beq_self_eq_true,yC]at hf;cases Wt with
   | nil=>exact⟨F,x4,x5,rfl,gi⟩
   | cons w r=>cases hf)
  (λω ⟨F,Wt,x4,x5,hω,gi⟩=>by
   subst hω;refine⟨!Wt.isEmpty,?_,λhk=>?_⟩
   ·unfold q1R
    simp_arith[q0M];cases Wt <;> rfl
   ·obtain⟨Wr,here,rfl⟩:∃Wr here,Wt=Wr++[here]:=by
     cases Wt with
     | nil=>cases hk
     | cons w r=>exact⟨(w::r).dropLast,(w::r).getLast (by simp),(List.dropLast_concat_getLast _).symm⟩
    have hF:here∈F:=gi.w here (by simp);have hts:here∈ts:=(gi.r here hF).mem h ha;obtain⟨xs,v1,v2⟩:=qgR ts here hts es;have vd:Yh ts (nbD ts es) here=some (.lst (xs.map D.int)):=by unfold nbD;rw[q2t,v1];rfl
    have ew:(Wr++[here]).map D.int=Wr.map D.int++[D.int here]:=by rw[zc];rfl
    have ffl:=q1v gi.nd λc hc=>(gi.r c hc).mem h ha;unfold q3t;rw[ew];simp_arith[qgl,vd];obtain⟨ω',e,F',W',x5',rfl,i1,i2,i3,i4,i5,i6,i7,i8⟩:=qv (g:=gN 5) (b:=q3b) D.int xs
     (λpre ω=>∃(F' W':List Int) (x5:Option W),ω=[↥(.int a),↥(.dic ts (nbD ts es)),some (.od F' (XH F')),some (.ow (W'.map D.int)),↥(.int here),x5]/\F'.Nodup/\(∀c∈F,c∈F')/\(∀c∈Wr,c∈W')/\(∀c∈W',c∈F')/\(∀c∈F',Rch es a c)/\(∀c∈F',c∈F\/c∈W')/\(∀c∈pre,c∈F')/\F'.length+Wr.length=F.length+W'.length)
     (λpre c post ω hd ⟨F',W',x5,hω,i1,i2,i3,i4,i5,i6,i7,i8⟩=>by
      subst hω;refine⟨_,rfl,?_⟩;have hcx:c∈xs:=by rw[hd];simp
      have hcr:Rch es a c:=(gi.r here hF).step ((v2 c).mp hcx);have fl:=q1v i1 λc hc=>(i5 c hc).mem h ha;have hs:(Yh F' (XH F') c).isSome=decide (c∈F'):=q2X (q7y F');unfold q3b
      by_cases hc:c∈F'
      ·simp_arith[hs,hc,decide_true]
       exact⟨F',W',_,rfl,i1,i2,i3,i4,i5,i6,λx hx=>(by rcases zb.mp hx with y|y;exact i7 x y;cases zT.mp y;exact hc),i8⟩
      ·obtain⟨p1,p2⟩:=qaR hc
       have hwl:(W'.map D.int).length<1000000:=by
        rw[zA];have:=gi.wl;rw[zE,z9]at this;omega
       simp_arith[hs,hc,decide_false,q3C (show F'.length<1000000 by omega),p1,p2,zAI hwl];refine⟨F'++[c],W'++[c],_,by rw[zc];rfl,?_,λx hx=>zu _ (i2 x hx),λx hx=>zu _ (i3 x hx),λx hx=>?_,λx hx=>?_,λx hx=>?_,λx hx=>?_,by rw[zE,zE,z9];omega⟩
       ·rw[yO]
        exact⟨i1,by simp,λx hx y hy z=>by cases zT.mp hy;exact hc (z▸hx)⟩
       ·rcases zb.mp hx with y|y
        ·exact zu _ (i4 x y)
        ·exact zd _ y
       ·rcases zb.mp hx with y|y
        ·exact i5 x y
        ·cases zT.mp y;exact hcr
       ·rcases zb.mp hx with y|y
        ·exact(i6 x y).elim .inl λz=>.inr (zu _ z)
        ·exact .inr (zd _ y)
       ·rcases zb.mp hx with y|y
        ·exact zu _ (i7 x y)
        ·exact zd _ y)
     (ω:=[↥(.int a),↥(.dic ts (nbD ts es)),some (.od F (XH F)),some (.ow (Wr.map D.int)),↥(.int here),x5])
     ⟨F,Wr,x5,rfl,gi.nd,λc hc=>hc,λc hc=>hc,λc hc=>gi.w c (zu _ hc),gi.r,λc hc=>.inl hc,λc hc=>(by cases hc),rfl⟩
    have fl':=q1v i1 λc hc=>(i5 c hc).mem h ha;simp_arith[e];have wl0:=gi.wl;rw[zE,z9]at wl0;refine⟨⟨F',W',_,_,rfl,i1,i2 a gi.st,∅,i4,i5,λb hb hw c hc=>?_⟩,?_⟩
    ·rcases i6 b hb with y|y
     ·by_cases z:b=here
      ·subst z
       exact i7 c ((v2 c).mpr hc)
      ·exact i2 c (gi.cl b y (λm=>by rcases zb.mp m with m|m;exact hw (i3 b m);exact z (zT.mp m)) c hc)
     ·exact vN y hw
    ·show (ts.length-F'.length)+(W'.map D.int).length<(ts.length-F.length)+(Wr.map D.int++[D.int here]).length
     rw[zA,zE,zA,z9];omega)
  (ω:=[↥(.int a),↥(.dic ts (nbD ts es)),some (.od [a] [.bl true]),some (.ow [.int a]),none,none])
  ⟨[a],[a],none,none,rfl,by simp,by simp,zI _,λc hc=>hc,λc hc=>by cases zT.mp hc;exact .refl,λb hb hw=>vN hb hw⟩
  (by show (ts.length-1)+1<1000000;omega)
 have fl:=q1v gi.nd λc hc=>(gi.r c hc).mem h ha;simp_arith[e,qf5 (show F.length<64 by omega)];exact⟨F,rfl,gi.nd,λc=>⟨gi.r c,λr=>r.inv (λx=>x∈F) gi.st λb c hb hc=>gi.cl b hb (by simp) c hc⟩⟩
noncomputable def gD(g:List Int):D:=.lst (g.map D.int)
structure Cls (ts:List Int) (es:List (Int×Int)) (g:List Int) (a:Int):Prop where
 inn:a∈ts
 up:g.Pairwise (· < ·)
 mem:∀c,c∈g↔Rch es a c
 hd:g.head?=some a
theorem qgO{F:List Int}(h:F.Nodup):(Yd F).Pairwise (· < ·):=by
 have h1:(Yd F).Nodup:=(qP (l:=F)).nodup_iff.mpr h;have h2:=q2J (l:=F);have:=List.Pairwise.and h2 h1;exact this.imp λ{a b} h=>(by have h1:=h.1;have h2:=h.2;omega)
theorem qh8{ts:List Int}{es:List (Int×Int)}{F:List Int}{a:Int}(ha:a∈ts)(hn:F.Nodup)(hm:∀c,c∈F↔Rch es a c)(least:∀c∈F,a<=c):Cls ts es (Yd F) a:=by
 have pm:=qP (l:=F);have up:=qgO hn;refine⟨ha,up,λc=>by rw[pm.mem_iff,hm],?_⟩;have haF:a∈Yd F:=pm.mem_iff.mpr ((hm a).mpr .refl);cases q:Yd F with
 | nil=>rw[q]at haF;cases haF
 | cons b r=>
  rw[q]at haF up;have hb:a<=b:=least b (pm.mem_iff.mp (by rw[q];exact zH));rcases zF.mp haF with rfl|hr
  ·rfl
  ·have:=(zW.mp up).1 a hr
   omega
structure GS (ts:List Int) (es:List (Int×Int)) (gs:List (List Int)) (hs:List Int):Prop where
 len:gs.length=hs.length
 cls:∀(j:Nat)g a,gs[j]?=some g->hs[j]?=some a->Cls ts es g a
 up:hs.Pairwise (· < ·)
theorem GS.snoc{ts:List Int}{es:List (Int×Int)}{gs:List (List Int)}{hs:List Int}(h:GS ts es gs hs){g:List Int}{a:Int}(c:Cls ts es g a)(hu:∀b∈hs,b<a):GS ts es (gs++[g]) (hs++[a]):=by
 refine⟨by rw[zE,zE,h.len];rfl,λj g' a' e1 e2=>?_,?_⟩
 ·rcases zo j gs.length with z|z
  ·rw[zV z]at e1
   rw[zV (by rw[<- h.len];exact z)]at e2;exact h.cls j g' a' e1 e2
  ·rw[zP z]at e1
   rw[zP (by rw[<- h.len];exact z),<- h.len]at e2;cases hj:j-gs.length with
   | zero=>rw[hj]at e1 e2;cases e1;cases e2;exact c
   | succ n=>rw[hj]at e1;cases e1
 ·rw[xO]
  exact⟨h.up,by simp,λb hb c hc=>by cases zT.mp hc;exact hu b hb⟩
theorem GS.one{ts:List Int}{es:List (Int×Int)}{gs:List (List Int)}{hs:List Int}(h:GS ts es gs hs){g:List Int}(hg:g∈gs):∃a∈hs,Cls ts es g a:=by
 obtain⟨j,hj,rfl⟩:=zv.mp hg;have hj2:j<hs.length:=by rw[<- h.len];exact hj
 exact⟨hs[j],zk _,h.cls j _ _ (zB hj) (zB hj2)⟩
theorem qcH{ts:List Int}{es:List (Int×Int)}(h:Ok ts es):∃gs hs,q1Q [.lst (ts.map D.int),.lst (es.map YU)]=some (.fr (gs.map gD))/\GS ts es gs hs/\(∀t∈ts,∃g∈gs,t∈g)/\gs.length<=ts.length:=by
 unfold q1Q q5q;have hl1:=h.l1;have sp:=qP (l:=ts);have sl:=q2J (l:=ts);simp_arith[q81 h,qgu hl1];obtain⟨ω',e,gs,hs,Gd,x5,x6,x7,rfl,i1,i2,i3,i4,i5,i6⟩:=qv (g:=gN 5) (b:=q41) D.int (Yd ts)
  (λpre ω=>∃(gs:List (List Int)) (hs Gd:List Int) (x5 x6 x7:Option W),ω=[↥(.lst (ts.map D.int)),↥(.lst (es.map YU)),↥(.dic ts (nbD ts es)),some (.od Gd (XH Gd)),some (.ow (gs.map gD)),x5,x6,x7]/\GS ts es gs hs/\Gd.Nodup/\(∀c,c∈Gd↔∃g∈gs,c∈g)/\(∀t∈pre,t∈Gd)/\(∀a∈hs,a∈pre)/\gs.length<=pre.length)
  (λpre t post ω hd ⟨gs,hs,Gd,x5,x6,x7,hω,i1,i2,i3,i4,i5,i6⟩=>by
   subst hω;refine⟨_,rfl,?_⟩;have ht:t∈ts:=sp.mem_iff.mp (by rw[hd];simp);have hs1:(Yh Gd (XH Gd) t).isSome=decide (t∈Gd):=q2X (q7y Gd);have gts:∀c∈Gd,c∈ts:=λc hc=>by
    obtain⟨g,hg,hcg⟩:=(i3 c).mp hc;obtain⟨a,_,cl⟩:=i1.one hg;exact((cl.mem c).mp hcg).mem h cl.inn
   have plen:pre.length<=ts.length:=by rw[<- sp.length_eq,hd,zE];omega
   unfold q41
   by_cases hc:t∈Gd
   ·simp_arith[hs1,hc,decide_true]
    exact⟨gs,hs,Gd,_,_,_,rfl,i1,i2,i3,λx hx=>(by rcases zb.mp hx with y|y;exact i4 x y;cases zT.mp y;exact hc),λa ha=>zu _ (i5 a ha),by rw[zE];omega⟩
   ·obtain⟨F,f1,f2,f3⟩:=q9P h ht
    have least:∀c∈F,t<=c:=λc hcF=>by
     rcases Int.lt_or_le c t with z|z
     ·exfalso
      have rc:=(f3 c).mp hcF;have hcs:c∈Yd ts:=sp.mem_iff.mpr (rc.mem h ht);rw[hd]at hcs sl;have hcp:c∈pre:=by
       rcases zb.mp hcs with y|y
       ·exact y
       ·rcases zF.mp y with rfl|y
        ·omega
        ·have:=(zW.mp (xO.mp sl).2.1).1 c y
         omega
      obtain⟨g,hg,hcg⟩:=(i3 c).mp (i4 c hcp);obtain⟨a,_,cl⟩:=i1.one hg;exact hc ((i3 t).mpr ⟨g,hg,(cl.mem t).mpr (((cl.mem c).mp hcg).trans rc.symm)⟩)
     ·exact z
    have cl:=qh8 ht f2 f3 least;have dis:∀c∈Yd F,c∉Gd:=λc hcg hcG=>by
     obtain⟨g,hg,hcg'⟩:=(i3 c).mp hcG;obtain⟨a,_,cl'⟩:=i1.one hg;exact hc ((i3 t).mpr ⟨g,hg,(cl'.mem t).mpr (((cl'.mem c).mp hcg').trans ((cl.mem c).mp hcg).symm)⟩)
    have hgl:(gs.map gD).length<1000000:=by rw[zA];omega
    simp_arith[hs1,hc,decide_false,f1,zAI hgl];obtain⟨ω',e,x7',rfl⟩:=qv (g:=gN 7) (b:=q4c) D.int (Yd F)
     (λpre' ω=>∃(x7:Option W),ω=[↥(.lst (ts.map D.int)),↥(.lst (es.map YU)),↥(.dic ts (nbD ts es)),some (.od (Gd++pre') (XH (Gd++pre'))),some (.ow (gs.map gD++[.lst ((Yd F).map D.int)])),↥(.int t),↥(.lst ((Yd F).map D.int)),x7])
     (λpre' c post' ω hd' ⟨x7,hω⟩=>by
      subst hω;refine⟨_,rfl,?_⟩;have ndF:(Yd F).Nodup:=(qP (l:=F)).nodup_iff.mpr f2;have hnew:c∉Gd++pre':=λm=>by
       rcases zb.mp m with y|y
       ·exact dis c (by rw[hd'];simp) y
       ·rw[hd',yO]at ndF
        exact ndF.2.2 c y c zH rfl
      obtain⟨p1,p2⟩:=qaR hnew;have hlen:(Gd++pre').length<1000000:=by
       have z1:=q1v i2 gts;have z2:pre'.length<=ts.length:=by
        have a1:(Yd F).length<=ts.length:=by
         rw[(qP (l:=F)).length_eq];exact q1v f2 λc hc=>((f3 c).mp hc).mem h ht
        rw[hd',zE]at a1;omega
       rw[zE];omega
      unfold q4c;simp_arith[q3C hlen,p1,p2,yB];exact⟨_,rfl⟩)
     (ω:=[↥(.lst (ts.map D.int)),↥(.lst (es.map YU)),↥(.dic ts (nbD ts es)),some (.od Gd (XH Gd)),some (.ow (gs.map gD++[.lst ((Yd F).map D.int)])),↥(.int t),↥(.lst ((Yd F).map D.int)),x7]) ⟨x7,by rw[za]⟩
    simp_arith[e];refine⟨gs++[Yd F],hs++[t],Gd++Yd F,_,_,_,by rw[zc];rfl,i1.snoc cl λb hb=>?_,?_,λc=>?_,λx hx=>?_,λa ha=>?_,by rw[zE,zE,z9,z9];omega⟩
    ·have hbp:=i5 b hb
     rw[hd]at sl;have le:b<=t:=(xO.mp sl).2.2 b hbp t zH;have ne:b≠t:=λz=>hc (i4 t (z▸hbp));omega
    ·rw[yO]
     exact⟨i2,(qP (l:=F)).nodup_iff.mpr f2,λx hx y hy z=>dis y hy (z▸hx)⟩
    ·rw[zb,i3]
     constructor
     ·rintro(⟨g,hg,hcg⟩|hcF)
      ·exact⟨g,zu _ hg,hcg⟩
      ·exact⟨_,zd _ (zT.mpr rfl),hcF⟩
     ·rintro⟨g,hg,hcg⟩
      rcases zb.mp hg with y|y
      ·exact .inl ⟨g,y,hcg⟩
      ·cases zT.mp y;exact .inr hcg
    ·rcases zb.mp hx with y|y
     ·exact zu _ (i4 x y)
     ·cases zT.mp y
      exact zd _ ((cl.mem t).mpr .refl)
    ·rcases zb.mp ha with y|y
     ·exact zu _ (i5 a y)
     ·exact zd _ y)
  (ω:=[↥(.lst (ts.map D.int)),↥(.lst (es.map YU)),↥(.dic ts (nbD ts es)),some (.od [] []),some (.ow []),none,none,none])
  ⟨[],[],[],none,none,none,rfl,⟨rfl,λj g a e=>(by simp at e),.nil⟩,xQ,by simp,by simp,by simp,zI _⟩
 simp_arith[e];refine⟨gs,hs,rfl,i1,λt ht=>?_,by rw[<- sp.length_eq];exact i6⟩;exact(i3 t).mp (i4 t (sp.mem_iff.mpr ht))
theorem Rch.mono{es fs:List (Int×Int)}{a c:Int}(h:∀e∈es,e∈fs)(r:Rch es a c):Rch fs a c:=by
 induction r with
 | refl=>exact .refl
 | step _ e ih=>exact ih.step (e.elim (λz=>.inl (h _ z)) λz=>.inr (h _ z))
noncomputable def Yl(f:Int->Int)(a b:Int):Int->Int:=λx=>if f x=b then a else f x
def Tells(ts:List Int)(es:List (Int×Int))(f:Int->Int):Prop:=∀x∈ts,∀y∈ts,f x=f y↔Rch es x y
theorem Tells.skip{ts:List Int}{es:List (Int×Int)}{f:Int->Int}(h:Tells ts es f){p q:Int}(hp:p∈ts)(hq:q∈ts)(e:f p=f q):Tells ts (es++[(p,q)]) f:=by
 intro x hx y hy;rw[h x hx y hy];have pq:=(h p hp q hq).mp e;refine⟨λr=>r.mono λe he=>zu _ he,λr=>?_⟩;refine Rch.inv (λz=>Rch es x z) .refl (λb c hb hbc=>?_) r;have key:∀{u v:Int},(u,v)∈es++[(p,q)]->Rch es u v:=λ{u v} m=>by
  rcases zb.mp m with m|m
  ·exact Rch.refl.step (.inl m)
  ·cases zT.mp m;exact pq
 rcases hbc with m|m
 ·exact hb.trans (key m)
 ·exact hb.trans (key m).symm
theorem Tells.join{ts:List Int}{es:List (Int×Int)}{f:Int->Int}(h:Tells ts es f)(inn:∀e∈es,e.1∈ts/\e.2∈ts){p q:Int}(hp:p∈ts)(hq:q∈ts):Tells ts (es++[(p,q)]) (Yl f (f p) (f q)):=by
 intro x hx y hy;have up:∀{u v:Int},Rch es u v->Rch (es++[(p,q)]) u v:=λr=>r.mono λe he=>zu _ he;have pq:Rch (es++[(p,q)]) p q:=Rch.refl.step (.inl (by simp))
 constructor
 ·intro e
  unfold Yl at e
  by_cases h1:f x=f q
  ·rw[vG h1]at e
   by_cases h2:f y=f q
   ·exact up ((h x hx y hy).mp (by rw[h1,h2]))
   ·rw[vJ h2]at e
    exact((up ((h x hx q hq).mp h1)).trans pq.symm).trans (up ((h p hp y hy).mp e))
  ·rw[vJ h1]at e
   by_cases h2:f y=f q
   ·rw[vG h2]at e
    exact((up ((h x hx p hp).mp e)).trans pq).trans (up ((h q hq y hy).mp h2.symm))
   ·rw[vJ h2]at e
    exact up ((h x hx y hy).mp e)
 ·intro r
  have key:∀{u v:Int},(u,v)∈es++[(p,q)]->u∈ts/\v∈ts/\Yl f (f p) (f q) u=Yl f (f p) (f q) v:=λ{u v} m=>by
   rcases zb.mp m with m|m
   ·obtain⟨a,b⟩:=inn _ m
    have e:=(h u a v b).mpr (Rch.refl.step (.inl m));exact⟨a,b,by unfold Yl;rw[e]⟩
   ·cases zT.mp m
    refine⟨hp,hq,?_⟩;unfold Yl;rw[vG rfl]
    by_cases z:f p=f q
    ·rw[vG z]
    ·rw[vJ z]
  exact(Rch.inv (λz=>z∈ts/\Yl f (f p) (f q) x=Yl f (f p) (f q) z) ⟨hx,rfl⟩ (λb c hb hbc=>by
   rcases hbc with m|m
   ·obtain⟨a1,a2,a3⟩:=key m;exact⟨a2,hb.2.trans a3⟩
   ·obtain⟨a1,a2,a3⟩:=key m;exact⟨a1,hb.2.trans a3.symm⟩) r).2
noncomputable def lst1(f:Int->Int)(ts:List Int)(a:Int):Bool:=ts.all λc=>f c != f a || decide (a<=c)
noncomputable def many(f:Int->Int)(ts:List Int):Nat:=(ts.filter (lst1 f ts)).length
theorem qic{l:List Int}(h:l.Pairwise (· < ·)):l.Nodup:=h.imp λa b=>∅
noncomputable abbrev Eg:=Int×Int×Int
noncomputable def tieE(e:Eg):Int×Int:=(e.1,e.2.1)
noncomputable def Ye(e:Eg):Int:=e.2.2
noncomputable def X3(s:(Int->Int)×List Eg)(e:Eg):(Int->Int)×List Eg:=if s.1 e.1=s.1 e.2.1 then s else (Yl s.1 (s.1 e.1) (s.1 e.2.1),s.2++[e])
noncomputable def XY(f:Int->Int)(es:List Eg):(Int->Int)×List Eg:=es.foldl X3 (f,[])
theorem q7j(f:Int->Int)(es:List Eg)(e:Eg):XY f (es++[e])=X3 (XY f es) e:=by unfold XY;rw[xM];rfl
theorem q7Z{α:Type}{P:List α->Prop}(h0:P [])(hs:∀l a,P l->P (l++[a]))(l:List α):P l:=by
 have:∀l:List α,P l.reverse:=λl=>by
  induction l with
  | nil=>exact h0
  | cons a r ih=>rw[List.reverse_cons];exact hs _ _ ih
 have:=this l.reverse
 rwa [wz]at this
theorem q99(f:Int->Int)(es:List Eg):(XY f es).2.Sublist es:=by
 refine q7Z (P:=λes=>(XY f es).2.Sublist es) (Zk _) (λl e ih=>?_) es;rw[q7j];unfold X3
 split
 ·exact ih.trans (List.sublist_append_left _ _)
 ·exact ih.append (Zk _)
theorem Cls.low{ts:List Int}{es:List (Int×Int)}{g:List Int}{a:Int}(c:Cls ts es g a):∀x∈g,a<=x:=λx hx=>by
 have h:=c.hd;have u:=c.up;cases g with
 | nil=>cases hx
 | cons b r=>
  cases h;rcases zF.mp hx with rfl|hx
  ·exact yk _
  ·exact xp ((zW.mp u).1 x hx)
theorem GS.apart{ts:List Int}{es:List (Int×Int)}{gs:List (List Int)}{hs:List Int}(h:GS ts es gs hs){i j:Nat}{g g':List Int}{c:Int}(e1:gs[i]?=some g)(e2:gs[j]?=some g')(h1:c∈g)(h2:c∈g'):i=j:=by
 have li:=(zS.mp e1).1;have lj:=(zS.mp e2).1;rw[h.len]at li lj;have c1:=h.cls i g _ e1 (zB li);have c2:=h.cls j g' _ e2 (zB lj);have r1:=(c1.mem c).mp h1;have r2:=(c2.mem c).mp h2;have a1:=c1.low _ ((c1.mem _).mpr (r1.trans r2.symm));have a2:=c2.low _ ((c2.mem _).mpr (r2.trans r1.symm));rcases xN i j with z|z|z
 ·have:=zq.mp h.up i j li lj z;omega
 ·exact z
 ·have:=zq.mp h.up j i lj li z;omega
theorem qaZ:∀{gs:List (List Int)},(∀g∈gs,g.Nodup)->(∀(i j:Nat)g g' c,gs[i]?=some g->gs[j]?=some g'->c∈g->c∈g'->i=j)->gs.flatten.Nodup
 | [],_,_=>xQ
 | g::gs,h1,h2=>by
  rw[Zl,yO];refine⟨h1 g zH,qaZ (λg hg=>h1 g (zJ _ hg)) (λi j a b c e1 e2 m1 m2=>?_),λx hx y hy e=>?_⟩
  ·have:=h2 (i+1) (j+1) a b c e1 e2 m1 m2;omega
  ·subst e
   obtain⟨g',hg',hx'⟩:=xw.mp hy;obtain⟨j,hj,rfl⟩:=zv.mp hg';have:=h2 0 (j+1) g _ x rfl (zB hj) hx hx';omega
theorem GS.flat{ts:List Int}{es:List (Int×Int)}{gs:List (List Int)}{hs:List Int}(ok:Ok ts es)(h:GS ts es gs hs)(all:∀t∈ts,∃g∈gs,t∈g):gs.flatten.Perm ts:=by
 have nd:gs.flatten.Nodup:=qaZ (λg hg=>by
  obtain⟨a,_,c⟩:=h.one hg;exact c.up.imp λ{a b} h e=>∅) λi j g g' c e1 e2 m1 m2=>h.apart e1 e2 m1 m2
 refine(xS nd ok.nd).mpr λx=>⟨λhx=>?_,λhx=>?_⟩
 ·obtain⟨g,hg,hx⟩:=xw.mp hx
  obtain⟨a,_,c⟩:=h.one hg;exact((c.mem x).mp hx).mem ok c.inn
 ·obtain⟨g,hg,hx⟩:=all x hx
  exact xw.mpr ⟨g,hg,hx⟩
noncomputable def nmP:Nat->List (List Int)->List (Nat×List Int)
 | _,[]=>[]
 | k,g::gs=>(k,g)::nmP (k+1) gs
noncomputable def kkP(ps:List (Nat×List Int)):List Int:=ps.flatMap (·.2)
noncomputable def vvP(ps:List (Nat×List Int)):List D:=ps.flatMap λp=>p.2.map λ_=>D.int (p.1:Int)
theorem q4K:∀(k:Nat)(gs:List (List Int)),kkP (nmP k gs)=gs.flatten
 | _,[]=>rfl
 | k,g::gs=>by show g++kkP (nmP (k+1) gs)=_;rw[q4K];rfl
theorem qd4:∀ps:List (Nat×List Int),(kkP ps).length=(vvP ps).length
 | []=>rfl
 | p::ps=>by show (p.2++kkP ps).length=((p.2.map λ_=>D.int (p.1:Int))++vvP ps).length;rw[zE,zE,zA,qd4 ps]
theorem qaU{α:Type}(v:α):∀(g:List Int){x:Int},x∈g->Yh g (g.map λ_=>v) x=some v
 | [],_,h=>by cases h
 | y::g,x,h=>by
  show (if y=x then some v else Yh g (g.map λ_=>v) x)=some v
  by_cases z:y=x
  ·rw[vG z]
  ·rw[vJ z]
   rcases zF.mp h with rfl|h
   ·exact vN rfl z
   ·exact qaU v g h
theorem q8t{α:Type}:∀{a:List Int}{c:List α}{b:List Int}{d:List α}{x:Int},a.length=c.length->x∈a->Yh (a++b) (c++d) x=Yh a c x
 | [],_,_,_,_,_,h=>by cases h
 | _::_,[],_,_,_,h,_=>by simp at h
 | y::a,v::c,b,d,x,hl,h=>by
  show (if y=x then some v else Yh (a++b) (c++d) x)=if y=x then some v else Yh a c x
  by_cases z:y=x
  ·rw[vG z,vG z]
  ·rw[vJ z,vJ z]
   rcases zF.mp h with rfl|h
   ·exact vN rfl z
   ·exact q8t ⇑hl h
theorem q7M{α:Type}:∀{a:List Int}{c:List α}{b:List Int}{d:List α}{x:Int},a.length=c.length->x∉a->Yh (a++b) (c++d) x=Yh b d x
 | [],[],_,_,_,_,_=>rfl
 | [],_::_,_,_,_,h,_=>by simp at h
 | _::_,[],_,_,_,h,_=>by simp at h
 | y::a,v::c,b,d,x,hl,h=>by
  show (if y=x then some v else Yh (a++b) (c++d) x)=_;rw[vJ (λz=>h (by rw[z];exact zH))];exact q7M ⇑hl λz=>h (zJ _ z)
theorem q9u:∀{gs:List (List Int)}{k:Nat},gs.flatten.Nodup->∀{j:Nat}{g:List Int}{x:Int},gs[j]?=some g->x∈g->Yh (kkP (nmP k gs)) (vvP (nmP k gs)) x=some (.int ((k+j:Nat):Int))
 | [],k,_,j,g,x,h,_=>by cases h
 | g'::gs,k,hn,j,g,x,h,hx=>by
  rw[Zl,yO]at hn;show Yh (g'++kkP (nmP (k+1) gs)) ((g'.map λ_=>D.int (k:Int))++vvP (nmP (k+1) gs)) x=_;cases j with
  | zero=>cases h;rw[q8t (by rw[zA]) hx,qaU _ _ hx];rfl
  | succ j=>
   have hg:gs[j]?=some g:=h;have hf:x∈gs.flatten:=xw.mpr ⟨g,zg hg,hx⟩;rw[q7M (by rw[zA]) (λz=>hn.2.2 x z x hf rfl),q9u hn.2.1 hg hx,show k+1+j=k+(j+1) by omega]
theorem qag{α:Type}{ks:List Int}{xs:List α}{k:Int}(y:α)(h:k∉ks):Xd ks k=ks++[k]/\putA ks xs k y=xs++[y]:=by
 unfold Xd putA;rw[vJ h,vJ h];exact⟨rfl,rfl⟩
noncomputable def nmD(p:Nat×List Int):D:=.tup [.int (p.1:Int),gD p.2]
theorem qaX:∀(k:Nat)(gs:List (List Int)),Xr k (gs.map gD)=(nmP k gs).map nmD
 | _,[]=>rfl
 | k,g::gs=>by show D.tup [.int (k:Int),gD g]::Xr (k+1) (gs.map gD)=_;rw[qaX];rfl
theorem qe9(a b:List (Nat×List Int)):kkP (a++b)=kkP a++kkP b:=by unfold kkP;rw[ZE]
theorem qhH(a b:List (Nat×List Int)):vvP (a++b)=vvP a++vvP b:=by unfold vvP;rw[ZE]
theorem qbu{gs:List (List Int)}(nd:gs.flatten.Nodup)(fl:gs.flatten.length<64):qS [.lst (gs.map gD)]=↥(.dic (kkP (nmP 0 gs)) (vvP (nmP 0 gs))):=by
 unfold qS q1s;simp_arith[qaX];have nd':(kkP (nmP 0 gs)).Nodup:=by rw[q4K];exact nd
 have fl':(kkP (nmP 0 gs)).length<64:=by rw[q4K];exact fl
 generalize nmP 0 gs=ps at nd' fl';obtain⟨ω',e,x2,x3,x4,rfl⟩:=qv (g:=gT 2 (YT (gN 2) (YT (gN 3) Yt))) (b:=q17) nmD ps
  (λpre ω=>∃x2 x3 x4,ω=[↥(.lst (gs.map gD)),some (.od (kkP pre) (vvP pre)),x2,x3,x4])
  (λpre p post ω hd ⟨x2,x3,x4,hω⟩=>by
   subst hω;refine⟨_,rfl,?_⟩;unfold q17;obtain⟨k,g⟩:=p;rw[hd,qe9]at nd' fl';show XN (Xp _ _ _ [↥(.lst (gs.map gD)),some (.od (kkP pre) (vvP pre)),↥(.int (k:Int)),↥(.lst (g.map D.int)),x4]) _;simp_arith[q0M];obtain⟨ω',e,y4,rfl⟩:=qv (g:=gN 4) (b:=q0Z) D.int g
    (λpre' ω=>∃y4,ω=[↥(.lst (gs.map gD)),some (.od (kkP pre++pre') (vvP pre++pre'.map λ_=>D.int (k:Int))),↥(.int (k:Int)),↥(.lst (g.map D.int)),y4])
    (λpre' c post' ω hd' ⟨y4,hω⟩=>by
     subst hω;refine⟨_,rfl,?_⟩;have nd2:(kkP pre++(pre'++c::post')).Nodup:=by
      have:(kkP pre++(g++kkP post)).Nodup:=nd';rw[hd',<- yB]at this;exact(yO.mp this).1
     have hnew:c∉kkP pre++pre':=λm=>by
      rw[<- yB]at nd2;exact(yO.mp nd2).2.2 c m c zH rfl
     have hlen:(kkP pre++pre').length<1000000:=by
      have:(kkP pre++(g++kkP post)).length<64:=fl';rw[hd']at this;simp only[zE,zG]at this ⊢;omega
     obtain⟨p1,p2⟩:=qag (xs:=vvP pre++pre'.map λ_=>D.int (k:Int)) (D.int (k:Int)) hnew;unfold q0Z;simp_arith[q3C hlen,p1,p2,yB];exact⟨_,by rw[zc];rfl⟩)
    (ω:=[↥(.lst (gs.map gD)),some (.od (kkP pre) (vvP pre)),↥(.int (k:Int)),↥(.lst (g.map D.int)),x4]) ⟨x4,by rw[za,yh,za]⟩
   simp_arith[e];have ek:kkP (pre++[(k,g)])=kkP pre++g:=by
    rw[qe9];show kkP pre++(g++[])=_;rw[za]
   have ev:vvP (pre++[(k,g)])=vvP pre++g.map λ_=>D.int (k:Int):=by
    rw[qhH];show vvP pre++((g.map λ_=>D.int (k:Int))++[])=_;rw[za]
   rw[ek,ev];exact⟨_,_,_,rfl⟩)
  (ω:=[↥(.lst (gs.map gD)),some (.od [] []),none,none,none]) ⟨none,none,none,rfl⟩
 simp_arith[e]
noncomputable def egD(e:Eg):D:=.tup [.int e.1,.int e.2.1,.int e.2.2]
theorem q3E(e:Eg):q0y [egD e]=↥(.int (Ye e)):=rfl
theorem qdq(e:Eg):W4 q0y (egD e)=Ye e:=by unfold W4;rw[q3E]
theorem qcl(e:Eg):keyOk q0y (egD e)=true:=by unfold keyOk;rw[q3E]
theorem qed(es:List Eg):YV (W4 q0y) (es.map egD)=(YV Ye es).map egD:=by
 rw[q1b,q3g λx _=>qdq x]
noncomputable def WC(f:Int->Int)(ks:List Int):List D:=ks.map λk=>.int (f k)
theorem q3R{f:Int->Int}:∀{ks:List Int}{x:Int},x∈ks->Yh ks (WC f ks) x=some (.int (f x))
 | [],_,h=>by cases h
 | k::ks,x,h=>by
  by_cases e:k=x
  ·subst e
   show (if k=k then some (D.int (f k))else Yh ks (WC f ks) k)=_;rw[vG rfl]
  ·show (if k=x then some (D.int (f k))else Yh ks (WC f ks) x)=_
   rw[vJ e];exact q3R ((zF.mp h).elim (λz=>vN z.symm e) id)
theorem qhg{f:Int->Int}{ks:List Int}{a b:Int}(hn:ks.Nodup)(hl:ks.length<1000):qW [.dic ks (WC f ks),.int a,.int b]=↥(.dic ks (WC (Yl f a b) ks)):=by
 unfold qW q0N;obtain⟨ω',e,x4,rfl⟩:=qv (g:=gN 4) (b:=q0H) D.int ks
  (λpre ω=>∃x4:Option W,ω=[↥(.dic ks (WC f ks)),↥(.int a),↥(.int b),some (.od pre (WC (Yl f a b) pre)),x4])
  (λpre k post ω hd ⟨x4,hω⟩=>by
   subst hω;refine⟨_,rfl,?_⟩;have hk:k∈ks:=by rw[hd];simp
   have hnk:k∉pre:=λz=>by
    rw[hd]at hn;exact(yO.mp hn).2.2 k z k (by simp) rfl
   have hp:pre.length<ks.length:=by rw[hd,zE,zG];omega
   have hv:=q3R (f:=f) hk;have hds:pre.length<1000000:=∅
   obtain⟨p1,p2⟩:=qag (xs:=WC (Yl f a b) pre) (D.int (Yl f a b k)) hnk;have ev:WC (Yl f a b) (pre++[k])=WC (Yl f a b) pre++[.int (Yl f a b k)]:=by unfold WC;rw[zc];rfl
   unfold q0H
   by_cases z:f k=b
   ·have z':(f k==b)=true:=by simpa using z
    have jk:Yl f a b k=a:=vG z;rw[jk]at p2 ev;simp_arith[hv,z',q3C hds,p1,p2];exact⟨_,by rw[ev]⟩
   ·have z':(f k==b)=false:=by simpa using z
    have jk:Yl f a b k=f k:=vJ z;rw[jk]at p2 ev;simp_arith[hv,z',q3C hds,p1,p2];exact⟨_,by rw[ev]⟩)
  (ω:=[↥(.dic ks (WC f ks)),↥(.int a),↥(.int b),some (.od [] []),none]) ⟨none,rfl⟩
 simp_arith[e]
noncomputable def WZ(ks:List Int)(vs:List D)(x:Int):Int:=match Yh ks vs x with
 | some (.int i)=>i
 | _=>0
theorem qau:∀{ks:List Int}{vs:List D},ks.Nodup->ks.length=vs.length->(∀v∈vs,∃i:Int,v=.int i)->vs=WC (WZ ks vs) ks
 | [],[],_,_,_=>rfl
 | [],_::_,_,h,_=>by simp at h
 | _::_,[],_,h,_=>by simp at h
 | k::ks,v::vs,hn,hl,hv=>by
  obtain⟨n1,n2⟩:=yb.mp hn;obtain⟨i,rfl⟩:=hv v zH;have ih:=qau n2 ⇑hl λu hu=>hv u (zJ _ hu);have e1:WZ (k::ks) (.int i::vs) k=i:=by
   unfold WZ;show (match (if k=k then some (D.int i)else Yh ks vs k)with|some (.int i)=>i|_=>0)=i;rw[vG rfl]
  have e2:∀x∈ks,WZ (k::ks) (.int i::vs) x=WZ ks vs x:=λx hx=>by
   unfold WZ;have:Yh (k::ks) (D.int i::vs) x=Yh ks vs x:=vJ (λz:k=x=>by subst z;exact n1 hx);rw[this]
  show D.int i::vs=D.int (WZ (k::ks) (.int i::vs) k)::ks.map _;rw[e1]
  congr 1
  have:ks.map (λk'=>D.int (WZ (k::ks) (.int i::vs) k'))=WC (WZ ks vs) ks:=by
   unfold WC;exact yN λx hx=>by rw[e2 x hx]
  rw[this];exact ih
theorem qgg:∀(ps:List (Nat×List Int)),∀v∈vvP ps,∃i:Int,v=.int i:=λps v hv=>by
 unfold vvP at hv;obtain⟨p,_,h⟩:=xx.mp hv;obtain⟨_,_,rfl⟩:=yM.mp h;exact⟨_,rfl⟩
theorem qeP{ts:List Int}{kn:List (Int×Int)}(ok:Ok ts kn):∃(gs:List (List Int)) (ks:List Int) (f:Int->Int),q1Q [.lst (ts.map D.int),.lst (kn.map YU)]=some (.fr (gs.map gD))/\qS [.lst (gs.map gD)]=↥(.dic ks (WC f ks))/\ks.Nodup/\(∀x,x∈ks↔x∈ts)/\ks.length<64/\Tells ts kn f:=by
 obtain⟨gs,hs,g1,g2,g3,g4⟩:=qcH ok;have pf:=g2.flat ok g3;have nd:gs.flatten.Nodup:=pf.nodup_iff.mpr ok.nd;have fl:gs.flatten.length<64:=by rw[pf.length_eq];exact ok.l1
 have nm:=qbu nd fl;have kk:=q4K 0 gs;have lv:=qau (ks:=kkP (nmP 0 gs)) (vs:=vvP (nmP 0 gs)) (by rw[kk];exact nd) (qd4 _) (qgg _);refine⟨gs,kkP (nmP 0 gs),WZ (kkP (nmP 0 gs)) (vvP (nmP 0 gs)),g1,by rw[<- lv];exact nm,by rw[kk];exact nd,λx=>by rw[kk];exact pf.mem_iff,by rw[kk];exact fl,λx hx y hy=>?_⟩;obtain⟨gx,mx,hxg⟩:=g3 x hx;obtain⟨gy,my,hyg⟩:=g3 y hy;obtain⟨i,hi⟩:=yn.mp mx;obtain⟨j,hj⟩:=yn.mp my;have vx:=q9u (k:=0) nd hi hxg;have vy:=q9u (k:=0) nd hj hyg;have fx:WZ (kkP (nmP 0 gs)) (vvP (nmP 0 gs)) x=((0+i:Nat):Int):=by unfold WZ;rw[vx]
 have fy:WZ (kkP (nmP 0 gs)) (vvP (nmP 0 gs)) y=((0+j:Nat):Int):=by unfold WZ;rw[vy]
 rw[fx,fy];obtain⟨a,_,cx⟩:=g2.one mx;obtain⟨b,_,cy⟩:=g2.one my
 constructor
 ·intro e
  have:i=j:=∅
  subst this;rw[hi]at hj;cases hj;exact((cx.mem x).mp hxg).symm.trans ((cx.mem y).mp hyg)
 ·intro r
  have:y∈gx:=(cx.mem y).mpr (((cx.mem x).mp hxg).trans r);have:=g2.apart hi hj this hyg;rw[this]
theorem qcT{ts:List Int}{kn:List (Int×Int)}{es:List Eg}(ok:Ok ts kn)(he:∀e∈es,e.1∈ts/\e.2.1∈ts)(hl:es.length<64):∃f:Int->Int,Tells ts kn f/\q2v [.lst (ts.map D.int),.lst (kn.map YU),.lst (es.map egD)]=some (.fr ((XY f (YV Ye es)).2.map egD)):=by
 obtain⟨gs,ks,f,g1,g2,nd,mem,lk,tl⟩:=qeP ok;refine⟨f,tl,?_⟩;unfold q2v q5p;have sk:=qhZ (m:=q0y) (ds:=es.map egD) (by rw[zA];exact hl) (λd hd=>by obtain⟨e,_,rfl⟩:=yM.mp hd;exact qcl e);rw[qed]at sk;have pm:=qY (f:=Ye) (l:=es);have hS:∀e∈YV Ye es,e.1∈ts/\e.2.1∈ts:=λe h=>he e (pm.mem_iff.mp h);have lS:(YV Ye es).length=es.length:=pm.length_eq;generalize YV Ye es=S at sk hS lS;simp_arith[g1,g2,sk];obtain⟨ω',e,x5,x6,x7,rfl⟩:=qv (g:=gN 5) (b:=q4a) egD S
  (λpre ω=>∃(x5 x6 x7:Option W),ω=[↥(.lst (ts.map D.int)),↥(.lst (kn.map YU)),↥(.lst (es.map egD)),↥(.dic ks (WC (XY f pre).1 ks)),some (.ow ((XY f pre).2.map egD)),x5,x6,x7])
  (λpre e post ω hd ⟨x5,x6,x7,hω⟩=>by
   subst hω;refine⟨_,rfl,?_⟩;obtain⟨m1,m2⟩:=hS e (by rw[hd];simp);have v1:=q3R (f:=(XY f pre).1) ((mem e.1).mpr m1);have v2:=q3R (f:=(XY f pre).1) ((mem e.2.1).mpr m2);have lp:((XY f pre).2.map egD).length<1000000:=by
    have:=(q99 f pre).length_le;have:pre.length<=S.length:=by rw[hd,zE];omega
    rw[zA];omega
   have tw:=qhg (f:=(XY f pre).1) (a:=(XY f pre).1 e.1) (b:=(XY f pre).1 e.2.1) nd ∅;have ed:egD e=.tup [.int e.1,.int e.2.1,.int e.2.2]:=rfl;unfold q4a;rw[q7j];unfold X3
   by_cases z:(XY f pre).1 e.1=(XY f pre).1 e.2.1
   ·have z':((XY f pre).1 e.1==(XY f pre).1 e.2.1)=true:=by simpa using z
    rw[vG z];simp_arith[ed,v1,v2,z'];exact⟨_,_,_,rfl⟩
   ·have z':((XY f pre).1 e.1==(XY f pre).1 e.2.1)=false:=by simpa using z
    rw[vJ z];simp_arith[ed,v1,v2,z',zAI lp,tw];exact⟨_,_,_,by rw[zc];rfl⟩)
  (ω:=[↥(.lst (ts.map D.int)),↥(.lst (kn.map YU)),↥(.lst (es.map egD)),↥(.dic ks (WC f ks)),some (.ow []),none,none,none]) ⟨none,none,none,rfl⟩
 simp_arith[e]
theorem Rch.swap{es:List (Int×Int)}{p q:Int}{x y:Int}(r:Rch (es++[(q,p)]) x y):Rch (es++[(p,q)]) x y:=by
 have key:∀{u v:Int},(u,v)∈es++[(q,p)]->(u,v)∈es++[(p,q)]\/(v,u)∈es++[(p,q)]:=λ{u v} m=>by
  rcases zb.mp m with m|m
  ·exact .inl (zu _ m)
  ·cases zT.mp m;exact .inr (by simp)
 induction r with
 | refl=>exact .refl
 | step _ e ih=>exact ih.step (e.elim key λz=>(key z).symm)
theorem qaM{g:Int->Int}{x:Int}:∀{l:List Int},(∀y∈l,x<y)->WY ltP (g x,x) (l.map λk=>(g k,k))=(Xu g x l).map λk=>(g k,k)
 | [],_=>rfl
 | y::r,h=>by
  have hy:=h y zH;rw[zi];show (if ltP (g x,x) (g y,y)=true then _ else _)=((if g x<=g y then x::y::r else y::Xu g x r):List Int).map _
  by_cases z:g x<=g y
  ·rw[vG (q1e.mpr (show g x<g y\/(g x=g y/\x<y) by omega)),vG z];rfl
  ·rw[vJ (λq=>by have:=q1e.mp q;change g x<g y\/(g x=g y/\x<y)at this;omega),vJ z,zi,qaM λw hw=>h w (zJ _ hw)]
theorem q9D{g:Int->Int}:∀{l:List Int},l.Pairwise (· < ·)->sortBy ltP (l.map λk=>(g k,k))=(YV g l).map λk=>(g k,k)
 | [],_=>rfl
 | x::l,h=>by
  have h':=zW.mp h;show WY ltP (g x,x) (sortBy ltP (l.map _))=(Xu g x (YV g l)).map _;rw[q9D h'.2];exact qaM λy hy=>h'.1 y (qY.mem_iff.mp hy)
noncomputable def kr2(s:(Int->Int)×Int)(e:Eg):(Int->Int)×Int:=if s.1 e.1=s.1 e.2.1 then s else (Yl s.1 (s.1 e.2.1) (s.1 e.1),s.2+Ye e)
theorem q8s{ts:List Int}:∀(es:List Eg){T:List (Int×Int)}{f φ:Int->Int}{acc:List Eg}{c:Int},Tells ts T f->Tells ts T φ->(∀e∈T,e.1∈ts/\e.2∈ts)->(∀e∈es,e.1∈ts/\e.2.1∈ts)->(es.foldl kr2 (φ,c)).2+(acc.map Ye).sum=c+((es.foldl X3 (f,acc)).2.map Ye).sum
 | [],_,_,_,_,_,_,_,_,_=>rfl
 | e::es,T,f,φ,acc,c,hf,hφ,hT,he=>by
  have ⟨h1,h2⟩:=he e zH;have hes:∀x∈es,x.1∈ts/\x.2.1∈ts:=λx hx=>he x (zJ _ hx);have inn:∀x∈T++[(e.1,e.2.1)],x.1∈ts/\x.2∈ts:=λx hx=>by
   rcases zb.mp hx with hx|hx
   ·exact hT x hx
   ·rw[zT.mp hx];exact⟨h1,h2⟩
  show (es.foldl kr2 (kr2 (φ,c) e)).2+_=c+((es.foldl X3 (X3 (f,acc) e)).2.map Ye).sum
  by_cases z:f e.1=f e.2.1
  ·have z2:φ e.1=φ e.2.1:=(hφ _ h1 _ h2).mpr ((hf _ h1 _ h2).mp z)
   have a1:kr2 (φ,c) e=(φ,c):=vG z2;have a2:X3 (f,acc) e=(f,acc):=vG z;rw[a1,a2];exact q8s es (hf.skip h1 h2 z) (hφ.skip h1 h2 z2) inn hes
  ·have z2:¬φ e.1=φ e.2.1:=λq=>z ((hf _ h1 _ h2).mpr ((hφ _ h1 _ h2).mp q))
   have a1:kr2 (φ,c) e=(Yl φ (φ e.2.1) (φ e.1),c+Ye e):=vJ z2;have a2:X3 (f,acc) e=(Yl f (f e.1) (f e.2.1),acc++[e]):=vJ z;have t1:Tells ts (T++[(e.1,e.2.1)]) (Yl φ (φ e.2.1) (φ e.1)):=λx hx y hy=>((hφ.join hT h2 h1) x hx y hy).trans ⟨λr=>r.swap,λr=>r.swap⟩;have:=q8s es (acc:=acc++[e]) (c:=c+Ye e) (hf.join hT h1 h2) t1 inn hes;rw[a1,a2];rw[zc,xy]at this;have e1:([e].map Ye).sum=Ye e:=by simp
   rw[e1]at this;omega
theorem q2r{s:Int}:∀{P:List Int},s∈P->∃i,Ww s P=some i/\P[i]?=some s
 | a::r,h=>by
  unfold Ww
  by_cases z:a=s
  ·exact⟨0,vG z,by rw[z];rfl⟩
  ·obtain⟨i,h1,h2⟩:=q2r ((zF.mp h).resolve_left λe=>z e.symm)
   exact⟨i+1,by rw[vJ z,h1];rfl,h2⟩
noncomputable def Yi(N i t:Nat):Nat:=if i+t<N then i+t else i+t-N
noncomputable def Y7(N i k:Nat):Nat:=if i<=k then k-i else k+N-i
noncomputable def goN(n s g x:Int):Bool:=decide ((x-s)%n<(g-s)%n)
theorem q1w{n x s:Int}(hx:0<=x/\x<n)(hs:0<=s/\s<n):(x-s)%n=if s<=x then x-s else x-s+n:=by
 by_cases z:s<=x
 ·rw[vG z];exact xq ∅ ∅
 ·have e:(x-s+n)%n=(x-s)%n:=by simp
  rw[vJ z,<- e];exact xq ∅ ∅
theorem qaK{P:List Int}(hP:P.Pairwise (· < ·)){n:Int}(hn:∀p∈P,0<=p/\p<n){i j k:Nat}(hi:i<P.length)(hj:j<P.length)(hk:k<P.length):goN n P[i] P[j] P[k]=decide (Y7 P.length i k<Y7 P.length i j):=by
 have get:∀{a b:Nat}(ha:a<P.length)(hb:b<P.length),a<b->P[a]<P[b]:=λha hb h=>zq.mp hP _ _ ha hb h;have cmp:∀{a b:Nat}(ha:a<P.length)(hb:b<P.length),(a<=b->P[a]<=P[b])/\(P[a]<=P[b]->a<=b):=λ{a b} ha hb=>by
  rcases xN a b with z|z|z
  ·exact⟨λ_=>xp (get ha hb z),λ_=>yL z⟩
  ·subst z;exact⟨λ_=>yk _,λ_=>zI _⟩
  ·have:=get hb ha z
   exact⟨λ_=>∅,λ_=>∅⟩
 have mi:=hn _ (zk hi);have mj:=hn _ (zk hj);have mk:=hn _ (zk hk);have c1:=cmp hi hk;have c2:=cmp hi hj;have c3:=cmp hj hk;unfold goN Y7;rw[q1w mk mi,q1w mj mi];refine decide_eq_decide.mpr ?_
 by_cases z1:i<=k
 ·rw[vG z1,vG (c1.1 z1)]
  by_cases z2:i<=j
  ·rw[vG z2,vG (c2.1 z2)]
   constructor
   ·intro h
    have:¬j<=k:=λy=>by have:=c3.1 y;omega
    omega
   ·intro h
    have:¬P[j]<=P[k]:=λy=>by have:=c3.2 y;omega
    omega
  ·rw[vJ z2,vJ λy=>z2 (c2.2 y)]
   exact⟨λ_=>∅,λ_=>∅⟩
 ·rw[vJ z1,vJ λy=>z1 (c1.2 y)]
  by_cases z2:i<=j
  ·rw[vG z2,vG (c2.1 z2)]
   exact⟨λh=>∅,λh=>∅⟩
  ·rw[vJ z2,vJ λy=>z2 (c2.2 y)]
   constructor
   ·intro h
    have:¬j<=k:=λy=>by have:=c3.1 y;omega
    omega
   ·intro h
    have:¬P[j]<=P[k]:=λy=>by have:=c3.2 y;omega
    omega
noncomputable def wlk(N i d:Nat):List Int:=(zO d).map λt=>((Yi N i t:Nat):Int)
theorem qfc(N i d:Nat):wlk N i (d+1)=wlk N i d++[((Yi N i d:Nat):Int)]:=by
 unfold wlk;rw[Zx,zc];rfl
theorem q9y{f g:FD}{ω:WSt}:zA3 f g ω=(f ω).bind λd=>(g ω).bind λc=>idxD d c:=rfl
theorem qbT{P:List Int}(hP:P.Pairwise (· < ·))(hl:P.length<=1000){s g:Int}(hs:s∈P)(hg:g∈P):∃(i j:Nat),P[i]?=some s/\P[j]?=some g /\
  qp [.lst (P.map D.int),.int s,.int g]=some (.fr ((wlk P.length i (Y7 P.length i j)).map D.int)):=by
 obtain⟨i,i1,i2⟩:=q2r hs;obtain⟨j,j1,j2⟩:=q2r hg;obtain⟨hi,ei⟩:=zS.mp i2;obtain⟨hj,ej⟩:=zS.mp j2;refine⟨i,j,i2,j2,?_⟩;have get:∀{a b:Nat}(ha:a<P.length)(hb:b<P.length),P[a]=P[b]↔a=b:=λ{a b} ha hb=>by
  constructor
  ·intro e
   rcases xN a b with z|z|z
   ·have:=zq.mp hP _ _ ha hb z;omega
   ·exact z
   ·have:=zq.mp hP _ _ hb ha z;omega
  ·intro e;subst e;rfl
 have ix:idxD (.lst (P.map D.int)) (.int s)=↥(.int (i:Int)):=by
  show (intsOf (P.map D.int)).bind _=_;rw[qH,yD,i1];rfl
 have pos:0<(P.length:Int):=∅
 have hm:∀x:Int,oMod (.int x) (.int (P.length:Int))=↥(.int (x%(P.length:Int))):=λx=>q0s pos;have dl:Y7 P.length i j<P.length:=by unfold Y7;split <;> omega
 have at_:∀t,t<=Y7 P.length i j->atI (P.map D.int) ((Yi P.length i t:Nat):Int)=some (.int (P.getD (Yi P.length i t) 0))/\(P.getD (Yi P.length i t) 0=g↔t=Y7 P.length i j):=λt ht=>by
  have hp:Yi P.length i t<P.length:=by unfold Yi;split <;> omega
  have gd:P.getD (Yi P.length i t) 0=P[Yi P.length i t]:=by rw[zQ,zB hp];rfl
  refine⟨?_,?_⟩
  ·rw[q0W ∅ (by rw[zA];omega),gd]
   simp
  ·rw[gd,<- ej,get hp hj]
   unfold Yi Y7 at *
   split <;> split at ht <;> split <;> omega
 obtain⟨ω',e,hω⟩:=qd5 (fc:=q0u) (fb:=q1m) (n:=1000000)
  (λω=>∃t:Nat,t<=Y7 P.length i j/\ω=[↥(.lst (P.map D.int)),↥(.int s),↥(.int g),↥(.int ((Yi P.length i t:Nat):Int)),some (.ow ((wlk P.length i t).map D.int))])
  (λω=>match ω with
   | [_,_,_,_,some (.ow ds)]=>P.length-ds.length
   | _=>0)
  (λω=>ω=[↥(.lst (P.map D.int)),↥(.int s),↥(.int g),↥(.int ((Yi P.length i (Y7 P.length i j):Nat):Int)),some (.ow ((wlk P.length i (Y7 P.length i j)).map D.int))])
  (λω ⟨t,ht,hω⟩ hf=>by
   subst hω;obtain⟨a1,a2⟩:=at_ t ht;unfold q0u at hf;simp -implicitDefEqProofs only[q4L,q1y,q9l,qcx,qcg,qcA,q6h,e_cw,qbE,qbS,q63,e_dp,qbz,qbQ,qbI,qbU,qbf,qcy,qbh,qbs,qcp,qcn,Y2,eq_self,wZ,wA,wB,reduceCtorEq,q6i,q9i,q8K,q6A,e_wd,q9b,e_wz,q6T,q8j,q7a,qbL,q9f,q8N,qck,qbd,qc1,q91,qbW,q7d,q73,qbn,q9s,qbq,qbr,qbg,q6x,q7h,q0M,q6y,q7b,qc6,qcw,q6E,q6k,e_if,q93,q8Z,qcj,q6n,q6U,q9z,q7e,qbG,zAI,qbj,q6f,q75,q77,qcB,e_fs,qcv,q6Y,q6v,e_c,e_e,e_ed,e_d,q6z,q6H,e_v,q6S,q6W,q6L,e_op,e_o2,q8Q,e_cl,q79,q6r,e_ac,e_ca,e_an,qbi,qcb,qcu,e_bl,qbH,e_sl,e_po,e_pa,e_ap,qc0,q8Y,q8X,qbc,q4y,q5j,q4x,q43,q42,q4w,e_t,e_tr,q92,e_ta,qce,qc5,e_to,qbC,q9L,e_tn,q9e,q74,q54,q8z,e_va,qbA,q8T,q90,qc3,qcc,q8R,Xq,qbV,e_ng,q6O,q6w,q71,q4Q,q5U,q94,q6g,q9a,q9J,q6o,qbm,qcq,qbO,at0,at1,at2,q0s,q6V,WU,entry,yD,yj,zG,xJ,zA,zi,yh,wb,yQ,wC,wE,wN,wO,yf,ye,ZG,ZH,Zg,Zh,Zi,ZI,ZJ,ZK,ZL,ZM,ZN,wU,ZO,wq,↓reduceIte,wT,ZP,wH,ZQ,xm,wg,wS,Zj,xZ,w8,xV,beq_self_eq_true,yC,a1]at hf;have:P.getD (Yi P.length i t) 0=g:=by
    have hf:=zn hf;simpa using hf
   rw[a2.mp this])
  (λω ⟨t,ht,hω⟩=>by
   subst hω;obtain⟨a1,a2⟩:=at_ t ht;refine⟨!(P.getD (Yi P.length i t) 0==g),?_,λhk=>?_⟩
   ·unfold q0u
    simp_arith[a1]
   ·have hne:t≠Y7 P.length i j:=λz=>by
     have:=a2.mpr z;rw[this]at hk;simp at hk
    have hp:Yi P.length i t<P.length:=by unfold Yi;split <;> omega
    have nx:(((Yi P.length i t:Nat):Int)+1)%(P.length:Int)=((Yi P.length i (t+1):Nat):Int):=by
     have:Yi P.length i (t+1)=if Yi P.length i t+1=P.length then 0 else Yi P.length i t+1:=by
      unfold Yi at *
      split <;> split <;> split <;> omega
     rw[this]
     by_cases z:Yi P.length i t+1=P.length
     ·rw[vG z,show ((Yi P.length i t:Nat):Int)+1=(P.length:Int) by omega,Int.emod_self];rfl
     ·rw[vJ z]
      exact xq ∅ ∅
    have wl:(wlk P.length i t).length=t:=by unfold wlk;rw[zA,zX]
    have lw:((wlk P.length i t).map D.int).length<1000000:=by rw[zA,wl];omega
    unfold q1m;simp_arith[zAI lw,hm,nx];show _/\_;refine⟨⟨t+1,∅,by rw[qfc,zc];rfl⟩,?_⟩;have ml:((wlk P.length i t).map D.int++[D.int ((Yi P.length i t:Nat):Int)]).length=t+1:=by rw[zE,zA,wl];rfl
    have mr:((wlk P.length i t).map D.int).length=t:=by rw[zA,wl]
    show P.length-((wlk P.length i t).map D.int++[D.int ((Yi P.length i t:Nat):Int)]).length<_;rw[ml];show P.length-(t+1)<P.length-(wlk P.length i t).length;rw[wl];omega)
  (ω:=[↥(.lst (P.map D.int)),↥(.int s),↥(.int g),↥(.int (i:Int)),some (.ow [])]) ⟨0,zy _,by
   have:Yi P.length i 0=i:=by unfold Yi;rw[Nat.add_zero,vG hi]
   rw[this];rfl⟩
  (by show P.length-0<1000000;omega)
 subst hω;unfold qp q1u;simp_arith[q9y,ix,e]
theorem qb6{N i j k:Nat}(hi:i<N)(hj:j<N)(hk:k<N):(k:Int)∈wlk N i (Y7 N i j)↔Y7 N i k<Y7 N i j:=by
 unfold wlk;rw[yM]
 constructor
 ·rintro⟨t,ht,e⟩
  have ht:=zw.mp ht;have e:Yi N i t=k:=∅
  have:Y7 N i k=t:=by
   have hd:Y7 N i j<N:=by unfold Y7;split <;> omega
   unfold Yi at e;unfold Y7
   split at e <;> split <;> omega
  omega
 ·intro h
  refine⟨Y7 N i k,zw.mpr h,?_⟩;have:Yi N i (Y7 N i k)=k:=by
   unfold Yi Y7
   split <;> split <;> omega
  rw[this]
theorem qdT{N i d:Nat}(hi:i<N)(hd:d<N):(wlk N i d).Nodup:=by
 unfold wlk;rw[List.nodup_iff_pairwise_ne,xr];refine List.Pairwise.imp_of_mem (R:=λa b=>a<b) (λ{a b} ha hb h e=>?_) xF;have ha:=zw.mp ha;have hb:=zw.mp hb;have e:Yi N i a=Yi N i b:=∅
 unfold Yi at e
 split at e <;> split at e <;> omega
theorem qaC{N i d:Nat}(hi:i<N)(hd:d<N):∀k∈wlk N i d,0<=k/\k<(N:Int):=λk hk=>by
 obtain⟨t,ht,rfl⟩:=yM.mp hk;have ht:=zw.mp ht;have:Yi N i t<N:=by unfold Yi;split <;> omega
 omega
theorem q6Z{P:List Int}(hP:P.Pairwise (· < ·))(hl:P.length<=1000){n:Int}(hn:∀p∈P,0<=p/\p<n){s g:Int}(hs:s∈P)(hg:g∈P):∃ks:List Int,qp [.lst (P.map D.int),.int s,.int g]=some (.fr (ks.map D.int))/\Hk.numsOf qp P s g=some ks/\ks.Nodup /\
  (∀k∈ks,0<=k)/\∀(k:Nat),k<P.length->((k:Int)∈ks↔goN n s g (P.getD k 0)=true):=by
 obtain⟨i,j,i2,j2,e⟩:=qbT hP hl hs hg;obtain⟨hi,ei⟩:=zS.mp i2;obtain⟨hj,ej⟩:=zS.mp j2;have dl:Y7 P.length i j<P.length:=by unfold Y7;split <;> omega
 have rg:=qaC hi dl;refine⟨_,e,?_,qdT hi dl,λk hk=>(rg k hk).1,λk hk=>?_⟩
 ·unfold Hk.numsOf
  rw[e];show (intsOf ((wlk P.length i (Y7 P.length i j)).map D.int)).bind _=_;rw[qH,yD];exact vG ⟨rg,by unfold wlk;rw[zA,zX];omega⟩
 ·rw[qb6 hi hj hk]
  have gd:P.getD k 0=P[k]:=by rw[zQ,zB hk];rfl
  rw[gd,<- ei,<- ej,qaK hP hn hi hj hk,decide_eq_true_iff]
theorem qfX{b:Bool}{cs:List (Int×Int)}{a:Int}{k:Nat}{c:Int×Int}(ha:0<=a)(h:cs[k]?=some c):(bmp b cs a)[k]?=some (if (k:Int)=a then zA4 b c else c):=by
 unfold bmp
 by_cases z:(k:Int)=a
 ·have e:a.toNat=k:=∅
  rw[e,h,vG z];show (cs.set k (zA4 b c))[k]?=_;exact yV (zS.mp h).1
 ·rw[vJ z]
  cases q:cs[a.toNat]? with
  | none=>exact h
  | some d=>
   show (cs.set a.toNat (zA4 b d))[k]?=_;rw[zU ∅];exact h
theorem q5t{b:Bool}:∀{ks:List Int}{cs:List (Int×Int)}{k:Nat}{c:Int×Int},ks.Nodup->(∀a∈ks,0<=a)->cs[k]?=some c->(ks.foldl (bmp b) cs)[k]?=some (if (k:Int)∈ks then zA4 b c else c)
 | [],cs,k,c,_,_,h=>by rw[vJ (by simp)];exact h
 | a::ks,cs,k,c,nd,h0,h=>by
  obtain⟨n1,n2⟩:=yb.mp nd;have g:=qfX (b:=b) (h0 a zH) h;have ih:=q5t (b:=b) n2 (λx hx=>h0 x (zJ _ hx)) g;rw[Zv,ih]
  by_cases z:(k:Int)=a
  ·rw[vG z,vJ (by rw[z];exact n1),vG (by rw[z];exact zH)]
  ·rw[vJ z]
   by_cases y:(k:Int)∈ks
   ·rw[vG y,vG (zJ _ y)]
   ·rw[vJ y,vJ λw=>(zF.mp w).elim z y]
noncomputable def rts(n:Int)(bs:List (Int×Int×Int))(x:Int):List (Int×Int×Int):=bs.filter λb=>b.2.2==1&&goN n b.1 b.2.1 x
noncomputable def lfs(n:Int)(bs:List (Int×Int×Int))(x:Int):List (Int×Int×Int):=bs.filter λb=>b.2.2 == -1&&goN n b.2.1 b.1 x
theorem q8k{P:List Int}(hP:P.Pairwise (· < ·))(hl:P.length<=1000){n:Int}(hn:∀p∈P,0<=p/\p<n):∀(es pre:List (Int×Int×Int))(cs:List (Int×Int)),(∀e∈es,e.1∈P/\e.2.1∈P/\(e.2.2=1\/e.2.2=-1))->cs.length=P.length ->
  (∀k:Nat,k<P.length->cs[k]?=some (((rts n pre (P.getD k 0)).length:Int),((lfs n pre (P.getD k 0)).length:Int))) ->
  ∃cs',W1 qp P es cs=some cs'/\cs'.length=P.length/\∀k:Nat,k<P.length->cs'[k]?=some (((rts n (pre++es) (P.getD k 0)).length:Int),((lfs n (pre++es) (P.getD k 0)).length:Int))
 | [],pre,cs,_,hc,h=>⟨cs,rfl,hc,by rw[za];exact h⟩
 | e::es,pre,cs,he,hc,h=>by
  obtain⟨m1,m2,m3⟩:=he e zH;have app:∀x,rts n (pre++[e]) x=rts n pre x++(if (e.2.2==1&&goN n e.1 e.2.1 x)=true then [e]else [])/\lfs n (pre++[e]) x=lfs n pre x++(if (e.2.2 == -1&&goN n e.2.1 e.1 x)=true then [e]else []):=λx=>by
   unfold rts lfs;rw[xg,xg,yE,yE,wt,wt];exact⟨rfl,rfl⟩
  have step:∃cs1,Xi qp P cs e=some cs1/\cs1.length=P.length/\∀k:Nat,k<P.length->cs1[k]?=some (((rts n (pre++[e]) (P.getD k 0)).length:Int),((lfs n (pre++[e]) (P.getD k 0)).length:Int)):=by
   unfold Xi;rcases m3 with z|z
   ·obtain⟨ks,_,k2,k3,k4,k5⟩:=q6Z hP hl hn m1 m2
    refine⟨ks.foldl (bmp true) cs,by rw[vG z,k2];rfl,by rw[q1x];exact hc,λk hk=>?_⟩;rw[q5t k3 k4 (h k hk),(app _).1,(app _).2,z]
    by_cases y:(k:Int)∈ks
    ·rw[vG y,(k5 k hk).mp y,vG (by decide),vJ (by simp),za,zE]
     rfl
    ·have y':goN n e.1 e.2.1 (P.getD k 0)=false:=by
      cases q:goN n e.1 e.2.1 (P.getD k 0)with
      | true=>exact vN ((k5 k hk).mpr q) y
      | false=>rfl
     rw[vJ y,y',vJ (by decide),vJ (by simp),za,za]
   ·obtain⟨ks,_,k2,k3,k4,k5⟩:=q6Z hP hl hn m2 m1
    refine⟨ks.foldl (bmp false) cs,by rw[vJ (by rw[z];decide),k2];rfl,by rw[q1x];exact hc,λk hk=>?_⟩;rw[q5t k3 k4 (h k hk),(app _).1,(app _).2,z]
    by_cases y:(k:Int)∈ks
    ·rw[vG y,(k5 k hk).mp y,vJ (by simp),vG (by decide),za,zE]
     rfl
    ·have y':goN n e.2.1 e.1 (P.getD k 0)=false:=by
      cases q:goN n e.2.1 e.1 (P.getD k 0)with
      | true=>exact vN ((k5 k hk).mpr q) y
      | false=>rfl
     rw[vJ y,y',vJ (by simp),vJ (by decide),za,za]
  obtain⟨cs1,c1,c2,c3⟩:=step;obtain⟨cs',d1,d2,d3⟩:=q8k hP hl hn es (pre++[e]) cs1 (λx hx=>he x (zJ _ hx)) c2 c3;refine⟨cs',?_,d2,?_⟩
  ·show (Xi qp P cs e).bind _=_
   rw[c1];exact d1
  ·rw[yB]at d3;exact d3
theorem qfb:tri=zBH:=rfl
theorem q7Q{P:List Int}(hP:P.Pairwise (· < ·))(hl:P.length<=1000){n:Int}(hn:∀p∈P,0<=p/\p<n){bs:List (Int×Int×Int)}(hb:bs.length<=20)(he:∀e∈bs,e.1∈P/\e.2.1∈P/\(e.2.2=1\/e.2.2=-1)):
  ∃cs:List (Int×Int),q01 [.lst (P.map D.int),.lst (bs.map tri)]=some (.fr (cs.map Wm))/\cs.length=P.length/\∀k:Nat,k<P.length->cs[k]?=some (((rts n bs (P.getD k 0)).length:Int),((lfs n bs (P.getD k 0)).length:Int)):=by
 obtain⟨cs,c1,c2,c3⟩:=q8k hP hl hn bs [] (P.map λ_=>(0,0)) he (by rw[zA]) λk hk=>by
  rw[zK,zB hk];rfl
 refine⟨cs,?_,c2,c3⟩;show (intsOf (P.map D.int)).bind _=_;rw[qH,yD,qfb,q53,yD,vG ⟨hl,∅⟩,c1];rfl
theorem q56{n a b:Int}(hn:0<n):q02 [.int n,.int a,.int b,.int 1]=↥(.int ((b-a)%n)):=by
 unfold q02 q4M;have mu:WS (.int (b-a)) (.int 1)=↥(.int (b-a)):=by rw[q3S (by decide) (by decide),wQ]
 have mo:oMod (.int (b-a)) (.int n)=↥(.int ((b-a)%n)):=q0s hn;simp_arith[mu,mo]
theorem q6K{n s g:Int}(hn:0<n)(p:Int×Int):q09 [.int n,.int s,.int g,Y1 p]=↥(.bl (goN n s g p.1)):=by
 unfold q09 q3a;have s1:=q56 (a:=s) (b:=p.1) hn;have s2:=q56 (a:=s) (b:=g) hn;have pd:Y1 p=.tup [.int p.1,.int p.2]:=rfl;simp_arith[pd,s1,s2];rfl
noncomputable def Yf(n h l:Int)(bs:List (Int×Int×Int))(x:Int):Int:=(if goN n h l x=true then 1 else 0)-((rts n bs x).length:Int)+((lfs n bs x).length:Int)
theorem qfS{n h l:Int}{bs:List (Int×Int×Int)}(hn:0<n)(hb:bs.length<=20)(p:Int×Int):q0R [.int n,.int h,.int l,.lst (bs.map tri),Y1 p]=↥(.int (Yf n h l bs p.1)):=by
 unfold q0R q3o;have o:=q6K (s:=h) (g:=l) hn p;have kl:(bs.map tri).length<=1000000:=by rw[zA];omega
 have td:∀b:Int×Int×Int,tri b=.tup [.int b.1,.int b.2.1,.int b.2.2]:=λ_=>rfl;have cm1:=q3W (i:=0) (c:=q2A) (f:=q4q) (λb=>b.2.2==1&&goN n b.1 b.2.1 p.1) tri tri bs (ω:=[none,↥(.int n),↥(Y1 p)]) (λb _=>⟨by
  have o1:=q6K (s:=b.1) (g:=b.2.1) hn p;unfold q2A;cases q:(b.2.2==1)with
  | true=>simp_arith[td,q,o1]
  | false=>simp_arith[td,q],λ_=>rfl⟩)
 have cm2:=q3W (i:=0) (c:=q2I) (f:=q4b) (λb=>b.2.2 == -1&&goN n b.2.1 b.1 p.1) tri tri bs (ω:=[none,↥(.int n),↥(Y1 p)]) (λb _=>⟨by
  have o1:=q6K (s:=b.2.1) (g:=b.1) hn p;unfold q2I;cases q:(b.2.2 == -1)with
  | true=>simp_arith[td,q,o1]
  | false=>simp_arith[td,q],λ_=>rfl⟩)
 unfold Yf rts lfs;generalize goN n h l p.1=go at o ⊢;cases go with
 | true=>simp_arith[o,Xq kl,inW,WB,cm1,cm2,zA]
 | false=>simp_arith[o,Xq kl,inW,WB,cm1,cm2,zA]
theorem qde{n h l c:Int}{bs:List (Int×Int×Int)}(hn0:1<=n)(hn:n<=10^39)(hh:0<=h/\h<n)(hl:0<=l/\l<n)(hb:bs.length<=20)(hbs:∀b∈bs,(0<=b.1/\b.1<n)/\(0<=b.2.1/\b.2.1<n)/\(b.2.2=1\/b.2.2=-1)):
  q0D [.int n,.int h,.int l,.lst (bs.map tri),.int c]=some (.fr ((Ya (plc h l (bs.map two))).map λx=>D.int (c+Yf n h l bs x))):=by
 unfold q0D q2u;have g:=q9C hn hh hl hb hbs;have sl:(Ya (plc h l (bs.map two))).length<=1000:=(stp h l (bs:=bs.map two) (by rw[zA];omega)).len;generalize Ya (plc h l (bs.map two))=P at g sl;have kl:((rnd P).map Y1).length<=1000000:=by
  rw[zA];unfold rnd;rw[yR];omega
 have cm:=qM (i:=0) (f:=q26) Y1 (λp=>D.int (c+Yf n h l bs p.1)) (rnd P) (ω:=[none,↥(.int c),↥(.int n),↥(.int h),↥(.int l),↥(.lst (bs.map tri))]) (λp _=>by
  have b:=qfS (h:=h) (l:=l) (show 0<n by omega) hb p;unfold q26;simp_arith[b])
 have zf:(rnd P).map (λp=>D.int (c+Yf n h l bs p.1))=P.map λx=>D.int (c+Yf n h l bs x):=by
  have:(rnd P).map Prod.fst=P:=by
   unfold rnd;rw[xv];rw[zE,yG,zY];omega
  conv=>rhs;rw[<- this]
  rw[zt];rfl
 simp_arith[g,Xq kl,inW,WB,cm,zf]
theorem q7P{P:List Int}(hP:P.Pairwise (· < ·))(hl:P.length<=1000){n h l c:Int}(hn:∀p∈P,0<=p/\p<n){bs:List (Int×Int×Int)}(hb:bs.length<=20)(he:∀e∈bs,e.1∈P/\e.2.1∈P/\(e.2.2=1\/e.2.2=-1))(hh:h∈P)(hl':l∈P):
  qA [.lst (P.map D.int),.int h,.int l,.lst (bs.map tri),.int c]=some (.fr (P.map λx=>D.int (c+Yf n h l bs x))):=by
 unfold qA q1p;obtain⟨cs,c1,c2,c3⟩:=q7Q hP hl hn hb he;obtain⟨ks,k1,_,_,_,k5⟩:=q6Z hP hl hn hh hl';have cm:=qM (i:=0) (f:=q1a) (λk:Nat=>D.int (0+(k:Int))) (λk=>D.int (c+Yf n h l bs (P.getD k 0))) (zO P.length) (ω:=[none,↥(.int c),↥(.lst (cs.map Wm)),↥(.lst (ks.map D.int))]) (λk hk=>by
  have hk:=zw.mp hk;have z:(0+(k:Int))=(k:Int):=∅
  have gk:=c3 k hk;have at_:atI (cs.map Wm) (k:Int)=some (Wm (((rts n bs (P.getD k 0)).length:Int),((lfs n bs (P.getD k 0)).length:Int))):=by
   rw[q0W ∅ (by rw[zA];omega),xE];have:=(zS.mp gk).2;simp only[yH];rw[this]
  have rd:∀a b:Int,Wm (a,b)=.lst [.int a,.int b]:=λ_ _=>rfl;have bi:∀b:Bool,bInt [.bl b]=↥(.int (if b then 1 else 0)):=λ_=>rfl;have dk:decide ((k:Int)∈ks)=goN n h l (P.getD k 0):=by
   cases q:goN n h l (P.getD k 0)with
   | true=>exact vW ((k5 k hk).mpr q)
   | false=>exact vS λy=>by have:=(k5 k hk).mp y;rw[q]at this;cases this
  unfold q1a Yf;simp_arith -implicitDefEqProofs [z,qhA,dk,bi,at_,rd];refine vq (λx=>some (D.int x)) ?_;omega)
 have up:upTo 0 P.length=(zO P.length).map λk:Nat=>D.int (0+(k:Int)):=rfl;have ul:((zO P.length).map λk:Nat=>D.int (0+(k:Int))).length<=1000000:=by rw[zA,zX];omega
 have fin:(zO P.length).map (λk=>D.int (c+Yf n h l bs (P.getD k 0)))=P.map λx=>D.int (c+Yf n h l bs x):=by
  apply wY
  ·rw[zA,zA,zX]
  ·intro i h1 h2
   rw[zA]at h2;rw[xE,xE,wM,zQ,zB h2];rfl
 simp_arith -implicitDefEqProofs [c1,k1,zA];rw[q8a (a:=(P.length:Int)) ⟨∅,∅⟩];simp_arith -implicitDefEqProofs [yH,up,Xq ul,inW,WB,cm,fin]
theorem qdt{h l:Int}{bs:List (Int×Int×Int)}(hb:bs.length<=20):q0F [.int h,.int l,.lst (bs.map tri)]=some (.fr ((Ya (plc h l (bs.map two))).map D.int)):=by
 unfold q0F q2K;obtain⟨ω2,e2,y4,y5,y6,rfl⟩:=qv (g:=gT 3 (YT (gN 4) (YT (gN 5) (YT (gN 6) Yt)))) (b:=q0Y) tri bs
  (λpre ω=>∃y4 y5 y6:Option W,ω=[↥(.int h),↥(.int l),↥(.lst (bs.map tri)),↥(.lst ((plc h l (pre.map two)).map D.int)),y4,y5,y6])
  (λpre b post ω hd ⟨y4,y5,y6,hω⟩=>by
   subst hω;refine⟨_,rfl,?_⟩;have hp:pre.length<bs.length:=by rw[hd,zE,zG];omega
   have ad:Yw (.lst ((plc h l (pre.map two)).map D.int)) (.lst [.int b.1,.int b.2.1])=some (.fr ((plc h l ((pre++[b]).map two)).map D.int)):=by
    rw[zc,xi,qaD,zc];refine vG ?_;rw[zA];show (flat (pre.map two)).length+1+1+2<=1000000;rw[q1O,zA];omega
   show XN (q0Y [↥(.int h),↥(.int l),↥(.lst (bs.map tri)),↥(.lst ((plc h l (pre.map two)).map D.int)),↥(.int b.1),↥(.int b.2.1),↥(.int b.2.2)]) _;unfold q0Y;simp_arith[ad];exact⟨_,_,_,rfl⟩)
  (ω:=[↥(.int h),↥(.int l),↥(.lst (bs.map tri)),↥(.lst [.int h,.int l]),none,none,none]) ⟨none,none,none,rfl⟩
 have lk:(plc h l (bs.map two)).length<64:=by
  show (flat (bs.map two)).length+1+1<64;rw[q1O,zA];omega
 have ss:∀ω:WSt,ω[3]?=some ↥(.lst ((plc h l (bs.map two)).map D.int))->Y5 (vOf (YJ 3)) ω=some (.fr ((Ya (plc h l (bs.map two))).map D.int)):=λω hw=>by
  have e:vOf (YJ 3) ω=some (.lst ((plc h l (bs.map two)).map D.int)):=by simp_arith[hw]
  unfold Y5;rw[e];show (intsOf ((plc h l (bs.map two)).map D.int)).bind _=_;rw[qH];exact vG (qdr lk)
 have s3:=ss [↥(.int h),↥(.int l),↥(.lst (bs.map tri)),↥(.lst ((plc h l (bs.map two)).map D.int)),y4,y5,y6] rfl;simp_arith[e2,s3]
theorem qaL{b:Int×Int×Int}{bs:List (Int×Int×Int)}(h:b∈bs):b.1∈flat (bs.map two)/\b.2.1∈flat (bs.map two):=by
 unfold flat;refine⟨xx.mpr ⟨two b,ZF h,?_⟩,xx.mpr ⟨two b,ZF h,?_⟩⟩
 ·exact zH
 ·exact zJ _ zH
theorem qgz{x:Int}{bs:List (Int×Int×Int)}(h:x∈flat (bs.map two)):∃b∈bs,x=b.1\/x=b.2.1:=by
 unfold flat at h;obtain⟨p,hp,hx⟩:=xx.mp h;obtain⟨b,hb,rfl⟩:=yM.mp hp;rcases zF.mp hx with z|z
 ·exact⟨b,hb,.inl z⟩
 ·exact⟨b,hb,.inr (zT.mp z)⟩
noncomputable def lgN(n:Int)(P:List Int)(k:Nat):Int:=if k+1<P.length then P.getD (k+1) 0-P.getD k 0 else n-P.getD k 0+P.getD 0 0
theorem qaG{N i t:Nat}(hi:i<N)(ht:t<N):Yi N i t<N:=by unfold Yi;split <;> omega
theorem qeS{N i j:Nat}(hi:i<N)(hj:j<N):Yi N i (Y7 N i j)=j:=by unfold Yi Y7;split <;> split <;> omega
theorem qdD{N i t:Nat}(hi:i<N)(ht:t+1<N):Yi N i (t+1)=if Yi N i t+1<N then Yi N i t+1 else 0:=by
 unfold Yi;split <;> split <;> split <;> omega
theorem qm{P:List Int}{k:Nat}(h:k<P.length):P.getD k 0=P[k]:=by rw[zQ,zB h];rfl
theorem qeA{P:List Int}(hP:P.Pairwise (· < ·)){n:Int}(hn:∀p∈P,0<=p/\p<n){i t:Nat}(hi:i<P.length)(ht:t+1<P.length):
  (P.getD (Yi P.length i (t+1)) 0-P.getD i 0)%n=(P.getD (Yi P.length i t) 0-P.getD i 0)%n+lgN n P (Yi P.length i t):=by
 have h1:=qaG (t:=t) hi ∅;have h2:=qaG hi ht;have nx:=qdD hi ht;have up:∀{a b:Nat}(ha:a<P.length)(hb:b<P.length),a<b->P[a]<P[b]:=λha hb h=>zq.mp hP _ _ ha hb h;have b0:=hn _ (zk (∅:0<P.length));have bi:=hn _ (zk hi);have b1:=hn _ (zk h1);have b2:=hn _ (zk h2);unfold lgN;rw[qm hi,qm h1,qm h2,q1w b2 bi,q1w b1 bi];have ord:∀{a b:Nat}(ha:a<P.length)(hb:b<P.length),P[a]<=P[b]↔a<=b:=λ{a b} ha hb=>by
  rcases xN a b with z|z|z
  ·have:=up ha hb z;exact⟨λ_=>∅,λ_=>∅⟩
  ·subst z;exact⟨λ_=>zI _,λ_=>yk _⟩
  ·have:=up hb ha z;exact⟨λ_=>∅,λ_=>∅⟩
 have o1:=ord hi h1;have o2:=ord hi h2
 by_cases z:Yi P.length i t+1<P.length
 ·rw[vG z]at nx
  rw[vG z];have e:P[Yi P.length i (t+1)]=P.getD (Yi P.length i t+1) 0:=by rw[qm z];congr 1
  rw[<- e];have ne:¬i=Yi P.length i t+1:=λq=>by
   have:Yi P.length i (t+1)=i:=by rw[nx];exact q.symm
   unfold Yi at this;split at this <;> omega
  have c:i<=Yi P.length i (t+1)↔i<=Yi P.length i t:=by rw[nx];omega
  by_cases y:i<=Yi P.length i t
  ·rw[vG (o2.mpr (c.mpr y)),vG (o1.mpr y)];omega
  ·rw[vJ (λq=>y (c.mp (o2.mp q))),vJ (λq=>y (o1.mp q))];omega
 ·rw[vJ z]at nx
  rw[vJ z];have e:P[Yi P.length i (t+1)]=P.getD 0 0:=by rw[qm (∅:0<P.length)];congr 1
  have y1:i<=Yi P.length i t:=∅
  have y2:¬i<=Yi P.length i (t+1):=λq=>by
   have z0:i=0:=∅
   subst z0;unfold Yi at nx;split at nx <;> omega
  rw[vJ (λq=>y2 (o2.mp q)),vG (o1.mpr y1),<- e];omega
theorem qax{P:List Int}(hP:P.Pairwise (· < ·)){n:Int}(hn:∀p∈P,0<=p/\p<n){i:Nat}(hi:i<P.length):∀{d:Nat},d<P.length ->
  (P.getD (Yi P.length i d) 0-P.getD i 0)%n=((zO d).map λt=>lgN n P (Yi P.length i t)).sum
 | 0,_=>by
  have:Yi P.length i 0=i:=by unfold Yi;rw[vG ∅];rfl
  rw[this,Int.sub_self];simp
 | d+1,hd=>by
  rw[qeA hP hn hi hd,qax hP hn hi ∅,Zx,zc,xy];simp
theorem qcS{l m:List Int}(p:l.Perm m):l.sum=m.sum:=by
 induction p with
 | nil=>rfl
 | cons x _ ih=>rw[yS,yS,ih]
 | swap x y l=>rw[yS,yS,yS,yS];omega
 | trans _ _ a b=>exact a.trans b
theorem qfa{f:Int->Int}:∀{l:List Int}{m:List Int},l.Nodup->m.Nodup->(∀x∈m,x∈l)->(m.map f).sum=(l.map λx=>if x∈m then f x else 0).sum:=λ{l m} nl nm h=>by
 have p:m.Perm (l.filter λx=>decide (x∈m)):=by
  refine(xS nm (nl.filter _)).mpr λx=>?_;rw[xG];exact⟨λq=>⟨h x q,by simpa using q⟩,λq=>by simpa using q.2⟩
 have s:∀(l:List Int),((l.filter λx=>decide (x∈m)).map f).sum=(l.map λx=>if x∈m then f x else 0).sum:=λl=>by
  induction l with
  | nil=>rfl
  | cons a l ih=>
   rw[yE,zi,yS,<- ih]
   by_cases z:a∈m
   ·rw[vG ⇑z,vG z,zi,yS]
   ·rw[vJ ⇑z,vJ z,xW]
 rw[<- s l];exact qcS (p.map f)
theorem qba{P:List Int}(hP:P.Pairwise (· < ·)){n:Int}(hn:∀p∈P,0<=p/\p<n){s g:Int}(hs:s∈P)(hg:g∈P):
  (g-s)%n=((zO P.length).map λk=>if goN n s g (P.getD k 0)=true then lgN n P k else 0).sum:=by
 obtain⟨i,hi,rfl⟩:=zv.mp hs;obtain⟨j,hj,rfl⟩:=zv.mp hg;have hd:Y7 P.length i j<P.length:=by unfold Y7;split <;> omega
 have a:=qax hP hn hi hd;rw[qeS hi hj,qm hi,qm hj]at a;rw[a];have b:=qfa (f:=λx=>lgN n P x.toNat) (l:=(zO P.length).map λk:Nat=>(k:Int)) (m:=wlk P.length i (Y7 P.length i j)) (xr.mpr (Zq.imp λh q=>h ∅)) (qdT hi hd) (λx hx=>by
  have:=qaC hi hd x hx;exact yM.mpr ⟨x.toNat,zw.mpr ∅,∅⟩)
 rw[zt]at b;unfold wlk at b;rw[zt]at b;refine(show _=_ from b).trans ?_
 congr 1
 refine yN λk hk=>?_;have hk':=zw.mp hk;have m:=qb6 hi hj hk';unfold wlk at m;rw[qm hk',qaK hP hn hi hj hk'];show (if (k:Int)∈_ then lgN n P k else 0)=_
 by_cases z:Y7 P.length i k<Y7 P.length i j
 ·rw[vG (m.mpr z),vG ⇑z]
 ·rw[vJ λq=>z (m.mp q),vJ ⇑z]
noncomputable def stN(n:Int)(b:Int×Int×Int):Int:=(b.2.1-b.1)*b.2.2%n
theorem q4T{α:Type}{f g:α->Int}:∀(l:List α),(l.map λx=>f x+g x).sum=(l.map f).sum+(l.map g).sum
 | []=>rfl
 | x::l=>by rw[zi,zi,zi,yS,yS,yS,q4T l];omega
theorem q95{P:List Int}(hP:P.Pairwise (· < ·)){n:Int}(hn:∀p∈P,0<=p/\p<n):∀{bs:List (Int×Int×Int)},(∀e∈bs,e.1∈P/\e.2.1∈P/\(e.2.2=1\/e.2.2=-1)) ->
  (bs.map (stN n)).sum=((zO P.length).map λk=>lgN n P k*(((rts n bs (P.getD k 0)).length:Int)+((lfs n bs (P.getD k 0)).length:Int))).sum
 | [],_=>by
  have:∀l:List Nat,(l.map λk=>lgN n P k*(((rts n [] (P.getD k 0)).length:Int)+((lfs n [] (P.getD k 0)).length:Int))).sum=0:=λl=>by
   induction l with
   | nil=>rfl
   | cons a l ih=>
    rw[zi,yS,ih];show lgN n P a*(0+0)+0=0;omega
  rw[this];rfl
 | b::bs,h=>by
  obtain⟨h1,h2,h3⟩:=h b zH;have ih:=q95 hP hn (bs:=bs) λe he=>h e (zJ _ he);rw[zi,yS,ih];rcases h3 with w|w
  ·have e:stN n b=(b.2.1-b.1)%n:=by unfold stN;rw[w,wQ]
   rw[e,qba hP hn h1 h2,<- q4T]
   congr 1
   refine yN λk _=>?_;have l0:lfs n (b::bs) (P.getD k 0)=lfs n bs (P.getD k 0):=by
    unfold lfs;rw[yE,vJ (by rw[w];simp)]
   have r0:rts n (b::bs) (P.getD k 0)=if goN n b.1 b.2.1 (P.getD k 0)=true then b::rts n bs (P.getD k 0)else rts n bs (P.getD k 0):=by
    unfold rts;rw[yE,w];rfl
   rw[l0,r0]
   by_cases z:goN n b.1 b.2.1 (P.getD k 0)=true
   ·rw[vG z,vG z,zG,Zy,xk,xk,xk]
    have:lgN n P k*((1:Nat):Int)=lgN n P k:=wQ _;rw[this];omega
   ·rw[vJ z,vJ z,xW]
  ·have e:stN n b=(b.1-b.2.1)%n:=by unfold stN;rw[w];congr 1;omega
   rw[e,qba hP hn h2 h1,<- q4T]
   congr 1
   refine yN λk _=>?_;have r0:rts n (b::bs) (P.getD k 0)=rts n bs (P.getD k 0):=by
    unfold rts;rw[yE,vJ (by rw[w];simp)]
   have l0:lfs n (b::bs) (P.getD k 0)=if goN n b.2.1 b.1 (P.getD k 0)=true then b::lfs n bs (P.getD k 0)else lfs n bs (P.getD k 0):=by
    unfold lfs;rw[yE,w];rfl
   rw[l0,r0]
   by_cases z:goN n b.2.1 b.1 (P.getD k 0)=true
   ·rw[vG z,vG z,zG,Zy,xk,xk,xk]
    have:lgN n P k*((1:Nat):Int)=lgN n P k:=wQ _;rw[this];omega
   ·rw[vJ z,vJ z,xW]
noncomputable def glN(n:Int)(g:Int×Int):Int:=if g.1=g.2 then n else (g.2-g.1)%n
theorem qi9{P:List Int}(hP:P.Pairwise (· < ·)){n:Int}(hn:∀p∈P,0<=p/\p<n){k:Nat}(hk:k<P.length):
  glN n (P.getD k 0,P.getD (if k+1<P.length then k+1 else 0) 0)=lgN n P k:=by
 have up:∀{a b:Nat}(ha:a<P.length)(hb:b<P.length),a<b->P[a]<P[b]:=λha hb h=>zq.mp hP _ _ ha hb h;have b0:=hn _ (zk (∅:0<P.length));have bk:=hn _ (zk hk);unfold glN lgN
 by_cases z:k+1<P.length
 ·have u:=up hk z ∅
  have b1:=hn _ (zk z);rw[vG z,vG z,qm hk,qm z,vJ (show ¬P[k]=P[k+1] by omega),q1w b1 bk,vG ∅]
 ·rw[vJ z,vJ z,qm hk,qm (∅:0<P.length)]
  by_cases y:k=0
  ·subst y
   show (if P[0]=P[0]then n else _)=_;rw[vG rfl];omega
  ·have u:=up (∅:0<P.length) hk ∅
   show (if P[k]=P[0]then n else (P[0]-P[k])%n)=_;rw[vJ ∅,q1w b0 bk,vJ ∅];omega
theorem qgp{n:Int}(hn:0<n)(p:Int×Int):q0C [.int n,Y1 p]=↥(.int (glN n p)):=by
 unfold q0C q2x;have s:=q56 (a:=p.1) (b:=p.2) hn;have pd:Y1 p=.tup [.int p.1,.int p.2]:=rfl;unfold glN
 by_cases z:p.1=p.2
 ·have q:(p.1==p.2)=true:=by simpa using z
  simp_arith[pd,q,vG z]
 ·have q:(p.1==p.2)=false:=by simpa using z
  simp_arith[pd,q,vJ z,s]
noncomputable def egN(n:Int)(p:Int×Int):Eg:=(p.1,p.2,glN n p)
theorem qdl{n h l:Int}{bs:List (Int×Int×Int)}(hn0:1<=n)(hn:n<=10^39)(hh:0<=h/\h<n)(hl:0<=l/\l<n)(hb:bs.length<=20)(hbs:∀b∈bs,(0<=b.1/\b.1<n)/\(0<=b.2.1/\b.2.1<n)/\(b.2.2=1\/b.2.2=-1)):
  q0j [.int n,.int h,.int l,.lst (bs.map tri)]=some (.fr (((rnd (Ya (plc h l (bs.map two)))).map (egN n)).map egD)):=by
 unfold q0j q2L;have g:=q9C hn hh hl hb hbs;have sl:(Ya (plc h l (bs.map two))).length<=1000:=(stp h l (bs:=bs.map two) (by rw[zA];omega)).len;generalize Ya (plc h l (bs.map two))=P at g sl;have kl:((rnd P).map Y1).length<=1000000:=by
  rw[zA];unfold rnd;rw[yR];omega
 have cm:=qM (i:=0) (f:=q2b) Y1 (λp=>egD (egN n p)) (rnd P) (ω:=[none,↥(.int n)]) (λp _=>by
  have b:=qgp (show 0<n by omega) p;have pd:Y1 p=.tup [.int p.1,.int p.2]:=rfl;have ad:Yw (Y1 p) (.tup [.int (glN n p)])=↥(egD (egN n p)):=by
   rw[pd];rfl
  unfold q2b;simp_arith[b,ad])
 have mm:(rnd P).map (λp=>egD (egN n p))=((rnd P).map (egN n)).map egD:=by rw[zt];rfl
 simp_arith[g,Xq kl,inW,WB,cm,mm]
theorem q8V{n:Int}{P:List Int}{k:Nat}(hk:k<P.length)(hl:P.length<=1000):q0a [.int n,.lst (P.map D.int),.int (k:Int)]=↥(.int (lgN n P k)):=by
 unfold q0a q3c;have at_:∀{j:Nat},j<P.length->atI (P.map D.int) (j:Int)=some (.int (P.getD j 0)):=λ{j} hj=>q1E (by rw[zK,zB hj,qm hj];rfl);have a0:=at_ (j:=0) ∅;have ak:=at_ hk;unfold lgN
 by_cases z:k+1<P.length
 ·have a1:=at_ z
  have q:decide ((k:Int)+1<(P.length:Int))=true:=by simpa using (show (k:Int)+1<(P.length:Int) by omega)
  rw[show ((k+1:Nat):Int)=(k:Int)+1 from rfl]at a1;simp_arith[zA,q,a1,ak,vG z]
 ·have q:decide ((k:Int)+1<(P.length:Int))=false:=by simpa using (show ¬(k:Int)+1<(P.length:Int) by omega)
  rw[show ((0:Nat):Int)=0 from rfl]at a0;simp_arith[zA,q,a0,ak,vJ z]
noncomputable def lkT(es:List Eg)(ls:List Int):List (Int×Int):=((es.zip ls).filter λq=>q.2 != 0).map λq=>tieE q.1
noncomputable def zpD(q:Eg×Int):D:=.tup [egD q.1,.int q.2]
theorem q6C:∀(es:List Eg)(ls:List Int),Ws (es.map egD) (ls.map D.int)=(es.zip ls).map zpD
 | [],_=>rfl
 | _::_,[]=>rfl
 | e::es,x::ls=>by
  show D.tup [egD e,.int x]::Ws (es.map egD) (ls.map D.int)=_;rw[q6C];rfl
theorem qb3{c:FT}{f:FD}(q:Eg×Int->Bool)(F:Eg×Int->D)(xs:List (Eg×Int)){ω:WSt}(hω:∃a b,ω=[a,b])(h:∀x∈xs,c [↥(egD x.1),↥(.int x.2)]=some (q x)/\(q x=true->f [↥(egD x.1),↥(.int x.2)]=some (F x))):
  Y6 (gT 2 (YT (gN 0) (YT (gN 1) Yt))) c f (xs.map zpD) ω=some ((xs.filter q).map F) :=
 q1o (λw=>∃a b,w=[a,b]) q zpD F xs hω λx hx w hw=>by
  obtain⟨a,b,rfl⟩:=hw;exact⟨_,rfl,⟨_,_,rfl⟩,(h x hx).1,(h x hx).2⟩
theorem qcr{h l:Int}{bs:List (Int×Int×Int)}{es:List Eg}{ls:List Int}(hb:bs.length<=20)(le:es.length<64)(ok:Ok (es.map λe=>e.1) (bs.map two++[(h,l)]++lkT es ls))(he:∀e∈es,e.1∈es.map (λe=>e.1)/\e.2.1∈es.map (λe=>e.1)):
  ∃f:Int->Int,Tells (es.map λe=>e.1) (bs.map two++[(h,l)]++lkT es ls) f/\q0n [.int h,.int l,.lst (bs.map tri),.lst (es.map egD),.lst (ls.map D.int)]=some (.fr ((XY f (YV Ye es)).2.map egD)):=by
 obtain⟨f,f1,f2⟩:=qcT ok he le;refine⟨f,f1,?_⟩;unfold q0n q24;have w:=q8w hb;have zl:(es.zip ls).length<=64:=by rw[yR];omega
 have kz:((es.zip ls).map zpD).length<=1000000:=by rw[zA];omega
 have ke:(es.map egD).length<=1000000:=by rw[zA];omega
 have cm1:=qb3 (c:=q1K) (f:=q3D) (λq=>q.2 != 0) (λq=>YU (tieE q.1)) (es.zip ls) (ω:=[none,none]) ⟨_,_,rfl⟩ (λq _=>⟨by
  unfold q1K;simp_arith[q0M];rfl,λ_=>rfl⟩)
 have cm2:=qM (i:=0) (f:=q1z) egD (λe=>D.int e.1) es (ω:=[none]) (λe _=>by
  unfold q1z;have ed:egD e=.tup [.int e.1,.int e.2.1,.int e.2.2]:=rfl;simp_arith[ed])
 have m1:((es.zip ls).filter λq=>q.2 != 0).map (λq=>YU (tieE q.1))=(lkT es ls).map YU:=by unfold lkT;rw[zt];rfl
 have m2:es.map (λe=>D.int e.1)=(es.map λe=>e.1).map D.int:=by rw[zt];rfl
 have lt:(lkT es ls).length<=64:=by
  unfold lkT;rw[zA];exact yA (yo _ _) zl
 have a1:Yw (.lst ((bs.map two).map Y1)) (.lst [.tup [.int h,.int l]])=some (.fr ((bs.map two++[(h,l)]).map YU)):=by
  have:(bs.map two++[(h,l)]).map YU=(bs.map two).map Y1++[.tup [.int h,.int l]]:=by rw[zc];rfl
  rw[this];exact vG (by rw[zA,zA];show bs.length+1<=_;omega)
 have a2:Yw (.lst ((bs.map two++[(h,l)]).map YU)) (.lst ((lkT es ls).map YU))=some (.fr ((bs.map two++[(h,l)]++lkT es ls).map YU)):=by
  rw[zc (l₂:=lkT es ls)];exact vG (by rw[zA,zA,zE,zA];show bs.length+1+_<=_;omega)
 have zz:=q6C es ls;simp_arith[zz,Xq kz,Xq ke,inW,WB,cm1,cm2,m1,m2,w,a1,a2,f2]
noncomputable def Xs(c:Int):Int:=if c<0 then -c else c
noncomputable def ewN(es:List Eg)(ls:List Int)(F:List Eg):Int:=((es.zip ls).map λq=>Ye q.1*Xs q.2).sum+2*(F.map Ye).sum
theorem qbF{h l:Int}{bs:List (Int×Int×Int)}{es:List Eg}{ls:List Int}(hb:bs.length<=20)(le:es.length<64)(hls:∀x∈ls,-1000<=x/\x<=1000)(ok:Ok (es.map λe=>e.1) (bs.map two++[(h,l)]++lkT es ls))(he:∀e∈es,e.1∈es.map (λe=>e.1)/\e.2.1∈es.map (λe=>e.1)):
  ∃f:Int->Int,Tells (es.map λe=>e.1) (bs.map two++[(h,l)]++lkT es ls) f/\qC [.int h,.int l,.lst (bs.map tri),.lst (es.map egD),.lst (ls.map D.int)]=↥(.int (ewN es ls (XY f (YV Ye es)).2)):=by
 obtain⟨f,f1,f2⟩:=qcr hb le ok he;refine⟨f,f1,?_⟩;unfold qC q1t;have zl:(es.zip ls).length<=64:=by rw[yR];omega
 have kz:((es.zip ls).map zpD).length<=1000000:=by rw[zA];omega
 have kl:=(q99 f (YV Ye es)).length_le;rw[q7E]at kl;generalize (XY f (YV Ye es)).2=F at f2 kl;have kF:(F.map egD).length<=1000000:=by rw[zA];omega
 have cm1:=qb3 (c:=Yn) (f:=q1i) (λ_=>true) (λq=>D.int (Ye q.1*Xs q.2)) (es.zip ls) (ω:=[none,none]) ⟨_,_,rfl⟩ (λq hq=>⟨rfl,λ_=>by
  have c:=q3E q.1;have bq:=hls _ (xb hq).2;have mu:WS (.int (Ye q.1)) (.int (Xs q.2))=↥(.int (Ye q.1*Xs q.2)):=q3S (by unfold Xs;split <;> omega) (by unfold Xs;split <;> omega);have ab:bAbs [.int q.2]=↥(.int (Xs q.2)):=rfl;unfold q1i;simp_arith[c,ab,mu]⟩)
 rw[xB.mpr (λ_ _=>rfl)]at cm1;have cm2:=qM (i:=0) (f:=q1h) egD (λe=>D.int (Ye e)) F (ω:=[none]) (λe _=>by
  have c:=q3E e;unfold q1h;simp_arith[c])
 have s1:=q9M (λq:Eg×Int=>Ye q.1*Xs q.2) (es.zip ls);have s2:=q9M Ye F;have zz:=q6C es ls;have m2:∀x:Int,WS (.int 2) (.int x)=↥(.int (2*x)):=λx=>q8U (by decide) (by decide);simp_arith[zz,Xq kz,Xq kF,inW,WB,cm1,cm2,s1,s2,f2,m2];rfl
noncomputable def nxN(N k:Nat):Nat:=if k+1<N then k+1 else 0
noncomputable def egs(n:Int)(P:List Int):List Eg:=(rnd P).map (egN n)
theorem qfJ(P:List Int):(rnd P).length=P.length:=by
 unfold rnd;rw[yR,zE,yG,zY];omega
theorem qgh{P:List Int}{k:Nat}(hk:k<P.length):(rnd P)[k]?=some (P.getD k 0,P.getD (nxN P.length k) 0):=by
 have:(P.drop 1++P.take 1)[k]?=some (P.getD (nxN P.length k) 0):=by
  unfold nxN
  by_cases z:k+1<P.length
  ·rw[vG z,zV (by rw[yG];omega),yr,Nat.add_comm 1 k,zB z,qm z]
  ·rw[vJ z,zP (by rw[yG];omega),yG,show k-(P.length-1)=0 by omega,yc,vG (by decide),zB (∅:0<P.length),qm (∅:0<P.length)]
 unfold rnd;rw[yl];exact⟨by rw[zB hk,qm hk],this⟩
theorem qea(P:List Int):rnd P=(zO P.length).map λk=>(P.getD k 0,P.getD (nxN P.length k) 0):=by
 apply yY;intro k
 by_cases z:k<P.length
 ·rw[qgh z,zK,yX z];rfl
 ·rw[ze (by rw[qfJ];omega),ze (by rw[zA,zX];omega)]
theorem q9n{P:List Int}(hP:P.Pairwise (· < ·)){n:Int}(hn:∀p∈P,0<=p/\p<n):egs n P=(zO P.length).map λk=>(P.getD k 0,P.getD (nxN P.length k) 0,lgN n P k):=by
 unfold egs;rw[qea,zt];refine yN λk hk=>?_;have:=qi9 hP hn (zw.mp hk);show ((P.getD k 0,P.getD (nxN P.length k) 0,glN n (P.getD k 0,P.getD (nxN P.length k) 0)):Eg)=_;unfold nxN;rw[this]
theorem q4J(n:Int)(P:List Int):(egs n P).map (λe=>e.1)=P:=by
 unfold egs;rw[zt];show (rnd P).map Prod.fst=P;unfold rnd;rw[xv];rw[zE,yG,zY];omega
theorem q9G{n:Int}{P:List Int}:∀e∈egs n P,e.1∈P/\e.2.1∈P:=λe he=>by
 unfold egs at he;rw[qea,zt]at he;obtain⟨k,hk,rfl⟩:=yM.mp he;have hk':=zw.mp hk;have hx:nxN P.length k<P.length:=by unfold nxN;split <;> omega
 show P.getD k 0∈P/\P.getD (nxN P.length k) 0∈P;rw[qm hk',qm hx];exact⟨zk _,zk _⟩
noncomputable def ixs(N:Nat):List Int:=(zO N).map λk:Nat=>(k:Int)
noncomputable def lgI(n:Int)(P:List Int)(k:Int):Int:=lgN n P k.toNat
noncomputable def egI(n:Int)(P:List Int)(k:Int):Eg:=(P.getD k.toNat 0,P.getD (nxN P.length k.toNat) 0,lgI n P k)
theorem qcV(N:Nat):(ixs N).Pairwise (· < ·):=xr.mpr (xF.imp λh=>∅)
theorem qgi{N:Nat}{k:Int}:k∈ixs N↔0<=k/\k<N:=by
 unfold ixs;rw[yM];exact⟨λ⟨a,h1,h2⟩=>by have:=zw.mp h1;omega,λh=>⟨k.toNat,zw.mpr ∅,∅⟩⟩
theorem qfQ{P:List Int}(hP:P.Pairwise (· < ·)){n:Int}(hn:∀p∈P,0<=p/\p<n):egs n P=(ixs P.length).map (egI n P):=by
 rw[q9n hP hn];unfold ixs;rw[zt];rfl
theorem qeG{P:List Int}(hP:P.Pairwise (· < ·)){n:Int}(hn:∀p∈P,0<=p/\p<n):YV Ye (egs n P)=(YV (lgI n P) (ixs P.length)).map (egI n P):=by
 rw[qfQ hP hn,q1b];rfl
theorem qf7(n:Int)(P:List Int):sortBy ltP ((ixs P.length).map λk=>(lgI n P k,k))=(YV (lgI n P) (ixs P.length)).map λk=>(lgI n P k,k):=q9D (qcV _)
theorem qhc(n:Int)(P:List Int):((ixs P.length).map λk=>(lgI n P k,k)).Nodup:=xr.mpr ((qcV _).imp λh q=>by
 have:=vq Prod.snd q;simp only at this;omega)
theorem qgy(n:Int)(P:List Int):((ixs P.length).map λk=>(lgI n P k,k)).length=P.length:=by
 unfold ixs;rw[zA,zA,zX]
theorem qdJ{P:List Int}(hP:P.Pairwise (· < ·)){n:Int}(hn:∀p∈P,0<=p/\p<n){T:List (Int×Int)}{f φ:Int->Int}(hf:Tells P T f)(hφ:Tells P T φ)(hT:∀e∈T,e.1∈P/\e.2∈P):
  (((YV (lgI n P) (ixs P.length)).map (egI n P)).foldl kr2 (φ,0)).2=((XY f (YV Ye (egs n P))).2.map Ye).sum:=by
 have h:=q8s (YV Ye (egs n P)) (acc:=[]) (c:=0) hf hφ hT λe he=>q9G e (qY.mem_iff.mp he);rw[yh,List.sum_nil,Int.add_zero,xW]at h;rw[<- qeG hP hn];exact h
theorem q4B(P:List Int):P=(zO P.length).map λk=>P.getD k 0:=by
 apply yY;intro k
 by_cases z:k<P.length
 ·rw[zK,yX z,zB z]
  show _=some (P.getD k 0);rw[qm z]
 ·rw[ze ∅,ze (by rw[zA,zX];omega)]
theorem q5x{α β γ:Type}(f:α->β)(g:α->γ):∀l:List α,(l.map f).zip (l.map g)=l.map λa=>(f a,g a)
 | []=>rfl
 | a::l=>by rw[zi,zi,ZV,q5x f g l];rfl
theorem qhi{P:List Int}(hP:P.Pairwise (· < ·)){n:Int}(hn:∀p∈P,0<=p/\p<n)(F:Int->Int):
  (((egs n P).zip (P.map F)).map λq=>Ye q.1*Xs q.2).sum=((zO P.length).map λk=>lgN n P k*Xs (F (P.getD k 0))).sum:=by
 have e:P.map F=(zO P.length).map λk=>F (P.getD k 0):=by
  conv=>lhs;rw[q4B P]
  rw[zt];rfl
 rw[q9n hP hn,e,q5x,zt];rfl
theorem qft{P:List Int}(hP:P.Pairwise (· < ·)){n:Int}(hn:∀p∈P,0<=p/\p<n){bs:List (Int×Int×Int)}(he:∀e∈bs,e.1∈P/\e.2.1∈P/\(e.2.2=1\/e.2.2=-1))(F:Int->Int)(K:List Eg):
  (bs.map (stN n)).sum+ewN (egs n P) (P.map F) K=2*(K.map Ye).sum+((zO P.length).map λk=>lgN n P k*(((rts n bs (P.getD k 0)).length:Int)+((lfs n bs (P.getD k 0)).length:Int)+Xs (F (P.getD k 0)))).sum:=by
 unfold ewN;rw[qhi hP hn,q95 hP hn he];have:=q4T (f:=λk=>lgN n P k*(((rts n bs (P.getD k 0)).length:Int)+((lfs n bs (P.getD k 0)).length:Int))) (g:=λk=>lgN n P k*Xs (F (P.getD k 0))) (zO P.length);have e:((zO P.length).map λk=>lgN n P k*(((rts n bs (P.getD k 0)).length:Int)+((lfs n bs (P.getD k 0)).length:Int)+Xs (F (P.getD k 0))))=(zO P.length).map λk=>lgN n P k*(((rts n bs (P.getD k 0)).length:Int)+((lfs n bs (P.getD k 0)).length:Int))+lgN n P k*Xs (F (P.getD k 0)):=yN λk _=>xk _ _ _;rw[e,this];omega
noncomputable def jlK(gs:List Int)(o v:Int)(k:Nat):List Int:=(gs.take k).map (λx=>if x=o then v else x)++gs.drop k
theorem q3A{gs:List Int}{o v:Int}{k:Nat}:(jlK gs o v k).length=gs.length:=by
 unfold jlK;rw[zE,zA,zY,yG];omega
theorem q6d{gs:List Int}{o v:Int}{k j:Nat}(hj:j<gs.length):(jlK gs o v k)[j]?=some (if j<k/\gs[j]=o then v else gs[j]):=by
 unfold jlK
 by_cases z:j<k
 ·rw[zV (by rw[zA,zY];omega),zK,yc,vG z,zB hj]
  show some (if gs[j]=o then v else gs[j])=_
  by_cases y:gs[j]=o
  ·rw[vG y,vG ⟨z,y⟩]
  ·rw[vJ y,vJ λq=>y q.2]
 ·rw[zP (by rw[zA,zY];omega),zA,zY,yr,vJ λq=>z q.1,show k+(j-min k gs.length)=j by omega,zB hj]
theorem qey{gs:List Int}{o v:Int}{k:Nat}(hk:k<gs.length):jlK gs o v (k+1)=if gs[k]=o then (jlK gs o v k).set k v else jlK gs o v k:=by
 apply yY;intro j
 by_cases hj:j<gs.length
 ·rw[q6d hj]
  by_cases y:gs[k]=o
  ·rw[vG y]
   by_cases e:j=k
   ·subst e
    rw[yV (by rw[q3A];exact hj),vG ⟨∅,y⟩]
   ·rw[zU (λq=>e q.symm),q6d hj]
    congr 1
    by_cases w:j<k
    ·by_cases u:gs[j]=o
     ·rw[vG ⟨∅,u⟩,vG ⟨w,u⟩]
     ·rw[vJ λq=>u q.2,vJ λq=>u q.2]
    ·rw[vJ (λq=>∅),vJ λq=>w q.1]
  ·rw[vJ y,q6d hj]
   congr 1
   by_cases u:gs[j]=o
   ·have:j≠k:=λq=>by subst q;exact y u
    by_cases w:j<k
    ·rw[vG ⟨∅,u⟩,vG ⟨w,u⟩]
    ·rw[vJ (λq=>∅),vJ λq=>w q.1]
   ·rw[vJ λq=>u q.2,vJ λq=>u q.2]
 ·rw[ze (by rw[q3A];omega)]
  split
  ·rw[ze (by rw[yF,q3A];omega)]
  ·rw[ze (by rw[q3A];omega)]
theorem jturn{gs:List Int}{o v a:Int}{b k:Nat}(hk:k<gs.length)(hb:b<gs.length)(hl:gs.length<=1000)(hv:gs[b]=v)(ne:v≠o):
  q0h [some (.pw ((jlK gs o v k).map D.int)),↥(.int a),↥(.int (b:Int)),↥(.int o),↥(.int (k:Int))]=some (.nx,[some (.pw ((jlK gs o v (k+1)).map D.int)),↥(.int a),↥(.int (b:Int)),↥(.int o),↥(.int (k:Int))]):=by
 have at_:∀{j:Nat}(hj:j<gs.length),atI ((jlK gs o v k).map D.int) (j:Int)=some (.int (if j<k/\gs[j]=o then v else gs[j])):=λ{j} hj=>q1E (by rw[zK,q6d hj];rfl);have ak:=at_ hk;have ab:=at_ hb;rw[vJ (λq=>∅)]at ak;rw[vJ (λq=>ne (hv▸q.2)),hv]at ab;unfold q0h;rw[qey hk]
 by_cases y:gs[k]=o
 ·have q:(gs[k]==o)=true:=by simpa using y
  have pl:=p_ls (i:=0) (ω:=[some (.pw ((jlK gs o v k).map D.int)),↥(.int a),↥(.int (b:Int)),↥(.int o),↥(.int (k:Int))]) (d:=D.int v) (ds:=(jlK gs o v k).map D.int) (k:=(k:Int)) ∅ (by rw[zA,q3A];omega);have ms:((jlK gs o v k).map D.int).set k (.int v)=((jlK gs o v k).set k v).map D.int:=by rw[List.map_set]
  rw[yH,ms]at pl;rw[vG y];simp_arith[ak,ab,q,q4L,q1y,pl]
 ·have q:(gs[k]==o)=false:=by simpa using y
  rw[vJ y];simp_arith[ak,q,q1y]
theorem qdv{gs:List Int}{a b:Nat}(ha:a<gs.length)(hb:b<gs.length)(e:gs[a]=gs[b]):
  qu [.pw (gs.map D.int),.sh (.int (a:Int)),.sh (.int (b:Int))]=some (.bl false,[some (.pw (gs.map D.int)),↥(.int (a:Int)),↥(.int (b:Int)),none,none]):=by
 have at_:∀{j:Nat}(hj:j<gs.length),atI (gs.map D.int) (j:Int)=some (.int gs[j]):=λ{j} hj=>q1E (by rw[zK,zB hj];rfl);have aa:=at_ ha;have ab:=at_ hb;have q:(gs[a]==gs[b])=true:=by simpa using e
 have bd:qZ [some (.pw (gs.map D.int)),↥(.int (a:Int)),↥(.int (b:Int)),none,none]=some (.rt (.sh (.bl false)),[some (.pw (gs.map D.int)),↥(.int (a:Int)),↥(.int (b:Int)),none,none]):=by
  unfold qZ;simp_arith[aa,ab,q,q1y]
 unfold qu mirW;rw[show Y2 5 [.pw (gs.map D.int),.sh (.int (a:Int)),.sh (.int (b:Int))]=[some (.pw (gs.map D.int)),↥(.int (a:Int)),↥(.int (b:Int)),none,none]from rfl,bd]
theorem qcz{gs:List Int}{a b:Nat}(ha:a<gs.length)(hb:b<gs.length)(hl:gs.length<=1000)(e:gs[a]≠gs[b]):
  ∃x4,qu [.pw (gs.map D.int),.sh (.int (a:Int)),.sh (.int (b:Int))]=some (.bl true,[some (.pw ((gs.map λx=>if x=gs[a]then gs[b]else x).map D.int)),↥(.int (a:Int)),↥(.int (b:Int)),↥(.int gs[a]),x4]):=by
 have at_:∀{j:Nat}(hj:j<gs.length),atI (gs.map D.int) (j:Int)=some (.int gs[j]):=λ{j} hj=>q1E (by rw[zK,zB hj];rfl);have aa:=at_ ha;have ab:=at_ hb;have q:(gs[a]==gs[b])=false:=by simpa using e
 have j0:jlK gs gs[a] gs[b] 0=gs:=by unfold jlK;simp
 have jn:jlK gs gs[a] gs[b] gs.length=gs.map λx=>if x=gs[a]then gs[b]else x:=by unfold jlK;rw[yw,xu,za]
 obtain⟨ω',f1,x4,f2⟩:=qv (g:=gN 4) (b:=q0h) (λk:Nat=>D.int (0+(k:Int))) (zO gs.length)
  (λpre ω=>∃x4,ω=[some (.pw ((jlK gs gs[a] gs[b] pre.length).map D.int)),↥(.int (a:Int)),↥(.int (b:Int)),↥(.int gs[a]),x4])
  (λpre x post ω ex h=>by
   obtain⟨x4,rfl⟩:=h;have hx:x=pre.length:=by
    have:=vq (λl=>l[pre.length]?) ex;simp only[zP (zI _),wG,ye]at this;have hlt:pre.length<gs.length:=by
     have:=vq yd ex;rw[zX,zE,zG]at this;omega
    rw[yX hlt]at this;exact(zn this).symm
   have hlt:x<gs.length:=zw.mp (by rw[ex];simp);have z:(0+(x:Int))=(x:Int):=∅
   subst hx;refine⟨_,rfl,?_⟩;rw[z];show XN (q0h [_,_,_,_,↥(.int (pre.length:Int))]) _;rw[jturn hlt hb hl rfl λw=>e w.symm];exact⟨_,by rw[zE];rfl⟩) (ω:=[some (.pw (gs.map D.int)),↥(.int (a:Int)),↥(.int (b:Int)),↥(.int gs[a]),none]) ⟨none,by rw[xJ,j0]⟩
 rw[zX,jn]at f2;subst f2;refine⟨x4,?_⟩;have up:upTo 0 gs.length=(zO gs.length).map λk:Nat=>D.int (0+(k:Int)):=rfl;have bd:qZ [some (.pw (gs.map D.int)),↥(.int (a:Int)),↥(.int (b:Int)),none,none]=some (.rt (.sh (.bl true)),[some (.pw ((gs.map λx=>if x=gs[a]then gs[b]else x).map D.int)),↥(.int (a:Int)),↥(.int (b:Int)),↥(.int gs[a]),x4]):=by
  unfold qZ;simp_arith -implicitDefEqProofs [aa,ab,q,q1y,zA];rw[q8a (a:=(gs.length:Int)) ⟨∅,∅⟩];simp_arith -implicitDefEqProofs [yH,up,f1]
 unfold qu mirW;rw[show Y2 5 [.pw (gs.map D.int),.sh (.int (a:Int)),.sh (.int (b:Int))]=[some (.pw (gs.map D.int)),↥(.int (a:Int)),↥(.int (b:Int)),none,none]from rfl,bd]
theorem q4G{n h l x:Int}{bs:List (Int×Int×Int)}(hb:bs.length<=20):-21<=Yf n h l bs x/\Yf n h l bs x<=21:=by
 have a:(rts n bs x).length<=bs.length:=yo _ _;have b:(lfs n bs x).length<=bs.length:=yo _ _;unfold Yf
 split <;> omega
theorem qhX{n a b w:Int}(hn:0<n)(hw:w=1\/w=-1):q02 [.int n,.int a,.int b,.int w]=↥(.int ((b-a)*w%n)):=by
 unfold q02 q4M;have mu:WS (.int (b-a)) (.int w)=↥(.int ((b-a)*w)):=q3S ∅ ∅;have mo:oMod (.int ((b-a)*w)) (.int n)=↥(.int ((b-a)*w%n)):=q0s hn;simp_arith[mu,mo]
theorem qg0{n:Int}(hn:0<n){bs:List (Int×Int×Int)}(hbs:∀b∈bs,b.2.2=1\/b.2.2=-1):
  Y6 (gT 3 (YT (gN 0) (YT (gN 1) (YT (gN 2) Yt)))) Yn q2C (bs.map tri) [none,none,none,↥(.int n)]=some (bs.map λb=>D.int (stN n b)):=by
 have:=q1o (g:=gT 3 (YT (gN 0) (YT (gN 1) (YT (gN 2) Yt)))) (c:=Yn) (f:=q2C) (λw=>∃a b c,w=[a,b,c,↥(.int n)]) (λ_=>true) tri (λb=>D.int (stN n b)) bs (ω:=[none,none,none,↥(.int n)]) ⟨_,_,_,rfl⟩ λb hb w hw=>by
  obtain⟨x,y,z,rfl⟩:=hw;refine⟨_,rfl,⟨_,_,_,rfl⟩,rfl,λ_=>?_⟩;have s:=qhX (a:=b.1) (b:=b.2.1) hn (hbs b hb);show q2C [↥(.int b.1),↥(.int b.2.1),↥(.int b.2.2),↥(.int n)]=_;unfold q2C stN;simp_arith[s]
 rw[this,xB.mpr (λ_ _=>rfl)]
noncomputable def Yu(S:Int)(w:Int->Int)(c:Int):D:=.tup [.int c,.int (S+w c)]
noncomputable def loT(B:List Int):Int:=-1-Wi B
noncomputable def nT(B:List Int):Nat:=(2-WJ B-loT B).toNat
theorem rngT{B:List Int}(h0:B≠[])(hB:∀b∈B,-21<=b/\b<=21):(-22<=loT B/\loT B<=20)/\(-19<=2-WJ B/\2-WJ B<=23)/\nT B<=100/\0<nT B:=by
 have a:=hB _ (q4D h0).1;have b:=hB _ (q4S h0).1;have c:=(q4D h0).2 _ (q4S h0).1;unfold nT loT;omega
theorem qfs{n h l:Int}{bs:List (Int×Int×Int)}(hn0:1<=n)(hn:n<=10^39)(hh:0<=h/\h<n)(hl:0<=l/\l<n)(hb:bs.length<=20)(hbs:∀b∈bs,(0<=b.1/\b.1<n)/\(0<=b.2.1/\b.2.1<n)/\(b.2.2=1\/b.2.2=-1)){P:List Int}(eP:Ya (plc h l (bs.map two))=P){w:Int->Int}(hw:∀c:Int,-200<=c->c<=200->qC [.int h,.int l,.lst (bs.map tri),.lst ((egs n P).map egD),.lst (P.map λx=>D.int (Yf n h l bs x+c))]=↥(.int (w c))):
  q1d [.int n,.int h,.int l,.lst (bs.map tri)]=some (.fr ((zO (nT (P.map (Yf n h l bs)))).map λk:Nat=>Yu (bs.map (stN n)).sum w (loT (P.map (Yf n h l bs))+(k:Int)))):=by
 have re:=qdl hn0 hn hh hl hb hbs;have rl:=qde (c:=0) hn0 hn hh hl hb hbs;have S:=stp h l (bs:=bs.map two) (by rw[zA];omega);rw[eP]at re rl S;have re':q0j [.int n,.int h,.int l,.lst (bs.map tri)]=some (.fr ((egs n P).map egD)):=re;have z0:(P.map λx=>D.int (0+Yf n h l bs x))=(P.map (Yf n h l bs)).map D.int:=by
  rw[zt];exact yN λx _=>by rw[xW];rfl
 rw[z0]at rl;generalize hB:P.map (Yf n h l bs)=B at rl;have B0:B≠[]:=λe=>by rw[e]at hB;exact S.ne (xY.mp hB)
 have Bb:∀b∈B,-21<=b/\b<=21:=λb hb'=>by
  rw[<- hB]at hb';obtain⟨x,_,rfl⟩:=yM.mp hb';exact q4G hb
 obtain⟨r1,r2,r3,_⟩:=rngT B0 Bb;have mx:=qej B0;have mn:=q5H B0;have lo:=qg0 (n:=n) ∅ (bs:=bs) λb h=>(hbs b h).2.2;have sm:=q9M (stN n) bs;have kl:(bs.map tri).length<=1000000:=by rw[zA];omega
 have kB:(B.map D.int).length<=1000000:=by rw[zA,<- hB,zA];have:=S.len;omega
 generalize (bs.map (stN n)).sum=Z at sm;generalize hE:(egs n P).map egD=E at re' hw;obtain⟨ω',e,x8,x9,rfl⟩:=qv (g:=gN 8) (b:=q3L) (λk:Nat=>D.int (loT B+(k:Int))) (zO (nT B))
  (λpre ω=>∃x8 x9:Option W,ω=[↥(.int n),↥(.int h),↥(.int l),↥(.lst (bs.map tri)),↥(.lst E),↥(.lst (B.map D.int)),↥(.int Z),some (.ow (pre.map λk:Nat=>Yu Z w (loT B+(k:Int)))),x8,x9])
  (λpre k post ω hd ⟨x8,x9,hω⟩=>by
   subst hω;refine⟨_,rfl,?_⟩;have hk:k<nT B:=zw.mp (by rw[hd];simp);have pl:pre.length<nT B:=by
    have:=vq yd hd;rw[zX,zE,zG]at this;omega
   generalize hc:loT B+(k:Int)=c;have W:=hw c ∅ ∅;have cm:=qM (i:=0) (f:=q5g) D.int (λx=>D.int (x+c)) B (ω:=[none,↥(.int c)]) (λx _=>by
    unfold q5g;simp_arith[q0M])
   have mm:B.map (λx=>D.int (x+c))=P.map λx=>D.int (Yf n h l bs x+c):=by rw[<- hB,zt];rfl
   rw[mm]at cm;have as:(pre.map λk:Nat=>Yu Z w (loT B+(k:Int))).length<1000000:=by rw[zA];omega
   show XN (q3L [_,_,_,_,_,_,_,_,↥(.int c),_]) _;unfold q3L;simp_arith[Xq kB,inW,WB,cm,W,zAI as];exact⟨_,_,by rw[zc,xi,hc];rfl⟩)
  (ω:=[↥(.int n),↥(.int h),↥(.int l),↥(.lst (bs.map tri)),↥(.lst E),↥(.lst (B.map D.int)),↥(.int Z),some (.ow []),none,none]) ⟨none,none,rfl⟩
 have up:upTo (loT B) (nT B)=(zO (nT B)).map λk:Nat=>D.int (loT B+(k:Int)):=rfl;have rg:rg2I (some [.int (-1-Wi B),.int (2-WJ B)])=some (upTo (loT B) (nT B)):=qfx ⟨by unfold loT at r1;omega,by unfold loT at r1;omega⟩ ⟨∅,∅⟩;unfold q1d q6u;simp_arith[re',rl,Xq kl,inW,WB,lo,sm,mx,mn,rg,up,e]
theorem qds{n h l:Int}{bs:List (Int×Int×Int)}{ks:List Nat}{f:Nat->Int}{Z:Int}{v:Int->Int}(k0:ks≠[])(kl:ks.length<=1000)(ht:q1d [.int n,.int h,.int l,.lst (bs.map tri)]=some (.fr (ks.map λk=>Yu Z v (f k)))):
  q0G [.int n,.int h,.int l,.lst (bs.map tri)]=↥(.int (WJ (ks.map λk=>Z+v (f k)))):=by
 unfold q0G q2w;have kk:(ks.map λk=>Yu Z v (f k)).length<=1000000:=by rw[zA];omega
 have cm:=q1o (g:=gT 2 (YT (gN 0) (YT (gN 1) Yt))) (c:=Yn) (f:=q3Y) (λw=>∃a b,w=[a,b]) (λ_=>true) (λk=>Yu Z v (f k)) (λk=>D.int (Z+v (f k))) ks (ω:=[none,none]) ⟨_,_,rfl⟩ λk _ w hw=>by
  obtain⟨a,b,rfl⟩:=hw;exact⟨_,rfl,⟨_,_,rfl⟩,rfl,λ_=>rfl⟩
 rw[xB.mpr (λ_ _=>rfl)]at cm;have mm:ks.map (λk=>D.int (Z+v (f k)))=(ks.map λk=>Z+v (f k)).map D.int:=by rw[zt];rfl
 rw[mm]at cm;have mn:=q5H (ns:=ks.map λk=>Z+v (f k)) λe=>k0 (xY.mp e);simp_arith[ht,Xq kk,inW,WB,cm,mn]
noncomputable def jnF(φ:Int->Int)(p q:Int):Int->Int:=if φ p=φ q then φ else Yl φ (φ q) (φ p)
theorem Tells.jn{ts:List Int}{T:List (Int×Int)}{φ:Int->Int}(h:Tells ts T φ)(inn:∀e∈T,e.1∈ts/\e.2∈ts){p q:Int}(hp:p∈ts)(hq:q∈ts):Tells ts (T++[(p,q)]) (jnF φ p q):=by
 unfold jnF
 by_cases z:φ p=φ q
 ·rw[vG z];exact h.skip hp hq z
 ·rw[vJ z]
  exact λx hx y hy=>((h.join inn hq hp) x hx y hy).trans ⟨λr=>r.swap,λr=>r.swap⟩
theorem q7O{P:List Int}{φ:Int->Int}{i j:Nat}(hi:i<P.length)(hj:j<P.length)(hl:P.length<=1000):∃x3 x4:Option W,
  qu [.pw ((P.map φ).map D.int),.sh (.int (i:Int)),.sh (.int (j:Int))]=some (.bl (decide (φ (P.getD i 0)≠φ (P.getD j 0))),[some (.pw ((P.map (jnF φ (P.getD i 0) (P.getD j 0))).map D.int)),↥(.int (i:Int)),↥(.int (j:Int)),x3,x4]):=by
 have li:i<(P.map φ).length:=by rw[zA];exact hi
 have lj:j<(P.map φ).length:=by rw[zA];exact hj
 have gi:(P.map φ)[i]=φ (P.getD i 0):=by rw[xE,qm hi]
 have gj:(P.map φ)[j]=φ (P.getD j 0):=by rw[xE,qm hj]
 by_cases z:φ (P.getD i 0)=φ (P.getD j 0)
 ·have e:=qdv li lj (by rw[gi,gj];exact z)
  have jj:jnF φ (P.getD i 0) (P.getD j 0)=φ:=vG z;rw[jj,vS (λq=>q z)];exact⟨_,_,e⟩
 ·obtain⟨x4,e⟩:=qcz li lj (by rw[zA];exact hl) (by rw[gi,gj];exact z)
  have jj:jnF φ (P.getD i 0) (P.getD j 0)=Yl φ (φ (P.getD j 0)) (φ (P.getD i 0)):=vJ z;rw[jj,vW z];have ee:(P.map φ).map (λx=>if x=φ (P.getD i 0)then φ (P.getD j 0)else x)=P.map (Yl φ (φ (P.getD j 0)) (φ (P.getD i 0))):=by rw[zt];rfl
  rw[gi,gj,ee]at e;exact⟨_,x4,e⟩
theorem cw_at{P:List Int}{φ:Int->Int}{i j:Nat}(hi:i<P.length)(hj:j<P.length)(hl:P.length<=1000){g:FW}{a b c d e f x y z k t u:Option W}(hg:g [a,b,c,d,e,f,some (.ow ((P.map φ).map D.int)),x,y,z,k,t,u]=some [.pw ((P.map φ).map D.int),.sh (.int (i:Int)),.sh (.int (j:Int))]):
  WQ [some 6,none,none] qu g [a,b,c,d,e,f,some (.ow ((P.map φ).map D.int)),x,y,z,k,t,u]=some (.bl (decide (φ (P.getD i 0)≠φ (P.getD j 0))),[a,b,c,d,e,f,some (.ow ((P.map (jnF φ (P.getD i 0) (P.getD j 0))).map D.int)),x,y,z,k,t,u]):=by
 obtain⟨x3,x4,m⟩:=q7O (φ:=φ) hi hj hl;generalize P.map (jnF φ (P.getD i 0) (P.getD j 0))=Q at m;generalize decide (φ (P.getD i 0)≠φ (P.getD j 0))=bb at m;simp_arith[hg,m]
noncomputable def ph0(P:List Int)(x:Int):Int:=(((Ww x P).getD 0:Nat):Int)
theorem q9w{P:List Int}(hP:P.Pairwise (· < ·)){i:Nat}(hi:i<P.length):Ww (P.getD i 0) P=some i:=by
 rw[qm hi];obtain⟨j,j1,j2⟩:=q2r (zk hi);obtain⟨hj,ej⟩:=zS.mp j2;rw[j1];rcases xN i j with z|z|z
 ·have:=zq.mp hP _ _ hi hj z;omega
 ·rw[z]
 ·have:=zq.mp hP _ _ hj hi z;omega
theorem qg8{P:List Int}(hP:P.Pairwise (· < ·)):P.map (ph0 P)=ixs P.length:=by
 unfold ixs
 conv=>lhs;rw[q4B P]
 rw[zt];have e:P=(zO P.length).map λk=>P.getD k 0:=q4B P;rw[<- e];refine yN λk hk=>?_;show ph0 P (P.getD k 0)=(k:Int);unfold ph0;rw[q9w hP (zw.mp hk)];rfl
theorem qd9{P:List Int}(hP:P.Pairwise (· < ·)):Tells P [] (ph0 P):=λx hx y hy=>by
 obtain⟨i,hi,rfl⟩:=zv.mp hx;obtain⟨j,hj,rfl⟩:=zv.mp hy;have a:=q9w hP hi;have b:=q9w hP hj;rw[qm hi]at a;rw[qm hj]at b;unfold ph0;rw[a,b]
 constructor
 ·intro q
  have q:i=j:=by have:(i:Int)=(j:Int):=q;omega
  subst q;exact Rch.refl
 ·intro r
  have:∀{u v:Int},Rch [] u v->u=v:=λr=>by
   cases r with
   | refl=>rfl
   | step _ e=>simp at e
  have q:=this r;have:=vq (λv=>Ww v P) q;simp only[a,b]at this;have:=zn this;subst this;rfl
theorem Tells.eqv{ts:List Int}{es es':List (Int×Int)}{f:Int->Int}(h:Tells ts es f)(s:∀e,e∈es↔e∈es'):Tells ts es' f:=λx hx y hy=>(h x hx y hy).trans ⟨λr=>r.mono λe he=>(s e).mp he,λr=>r.mono λe he=>(s e).mpr he⟩
theorem q67{P:List Int}{s:Int}(hs:s∈P):∃i:Nat,i<P.length/\P.getD i 0=s/\idxD (.lst (P.map D.int)) (.int s)=↥(.int (i:Int)):=by
 obtain⟨i,i1,i2⟩:=q2r hs;obtain⟨hi,ei⟩:=zS.mp i2;refine⟨i,hi,by rw[qm hi];exact ei,?_⟩;show (intsOf (P.map D.int)).bind _=_;rw[qH,yD,i1];rfl
theorem qdP{N k:Nat}(hk:k<N):((k:Int)+1)%(N:Int)=((nxN N k:Nat):Int):=by
 unfold nxN
 by_cases z:k+1<N
 ·rw[vG z];exact xq ∅ ∅
 ·rw[vJ z,show (k:Int)+1=(N:Int) by omega,Int.emod_self];rfl
theorem qfv{N k:Nat}(hk:k<N):nxN N k<N:=by unfold nxN;split <;> omega
theorem q6l{P:List Int}{T:List (Int×Int)}(h:∀e∈T,e.1∈P/\e.2∈P){p q:Int}(hp:p∈P)(hq:q∈P):∀e∈T++[(p,q)],e.1∈P/\e.2∈P:=λe he=>by
 rcases zb.mp he with m|m
 ·exact h e m
 ·rw[zT.mp m];exact⟨hp,hq⟩
theorem zAV{P:List Int}{k:Nat}(hk:k<P.length):P.getD k 0∈P:=by rw[qm hk];exact zk _
section
variable{P:List Int}(hl:P.length<=1000){n h l:Int}{bs:List (Int×Int×Int)}{L:List D}
include hl
theorem qe2(he:∀e∈bs,e.1∈P/\e.2.1∈P){T:List (Int×Int)}(hT:∀e∈T,e.1∈P/\e.2∈P){φ:Int->Int}(hφ:Tells P T φ):∃(φ':Int->Int) (x7 x8 x9:Option W),Tells P (T++bs.map two) φ'/\(∀e∈T++bs.map two,e.1∈P/\e.2∈P) /\
  WV (gT 3 (YT (gN 7) (YT (gN 8) (YT (gN 9) Yt)))) q0E (bs.map tri) [↥(.int n),↥(.lst (P.map D.int)),↥(.int h),↥(.int l),↥(.lst (bs.map tri)),↥(.lst L),some (.ow ((P.map φ).map D.int)),none,none,none,none,none,none] =
   some (.nx,[↥(.int n),↥(.lst (P.map D.int)),↥(.int h),↥(.int l),↥(.lst (bs.map tri)),↥(.lst L),some (.ow ((P.map φ').map D.int)),x7,x8,x9,none,none,none]):=by
 obtain⟨ω',e,φ',x7,x8,x9,t,i,rfl⟩:=qv (g:=gT 3 (YT (gN 7) (YT (gN 8) (YT (gN 9) Yt)))) (b:=q0E) tri bs
  (λpre ω=>∃(φ':Int->Int) (x7 x8 x9:Option W),Tells P (T++pre.map two) φ'/\(∀e∈T++pre.map two,e.1∈P/\e.2∈P)/\ω=[↥(.int n),↥(.lst (P.map D.int)),↥(.int h),↥(.int l),↥(.lst (bs.map tri)),↥(.lst L),some (.ow ((P.map φ').map D.int)),x7,x8,x9,none,none,none])
  (λpre b post ω hd ⟨φ',x7,x8,x9,t,inn,hω⟩=>by
   subst hω;refine⟨_,rfl,?_⟩;obtain⟨m1,m2⟩:=he b (by rw[hd];simp);obtain⟨i,hi,ei,di⟩:=q67 m1;obtain⟨j,hj,ej,dj⟩:=q67 m2;show XN (q0E [_,_,_,_,_,_,_,↥(.int b.1),↥(.int b.2.1),↥(.int b.2.2),none,none,none]) _;unfold q0E;rw[q63,cw_at hi hj hl (by simp_arith[q9y,di,dj]),e_dp];rw[ei,ej];refine⟨_,_,_,_,?_,?_,rfl⟩
   ·rw[zc,<- yB];exact t.jn inn m1 m2
   ·rw[zc,<- yB];exact q6l inn m1 m2)
  (ω:=[↥(.int n),↥(.lst (P.map D.int)),↥(.int h),↥(.int l),↥(.lst (bs.map tri)),↥(.lst L),some (.ow ((P.map φ).map D.int)),none,none,none,none,none,none]) ⟨φ,none,none,none,by rw[yh,za];exact hφ,by rw[yh,za];exact hT,rfl⟩
 exact⟨φ',x7,x8,x9,t,i,e⟩
noncomputable def lkN(F:Int->Int)(P:List Int)(ks:List Nat):List (Int×Int):=(ks.filter λk=>F (P.getD k 0) != 0).map λk=>(P.getD k 0,P.getD (nxN P.length k) 0)
theorem qcF{F:Int->Int}{x7 x8 x9:Option W}{T:List (Int×Int)}(hT:∀e∈T,e.1∈P/\e.2∈P){φ:Int->Int}(hφ:Tells P T φ):∃(φ':Int->Int) (x10:Option W),Tells P (T++lkN F P (zO P.length)) φ'/\(∀e∈T++lkN F P (zO P.length),e.1∈P/\e.2∈P) /\
  WV (gN 10) q0l ((zO P.length).map λk:Nat=>D.int (0+(k:Int))) [↥(.int n),↥(.lst (P.map D.int)),↥(.int h),↥(.int l),↥(.lst (bs.map tri)),↥(.lst (P.map λx=>D.int (F x))),some (.ow ((P.map φ).map D.int)),x7,x8,x9,none,none,none] =
   some (.nx,[↥(.int n),↥(.lst (P.map D.int)),↥(.int h),↥(.int l),↥(.lst (bs.map tri)),↥(.lst (P.map λx=>D.int (F x))),some (.ow ((P.map φ').map D.int)),x7,x8,x9,x10,none,none]):=by
 obtain⟨ω',e,φ',x10,t,i,rfl⟩:=qv (g:=gN 10) (b:=q0l) (λk:Nat=>D.int (0+(k:Int))) (zO P.length)
  (λpre ω=>∃(φ':Int->Int) (x10:Option W),Tells P (T++lkN F P pre) φ'/\(∀e∈T++lkN F P pre,e.1∈P/\e.2∈P)/\ω=[↥(.int n),↥(.lst (P.map D.int)),↥(.int h),↥(.int l),↥(.lst (bs.map tri)),↥(.lst (P.map λx=>D.int (F x))),some (.ow ((P.map φ').map D.int)),x7,x8,x9,x10,none,none])
  (λpre k post ω hd ⟨φ',x10,t,inn,hω⟩=>by
   subst hω;have hk:k<P.length:=zw.mp (by rw[hd];simp);have z:(0+(k:Int))=(k:Int):=∅
   refine⟨_,rfl,?_⟩;rw[z];have hx:=qfv hk;have ak:atI (P.map λx=>D.int (F x)) (k:Int)=some (.int (F (P.getD k 0))):=q1E (by rw[zK,zB hk,qm hk];rfl);have mo:oMod (.int ((k:Int)+1)) (.int (P.length:Int))=↥(.int ((nxN P.length k:Nat):Int)):=by rw[<- qdP hk];exact q0s ∅
   have ap:lkN F P (pre++[k])=lkN F P pre++(if (F (P.getD k 0) != 0)=true then [(P.getD k 0,P.getD (nxN P.length k) 0)]else []):=by
    unfold lkN;rw[xg,zc,yE,wt]
    split <;> rfl
   show XN (q0l [_,_,_,_,_,_,_,_,_,_,↥(.int (k:Int)),none,none]) _
   by_cases y:F (P.getD k 0)=0
   ·have q:(F (P.getD k 0)==0)=true:=by simpa using y
    have q':(F (P.getD k 0) != 0)=false:=by simpa using y
    rw[q',vJ (by decide),za]at ap;unfold q0l;simp_arith[ak,q];exact⟨_,_,by rw[ap];exact t,by rw[ap];exact inn,rfl⟩
   ·have q:(F (P.getD k 0)==0)=false:=by simpa using y
    have q':(F (P.getD k 0) != 0)=true:=by simpa using y
    rw[q',vG rfl]at ap;have cw:=cw_at (φ:=φ') hk hx hl (g:=wPw 6 (wSh (dOf (YJ 10)) (wSh (dOf (YO oMod (vOf (YO Yw (vOf (YJ 10)) (fC (.int 1)))) (vOf (Yv Xo (YI (vOf (YJ 1)) YS))))) zAo))) (a:=↥(.int n)) (b:=↥(.lst (P.map D.int))) (c:=↥(.int h)) (d:=↥(.int l)) (e:=↥(.lst (bs.map tri))) (f:=↥(.lst (P.map λx=>D.int (F x)))) (x:=x7) (y:=x8) (z:=x9) (k:=↥(.int (k:Int))) (t:=none) (u:=none) (by simp_arith[mo]);have tt:tOf (YO (oEq true) (vOf (YO oIx (vOf (YJ 5)) (vOf (YJ 10)))) (fC (.int 0))) [↥(.int n),↥(.lst (P.map D.int)),↥(.int h),↥(.int l),↥(.lst (bs.map tri)),↥(.lst (P.map λx=>D.int (F x))),some (.ow ((P.map φ').map D.int)),x7,x8,x9,↥(.int (k:Int)),none,none]=some true:=by simp_arith[ak,q]
    unfold q0l;rw[e_if,tt];show XN (Xy _ _ _ _) _;rw[q63,cw,e_dp];exact⟨_,_,by rw[ap,<- yB];exact t.jn inn (zAV hk) (zAV hx),by rw[ap,<- yB];exact q6l inn (zAV hk) (zAV hx),rfl⟩)
  (ω:=[↥(.int n),↥(.lst (P.map D.int)),↥(.int h),↥(.int l),↥(.lst (bs.map tri)),↥(.lst (P.map λx=>D.int (F x))),some (.ow ((P.map φ).map D.int)),x7,x8,x9,none,none,none]) ⟨φ,none,by show Tells P (T++[]) φ;rw[za];exact hφ,by show ∀e∈T++[],_;rw[za];exact hT,rfl⟩
 exact⟨φ',x10,t,i,e⟩
theorem qeB{x5 x7 x8 x9 x10:Option W}{φ:Int->Int}{ks:List Int}(hk:∀k∈ks,0<=k/\k<(P.length:Int)):∃(φ':Int->Int) (y10 y12:Option W),
  WV (gT 2 (YT (gN 12) (YT (gN 10) Yt))) q0B (ks.map λk=>pr2 (lgI n P k,k)) [↥(.int n),↥(.lst (P.map D.int)),↥(.int h),↥(.int l),↥(.lst (bs.map tri)),x5,some (.ow ((P.map φ).map D.int)),x7,x8,x9,x10,↥(.int 0),none] =
   some (.nx,[↥(.int n),↥(.lst (P.map D.int)),↥(.int h),↥(.int l),↥(.lst (bs.map tri)),x5,some (.ow ((P.map φ').map D.int)),x7,x8,x9,y10,↥(.int ((ks.map (egI n P)).foldl kr2 (φ,0)).2),y12]):=by
 obtain⟨ω',e,y10,y12,rfl⟩:=qv (g:=gT 2 (YT (gN 12) (YT (gN 10) Yt))) (b:=q0B) (λk=>pr2 (lgI n P k,k)) ks
  (λpre ω=>∃(y10 y12:Option W),ω=[↥(.int n),↥(.lst (P.map D.int)),↥(.int h),↥(.int l),↥(.lst (bs.map tri)),x5,some (.ow ((P.map ((pre.map (egI n P)).foldl kr2 (φ,0)).1).map D.int)),x7,x8,x9,y10,↥(.int ((pre.map (egI n P)).foldl kr2 (φ,0)).2),y12])
  (λpre k post ω hd ⟨y10,y12,hω⟩=>by
   subst hω;refine⟨_,rfl,?_⟩;have hk':=hk k (by rw[hd];simp);obtain⟨i,rfl⟩:∃i:Nat,k=(i:Int):=⟨k.toNat,∅⟩;have hi:i<P.length:=∅
   have hx:=qfv hi;have mo:oMod (.int ((i:Int)+1)) (.int (P.length:Int))=↥(.int ((nxN P.length i:Nat):Int)):=by rw[<- qdP hi];exact q0s ∅
   have fo:((pre++[(i:Int)]).map (egI n P)).foldl kr2 (φ,0)=kr2 ((pre.map (egI n P)).foldl kr2 (φ,0)) (egI n P (i:Int)):=by rw[zc,xM];rfl
   generalize (pre.map (egI n P)).foldl kr2 (φ,0)=s at fo;obtain⟨ψ,c⟩:=s;have cw:=cw_at (φ:=ψ) hi hx hl (g:=wPw 6 (wSh (dOf (YJ 10)) (wSh (dOf (YO oMod (vOf (YO Yw (vOf (YJ 10)) (fC (.int 1)))) (vOf (Yv Xo (YI (vOf (YJ 1)) YS))))) zAo))) (a:=↥(.int n)) (b:=↥(.lst (P.map D.int))) (c:=↥(.int h)) (d:=↥(.int l)) (e:=↥(.lst (bs.map tri))) (f:=x5) (x:=x7) (y:=x8) (z:=x9) (k:=↥(.int (i:Int))) (t:=↥(.int c)) (u:=↥(.int (lgI n P (i:Int)))) (by simp_arith[mo]);have eg:egI n P (i:Int)=(P.getD i 0,P.getD (nxN P.length i) 0,lgI n P (i:Int)):=rfl;show XN (q0B [_,_,_,_,_,_,_,_,_,_,↥(.int (i:Int)),↥(.int c),↥(.int (lgI n P (i:Int)))]) _;unfold q0B sIfM;rw[cw,yD]
   by_cases y:ψ (P.getD i 0)=ψ (P.getD (nxN P.length i) 0)
   ·have kr:kr2 (ψ,c) (egI n P (i:Int))=(ψ,c):=vG y
    have jn:jnF ψ (P.getD i 0) (P.getD (nxN P.length i) 0)=ψ:=vG y;rw[vS (λq=>q y),jn];simp_arith[q0M];exact⟨_,_,by rw[fo,kr]⟩
   ·have kr:kr2 (ψ,c) (egI n P (i:Int))=(Yl ψ (ψ (P.getD (nxN P.length i) 0)) (ψ (P.getD i 0)),c+lgI n P (i:Int)):=vJ y
    have jn:jnF ψ (P.getD i 0) (P.getD (nxN P.length i) 0)=Yl ψ (ψ (P.getD (nxN P.length i) 0)) (ψ (P.getD i 0)):=vJ y;rw[vW y,jn];simp_arith[q0M];exact⟨_,_,by rw[fo,kr]⟩)
  (ω:=[↥(.int n),↥(.lst (P.map D.int)),↥(.int h),↥(.int l),↥(.lst (bs.map tri)),x5,some (.ow ((P.map φ).map D.int)),x7,x8,x9,x10,↥(.int 0),none]) ⟨x10,none,rfl⟩
 exact⟨_,y10,y12,e⟩
end
theorem qg5{P:List Int}(hP:P.Pairwise (· < ·)){n:Int}(hn:∀p∈P,0<=p/\p<n)(F:Int->Int):lkT (egs n P) (P.map F)=lkN F P (zO P.length):=by
 have e:P.map F=(zO P.length).map λk=>F (P.getD k 0):=by
  conv=>lhs;rw[q4B P]
  rw[zt];rfl
 unfold lkT lkN;rw[q9n hP hn,e,q5x,List.filter_map,zt];rfl
theorem qfT{P:List Int}(hP:P.Pairwise (· < ·))(hl:P.length<64){n h l:Int}(hn:∀p∈P,0<=p/\p<n){bs:List (Int×Int×Int)}(he:∀e∈bs,e.1∈P/\e.2.1∈P)(hh:h∈P)(hl':l∈P){F f:Int->Int}(hf:Tells P (bs.map two++[(h,l)]++lkT (egs n P) (P.map F)) f):
  q0t [.int n,.lst (P.map D.int),.int h,.int l,.lst (bs.map tri),.lst (P.map λx=>D.int (F x))]=↥(.int ((XY f (YV Ye (egs n P))).2.map Ye).sum):=by
 have l1000:P.length<=1000:=∅
 obtain⟨i,hi,ei,di⟩:=q67 hh;obtain⟨j,hj,ej,dj⟩:=q67 hl';have t0:=(qd9 hP).jn (by simp) hh hl';have in0:∀e∈[]++[(h,l)],e.1∈P/\e.2∈P:=q6l (by simp) hh hl';rw[yQ]at t0 in0;obtain⟨φ1,x7,x8,x9,t1,in1,e1⟩:=qe2 l1000 (n:=n) (h:=h) (l:=l) (L:=P.map λx=>D.int (F x)) he in0 t0;obtain⟨φ2,x10,t2,in2,e2⟩:=qcF l1000 (n:=n) (h:=h) (l:=l) (bs:=bs) (F:=F) (x7:=x7) (x8:=x8) (x9:=x9) in1 t1;obtain⟨φ3,y10,y12,e3⟩:=qeB l1000 (n:=n) (h:=h) (l:=l) (bs:=bs) (x5:=↥(.lst (P.map λx=>D.int (F x)))) (x7:=x7) (x8:=x8) (x9:=x9) (x10:=x10) (φ:=φ2) (ks:=YV (lgI n P) (ixs P.length)) (λk hk=>qgi.mp (qY.mem_iff.mp hk));have f2:Tells P ([(h,l)]++bs.map two++lkN F P (zO P.length)) f:=Tells.eqv hf λe=>by
  rw[qg5 hP hn];simp only[zb,or_comm,or_left_comm,or_assoc]
 have ts:=qdJ hP hn f2 t2 in2;rw[ts]at e3;have up:upTo 0 P.length=(zO P.length).map λk:Nat=>D.int (0+(k:Int)):=rfl;have ul:((zO P.length).map λk:Nat=>D.int (0+(k:Int))).length<=1000000:=by rw[zA,zX];omega
 have rg:=q8a (a:=(P.length:Int)) ⟨∅,∅⟩;rw[yH,up]at rg;have cm1:=qM (i:=0) (f:=q4o) (λk:Nat=>D.int (0+(k:Int))) (λk:Nat=>D.int (k:Int)) (zO P.length) (ω:=[none]) (λk hk=>by
  show some (D.int (0+(k:Int)))=_;rw[xW])
 have m1:(zO P.length).map (λk:Nat=>D.int (k:Int))=(P.map (ph0 P)).map D.int:=by
  rw[qg8 hP];unfold ixs;rw[zt];rfl
 rw[m1]at cm1;have cm2:=qM (i:=0) (f:=q2P) (λk:Nat=>D.int (0+(k:Int))) (λk:Nat=>pr2 (lgI n P (k:Int),(k:Int))) (zO P.length) (ω:=[none,↥(.int n),↥(.lst (P.map D.int))]) (λk hk=>by
  have hk:=zw.mp hk;have z:(0+(k:Int))=(k:Int):=∅
  have ll:=q8V (n:=n) hk l1000;unfold q2P;simp_arith -implicitDefEqProofs [z,ll];rfl)
 have m2:(zO P.length).map (λk:Nat=>pr2 (lgI n P (k:Int),(k:Int)))=((ixs P.length).map λk=>(lgI n P k,k)).map pr2:=by
  unfold ixs;rw[zt,zt];rfl
 rw[m2]at cm2;have so:=qia (qhc n P) (by rw[qgy];exact hl);rw[qf7]at so;obtain⟨z3,z4,jm⟩:=q7O (φ:=ph0 P) hi hj l1000;rw[ei,ej]at jm;generalize decide (ph0 P h≠ph0 P l)=bb at jm;have mm:(YV (lgI n P) (ixs P.length)).map (λk=>pr2 (lgI n P k,k))=((YV (lgI n P) (ixs P.length)).map λk=>(lgI n P k,k)).map pr2:=by rw[zt];rfl
 rw[mm]at e3;unfold q0t q3n;simp_arith -implicitDefEqProofs [rg,Xq ul,inW,WB,cm1,q9y,di,dj,jm,e1,e2,qeV,cm2,so,e3]
theorem qcJ{P:List Int}(hP:P.Pairwise (· < ·))(hl:P.length<64){n h l c k0:Int}(hn:∀p∈P,0<=p/\p<n){bs:List (Int×Int×Int)}(hb:bs.length<=20)(he:∀e∈bs,e.1∈P/\e.2.1∈P/\(e.2.2=1\/e.2.2=-1)){F:Int->Int}(hF:∀x,-221<=F x/\F x<=221)(ll:qA [.lst (P.map D.int),.int h,.int l,.lst (bs.map tri),.int c]=some (.fr (P.map λx=>D.int (F x))))(ti:q0t [.int n,.lst (P.map D.int),.int h,.int l,.lst (bs.map tri),.lst (P.map λx=>D.int (F x))]=↥(.int k0)):
  qJ [.int n,.lst (P.map D.int),.int h,.int l,.lst (bs.map tri),.int c]=↥(.int (2*k0+((zO P.length).map λk=>lgN n P k*(((rts n bs (P.getD k 0)).length:Int)+((lfs n bs (P.getD k 0)).length:Int)+Xs (F (P.getD k 0)))).sum)):=by
 have l1000:P.length<=1000:=∅
 obtain⟨cs,c1,c2,c3⟩:=q7Q hP l1000 hn hb he;generalize hG:(λk=>lgN n P k*(((rts n bs (P.getD k 0)).length:Int)+((lfs n bs (P.getD k 0)).length:Int)+Xs (F (P.getD k 0))))=G;obtain⟨ω',e,x9,rfl⟩:=qv (g:=gN 9) (b:=q0J) (λk:Nat=>D.int (0+(k:Int))) (zO P.length)
  (λpre ω=>∃x9:Option W,ω=[↥(.int n),↥(.lst (P.map D.int)),↥(.int h),↥(.int l),↥(.lst (bs.map tri)),↥(.int c),↥(.lst (P.map λx=>D.int (F x))),↥(.lst (cs.map Wm)),↥(.int (2*k0+(pre.map G).sum)),x9])
  (λpre k post ω hd ⟨x9,hω⟩=>by
   subst hω;have hk:k<P.length:=zw.mp (by rw[hd];simp);have z:(0+(k:Int))=(k:Int):=∅
   refine⟨_,rfl,?_⟩;rw[z];have gk:=c3 k hk;have at_:atI (cs.map Wm) (k:Int)=some (Wm (((rts n bs (P.getD k 0)).length:Int),((lfs n bs (P.getD k 0)).length:Int))):=q1E (by rw[zK,gk];rfl);have al:atI (P.map λx=>D.int (F x)) (k:Int)=some (.int (F (P.getD k 0))):=q1E (by rw[zK,zB hk,qm hk];rfl);have rd:∀a b:Int,Wm (a,b)=.lst [.int a,.int b]:=λ_ _=>rfl;have lo:=q8V (n:=n) hk l1000;have ab:bAbs [.int (F (P.getD k 0))]=↥(.int (Xs (F (P.getD k 0)))):=rfl;have r1:(rts n bs (P.getD k 0)).length<=bs.length:=yo _ _;have r2:(lfs n bs (P.getD k 0)).length<=bs.length:=yo _ _;have r3:Xs (F (P.getD k 0))<=221/\0<=Xs (F (P.getD k 0)):=by have:=hF (P.getD k 0);unfold Xs;split <;> omega
   have mu:WS (.int (lgN n P k)) (.int (((rts n bs (P.getD k 0)).length:Int)+((lfs n bs (P.getD k 0)).length:Int)+Xs (F (P.getD k 0))))=↥(.int (G k)):=by
    rw[<- hG];exact q3S ∅ ∅
   show XN (q0J [_,_,_,_,_,_,_,_,_,↥(.int (k:Int))]) _;unfold q0J;simp_arith -implicitDefEqProofs [at_,al,rd,lo,ab,mu];exact⟨_,by rw[zc,xy,xi,List.sum_singleton,Int.add_assoc]⟩)
  (ω:=[↥(.int n),↥(.lst (P.map D.int)),↥(.int h),↥(.int l),↥(.lst (bs.map tri)),↥(.int c),↥(.lst (P.map λx=>D.int (F x))),↥(.lst (cs.map Wm)),↥(.int (2*k0)),none]) ⟨none,by rw[yh,List.sum_nil,Int.add_zero]⟩
 have up:upTo 0 P.length=(zO P.length).map λk:Nat=>D.int (0+(k:Int)):=rfl;have rg:=q8a (a:=(P.length:Int)) ⟨∅,∅⟩;rw[yH,up]at rg;have m2:WS (.int 2) (.int k0)=↥(.int (2*k0)):=q8U (by decide) (by decide);unfold qJ q28;simp_arith -implicitDefEqProofs [ll,c1,ti,m2,rg,e]
theorem qcd{P:List Int}(hP:P.Pairwise (· < ·))(hl:P.length<64){n h l c:Int}(hn:∀p∈P,0<=p/\p<n)(hc:-200<=c/\c<=200){bs:List (Int×Int×Int)}(hb:bs.length<=20)(he:∀e∈bs,e.1∈P/\e.2.1∈P/\(e.2.2=1\/e.2.2=-1))(hh:h∈P)(hl':l∈P){f:Int->Int}(hf:Tells P (bs.map two++[(h,l)]++lkT (egs n P) (P.map λx=>Yf n h l bs x+c)) f):
  qJ [.int n,.lst (P.map D.int),.int h,.int l,.lst (bs.map tri),.int c]=↥(.int ((bs.map (stN n)).sum+ewN (egs n P) (P.map λx=>Yf n h l bs x+c) (XY f (YV Ye (egs n P))).2)):=by
 have ll:=q7P (c:=c) (h:=h) (l:=l) hP ∅ hn hb he hh hl';have cc:(P.map λx=>D.int (c+Yf n h l bs x))=P.map λx=>D.int (Yf n h l bs x+c):=yN λx _=>by rw[Int.add_comm]
 rw[cc]at ll;rw[qft hP hn he (λx=>Yf n h l bs x+c)];exact qcJ hP hl hn hb he (F:=λx=>Yf n h l bs x+c) (λx=>by have:=q4G (n:=n) (h:=h) (l:=l) (x:=x) hb;omega) ll (qfT hP hl hn (λe h=>⟨(he e h).1,(he e h).2.1⟩) hh hl' hf)
theorem qeE{Z:Int}{w:Int->Int}{f:Nat->Int}(ks:List Nat):shp (.lst (ks.map λk=>Yu Z w (f k)))=true:=qgm 2 (by decide) λd hd=>by
 obtain⟨p,_,rfl⟩:=yM.mp hd;exact⟨rfl,by show 1<=2;decide⟩
theorem qcm{n h l:Int}{bs:List (Int×Int×Int)}{P:List Int}(hP:P.Pairwise (· < ·))(hl:P.length<64)(hn:∀p∈P,0<=p/\p<n)(hb:bs.length<=20)(he:∀e∈bs,e.1∈P/\e.2.1∈P/\(e.2.2=1\/e.2.2=-1))(hh:h∈P)(hl':l∈P):∃w:Int->Int,∀c:Int,-200<=c->c<=200 ->
  qC [.int h,.int l,.lst (bs.map tri),.lst ((egs n P).map egD),.lst (P.map λx=>D.int (Yf n h l bs x+c))]=↥(.int (w c)) /\
  qJ [.int n,.lst (P.map D.int),.int h,.int l,.lst (bs.map tri),.int c]=↥(.int ((bs.map (stN n)).sum+w c)):=by
 have key:∀c:Int,∃w:Int,-200<=c->c<=200 ->
   qC [.int h,.int l,.lst (bs.map tri),.lst ((egs n P).map egD),.lst (P.map λx=>D.int (Yf n h l bs x+c))]=↥(.int w) /\
   qJ [.int n,.lst (P.map D.int),.int h,.int l,.lst (bs.map tri),.int c]=↥(.int ((bs.map (stN n)).sum+w)):=λc=>by
  by_cases hc:-200<=c/\c<=200
  ·have el:(egs n P).length=P.length:=by have:=vq yd (q4J n P);rwa [zA]at this
   have ok:Ok ((egs n P).map λe=>e.1) (bs.map two++[(h,l)]++lkT (egs n P) (P.map λx=>Yf n h l bs x+c)):=by
    rw[q4J];refine⟨hP.imp λq=>∅,λe m=>?_,hl,?_⟩
    ·rcases zb.mp m with m|m
     ·rcases zb.mp m with m|m
      ·obtain⟨b,hb',rfl⟩:=yM.mp m
       exact⟨(he b hb').1,(he b hb').2.1⟩
      ·rw[zT.mp m];exact⟨hh,hl'⟩
     ·unfold lkT at m
      obtain⟨q,hq,rfl⟩:=yM.mp m;exact q9G q.1 (xb (xG.mp hq).1).1
    ·have a:(lkT (egs n P) (P.map λx=>Yf n h l bs x+c)).length<=P.length:=by
      unfold lkT;rw[zA];refine yA (yo _ _) ?_;rw[yR,el];exact xz _ _
     rw[zE,zE,zA];show bs.length+1+_<=1000;omega
   obtain⟨f,f1,f2⟩:=qbF hb (by rw[el];exact hl) (λx hx=>by
    obtain⟨y,_,rfl⟩:=yM.mp hx;have:=q4G (n:=n) (h:=h) (l:=l) (x:=y) hb;omega) ok (λe m=>by rw[q4J];exact q9G e m)
   rw[q4J]at f1;rw[zt]at f2;exact⟨_,λ_ _=>⟨f2,qcd hP hl hn hc hb he hh hl' f1⟩⟩
  ·exact⟨0,λa b=>vN ⟨a,b⟩ hc⟩
 exact⟨λc=>(key c).choose,λc=>(key c).choose_spec⟩
theorem qeL(ns:List Int)(hl:ns.length<=63):q4z [.scr ns]=↥(.bl true):=by
 obtain⟨n,s1,s2,s3⟩:=qgb (ns:=ns);obtain⟨ps,p1,p2,p3⟩:=qeO (ns:=ns) s2;obtain⟨bs,b1,b2,b3⟩:=qee (ns:=ns) p2 hl;have hbs:∀b∈bs,(0<=b.1/\b.1<n)/\(0<=b.2.1/\b.2.1<n)/\(b.2.2=1\/b.2.2=-1):=λb hb=>⟨p3 _ (b2 b hb).1,p3 _ (b2 b hb).2.1,(b2 b hb).2.2⟩
 match ps,p2 with
 | h::l::r,p2=>
  have i0:atI ((h::l::r).map D.int) 0=some (.int h):=by
   rw[q0W (by decide) (by rw[zA,zG];omega)];rfl
  have i1:atI ((h::l::r).map D.int) 1=some (.int l):=by
   rw[q0W (by decide) (by rw[zA,zG,zG];omega)];rfl
  have hh:=p3 h (by simp);have hl2:=p3 l (by simp);have hb20:bs.length<=20:=∅
  have S:=stp h l (bs:=bs.map two) (by rw[zA];omega);have st:=qdt (h:=h) (l:=l) hb20;have inP:∀x,x∈Ya (plc h l (bs.map two))↔(x=h\/x=l\/x∈flat (bs.map two)):=λx=>by
   rw[q2W];unfold plc;rw[zF,zF]
  have hnP:∀p∈Ya (plc h l (bs.map two)),0<=p/\p<n:=λp hp=>by
   rcases (inP p).mp hp with z|z|z
   ·rw[z];exact hh
   ·rw[z];exact hl2
   ·obtain⟨b,hb,y|y⟩:=qgz z
    ·rw[y];exact(hbs b hb).1
    ·rw[y];exact(hbs b hb).2.1
  have heP:∀e∈bs,e.1∈Ya (plc h l (bs.map two))/\e.2.1∈Ya (plc h l (bs.map two))/\(e.2.2=1\/e.2.2=-1):=λe he=>⟨(inP _).mpr (.inr (.inr (qaL he).1)),(inP _).mpr (.inr (.inr (qaL he).2)),(hbs e he).2.2⟩;have hhP:=(inP h).mpr (.inl rfl);have hlP:=(inP l).mpr (.inr (.inl rfl));have lP:(Ya (plc h l (bs.map two))).length<64:=by
   have a:(Ya (plc h l (bs.map two))).length<=(plc h l (bs.map two)).length:=q33 _;have b:(plc h l (bs.map two)).length=2*bs.length+2:=by show (flat (bs.map two)).length+1+1=_;rw[q1O,zA]
   omega
  have LL:=q7P (c:=0) S.rise S.len hnP hb20 heP hhP hlP;obtain⟨w,hw⟩:=qcm S.rise lP hnP hb20 heP hhP hlP;have TU:=qfs s2 s3 hh hl2 hb20 hbs rfl (w:=w) λc h1 h2=>(hw c h1 h2).1;have WE:=λc h1 h2=>(hw c h1 h2).2;clear hw inP hnP heP hhP hlP;have bl:∀ds:List D,zAe [.lst ds]=some (.fr ds):=λ_=>rfl;generalize hr:(h::l::r).map D.int=R at p1 i0 i1 b1;generalize Ya (plc h l (bs.map two))=P at st LL TU WE S lP;have z0:(P.map λx=>D.int (0+Yf n h l bs x))=(P.map (Yf n h l bs)).map D.int:=by
   rw[zt];exact yN λx _=>by rw[xW];rfl
  rw[z0]at LL;generalize hB:P.map (Yf n h l bs)=B at LL TU;have B0:B≠[]:=λe=>by rw[e]at hB;exact S.ne (xY.mp hB)
  have Bb:∀b∈B,-21<=b/\b<=21:=λb hb'=>by
   rw[<- hB]at hb';obtain⟨x,_,rfl⟩:=yM.mp hb';exact q4G hb20
  obtain⟨r1,r2,r3,r4⟩:=rngT B0 Bb;have mx:=qej B0;have mn:=q5H B0;generalize (bs.map (stN n)).sum=Z at TU WE;have k0:zO (nT B)≠[]:=λe=>by have:=vq yd e;rw[zX]at this;exact vN this (by show ¬nT B=0;omega)
  have RL:=qds (f:=λk:Nat=>loT B+(k:Int)) k0 (by rw[zX];omega) TU;have eq:=qfo (qeE (Z:=Z) (w:=w) (f:=λk:Nat=>loT B+(k:Int)) (zO (nT B)));have eq2:∀x:Int,oEq false (.int x) (.int x)=↥(.bl true):=λx=>by rw[q5U,beq_self_eq_true]
  have wh:∀x:Int,q0i [.int x]=↥(.bl true):=λ_=>rfl;have kk:((zO (nT B)).map λk:Nat=>Yu Z w (loT B+(k:Int))).length<=1000000:=by rw[zA,zX];omega
  have cm:=qM (i:=0) (f:=qd7) (λk:Nat=>Yu Z w (loT B+(k:Int))) (λk:Nat=>D.int (Z+w (loT B+(k:Int)))) (zO (nT B)) (ω:=[none]) (λk _=>rfl);have mm:(zO (nT B)).map (λk:Nat=>D.int (Z+w (loT B+(k:Int))))=((zO (nT B)).map λk:Nat=>Z+w (loT B+(k:Int))).map D.int:=by rw[zt];rfl
  rw[mm]at cm;have mi:=q5H (ns:=(zO (nT B)).map λk:Nat=>Z+w (loT B+(k:Int))) λe=>k0 (xY.mp e);obtain⟨ω1,e1,x7,rfl⟩:=qv (g:=gN 7) (b:=q8n) (λk:Nat=>Yu Z w (loT B+(k:Int))) (zO (nT B))
   (λpre ω=>∃x7:Option W,ω=[↥(.scr ns),↥(.int n),↥(.lst R),↥(.lst (bs.map tri)),↥(.int h),↥(.int l),↥(.lst ((zO (nT B)).map λk:Nat=>Yu Z w (loT B+(k:Int)))),x7,none,none,none,none,none])
   (λpre k post ω hd ⟨x7,hω⟩=>by
    subst hω;refine⟨_,rfl,?_⟩;generalize (zO (nT B)).map (λk:Nat=>Yu Z w (loT B+(k:Int)))=X;have td:Yu Z w (loT B+(k:Int))=.tup [.int (loT B+(k:Int)),.int (Z+w (loT B+(k:Int)))]:=rfl;rw[td];generalize loT B+(k:Int)=c;generalize Z+w c=y;unfold q8n;simp_arith -implicitDefEqProofs [wh];exact⟨_,rfl⟩)
   (ω:=[↥(.scr ns),↥(.int n),↥(.lst R),↥(.lst (bs.map tri)),↥(.int h),↥(.int l),↥(.lst ((zO (nT B)).map λk:Nat=>Yu Z w (loT B+(k:Int)))),none,none,none,none,none,none]) ⟨none,rfl⟩
  obtain⟨ω2,e2,x11,rfl⟩:=qv (g:=gN 11) (b:=q5G) (λk:Nat=>D.int (loT B+(k:Int))) (zO (nT B))
   (λpre ω=>∃x11:Option W,ω=[↥(.scr ns),↥(.int n),↥(.lst R),↥(.lst (bs.map tri)),↥(.int h),↥(.int l),↥(.lst ((zO (nT B)).map λk:Nat=>Yu Z w (loT B+(k:Int)))),x7,↥(.lst (P.map D.int)),↥(.lst (B.map D.int)),some (.ow (pre.map λk:Nat=>Yu Z w (loT B+(k:Int)))),x11,none])
   (λpre k post ω hd ⟨x11,hω⟩=>by
    subst hω;have hk:k<nT B:=zw.mp (by rw[hd];simp);have pl:pre.length<nT B:=by
     have:=vq yd hd;rw[zX,zE,zG]at this;omega
    refine⟨_,rfl,?_⟩;generalize (zO (nT B)).map (λk:Nat=>Yu Z w (loT B+(k:Int)))=X;generalize hc:loT B+(k:Int)=c;have W:=WE c ∅ ∅;have as:(pre.map λk:Nat=>Yu Z w (loT B+(k:Int))).length<1000000:=by rw[zA];omega
    show XN (q5G [_,_,_,_,_,_,_,_,_,_,_,↥(.int c),_]) _;unfold q5G;simp_arith -implicitDefEqProofs [W,zAI as];exact⟨_,by rw[zc,xi,hc];rfl⟩)
   (ω:=[↥(.scr ns),↥(.int n),↥(.lst R),↥(.lst (bs.map tri)),↥(.int h),↥(.int l),↥(.lst ((zO (nT B)).map λk:Nat=>Yu Z w (loT B+(k:Int)))),x7,↥(.lst (P.map D.int)),↥(.lst (B.map D.int)),some (.ow []),none,none]) ⟨none,rfl⟩
  have up:upTo (loT B) (nT B)=(zO (nT B)).map λk:Nat=>D.int (loT B+(k:Int)):=rfl;have rg:rg2I (some [.int (-1-Wi B),.int (2-WJ B)])=some (upTo (loT B) (nT B)):=qfx ⟨by unfold loT at r1;omega,by unfold loT at r1;omega⟩ ⟨∅,∅⟩;rw[up]at rg;generalize (zO (nT B)).map (λk:Nat=>Yu Z w (loT B+(k:Int)))=X at TU RL eq kk cm e1 e2;generalize (zO (nT B)).map (λk:Nat=>D.int (loT B+(k:Int)))=Y at e2 rg;generalize (zO (nT B)).map (λk:Nat=>Z+w (loT B+(k:Int)))=V at RL cm mi;unfold q4z qbX;simp_arith -implicitDefEqProofs [s1,p1,b1,i0,i1,bl,TU,e1,st,LL,mx,mn,rg,e2,RL,eq,wh,Xq kk,inW,WB,cm,mi,eq2]
theorem qgY{l:wk}{w:vU}{K:zC}{h:vY}{mg:Str->Option vB}{fa:vF}(X:K.In h)(G:h.Ns vQ mg)(hfa:mg "law" = some (.ref fa)){f0:vF}{f1:vF}{f2:vF}{f3:vF}{f4:vF}{f5:vF}{f6:vF}{f7:vF}{f8:vF}{f9:vF}{f10:vF}{f11:vF}{f12:vF}{f13:vF}{f14:vF}{f15:vF}{f16:vF}{f17:vF}{f18:vF}{f19:vF}{f20:vF}{f21:vF}{f22:vF}{f23:vF}{f24:vF}{f25:vF}{f26:vF}{f27:vF}{f28:vF}{f29:vF}{f30:vF}{f31:vF}{f32:vF}{f33:vF}{f34:vF}{f35:vF}{f36:vF}{f37:vF}{f38:vF}{f39:vF}{f40:vF}{f41:vF}{f42:vF}(D0:Fd K "is_whole" q3V f0)(D1:Fd K "is_box" q5w f1)(D2:Fd K "is_errand" q37 f2)(D3:Fd K "check_errand" q1J f3)(D4:Fd K "stops" q6D f4)(D5:Fd K "neighbours" q2G f5)(D6:Fd K "group_of" q3J f6)(D7:Fd K "groups" q5k f7)(D8:Fd K "cost" q96 f8)(D9:Fd K "group_numbers" q1q f9)(D10:Fd K "with_two_joined" q0O f10)(D11:Fd K "forest" q5c f11)(D12:Fd K "is_way" q5u f12)(D13:Fd K "has_place" q3p f13)(D14:Fd K "is_ring_box" q21 f14)(D15:Fd K "is_ring" q4d f15)(D16:Fd K "check_ring" q2N f16)(D17:Fd K "without_ways" q1F f17)(D18:Fd K "steps" q6j f18)(D19:Fd K "ring_gaps" q3h f19)(D20:Fd K "gap_length" q2z f20)(D21:Fd K "ring_edges" q2s f21)(D22:Fd K "goes_over" q3j f22)(D23:Fd K "bare_lack" q36 f23)(D24:Fd K "ring_lacks" q2Q f24)(D25:Fd K "ring_forest" q27 f25)(D26:Fd K "empty_weight" q1N f26)(D27:Fd K "turns" q6F f27)(D28:Fd K "ring_least" q2q f28)(D29:Fd K "_law_cell" q3e f29)(D30:Fd K "_law_size" q3l f30)(D31:Fd K "_law_menu" q3i f31)(D32:Fd K "_law_boxes" q2D f32)(D33:Fd K "_law_stops" q2E f33)(D34:Fd K "_law_numbers" q1D f34)(D35:Fd K "_law_counts" q23 f35)(D36:Fd K "_law_lack_row" q1g f36)(D37:Fd K "_law_joined" q25 f37)(D38:Fd K "_law_long" q3s f38)(D39:Fd K "_law_ties" q3d f39)(D40:Fd K "_law_weight" q29 f40)(D41:Fd K "_law_whole" q2H f41)(D42:Fd K "law" q4H f42)(z_isinstance:yK K vQ "isinstance" = some none)(z_bool:yK K vQ "bool" = some none)(z_int:yK K vQ "int" = some none)(z_len:yK K vQ "len" = some none)(z_tuple:yK K vQ "tuple" = some none)(z_list:yK K vQ "list" = some none)(z_all:yK K vQ "all" = some none)(z_sorted:yK K vQ "sorted" = some none)(z_set:yK K vQ "set" = some none)(z_enumerate:yK K vQ "enumerate" = some none)(z_zip:yK K vQ "zip" = some none)(z_abs:yK K vQ "abs" = some none)(z_sum:yK K vQ "sum" = some none)(z_min:yK K vQ "min" = some none)(z_max:yK K vQ "max" = some none)(z_range:yK K vQ "range" = some none)(i_int:IsT K .int)(i_bool:IsT K .bl)(i_tuple:IsT K .tup)(i_list:IsT K .lst): ∃fd:vM,(∀(s:vC)(v:vB),sE s fd ⟨[v],[]⟩ [("script", v)])/\∀base:vY,K.In base->base.Ns vQ mg->FnOk l.prog w K mg base CX0 10 fa fd ["script"] (spD K 1 q4z):=by
 have e:=hfa.symm.trans (wR X G D42.1);cases e;obtain⟨d0,F0⟩:=D0.2;obtain⟨d1,F1⟩:=D1.2;obtain⟨d2,F2⟩:=D2.2;obtain⟨d3,F3⟩:=D3.2;obtain⟨d4,F4⟩:=D4.2;obtain⟨d5,F5⟩:=D5.2;obtain⟨d6,F6⟩:=D6.2;obtain⟨d7,F7⟩:=D7.2;obtain⟨d8,F8⟩:=D8.2;obtain⟨d9,F9⟩:=D9.2;obtain⟨d10,F10⟩:=D10.2;obtain⟨d11,F11⟩:=D11.2;obtain⟨d12,F12⟩:=D12.2;obtain⟨d13,F13⟩:=D13.2;obtain⟨d14,F14⟩:=D14.2;obtain⟨d15,F15⟩:=D15.2;obtain⟨d16,F16⟩:=D16.2;obtain⟨d17,F17⟩:=D17.2;obtain⟨d18,F18⟩:=D18.2;obtain⟨d19,F19⟩:=D19.2;obtain⟨d20,F20⟩:=D20.2;obtain⟨d21,F21⟩:=D21.2;obtain⟨d22,F22⟩:=D22.2;obtain⟨d23,F23⟩:=D23.2;obtain⟨d24,F24⟩:=D24.2;obtain⟨d25,F25⟩:=D25.2;obtain⟨d26,F26⟩:=D26.2;obtain⟨d27,F27⟩:=D27.2;obtain⟨d28,F28⟩:=D28.2;obtain⟨d29,F29⟩:=D29.2;obtain⟨d30,F30⟩:=D30.2;obtain⟨d31,F31⟩:=D31.2;obtain⟨d32,F32⟩:=D32.2;obtain⟨d33,F33⟩:=D33.2;obtain⟨d34,F34⟩:=D34.2;obtain⟨d35,F35⟩:=D35.2;obtain⟨d36,F36⟩:=D36.2;obtain⟨d37,F37⟩:=D37.2;obtain⟨d38,F38⟩:=D38.2;obtain⟨d39,F39⟩:=D39.2;obtain⟨d40,F40⟩:=D40.2;obtain⟨d41,F41⟩:=D41.2;obtain⟨_,F42⟩:=D42.2;obtain⟨_,_,kV,dc,pm,an,cd,ct,_,rfl,_,_⟩:=F42.ex;have y_isinstance:=z8 X G z_isinstance;have y_bool:=z8 X G z_bool;have y_int:=z8 X G z_int;have y_len:=z8 X G z_len;have y_tuple:=z8 X G z_tuple;have y_list:=z8 X G z_list;have y_all:=z8 X G z_all;have y_sorted:=z8 X G z_sorted;have y_set:=z8 X G z_set;have y_enumerate:=z8 X G z_enumerate;have y_zip:=z8 X G z_zip;have y_abs:=z8 X G z_abs;have y_sum:=z8 X G z_sum;have y_min:=z8 X G z_min;have y_max:=z8 X G z_max;have y_range:=z8 X G z_range;refine⟨y8 "law" "law" (XB q4H) (Ys q4H) (YL q4H) .none kV dc pm an cd ct,λs v=>.of_eq rfl,λbase _ _=>?_⟩;have C0:=qj l.prog w base X G D0 F0 (qac F0 y_isinstance y_bool y_int i_int i_bool) λ_ _ _ _ _ _ us hl=>match us,hl with|[_],_=>rfl
 have C1:=qj l.prog w base X G D1 F1 (qdp F1 C0 y_len y_isinstance y_tuple i_tuple) λ_ _ _ _ _ _ us hl=>match us,hl with|[_],_=>rfl
 have C2:=qj l.prog w base X G D2 F2 (q8i F2 C0 C1 y_isinstance y_list y_all i_list) λ_ _ _ _ _ _ us hl=>match us,hl with|[_,_,_],_=>rfl
 have C3:=qj l.prog w base X G D3 F3 (q5P F3 C2) λ_ _ _ _ _ _ us hl=>match us,hl with|[_,_,_],_=>rfl
 have C4:=qj l.prog w base X G D4 F4 (qev F4 C3 y_sorted y_set) λ_ _ _ _ _ _ us hl=>match us,hl with|[_,_,_],_=>rfl
 have C5:=qj l.prog w base X G D5 F5 (q7Y F5) λ_ _ _ _ _ _ us hl=>match us,hl with|[_,_],_=>rfl
 have C6:=qj l.prog w base X G D6 F6 (q9Z F6 y_sorted) λ_ _ _ _ _ _ us hl=>match us,hl with|[_,_],_=>rfl
 have C7:=qj l.prog w base X G D7 F7 (qe7 F7 C5 C6 y_sorted) λ_ _ _ _ _ _ us hl=>match us,hl with|[_,_],_=>rfl
 have C8:=qj l.prog w base X G D8 F8 (qfN F8) λ_ _ _ _ _ _ us hl=>match us,hl with|[_],_=>rfl
 have C9:=qj l.prog w base X G D9 F9 (q5d F9 y_enumerate) λ_ _ _ _ _ _ us hl=>match us,hl with|[_],_=>rfl
 have C10:=qj l.prog w base X G D10 F10 (q45 F10) λ_ _ _ _ _ _ us hl=>match us,hl with|[_,_,_],_=>rfl
 have C11:=qj l.prog w base X G D11 F11 (qdL F11 C9 C7 C8 C10 y_sorted) λ_ _ _ _ _ _ us hl=>match us,hl with|[_,_,_],_=>rfl
 have C12:=qj l.prog w base X G D12 F12 (qcI F12 C0) λ_ _ _ _ _ _ us hl=>match us,hl with|[_],_=>rfl
 have C13:=qj l.prog w base X G D13 F13 (q8W F13 C0) λ_ _ _ _ _ _ us hl=>match us,hl with|[_,_],_=>rfl
 have C14:=qj l.prog w base X G D14 F14 (q6M F14 C12 C13 y_len y_isinstance y_tuple i_tuple) λ_ _ _ _ _ _ us hl=>match us,hl with|[_,_],_=>rfl
 have C15:=qj l.prog w base X G D15 F15 (qch F15 C13 C0 C14 y_all y_isinstance y_list i_list) λ_ _ _ _ _ _ us hl=>match us,hl with|[_,_,_,_],_=>rfl
 have C16:=qj l.prog w base X G D16 F16 (q85 F16 C15) λ_ _ _ _ _ _ us hl=>match us,hl with|[_,_,_,_],_=>rfl
 have C17:=qj l.prog w base X G D17 F17 (q6c F17) λ_ _ _ _ _ _ us hl=>match us,hl with|[_],_=>rfl
 have C18:=qj l.prog w base X G D18 F18 (qf2 F18) λ_ _ _ _ _ _ us hl=>match us,hl with|[_,_,_,_],_=>rfl
 have C19:=qj l.prog w base X G D19 F19 (q8J F19 C16 C4 C17 y_list y_zip) λ_ _ _ _ _ _ us hl=>match us,hl with|[_,_,_,_],_=>rfl
 have C20:=qj l.prog w base X G D20 F20 (q87 F20 C18) λ_ _ _ _ _ _ us hl=>match us,hl with|[_,_],_=>rfl
 have C21:=qj l.prog w base X G D21 F21 (q7X F21 C19 C20) λ_ _ _ _ _ _ us hl=>match us,hl with|[_,_,_,_],_=>rfl
 have C22:=qj l.prog w base X G D22 F22 (q9d F22 C18) λ_ _ _ _ _ _ us hl=>match us,hl with|[_,_,_,_],_=>rfl
 have C23:=qj l.prog w base X G D23 F23 (q9t F23 C22 y_len) λ_ _ _ _ _ _ us hl=>match us,hl with|[_,_,_,_,_],_=>rfl
 have C24:=qj l.prog w base X G D24 F24 (q7W F24 C19 C23) λ_ _ _ _ _ _ us hl=>match us,hl with|[_,_,_,_,_],_=>rfl
 have C25:=qj l.prog w base X G D25 F25 (q6m F25 C11 C17 y_zip) λ_ _ _ _ _ _ us hl=>match us,hl with|[_,_,_,_,_],_=>rfl
 have C26:=qj l.prog w base X G D26 F26 (q5R F26 C8 C25 y_zip y_abs y_sum) λ_ _ _ _ _ _ us hl=>match us,hl with|[_,_,_,_,_],_=>rfl
 have C27:=qj l.prog w base X G D27 F27 (qeq F27 C21 C24 C18 C26 y_sum y_min y_max y_range) λ_ _ _ _ _ _ us hl=>match us,hl with|[_,_,_,_],_=>rfl
 have C28:=qj l.prog w base X G D28 F28 (q82 F28 C27 y_min) λ_ _ _ _ _ _ us hl=>match us,hl with|[_,_,_,_],_=>rfl
 have C29:=qj l.prog w base X G D29 F29 (q98 F29 y_len) λ_ _ _ _ _ _ us hl=>match us,hl with|[_,_],_=>rfl
 have C30:=qj l.prog w base X G D30 F30 (q8v F30 C29) λ_ _ _ _ _ _ us hl=>match us,hl with|[_],_=>rfl
 have C31:=qj l.prog w base X G D31 F31 (q8f F31 C29 y_range) λ_ _ _ _ _ _ us hl=>match us,hl with|[_,_],_=>rfl
 have C32:=qj l.prog w base X G D32 F32 (q89 F32 C29) λ_ _ _ _ _ _ us hl=>match us,hl with|[_,_],_=>rfl
 have C33:=qj l.prog w base X G D33 F33 (q88 F33 y_sorted y_set) λ_ _ _ _ _ _ us hl=>match us,hl with|[_,_,_],_=>rfl
 have C34:=qj l.prog w base X G D34 F34 (q5Y F34 y_len) λ_ _ _ _ _ _ us hl=>match us,hl with|[_,_,_],_=>rfl
 have C35:=qj l.prog w base X G D35 F35 (q6s F35 C34) λ_ _ _ _ _ _ us hl=>match us,hl with|[_,_],_=>rfl
 have C36:=qj l.prog w base X G D36 F36 (q5b F36 C35 C34 y_len y_range y_int) λ_ _ _ _ _ _ us hl=>match us,hl with|[_,_,_,_,_],_=>rfl
 have C37:CalW _ _ _ _ _ _ _ _ _ _ _ _:=⟨q6I (P:=l.prog) (w:=w) (mg:=mg) (base:=base) F37 y_len y_range,wR X G D37.1,F37.kp,F37.binds (ps:=["group", "one", "other"]) λ_ _ _ _ _ _ us hl=>match us,hl with|[_,_,_],_=>rfl⟩;have C38:=qj l.prog w base X G D38 F38 (q9c F38 y_len) λ_ _ _ _ _ _ us hl=>match us,hl with|[_,_,_],_=>rfl
 have C39:=qj l.prog w base X G D39 F39 (q8p F39 C37 C38 y_len y_range y_sorted) λ_ _ _ _ _ _ us hl=>match us,hl with|[_,_,_,_,_,_],_=>rfl
 have C40:=qj l.prog w base X G D40 F40 (q6J F40 C36 C35 C39 C38 y_len y_range y_abs) λ_ _ _ _ _ _ us hl=>match us,hl with|[_,_,_,_,_,_],_=>rfl
 have C41:=qj l.prog w base X G D41 F41 (q86 F41 y_isinstance y_bool y_int i_int i_bool) λ_ _ _ _ _ _ us hl=>match us,hl with|[_],_=>rfl
 exact qhq F42 C30 C31 C32 C27 C41 C33 C36 C40 C28 y_list y_isinstance y_len y_tuple y_min y_max y_range i_list i_tuple
theorem walk{l:wk}{q:vO}{loose:List Str}{XP:(Str->Option vB)->vY->Prop}{YP:vU->vY->Prop}{d:DefRec}{K:Params->zC}(hn:l.most=some 63)(hdf:d.params.defaults=[])(hY:∀(w:vU)(h:vY),YP w h->(K w.params).In h)(F:∀(w:vU)(mg:Str->Option vB)(fa:vF)(h:vY),(K w.params).In h->h.Ns vQ mg->mg d.name=some (.ref fa) ->
   ∃fd:vM,(∀(s:vC)(u:vB),sE s fd ⟨[u],[]⟩ [("script", u)])/\∀base:vY,(K w.params).In base->base.Ns vQ mg->FnOk l.prog w (K w.params) mg base CX0 10 fa fd ["script"] (spD (K w.params) 1 q4z)) :
  Z8 q loose XP YP l.row.toRowW d [] (λf vs=>PySem.call f vs) :=
 L2.qaI (n:=63) (k:=10) (x := "script") (CX:=λ_=>CX0) (sp:=λw=>spD (K w.params) 1 q4z) hn (by decide) hdf ⟨rfl,by decide,by decide⟩ hY F
  (λ_ H a ns hl _ hS=>⟨H,[.scr ns],.sh (.bl true),qeL ns hl,rfl,YX.refl _,⟨.ref a,[],rfl,⟨a,rfl,hS⟩,rfl⟩,λ_ _ _ _ y=>y⟩) λ_ _ _ _ _ z=>z
end Kx
namespace PySem.W.Fast
def tw5956842596764411045:=0
def tw9849750417365347044:=0
def tw9160843357122902232:=0
def tw13043587270404222213:=0
def tw13476981054871504914:=0
def tw1621405989799448437:=0
def tw15254996623817543298:=0
def tw13217723897088103158:=0
def tw10765844073544154504:=0
def tw3809611103568531238:=0
def tw7446948389621540261:=0
def tw16159438982447604321:=0
def tw11392515048743742242:=0
def tw5099040043984017006:=0
def tw5246463806677561761:=0
def tw7959007377260104580:=0
def tw3312853285479457119:=0
def tw6615705271342185045:=0
def tw3807756259381480030:=0
def tw9159574736112863188:=0
def tw10607438242569439385:=0
def tw17256486295279674463:=0
def tw8939785002097298208:=0
def tw13417840763682675527:=0
def tw8111409762820022708:=0
def tw2171276709188764981:=0
def tw10308339823837799207:=0
def tw10914223218366399938:=0
def tw1152011106740835467:=0
def tw7289972180323399837:=0
def tw9581180402300496265:=0
def tw317154602585535157:=0
def tw9283648027984713818:=0
def tw12283948883158219539:=0
def tw3640084449208454307:=0
def tw8125984622518187517:=0
def tw12822427793644473231:=0
def tw13979377065404551974:=0
def tw18189493521769971617:=0
def tw5186056867488095120:=0
def tw9172129989872715011:=0
def tw3263275204723286565:=0
def tw6128423935468934658:=0
def tw17979775523158016625:=0
def tw712533817734184543:=0
def tw3569212774126518893:=0
def tw17891291850735361614:=0
def tw2460928919231254231:=0
def tw7738724714823756090:=0
def tw1546645583381218066:=0
def tw16015663009887195121:=0
def tw10786989206053335561:=0
def tw13618923333742259393:=0
def tw4931200037272626727:=0
def tw2090266588324813718:=0
def tw16183788286753631298:=0
def tw11112257006762597430:=0
def tw90156343972658028:=0
def tw4725116017287143676:=0
def tw7357050856730883802:=0
def tw8579994867577393750:=0
def tw18424744446742147205:=0
def tw1363448835381950280:=0
def tw7468312407001043390:=0
def tw8028102026874120945:=0
def tw3313860182478502014:=0
def tw4871464707150374808:=0
def tw14248414679395136897:=0
def tw15305455808777849556:=0
def tw16334332740076017268:=0
def tw742998910675068588:=0
def tw634774862861068003:=0
def tw13341271277328114852:=0
def tw8932546884447247073:=0
def tw6597942270318342344:=0
def tw5786928523593935651:=0
def tw14057107367582756424:=0
def tw13319839107729997096:=0
def tw10899599121251623234:=0
def tw12399159185703689734:=0
def tw3456074822182964337:=0
def tw18063375044220985423:=0
def tw18078662750083946529:=0
def tw8883003214274656609:=0
def tw17089289723167922488:=0
def tw17204142047987865897:=0
def tw3655826027584515207:=0
def tw5639610919127719874:=0
def tw4242186310577841372:=0
def tw16358482450240068315:=0
def tw7068035023240795440:=0
def tw2579383594586947772:=0
def tw4215110726716545254:=0
def tw15620688396594150790:=0
def tw2837683431047100533:=0
def tw9627270581847254151:=0
def tw11629475294492175342:=0
def tw2870007665694368891:=0
def tw9208921390126783816:=0
def tw13614691783622505193:=0
def tw646832843912484290:=0
def tw9192215895078120931:=0
def tw15678083967985478557:=0
def tw18310580051920933538:=0
def tw7766183076805358647:=0
def tw11960695683582739760:=0
def tw14048362380777809159:=0
def tw10565826840834605255:=0
def tw2936951904233188396:=0
def tw10327871816382719412:=0
def tw7588172619115013080:=0
def tw11647554621149902581:=0
def tw6999034477016368351:=0
def tw445917882617121893:=0
def tw10753182192682245942:=0
def tw15510705045995737596:=0
def tw3378029912043454691:=0
def tw1997249552580065971:=0
def tw2127059054553622313:=0
def tw15268933257341123613:=0
def tw16790550794503042619:=0
def tw11642602804791435681:=0
def tw7636581999837136480:=0
def tw10023799032935195629:=0
def tw5478910519998031525:=0
def tw8173600335705787111:=0
def tw16339208637317698341:=0
def tw10815051505451412925:=0
def tw11810591796470285874:=0
def tw9607819854801272369:=0
def tw16402960423057523365:=0
def tw13028816315976572069:=0
def tw2827419142179120973:=0
def tw17733207771623536514:=0
def tw1580432182424900874:=0
def tw16930031391929234212:=0
def tw1083685137471258572:=0
def tw7832745802926480465:=0
def tw15393659878115130980:=0
def tw9225806433531806582:=0
def tw15539834795187439097:=0
def tw3310347164777174061:=0
def tw10877126411719083636:=0
def tw5582841577418104681:=0
def tw8792009590071653340:=0
def tw15326158644998758397:=0
def tw18040481765983903669:=0
def tw13107669672727612668:=0
def tw9355689063157263381:=0
def tw4423188662922559123:=0
def tw7434754133419301116:=0
def tw11999811507731358448:=0
def tw3004923679936986389:=0
def tw14281767384276078653:=0
def tw6440933090124923061:=0
def tw6081789864801987544:=0
def tw13071145238441673205:=0
def tw7270618120960340386:=0
def tw15717072470425658925:=0
def tw6279917299903362524:=0
def tw3513258607948245533:=0
def tw13433778725659542920:=0
def tw10139242756828088255:=0
def tw4589361649035986198:=0
def tw7539783157667137321:=0
def tw3512932546992529207:=0
def tw944993450399626335:=0
def tw2925914055316127981:=0
def tw6697293949985079374:=0
def tw9438785988310927833:=0
def tw956472552052703732:=0
def tw14370713714154182369:=0
def tw6236155860381337818:=0
def tw4049902842435308164:=0
def tw2279795398311347218:=0
def tw2262566355159284318:=0
def tw14339698453408652482:=0
def tw8203229187348214001:=0
def tw8161121696400487551:=0
def tw18089678168973660510:=0
def tw6027339772445065070:=0
def tw14201990391026356569:=0
def tw3405049586274974348:=0
def tw13519429658533476583:=0
def tw265609044624088529:=0
def tw6708360337193045034:=0
def tw339128632880958688:=0
def tw220175501273250850:=0
def tw9631580927118606010:=0
def tw111183747451134701:=0
def tw6766879729693902249:=0
def tw5494204919705800199:=0
def tw5260367450255982755:=0
def tw11948209924396645821:=0
def tw7577163595104940459:=0
def tw8600706475952679260:=0
def tw1645832583650078973:=0
def tw70860377703064523:=0
def tw11773447178078314829:=0
def tw12128754160800971390:=0
def tw5840205154712799921:=0
def tw6982437502008112298:=0
def tw7745052907156803763:=0
def tw5971225757493467827:=0
def tw8383021651471020385:=0
def tw1511199818108466551:=0
def tw1113740276791646862:=0
def tw6670359732387164067:=0
def tw13762056162064442433:=0
def tw3938107170633120316:=0
def tw8764482731526803375:=0
def tw8766245852302191406:=0
def tw6035862626822351609:=0
def tw16426925518852764452:=0
def tw10336068401928947731:=0
def tw16787722480998823140:=0
def tw7336132948291824450:=0
def tw4576920216171337948:=0
def tw8143284147620142168:=0
def tw10385943681848492889:=0
def tw10951128238272702686:=0
def tw5131643634163488092:=0
def tw12927085551027800877:=0
def tw12762775708837139154:=0
def tw9653446586749245022:=0
def tw6942113548664884397:=0
def tw18407399719079649526:=0
def tw12248013155219215135:=0
def tw10163488603816852677:=0
def tw12256067671547585403:=0
def tw10708022158476614539:=0
def tw17242381258828263976:=0
def tw17664059937958776259:=0
def tw2891085301152914799:=0
def tw11460052712846215258:=0
def tw7219379793578035901:=0
def tw5829545466336799900:=0
def tw10231214971399500697:=0
def tw9201057804084739144:=0
def tw1313861378566466106:=0
def tw630928353036093038:=0
def tw4713924876427113878:=0
def tw10485249681235344524:=0
def tw7893851912454596231:=0
def tw13971534478979937882:=0
def tw13398750385040092523:=0
def tw12214264335554344962:=0
def tw12350165174945441185:=0
def tw16728063523871053812:=0
def tw12786195449994015153:=0
def tw10613961566336791292:=0
def tw13354327059598769522:=0
def tw4949165938570460546:=0
def tw3474639143927830220:=0
def tw17957763728604738236:=0
def tw6320725714265906378:=0
def tw12385856184537392355:=0
def tw10380914034511321343:=0
def tw9806121407912895378:=0
def tw4582298062846622198:=0
def tw14142415634558143815:=0
def tw10427928526518360495:=0
def tw1035811769721512686:=0
def tw4103625665745570859:=0
def tw5683287780576162001:=0
def tw11040641035058202347:=0
def tw12496332700790946579:=0
def tw1161264080841947400:=0
def tw13192908884631794245:=0
def tw10720792632340700373:=0
def tw6550331890776422017:=0
def tw7839515576707384508:=0
def tw6604687018575549863:=0
def tw1654348737249632074:=0
def tw642922733511787668:=0
def tw17645339761877882471:=0
def tw4801690106886175041:=0
def tw10853252616046018249:=0
def tw4103625056573805490:=0
def tw18148142313193950271:=0
def tw11727200021228202941:=0
def tw15432216499236390542:=0
def tw648219923583441734:=0
def tw10485874033028858948:=0
def tw12556861545048194860:=0
def tw9087663933967421567:=0
def tw13447164139510372426:=0
def tw15689929238932064852:=0
def tw9734094659442502142:=0
def tw7100763349756627717:=0
def tw10059559819627221309:=0
def tw3617278786776112324:=0
def tw16469142530180921459:=0
def tw13583146109322348447:=0
def tw13943780913813653562:=0
end PySem.W.Fast
open PySem PySem.W PyProof.Rows
set_option maxRecDepth 100000 in
set_option maxHeartbeats 0 in
theorem PySem.Challenge.cw_hookrail_k63_turns_holds : PySem.Challenge.rw_hookrail_k63_turns.Holds := by
 w_on;o_law;k_head;(case hw=>w_witness2)
 k_fill
 refine Kx.walk (l:=PySem.Challenge.rw_hookrail_k63_turns) rfl rfl (λw h Y=>Z0 Y) ?F
 case F =>
  intro w mg fa h KX G hmg;refine' Kx.qgY KX G hmg ?D0 ?D1 ?D2 ?D3 ?D4 ?D5 ?D6 ?D7 ?D8 ?D9 ?D10 ?D11 ?D12 ?D13 ?D14 ?D15 ?D16 ?D17 ?D18 ?D19 ?D20 ?D21 ?D22 ?D23 ?D24 ?D25 ?D26 ?D27 ?D28 ?D29 ?D30 ?D31 ?D32 ?D33 ?D34 ?D35 ?D36 ?D37 ?D38 ?D39 ?D40 ?D41 ?D42 ?z_isinstance ?z_bool ?z_int ?z_len ?z_tuple ?z_list ?z_all ?z_sorted ?z_set ?z_enumerate ?z_zip ?z_abs ?z_sum ?z_min ?z_max ?z_range ?i_int ?i_bool ?i_tuple ?i_list
  (case D0|D1|D2|D3|D4|D5|D6|D7|D8|D9|D10|D11|D12|D13|D14|D15|D16|D17|D18|D19|D20|D21|D22|D23|D24|D25|D26|D27|D28|D29|D30|D31|D32|D33|D34|D35|D36|D37|D38|D39|D40|D41|D42=>(refine' Hk.qi4 ?a ?l ?c ?k;(case a=>k_is);(case l=>k_is);(case c=>k_is);(case k=>k_is)))
  (case z_isinstance|z_bool|z_int|z_len|z_tuple|z_list|z_all|z_sorted|z_set|z_enumerate|z_zip|z_abs|z_sum|z_min|z_max|z_range=>k_is)
  (case i_int=>intro t ht;cases t <;> first|(exact absurd rfl ht)|rfl|k_is)
  (case i_bool=>intro t ht;cases t <;> first|(exact absurd rfl ht)|rfl|k_is)
  (case i_tuple=>intro t ht;cases t <;> first|(exact absurd rfl ht)|rfl|k_is)
  (case i_list=>intro t ht;cases t <;> first|(exact absurd rfl ht)|rfl|k_is)
#print axioms PySem.Challenge.cw_hookrail_k63_turns_holds
