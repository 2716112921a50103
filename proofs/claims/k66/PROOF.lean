import PyProof.Rows.All
import Wide.All
import OpenK.AllK
import Wide.FinOn
import Lean
import PyProof.EqAt
import PyProof.EqKinds
import PyProof.TupleCall
import PySem.SetOps
import KE.KDictSum
import KE.KDictList
import PyProof.ZipIter
import KE.KFind
import PyProof.MaxThree
import PyProof.Rows.IntMath
import PyProof.EnumMake
import PyProof.Rows.EnumRows
import KE.KDictLaws
import PyProof.DictWalks
import PyProof.Rows.SortRuns
import KE.KSortKey
import KE.KMinKey
import PyProof.WalkInts
import KE.KUnpack
import PySem.Challenge.RW_hookrail_k66_a_ring_tour_walked
open Array renaming length_toList→zU,getElem?_toList→zj,getElem?_eq_getElem→yE,getElem?_eq_none→yf,toArray_toList→xP,size_push→ZH,getElem?_push→ZY,forIn_toList→Zk,toList_push→Zv,toList→Yb
open Bool renaming and_eq_true→zu,false_eq_true→yG,false_ne_true→yL,or_false→wL,and_false→wW,false_and→ZO,and_eq_true_iff→ZS,false_or→Zf,not_true→Zg,true_or→Zz,not_false→YU,true_and→YZ,and_true→Ya
open Int renaming toNat_natCast→yK,le_refl→yh,emod_eq_of_lt→wA,emod_nonneg→wO,le_of_lt→wT,le_trans→ZA,zero_add→ZB,sub_self→ZC,mul_one→ZP,toNat→ZV,toNat_of_nonneg→Zd,reducePow→Zh,emod_lt_of_pos→Zo,add_zero→Z3,mul_zero→Z4,zero_mul→Z5,le_antisymm→YE,reduceToNat→YH
open List renaming length_map→zB,getElem?_eq_getElem→zD,length_append→zE,mem_cons_self→zG,mem_cons_of_mem→zH,mem_cons→zI,mem_append_right→zJ,length_cons→zK,map_cons→zL,mem_append_left→zM,size_toArray→zN,map_append→zO,getElem?_set_ne→zP,mem_append→zR,getD_eq_getElem?_getD→zT,mem_singleton→zV,getElem?_map→zX,range→zY,getElem?_append_right→zZ,mem_map→za,getElem?_eq_some_iff→zc,getElem?_append_left→zd,not_mem_nil→zg,length_range→zh,map_map→zi,sum_cons→zk,pairwise_cons→zm,append_nil→zn,length_take→zo,length_singleton→zq,replicate→zv,mem_of_getElem?→zw,getElem?_eq_none→zx,mem_map_of_mem→zy,mem_iff_getElem→z8,append_assoc→yB,getElem_mem→yC,sum_append→yH,map_congr_left→yI,mem_filter→yM,length_drop→yN,mem_range→yO,replicate_succ→yP,length_set→yR,length_replicate→yT,map_nil→yU,nil_append→yV,filter_cons→yY,length→yZ,filterMap_cons→yb,nodup_append→yd,getElem?_set_self→ye,mem_flatMap→yg,getElem?_replicate→yi,nodup_cons→yk,length_zip→yl,all_eq_true→ym,getElem?_range→yn,flatten_cons→yo,eq_nil_of_length_eq_zero→yp,flatMap_cons→yq,length_nil→yu,pairwise_iff_getElem→yv,getElem?_zip_eq_some→yw,take_append_drop→yy,mem_iff_getElem?→yz,lookup_cons→y9,getElem?_take→xA,ext_getElem?→xB,getElem?_cons_succ→xD,filter_eq_self→xF,length_reverse→xG,map_eq_nil_iff→xH,getElem_map→xJ,getElem?_drop→xL,getElem?_cons_zero→xQ,filter_eq_nil_iff→xS,find?_cons→xU,all_cons→xV,length_filter_le→xW,perm_append_comm→xX,pairwise_append→xY,nodup_nil→xa,drop_eq_getElem_cons→xf,getElem?_eq_none_iff→xh,getLast?_eq_none_iff→xi,flatMap_append→xj,any_cons→xk,set_cons_succ→xo,set_cons_zero→xq,mem_replicate→xr,filter_cons_of_pos→xt,filter_cons_of_neg→xu,take_of_length_le→xw,pairwise_lt_range→xx,sum_nil→wB,count_append→wC,eraseIdxIfInBounds_toArray→wE,getElem_inj→wG,take_length→wH,map_fst_zip→wI,mem_flatten→wJ,countP_cons→wK,of_mem_zip→wN,dropLast_concat_getLast→wP,countP_eq_length_filter→wQ,all_map→wR,filterMap_map→wV,length_eraseIdx_of_lt→wX,perm_ext_iff_of_nodup→wY,drop_zero→wb,reverse_cons→wd,foldl_append→wf,pairwise_map→wg,map_id→wj,map_take→wk,map_drop→wm,take_append_getElem→wo,perm_middle→wp,drop_length→wu,pairwise_singleton→wx,range_succ_eq_map→w8,zipWith→w9,flatMap_singleton→ZD,foldl_cons→ZF,forIn_cons→ZI,dropLast_eq_take→ZL,take_eq_take_iff→ZM,countP_mono_left→ZN,reverse_reverse→ZT,mem_of_getLast?→ZU,length_pos_iff→ZX,reverse_append→ZZ,replicate_zero→Zc,countP_eq_zero→Ze,mem_filterMap→Zi,filter_append→Zn,map_singleton→Zp,take_sublist→Zs,getElem_take→Zt,take_add_one→Zx,map_reverse→Z9,cons_append→YB,nodup_range→YC,foldlM_cons→YD,take_left'→YF,drop_left'→YG,range_succ→YI,count_cons→YJ,foldl→YL,forIn_nil→YO,take_take→YQ,drop_take→YR,drop_drop→YS,take_zero→YT
open List.Pairwise renaming nil→xv,sublist→wF
open List.Perm renaming append_left→xM,refl→xZ,trans→xl
open List.Sublist renaming refl→Z2
open List.cons renaming inj→YY
open Nat renaming le_refl→zQ,ne_of_lt→zt,lt_of_lt_of_le→z9,zero_le→yA,lt_or_ge→yD,le_trans→yJ,lt_succ_of_lt→yS,lt_succ_self→yW,le_of_lt→ya,le_succ→yt,lt_irrefl→xI,not_lt_zero→xT,ne_of_gt→xb,lt_of_le_of_lt→xm,zero_add→xz,sub_self→wS,eq_or_lt_of_le→wZ,le_succ_of_le→we,add_sub_cancel_left→wq,min_le_left→ZJ,min_eq_left→ZK,add_one_ne_zero→Za,zero_ne_add_one→Zb,eq_zero_or_pos→Zj,add_sub_cancel→Zm,lt_trans→Zu,le_total→Zy,sub_zero→Z1,min_le_right→Z7,reduceEqDiff→YA,not_lt→YN
open Option renaming bind_some→yX,isSome_iff_exists→yr,map_some→xE,map_eq_some_iff→xy,isSome_map→Z0,getD_none→Z8,none→Yc
open Option.some renaming inj→zr
open PySem.Heap renaming get?_push_of_some→zF,lt_size→zS,get?_push_size→zW,get?_update_other→ze,size_push→yc,get?_update_self→yx,SameBut→xN,size_update→xR,get?_some_iff→xn
open PySem.Heap.IsSliceOf renaming new→Yd
open PySem.Heap.SameBut renaming update→ZW,refl→Zw
open PySem.W renaming Frag→zC,mg_none_of→yF,nsIn→yQ,kia_one→yj,keepIn→xK,fnOf→xO,mg_of→wM,codeIn→wU,methodObj→wc,cellsFrom_some→wz,instObj→ZE,OpenLaw→ZG,lookIn→ZQ,kitOne→ZR,kf_at_spec→Zl,kitx_list→Zq,kitx_dict→Zr,plainGet→Z6,findIn→YK,kIn_of→YM,WalkO→YV,kf_at→YW,kf_eq→YX
open PyProof.Rows renaming arrOf→vW,wpS_bind→vz,seqObj→v4,IntsAre→uJ,wpS_pure→uN,Keyed→ur,SortedTo→ut,SortSt→ux,wpS_forRange→tD,AllBare→tH,SBase→tI,listUpdate_at→tK,subscriptTail_builtinR→tQ,envOfC→tW,K_mirror_equal→tj,wpS_reverse→tm,mirror_perm→tq,subscriptTail→t6,numOf→t7,args_tuple_getitem→sA,plain_sorted→sF,entry_sorted→sG,kind_sorted→sM,NonInc→sW,wpS_mono→sX
open PySem renaming wpAny_bind→vA,Value→vB,Addr→vC,Shared→vF,wpAny_pure→vG,starEach→vK,FuncData→vL,wpAny→vM,Expr→vP,Program→vS,mainGlobals→vT,wpAny_holding→vU,World→vX,wpAny_ite_split→vY,backTo→vZ,Around→vc,Heap→ve,bootBuiltins→vf,keywordEach→vg,sizeLine_eq→vh,wpAny_newObj_type→vi,Stmt→vm,wpAny_mono→vo,wpAny_Call_Name_kw→vp,wpAny_call_entry→vq,argBest→vt,builtinLookup_eq_fast→v3,wpAny_setState_of→v5,swapsWith→v6,backToKw→v7,codeAny_builtin→v8,plainId_quiet→v9,wpAny_updateSeq→uA,assignEach→uB,foldedSetIterable→uC,behindInMarks→uD,attributeBase→uE,wpAny_truthy_bool→uF,compareOp→uG,wpAny_setField_rec→uH,Keyword→uI,wpAny_seqItems→uK,sysModules→uL,typeLookup_type→uM,pyNext→uO,wpAny_passesOwn→uP,binaryOp→uQ,wpAny_isInstance→uR,wpAny_field→uS,rawInt→uT,codeAny→uU,codeAny_mono→uV,wpAny_rule→uW,NameKind→uX,wpAny_specialOf→uY,wpAny_attempt→uZ,wpAny_pyIter_list→ua,wpAny_tryCatch→ub,wpAny_typeOf→uc,scanBound→ud,cLine→ue,call_meets→uf,tupleKind_room_in1→ug,sliceBounds→uh,updateSeq→ui,wpAny_letGo→uj,isSubtype_type→uk,IsPair→um,wpAny_nextOf_list_item→uo,Scope→uu,typeLookup→uv,pickOrder→uw,wpAny_standAt→uy,wpAny_newList→uz,ZipApart→u0,wpAny_execs_nil→u5,letOwnedTupleGo→u6,intKind→u7,getItem→u8,setNext→u9,wpAny_fieldsOf→tE,firstArgMember→tF,isSubtype_stop→tG,wpAny_comprehension_free→tJ,tupleKind→tL,PassesOwn→tM,wpAny_askSetting→tN,wpAny_pyIter_zip→tO,IsPart→tP,wpAny_isTrue_Compare1→tS,wpAny_nextOf_list_end→tT,wpAny_pyNext_zip_item→tU,Result→tV,wpAny_of_eq→tX,wpAny_newTuple→tY,codeAny_extend_loopS→tZ,wpAny_pyNext_zip_end→tf,callerA→tt,valueAt→tz,swapsWithSole→t4,swappedStores→t5,wpAny_call→t8,GenState→sB,BindsTo→sC,slotArgs→sD,call_meetsIn→sH,Paired→sI,CmpOp→sJ,seqIndex_of→sL,atKey→sN,hashInt→sO,standAt→sP,isTrue→sQ,pyIter→sR,IntMulOk→sS,argsOk→sT,raiseNew→sU,numAt_eq→sV
noncomputable def vH:=@if_pos
noncomputable def vJ:=@if_neg
noncomputable def vN:=@absurd
noncomputable def vO:=@decide_eq_true
noncomputable def vQ:=@decide_eq_false
noncomputable def vn:=@congrArg
set_option Elab.async false
section
local macro_rules|`(∅)=>`(by omega)
local macro_rules|`(⋯)=>`(by decide +kernel)
local macro_rules|`(↥$x)=>`(some (.sh $x))
local macro_rules|`(⇑$x)=>`(by simpa using $x)
local macro_rules|`(tactic|omega)=>`(tactic|lia)
set_option compiler.extract_closed false
set_option hygiene false
def pW:List Char->List Char|' '::r=>pW r|r=>r
def pC(c:Char):Bool:=c.isAlphanum||"_'.!?₀₁₂₃".toList.contains c||(c.val>=913&&c.val<=969&&c.val != 955)
def pF(e:Lean.Term):List String->Lean.Term|[]=>e|s::r=>pF ⟨Lean.mkNode ``Lean.Parser.Term.proj #[e,Lean.mkAtom ".",if s.front.isDigit then Lean.mkNode `fieldIdx #[Lean.mkAtom s] else Lean.mkIdent (.mkSimple s)]⟩ r
def pN(l:List String):Lean.Term:=let a:=l.takeWhile (!·.front.isDigit);pF (Lean.mkIdent (a.foldl (λn s=>.str n s) .anonymous)) (l.drop a.length)
mutual
def pT:Nat->Nat->List Char->Lean.MacroM (Lean.Term×List Char)
 | 0,_,_=>Lean.Macro.throwUnsupported
 | n+1,p,s=>do
  let(a,s)<-match pW s with
   | '('::r=>do
    let(a,r)<-pT n 0 r
    let(a,r)<-match pW r with
     | ')'::r=>pure (a,r)
     | ':'::r=>do let(b,r)<-pT n 0 r;pure (<-`(($a : $b)),(pW r).tail)
     | ','::r=>do let(l,r)<-pL n #[] r;pure (<-`(($a,$l,*)),r)
     | _=>Lean.Macro.throwUnsupported
    pure (let w:=r.takeWhile pC;match r with
     | '.'::_=>(pF a ((String.ofList w.tail).splitOn "."),r.drop w.length)
     | _=>(a,r))
   | '⟨'::r=>do let(l,r)<-pL n #[] r;pure (<-`(⟨$l,*⟩),r)
   | '['::r=>do let(l,r)<-pL n #[] r;pure (<-`([$l,*]),r)
   | '"'::r=>let w:=r.takeWhile (·!='"');pure (Lean.Syntax.mkStrLit (String.ofList w),r.drop (w.length+1))
   | '¬'::r=>do let(b,r)<-pT n 40 r;pure (<-`(¬$b),r)
   | '-'::r=>do let(b,r)<-pT n 75 r;pure (<-`(-$b),r)
   | '@'::r=>let w:=r.takeWhile pC;pure (⟨Lean.mkNode ``Lean.Parser.Term.explicit #[Lean.mkAtom "@",pN ((String.ofList w).splitOn ".")]⟩,r.drop w.length)
   | '∅'::r=>do pure (<-`(∅),r)
   | '⋯'::r=>do pure (<-`(⋯),r)
   | '↥'::r=>do let(b,r)<-pT n 1024 r;pure (<-`(↥$b),r)
   | '⇑'::r=>do let(b,r)<-pT n 1024 r;pure (<-`(⇑$b),r)
   | 'λ'::r=>do
    let w:=r.takeWhile (λc=>pC c||c==' ')
    let xs:=(((String.ofList w).splitOn " ").filter (·!="")).toArray.map λx=>if x=="_" then (⟨Lean.mkNode ``Lean.Parser.Term.hole #[Lean.mkAtom "_"]⟩:Lean.Term) else pN [x]
    let(b,r)<-pT n 0 (r.drop (w.length+2))
    pure (<-`(fun $xs* =>$b),r)
   | s=>let w:=s.takeWhile pC;let r:=s.drop w.length;match w with
    | []=>Lean.Macro.throwUnsupported
    | ['_']=>do pure (<-`(_),r)
    | ['P','r','o','p']=>do pure (<-`(Prop),r)
    | ['?','_']=>do pure (<-`(?_),r)
    | '.'::w=>match (String.ofList w).splitOn "." with
     | x::l=>do pure (pF (<-`(.$(Lean.mkIdent (.mkSimple x)))) l,r)
     | _=>Lean.Macro.throwUnsupported
    | c::_=>pure (if c.isDigit then Lean.Syntax.mkNumLit (String.ofList w) else pN ((String.ofList w).splitOn "."),r)
  if p>1023 then pure (a,s) else do let(a,s)<-pA n a #[] s;pO n p a s
def pA:Nat->Lean.Term->Array Lean.Term->List Char->Lean.MacroM (Lean.Term×List Char)
 | 0,_,_,_=>Lean.Macro.throwUnsupported
 | n+1,f,l,s=>do
  let r:=pW s
  let e:=if l.isEmpty then f else Lean.Syntax.mkApp f l
  match r with
   | '('::q=>do
    let w:=q.takeWhile pC
    match q.drop w.length with
     | ':'::'='::q=>do
      let(a,q)<-pT n 0 q
      pA n f (l.push ⟨Lean.mkNode ``Lean.Parser.Term.namedArgument #[Lean.mkAtom "(",pN [String.ofList w],Lean.mkAtom ":=",a,Lean.mkAtom ")"]⟩) (pW q).tail
     | _=>do let(a,s)<-pT n 1024 r;pA n f (l.push a) s
   | c::_=>if "⟨[\"@∅⋯↥⇑".toList.contains c||pC c then do let(a,s)<-pT n 1024 r;pA n f (l.push a) s else if c=='λ' then do let(a,s)<-pT n 1024 r;pure (Lean.Syntax.mkApp f (l.push a),s) else pure (e,s)
   | []=>pure (e,[])
def pO:Nat->Nat->Lean.Term->List Char->Lean.MacroM (Lean.Term×List Char)
 | 0,_,_,_=>Lean.Macro.throwUnsupported
 | n+1,p,a,s=>do
  let g(k q:Nat)(r:List Char)(f:Lean.Term->Lean.MacroM Lean.Term):=if k<p then pure (a,s) else do let(b,r)<-pT n q r;pO n p (<-f b) r
  match pW s with
   | '-'::'>'::r=>g 25 25 r λb=>`($a->$b)
   | '\\'::'/'::r=>g 30 30 r λb=>`($a\/$b)
   | '/'::'\\'::r=>g 35 35 r λb=>`($a/\$b)
   | '×'::r=>g 35 35 r λb=>`($a×$b)
   | '&'::'&'::r=>g 35 36 r λb=>`($a&&$b)
   | '='::'='::r=>g 50 51 r λb=>`($a==$b)
   | '='::r=>g 50 51 r λb=>`($a=$b)
   | '≠'::r=>g 50 51 r λb=>`($a≠$b)
   | '<'::'='::r=>g 50 51 r λb=>`($a<=$b)
   | '<'::r=>g 50 51 r λb=>`($a<$b)
   | '∈'::r=>g 50 51 r λb=>`($a∈$b)
   | ':'::':'::r=>g 67 67 r λb=>`($a :: $b)
   | '+'::'+'::r=>g 65 66 r λb=>`($a++$b)
   | '+'::r=>g 65 66 r λb=>`($a+$b)
   | '-'::r=>g 65 66 r λb=>`($a-$b)
   | '*'::r=>g 70 71 r λb=>`($a*$b)
   | _=>pure (a,s)
def pL:Nat->Array Lean.Term->List Char->Lean.MacroM (Array Lean.Term×List Char)
 | 0,_,_=>Lean.Macro.throwUnsupported
 | n+1,l,s=>match pW s with
  | '⟩'::r=>pure (l,r)
  | ']'::r=>pure (l,r)
  | ')'::r=>pure (l,r)
  | ','::r=>pL n l r
  | s=>do let(a,r)<-pT n 0 s;pL n (l.push a) r
end
def tB(c:Char):String:=match c with
|'A'=>r#"Aa WQ scope.names X.env.cells []
Ab Vis X.env.scope x
Ac .call K7 PY
Ad (uB es X.env).length=n
Ae ((sIx items.size 0 lo:Nat):Int)
Af zY bs.length
Ag xc c_is_whole hr gB
Ah vG AN
Ai vB->vB->Sem vB
Aj some (W.sh a8)
Ak Yr K G ds vs
Am Y4 (eOf (Wh (dOf (W4 .int ay)) (vNot (dOf (W4 .bl ay)))))
An Unit->vF->Prop
Ao RelV y u
Ap List Env
Aq List (Str×uX)
Ar Bool->vF->Prop
As .UnaryOp .Not a pos
Au λ_=>D.bl true
Av xc c__law_cell hr (Ye cN mN)
Aw xO x x (Xz st) Qz Dt .none kV doc pm an cdv ct
Ax s.heap.IsSliceOf sl vl vu .none
Ay neq+1
AA XE.toD (Yj fF (XE.toV (qT (XE.toV (q0K Je af)) af)))
AB PySem.F.args_tuple_add_2 _ _
AC (rnd P).map XY
AD ⟨this.1,this.2.1⟩
AE ⟨_,e0,rfl,n0,rfl⟩
AF ⟨.bl _,H,I,rfl,q⟩
AG ↥(.lst (E.map egD))
AH qc (q7L Ct Yg (XE.toD (qJ (XE.toV (Yj lf af)) af)))
AI loT B+jd
AJ [z,TI,TO,i1,i2,l1,l2]
AK Option V
AL Around.under_plainId PyProof.Rows.F.plain_set_update_loop _
AM ⟨o.ext.gg,Yv o.ext.gh h2 _,Yv o.ext.hh h3 _,o.ext.new⟩
AN ⟨_,rfl,vG h⟩
AO vOf (Yn oIx aZ j7)
AQ s1 _ _ (s0 _ _ h1)
AR pv 2
AS kvsOf ks eV
AT T++[Lr]++C1.map Xe
AV .tup [dG, Jm,MK,e8]
AX .done (.ret .none)
AY ((0:Nat):Int)
AZ λp hp=>?_
A3 λa ha=>?_
A4 xO name qual params body scope dV kV doc pm an cdv ct
A5 vC×Obj
A6 some d
A7 (0:Int)
A8 λj fs hj=>?_
A9 λh e=>⟨oI',e,hoc,hod⟩"#
|'B'=>r#"Ba min xs.size ys.size<=sizeLine
Bc Yx G H
Bd XE.toD (qJ af (XE.toV (qT Sr af)))
Be X.env.kindOf x=some .cell\/X.env.kindOf x=some .free
Bf WI (Pn ws vs) H
Bg Fun K x qual st f fd
Bh 0<=b.1/\b.1<n
Bi .ref b
Bj ⟨us,[]⟩
Bk ⟨l,b,vs,us,rfl,rfl,Bl,x1.gh _ _ r6,f1,f2⟩
Bl x1.hh _ _ r2
Bm some i
Bn s1.heap.objs.size+1
Bo X.mg x=none
Bp St->Hp->Prop
Bq SetTable.below xs j
Br Cal P w K mg base 2 f_is_way d_is_way "is_way" gO 1 q1F
Bs .int i t
Bt .int b.2.1
Bu λe=>(u7 prog w).is x e.2
Bv vD 5
Bw upd (zAe H ts us ws) S kI
Bx mg "all" = none
By m.1=none->m.2.1≠m.2.2.1
Bz ["things", "knots", "edges"]
BA I.base.keep b o e n hb hx
BB λb o e n hb hx=>?_
BC λb hb=>(hf b hb).1
BD ys.length<=sizeLine
BE vK rG X.env=[bR,ir]
BF qeE (hW _ ∅ ∅).2 v nn (λe he=>?_) λe he=>?_
BG no.ow i ds
BH mvR m
BI bs.map tri
BJ X.fn x3=true\/X.env.scope.names.lookup x3=some .local
BK X.fn x2=true\/X.env.scope.names.lookup x2=some .local
BL PySem.Fin->vF->Prop
BM List W
BN .tup [x,y]
BO ⟨⟨_,hS,rfl⟩,PySem.F.args_list_init_2 _ _,?_⟩
BP ⟨rfl,I.turnedL (t':=s.toks) Kv hf⟩
BQ λvs H Q E h=>?_
BS y1.mono x2.gg
BT some kb
BU some dj
BV hb pins s1 σ H1 _ I1 q1
BW crx n x
BX ["numbers", "one", "other"]
BY Yn oIx ay cv
BZ Yn oIx aZ aQ
B1 Yf aH (Yf cK dS)
B2 Ye (vD 8) Yk
B3 Ye Ul Yk
B4 W6 s.heap z TI TO (uT t) f1
B5 SetTable.below t.place slot
B6 List Int×List D
B8 .type T
B9 .type "list""#
|'C'=>r#"Ca .lst cF
Cb .dT kvs
Cc .builtin "list.extend.loop" ⟨[gF,iZ,res],[]⟩
Cd .Name "sorted" p
Ce ⟨vs,h1,h2,h3,h4,h5,P4,P4⟩
Cf yA _
Cg some 1
Ci q9h hu AR (pv 5) Na S8
Cj (none,m)
Ck Yr K H ds vs
Cl Sum.inl k
Cm Option vB
Cn IntKeys a₀
Co Gl X "range"
Cp (xs.toList.take j).drop l++xs.toList.drop (j+1)
Cq ↥(.int here)
Cr λf vs=>PySem.call f vs
Cs λe s'=>R (.error e) s'
Ct pv 3
Cu inD n l&&ds.all (zBi n)
Cv ha q2 pins s σ H _ I h
Cw fr H
Cy apart pins a kS e1 ks e
Cz [D.str "box", mB,kA,iy,mO]
CA Yr X.K G ds xs
CB Ye (XE.toD (q0i af)) Yk
CC P.getD gZ 0
CD KV kvs vs
CF .int lo t
CG .int hi u
CH .Call (.Attribute o "remove" apos) [e] [] cpos
CI .Call (.Attribute o "extend" apos) [e] [] cpos
CJ .Call (.Attribute o "append" apos) [e] [] cpos
CK q1M go gd gf ?_
CL q0p lf i_list rfl z_isinstance rfl z_list q1m
CM es.map λe=>e.1
CN ["script"]
CO ["move"]
CP ["arcs"]
CQ XE.toD (xc c_has_place hr (Ye cN (Ye oR Yk)))
CS XE.toD (xc c_has_place hr (Ye cN (Ye oP Yk)))
CT SqT.of jf
CU IsT K .tup
CV Cal P w K mg base 1 f_cost d_cost "cost" kR 1 q17
CW .Tuple es k pos
CY .Name "range" p
CZ (p,w)::P.zip vs"#
|'D'=>r#"Da σ.set i oy
Db λe=>z (Sum.inl.inj e)
Dc λe=>vI e.2
De λ_=>true
Df λ_ _=>true
Dg zBn M frees wi g tc te
Dh zAo (tBM K "list" Xx (XU 4) abS)
Di zAo (tBM K "list" Xx (XU 3) abS)
Dj vK [eY] X.env=(false,eval eY X.env)::vK [] X.env
Dk vK [eX] X.env=(false,eval eX X.env)::vK [] X.env
Dl vK [e1] X.env=(false,eval e1 X.env)::vK [] X.env
Dm v4 "list" vs.toArray n
Dn pins++[(it,oI),(a,oS)]
Do es.map Ym
Dp a==uL
Dq a.map D.int
Dr [.Name x2 q5,.Name x3 q6]
Ds ["home", "last", "moves"]
Dt Yi st
Du XB M frees fi fg fc fe
Dv St p0 p1 bs
Dw I.base.free b o e n hx
Dx FnOk X.prog X.w X.K X.mg X.base CX0 k f fd ps sp
Dy Around.under_plainId PySem.F.plain_extend_loop _
Dz .lst (kn.map Ym)
DA .int (kf d)
DB .Call (.Attribute cu "append" a2) [e1] [] c2
DC (x1.trans x2).trans x3
DD (plc h l bs).map D.int
DE (T0++T1)++B
DF vK [b] X.env=[ir]
DG vK [a] X.env=[bR]
DH (toString "min" ++ toString ".loop" : String)
DI s.heap.get? it=some (WE (.int slot 0) i a n ep)
DJ [some (W.sh rD),↥a8,none,none,none,none,none]
DK ["size", "moves"]
DL X.mg "zip" = none
DM FnOk X.prog X.w X.K X.mg X.base CX k f fd ps sp
DN .ref I
DO ⟨∅,∅⟩
DP λj ds hj=>?_
DQ λi i1 i2=>?_
DR λb z1 z2=>?_
DS zS e
DT zBk (WL m) ds
DU zA8 M frees σ
DV xs.map λ_=>D.bl true
DW v5 go gd gf ?_
DX uD op b=false
DY u9 a slot i ep
DZ some (.ref K2)"#
|'E'=>r#"Ea qd (q0O q hn)
Eb (p.1,X8 (XN is p.2) ω)
Ec [.int (p.2:Int),tri p.1]
Ed [(l,h)]
Ee ["size", "gap", "moves"]
Ef ["home", "last", "arcs"]
Eh TP X pins σ Q
Ei Room k0 X.A
Ej List vm
Ek Ext G H G' H'
El .ok (.ret res)
Em .int ds.length
En .Dict [] [] q1
Eo (sts as).Perm (gls as)
Ep vt cW k
Er dOf fu
Es (.nx,ω)
Et .fr ds
Eu ⟨σ',H',I.unwish,q⟩
Ev ↥(.lst (.int c::bts))
Ew λj ks fs hj=>?_
Ex vOf (Yn oIx (vOf (Yh 11)) (vOf (Yh 12)))
Ey vOf (Yh 7)
Ez vJ ∅
EA upd H p jw
EB tOf (Yn da (vOf NF) Qq)
EC start N vs
ED plc h l bs
EE o2.free no (T2.gl l n1).1 (T2.gl l n1).2
EF (none,0,0,0)
EG inW M frees ω
EH hl pins s σ H _ I h
EI hi pins s σ H _ I h
EJ ZSt h0 S z TI TO i1 i2 l1 l2 xs ys ts s.heap
EK XE.toD (xc c_without_ways hr E4)
EL X.mg "enumerate" = none
EM Or.inr rfl
EN K w.params
EO It->Hp->Prop
EQ .dic ks ds
ER .Slice lo hi none p2
ES .Return (some e) pos
ET .BinOp a .Mult b pos
EU λe=>e.1
EV zAM td (Xy 5)
EW vt cW j
EX thn (ha pins s σ H Q I h) λc s1 e=>?_
EY sb2.extBut _ _ n2 Fp
EZ s.heap.get? it=some (WE ace i a n ep)
E1 cutD ds lo hi
E2 Yf bv Yq
E3 Yf au Yq
E4 Ye j5 Yk
E5 Xt _
E6 XD.toE (XE.toD (xc c_ring_edges hr aW))
E7 WW ks xss a b
E8 WE (.int (slot 0:Nat) 0) 0 a es.size ep
E9 PE X b tb"#
|'F'=>r#"Fa L2.start N vs
Fb Array ur
Fc Array Nat
Fe .tup ds
Ff .sh bY
Fg .int b.1
Fh .int 1 v
Fi .Call (.Name "enumerate" ep) [o0] [] ec
Fj ↥(.lst jy)
Fk ↥(.lst (mt.map mvR))
Fl λh' c' kp e=>fin its r' hz h' c' kp e
Fm vOf (Yn oDiv aZ jm)
Fn v4 "list" ks e
Fo typeOf kh=pure (.type "method_descriptor")
Fp sb1.extBut _ _ n1 e
Fq sIx items.size 0 lo
Fs e=x\/H e=some (.own x)
Ft [some rD,some v1,none,none,none,none,none]
Fu [D.str "go", kA,iy,mO]
Fv Yf (dOf (Wz au)) Yq
Fw XE.toD (Yj (XE.toV (Yj fF Lj)) af)
Fx SqL.of h1
Fy Option vP
Fz D.pys (b.map D.int)
FB (.nx,ω.set i (some (.ow (ds.set j d))))
FC .lst (xs.map V.int)
FF .int ys.length
FH .bl FP
FJ .Call (.Name "enumerate" p) [a] [] pos
FK (xs.filter q).map F
FL (cst row).map D.int
FN zF _ e
FP zAa (tyD d) c
FQ v6 bD Pr spos.line X.env=pure true
FR ta σ H λx H1=>tb σ H1 λy H2=>R x y H2
FU tI a₀ st
FV nrem<=a₀.size
FX mg "zip" = none
FY mg "sum" = none
FZ [none]"#
|'G'=>r#"Ga ["script", "k"]
Gb OpR X (uG op) r
Gc IsT K .lst
Ge zAm xs lo hi
Gf vOf (Yn oIx bm cv)
Gg upd H p o
Gh upd H a o
Gi upd G l (.frz ob (.dK (kvsOf ks0 vs)))
Gj some true
Gk some (.bl p)
Gm s.heap.get? t=some ot
Gn s.heap.IsList l items
Go ps.zip us
Gp now.ow i ds'
Gq neC b o e hx
Gr ms.map Wc
Gs mg "enumerate" = none
Gu k=true->stepW I μ (μ ω) J (fb ω)
Gv as.map Ym
Gw Ys (gN 6) (Ys (gN 7) (Ys (gN 8) Xa))
Gx XD.toV Xr
Gy Option Int->Hp->Prop
Gz I.hok.fresh QP
GA Builtin.List.listLengthHint (.ref r)
GB .Subscript o i pos
GC .Subscript a b pos
GD .Assign [eu] e pos
GE (Xd f pre).1 e.1==(Xd f pre).1 e.2.1
GG λG0 H0 G ω σ H d v ω' Q o e h k=>?_
GH x.above y c (PySem.mem_of_lookup h)
GJ vD 6
GK eR n x
GL eL n x
GM (d,ω.set i (some (.ow ds.dropLast)))
GN XU 2
GO XE.toD (qT (XE.toV (q0K lg af)) af)
GP WE (.int (slot i) 0) i a es.size ep
GQ .vw ds
GR .ow ds
GT (.nx,ω.set i (some (.ow (ds++ds'))))
GU .int x
GV .int e.1
GW .bl b
GX ⟨j,∅,h2⟩
GY ⟨_,jH,rfl,_,rfl⟩
GZ ⟨.int _,H,I.kept (t':=tk) hk,bK,q⟩
G7 ω.set i ↥(B x)
G8 λi ks ds' hi=>vN hi (now.od i ks ds')
G9 λi d h=>?_"#
|'H'=>r#"Hb λH i s hi=>?_
Hc x2.hh _ _ r2
Hd w.params.followText "set-order" = true
He some ds
Hf some (W.sh bu)
Hg some (.sh (Ym e))
Hh some (.od ks' es)
Hi s1.heap.objs.size+4
Hj qt (XE.toD (xc c_ring_gaps hr aW))
Hl q5l I.hok eb
Hm q1G rfl
Ho pv i hN hv hd hcd
Hq ks.zip vs.toArray
Hr (ks,ds)
Hs ks++[k]
Ht keyOk m
Hu k<as.length
Hv its.toArray.size+its2.toArray.size
Hw items.size<=sizeLine
Hz intKind_is _ _ _ _
HA d.params.defaults=[]
HB ["c", "size", "home", "last", "boxes"]
HC Y9 af
HD Xi bv
HE XE.toV (Yj fF af)
HF XE.toD (Yj ib dW)
HG X1 X pins H kS
HH X.env.scope.names.lookup x=some .local
HJ X.A.units+1<ue
HK Str->Option uX
HL Room (k+2) X.A
HM Own K G0 F G ω σ H
HN Option Nat->ux->Prop
HP Option Bool
HQ OpV X.K r o
HR Obj.putSet es' t'
HS List V->Hp->VK->Prop
HU List (Key×vB)
HV HOk X.prog X.w H' h'
HW H p=some dY
HX Gl X "list"
HY GS ts es gs hs
HZ ForInStep.yield r"#
|'I'=>r#"Ib .ref sl
Ic (.nx,ω.set i (some (.ow (ds++es))))
Id .lst us
Ie .int (kn kf ds 0) t2
Ig .Name x q
Ih (Yz ks).map D.int
Ii (Y6 ns).map V.int
Ij λ_=>rfl
Ik uS hz rfl (x:=.bool false) rfl ?_
Il tOp r ta tb
Im tE e rfl ?_
Io kvsOf ks vs
Ip .str x
Iq ⟨o,e⟩
Ir ⟨_,rfl,∅,∅⟩
Iu ⟨[],H,I,.nil,h⟩
Iv λy hy=>?_
Iw λx y H Q=>r x y H Q\/r' x y H Q
Ix λb ob q=>zF _ q
Iy zP ne
Iz xF.mpr oE
IA uo a1 b1 hx λh₂ c1 sb2=>vG ?_
IB some (.ow ((plc h l pre).map D.int))
IC some (.od F (WC F))
ID q9I rfl z_zip IO
IE putK kvs p.1 p.2
IF h h' tk d _ ys hk (zS hS') y1 y2
IG ds.length=xs.length
IH [s1.heap.objs.size]
II [Aj,none,none,none]
IJ ["thing", "beside"]
IK ["arcs", "numbers", "number", "arc"]
IL Yn o f g
IM Yf mM Yq
IN Yf bv (Yf cK Yq)
IO Ye j5 (Ye nJ Yk)
IP XZ WK (Yf cR Yq)
IQ XX f a b
IR (Sum.inl:Int->Key)
IS P.getD k 0
IT Option vC
IU List bB
IV .sh .non
IW .int (-1)
IX .frz ob (.dK AS)
IY .Call (.Name "min" p) [e] aw pos
IZ ⟨a,vs,h1,e _ _ h2,So⟩"#
|'J'=>r#"Ja ⟨[ig],[]⟩
Jb zY n
Jc xs.length-1
Jd x13.trans (Ext.hide x3.gh hn _)
Je vV 5
Jf v6 e none pos.line X.env=pure false
Jg t4 [tg] e pos.line X.env=pure false
Jh bs.length<=30
Ji a2.extBut sb2.extBut D.i12.symm
Jj List (TE×TE)
Jk Gl X "sorted"
Jl .ref D
Jm .int p
Jn .fr ((cutD ns lo hi).map D.int)
Jo .List [] q4
Jp .Call (.Name "zip" p) rG [] pos
Jq (wG T.nd).mp (j2.trans i2.symm)
Jr ⟨e,?_⟩
Js λx1 x2=>x1++x2
Jt λp=>D.int (c+Yl n h l bs p.1)
Ju λi j hij hj=>?_
Jv λ_ _ q=>zF _ q
Jw zBF s₁.heap H
Jx (x,NameKind.free)
Jy wpS_get ?_
Jz vOf (Yh 8)
JA vA Vx
JB upd H2 p (.dK (kvsOf [k] [v]))
JC u9 a (slot es.size) es.size ep
JD tq _ _ _ _
JE qc (q2b Q5)
JF qbJ hz ht λh' f1' hz1 sb1=>?_
JG q5U hd h2 h4
JH q0e fa ha3
JI pm.mem_iff.mp h
JJ (n,NameKind.cell)
JK hr.mono hk
JL hm b _ q λz=>z
JM h1.trans z
JN f Bs (.int j u)
JO b.2.2 == -1&&goN n b.2.1 b.1 x
JP [(dX, eZ)]
JQ ["script", "some"]
JR ["script", "size"]
JS Z.keep b o hb e
JT W4 .tup ay
JU Str.ofString "__length_hint__"
JV SqL X.K H p ys\/SqT X.K H p ys
JW Option Nat
JX .tup (k.map kV)
JY .lst kq
JZ .lst kE
J0 .int p1
J1 .int p0
J2 .int i::vs
J3 .int (b-a)
J4 (P.drop 1++P.take 1).map D.int
J5 λb o z y=>hs'.extBut b o z y
J6 λG0 H0 G ω σ H r Q ow e kk=>?_
J7 λG0 H0 G ω σ H r Q o er kk=>?_
J8 zD hlt
J9 vH ∅"#
|'K'=>r#"Ka ua (items:=its.toArray) l6 ?_
Kb uS hz rfl (x:=.ref TI) rfl ?_
Kc some k
Kd s2.trans s5
Ke qt j5
Kf q6a (xc c_check_errand hr oh)
Kg k::ks
Kh fa ω
Ki [Aj,none,y2.map W.sh,y3.map W.sh]
Kj XF Yk
Kk WZ Yq
Kl PySem.F.args_dict_get_3 _ _ _
Km .sh i9
Kn (.nx,w)
Ko .dK []
Kp ⟨OD,H2,I2,.cons r1 r2,q2⟩
Kq ⟨G,io,o⟩
Kt λq=>z (of_decide_eq_true q)
Ku λi ds h=>vN h BG
Kv λb o hb e=>?_
Kw λG0 H0 G ω σ H r Q ow e k=>?_
Ky λG0 H0 G ω σ H ds Q o e k=>?_
Kz zH _ he
KA zB4 zAA
KB vs.length<64
KC vH y
KD um s.heap TI PL K6
KF uQ .Add
KG ts.map λ_=>[]
KH some gK
KI s0.trans x2.gg
KJ q2I rfl
KK (out,ω')
KL nxN P.length i
KM ks.length<1000000
KN (items.size:Int)
KO hr pos pins s1 σ H1 _ I1 q1
KP hn x hx
KQ h2 G0 H0 G ω σ H d Q o e k
KR gT 2 fY
KS abx n x
KU [none,↥aY]
KW ["number", "box"]
KY Yr.ints _
KZ Yr K G es us
K0 Xm cM&&(ns.map D.int).all Xm
K1 Vw K G H d v
K2 F.pin i
K3 Ae==0&&cI==1&&dE==items.size
K4 A.units+1<ue
K5 .type "list_reverseiterator"
K6 .ref i2
K7 .ref fa
K8 (.nx,ω')
K9 .int b.2.2"#
|'L'=>r#"La .builtin "min"
Lb ⟨⟨o,e,ex.1⟩,λa e2=>?_⟩
Lc ⟨G2,Vd,q2.mono s0⟩
Ld λi s hi go' A' Q' E' q=>?_
Le λb u z=>?_
Lf λG0 H0 G ω σ H b Q o e k=>?_
Lg ys.size-1
Lh xc c_is_whole hr UV
Li xI _
Lj vV 6
Lk upd H p (.lst (xs.set j v))
Ll uE o name X.env mj=eval o X.env
Lm sub x c e
Ln stN n m.2
Lo qd hm
Lp q6a (xc c_check_ring hr aW)
Lq q08 e
Lr (e.1,e.2.1)
Ls b2.extBut sb2.extBut D.l2i1
Lu b.2.2==1&&goN n b.1 b.2.1 x
Lv [some (.ref A0),none,none,none]
Lw ["size"]
Lx XU i
Ly XL as j=v
Lz XE.toV (Yj (vV 11) (vV 12))
LA XD X e f
LB Option R
LC List eM
LD .od ks ds
LE .lst accv
LF .Compare a [.NotEq] [b] pos
LG (ze _ _ nia.symm).trans qi3
LH (a₀.toList.take x).drop b
LI ⟨bE,r1,p,_,rfl,g,_,rfl,?_⟩
LJ ⟨[oB, a],[]⟩
LK λu s2 he=>?_
LL wpS_lift (uW ⟨rfl,?_⟩)
LM vJ y
LN upd H5 D (.lst (acc++[v]))
LO upd (zAe H1 ts xs ys) S kI
LP some (.od (kkP pre) (vvP pre))
LQ row.map D.int
LR qd (na q)
LS kn kf ds (j+1)<kn kf ds EW
LT k _ G1 H1 x1 rfl
LU h0.objs.size<=s.heap.objs.size
LV (bs.length:Int)
LW (as.length:Int)
LX [aY,dA,dQ,ao,lQ]
LY ["size", "move"]
LZ ["edge", "lack"]
L0 Ys (gN 13) (Ys (gN 14) Xa)
L1 Yn oDiv bm gu
L3 XQ (WB (vOf (W4 .lst bm)))
L4 XD X k fk
L5 (Sum.inr a:Key)
L6 SqL.of jf
L7 SqL K H p ys\/SqT K H p ys
L8 PT X a tA
L9 PE X o td"#
|'M'=>r#"Ma Option eG
Mb Moved.eq_with hm
Mc List D->Option R
Md I.freeC x c e
Me Gl X "enumerate"
Mf Env0 P w K mg base A outer s H
Mg 0<=l/\l<n
Mh 0<=h/\h<n
Mi .lst gW
Mj .lst (xs++zs)
Mk .int pV
Ml .inr rfl
Mm ⟨t,rfl⟩
Mn ⟨rj,⟨_,FN,rfl,n,rfl⟩⟩
Mo ⟨d,rfl⟩
Mp ⟨H,I,q⟩
Mq ↥(.int R)
Mr λj k es fs m hj hk sj sk=>?_
Mt zP ne'
Mu vJ hb
Mv ts.map λ_=>([]:List Int)
Mw rE e
Mx lE e
My holding [v] (call eZ [v])
Mz e.hh _ _ h2
MA ds.length+ds'.length<=1000000
MB dOf (fSl ay pNo (pAt cv))
MC [none,none]
MD XY p
ME SeqAt.canLay_of_shaped h4
MF SeqAt.canLay_of_shaped h3
MG PySem.F.typeCall_list_1 _
MH KT H kvs xs
MI Int->Int->V
MJ H a=some cX
MK .int q
ML .fr ((Xd f pX).2.map egD)
MM .Constant (.bool b) j pos
MO .Compare a [.GtE] [b] pos
MP (xs.toList.take j).drop l
MQ ⟨z.1,ht _ _ z.2.1,z.2.2⟩
MR ⟨v,H,I,r,h⟩
MS ⟨dd.typeIs,λb q=>?_,hd⟩
MT ⟨_,ho2,rfl⟩
MU λ_ q=>q
MV zt hlt
MW zM _ m
MY xs++ys
MZ wpS_ltK b1 h0 ∅ ∅ ?_
M0 vR ((atI Gv k).map R.sh)
M3 vOf fu
M4 vK rG X.env=bR::vK [b] X.env
M5 uO ig
M6 ts.map V.ref
M7 some (.ow (gs.map gD++[pD]))
M8 s _ _ h3
M9 q4N ry"#
|'N'=>r#"Na q3x qC
Nb q0m I hg hm hv ?_ hn hdb
Nc putK kvs k v
Nd nmP (k+1) gs
Nf mg "min" = none
Ng mg "abs" = none
Nh loT B+pV
Ni lo+hi
Nj ks.map D.int
Nk inB e he
Nl ho pins s1 σ H1 _ I1 q1
Nm hi pins s1 σ H1 _ I1 q1
Nn hf pins s2 σ H2 _ I2 q2
No he pins s1 σ H1 _ I1 q1
Np h pos pins s σ H _ I hq
Nq fe ω
Nr eval a X.env
Nt emE a
Nu byS as n
Nv [↥(egD x.1),↥(.int x.2)]
Nw [x0,x1,x2,x3,x4,x5,x6,x7,x8]
Nx (["c", "weight"]:List Str)
Ny Yt (WL m) ds
Nz Ys (gN 8) (Ys (gN 9) Xa)
NA Ys (gN 2) (Ys (gN 3) Xa)
NB Yp qw gz
NC Yn oIx cR au
ND Yn oIx cR aQ
NE Yn oIx cJ aQ
NF Yn oIx bm aQ
NG Yn oIx aZ au
NH Yf aH gz
NI Yf aH Yq
NJ Ye dD gB
NL XI X tg iter fi
NM WX kvs k
NO V->Hp->VK->Prop
NP PI X tg iter wi
NQ Obj.mapSeq f
NR FnScope N ps Dt
NS F.args_list_extend_2 _ _
NT Array DictEntry
NU .own a
NV .int (X7 ns)
NW .int (W8 ns)
NX .fr ((Yz p.1).map D.int)
NY .For tg iter body [] pos
NZ .Compare a [.Lt] [b] pos
N0 .Compare a [.Eq] [b] pos
N1 λi j ds' es l hi=>vN hi Gp
N2 zy (yM.mpr ⟨y1,y2⟩)
N3 qh (i:=8) q01.nd rfl ax
N4 h n st hB n1 n2 n3 same
N5 gN 4
N6 bubble (vW st2) j (j-l)
N7 bs.map λp=>D.int (f p)
N8 a++b
N9 [x0,x1,x2,x3,x4,y,x6,x7,x8]"#
|'O'=>r#"Oa SqL.of hq
Ob A.map λm=>Ym abl
Oc .int 0
Od .fr ((Yz ns).map D.int)
Oe .fr ((Y6 ED).map D.int)
Of .fr ((Y1 Af).map D.int)
Og (bs.map two++om).map Ym
Oh (((hi-lo).toNat:Nat):Int)
Oi ⟨rfl,l,l,rfl,c2,c4,c5⟩
Oj ⟨q,hq⟩
Om ⟨none,rfl⟩
Oo ⟨_,rfl,r1⟩
Op ⟨_,jH,rfl⟩
Oq ⟨_,hz,rfl⟩
Os ⟨_,ho,rfl⟩
Ot σ.set 6 eQ
Ou λz=>?_
Ov λk=>D.int (Z+v (f k))
Ow λc v hc q=>k c v ?_ q
Ox λ_ _ _ q=>q
Oy zJ _ (zJ _ (q33 z eo))
Oz zJ _ (zJ _ (q33 hb e))
OA yg.mpr ⟨two b,zy h,?_⟩
OB y2.after x1
OC xH.mp e
OD x::xs
OE some (9+bh)
OF s.heap.IsListIter i2 l2 k2
OG s.heap.IsListIter i1 l1 k1
OH r.append r2
OI qB h1 qC hs
OJ q4B hr.units Ux nJ
OK hx.rep s
OL h.objs.size<=a
OM g1.trans g2
ON g.map D.int
OO fs.lookup f
OP frs X.stack
OQ fC (.int 7)
OR fC (.int 5)
OS es++[(p,q)]
OT egD e
OU ds.map λd=>D.bl (q d)
OV dOf (Yp qw (Yf Er Yq))
OW b=p\/b∈ls
OX [bE]
OY ["box"]
OZ Yx H H'
O0 Yw xs vs
O1 Yw xs us
O2 XT X a f
O3 U.Perm (n::U')
O4 Room (k+1) X.A
O5 P.map D.int
O6 Option (vB×Nat)->vF->Prop
O7 Ok ts es
O8 List Key
O9 Int->Int->Prop"#
|'P'=>r#"Pa Int->Int->Bool
Pb InR n Q
Pc Gl X "zip"
Pd .type "zip"
Pe .lst oH
Pf .Attribute o name apos
Pg (a2.endLine==c2.line)=true
Ph ((0+1+1+1:Nat):Int)==3
Pi ⟨G2,_,_,_,_,_,S2,run⟩
Pj λy hy=>YX e1 y ⇑hy
Pk λd hd=>qav (b5 d hd)
Pm zJ _ (zJ _ (zH _ zG))
Po zD hj
Pp vs++dvs
Pq t5 [tg] e X.env=pure none
Pr some eu
Ps some Et
Pt q0g hk
Pu l.map g
Pv ks++[a]
Pw eOf (dOf (Yp q00 bp))
Px X3 ω
Py Wx f ks
Pz Wc m
PB WH as n
PD Str×vB
PF D->Int
PH .type "StopIteration"
PJ .tup vs
PL .ref i1
PM .ref _
PN .builtin "isinstance"
PP .Constant .none j pos
PQ -1-W8 du<=c/\c<=1-X7 du
PR (hs.2 b (zt rM)).trans e1
PU ⟨m',hm,σ3,H3,I3,w3⟩
PV ⟨f,f1,?_⟩
PX ⟨_,rfl,r⟩
PY ⟨[dJ],[]⟩
PZ ⟨G0,H0,G,ω,d,o,e,k⟩
P0 ω.set i dj
P2 ρ e.2.1
P3 λω ds e=>?_
P4 λk es hk=>?_
P5 λj es hj=>?_
P6 zY es.size
P7 zV.mp m
P8 z.sameBut hs (cne y c e)
P9 vOf (Yh 9)"#
|'Q'=>r#"Qa upd H l rC
Qb uJ ks.toList (ds.map kf)
Qc some (.ow (ds++[d]))
Qd share i ω
Qe q0e fa ha0
Qf ow.keep x1
Qg ms.map mvR
Qh l.most=some n
Qi (its.toArray.size:Int)
Qj hm _ (yC ∅)
Qk hf _ k rfl rfl k0 k1
Ql hc pins s σ H _ I h
Qm (h,l,1)
Qn h pins s σ H _ I hw
Qo ft ω
Qp fk ω
Qq fC dG
Qr fC bY
Qs fC bW
Qt entry n ds
Qu (d,ω')
Qv call eZ us
Qw ([]:List vC)
Qx ([]:List A5)
Qy ["start", "goal", "way"]
Qz Xc st
QA XE.toD (Y5 ib XR HC)
QB SetTable.below t.place j
QC P.getD i 0
QD J.stop i H'/\Q Jl H'
QE I1.kept (t':=s1.toks) hk
QF (0,0,0)
QG .ref s3.heap.objs.size
QH .int (a*b)
QI .While c body [] pos
QJ .BoolOp .And [a] pos
QK .Assign [eu] bD spos
QL ((sIx n n hi:Nat):Int)
QM ((m.1.getD 0:Nat):Int)
QN ⟨.int pW,H,ka,bK,q⟩
QO ↥(.lst (B.map D.int))
QP yt _
QQ yW _
QR xc c_go_right hr B2
QS x-Ay
QT vOf (Yn oDiv cR jm)
QU vG (wpAny_throw ?_)
QV tupleItemsOf_ ht ?_
QW storeName X.env x u
QX s0.heap.objs.size+4
QY s0.heap.objs.size+3
QZ s0.heap.objs.size+2
Q0 s0.heap.objs.size+1
Q2 qaz h2 qax q9K qaa ht
Q3 qV n aq
Q4 qI (qE (XE.toV Ag))
Q5 pv 4
Q6 pv 1
Q7 intBits_le_64 h1 h2
Q8 gN 5
Q9 fSl bm (pAt au) pNo"#
|'R'=>r#"Ra es.size=n
Rb [v,ov,iv]
Rc Xi (dOf (Yp qX bp))
Rf Xh w
Rh XD X e fd
Ri XD X a fa
Rj PA X jA t
Rk Own X.K G0 H0 G ω σ H
Rl List Bool
Rm List (V×V)->Hp->Prop
Rn 0<Yl n h l bs e.1+c
Ro .int (kn kf ds EW) tb
Rp .Dict [Kc] [e] dpos
Rq .Call rX [eY] [] q1
Rr .Call rX [eX] [] q1
Rs .Call Cd [e] aw pos
Rt .Call CY [a] [] pos
Ru .BoolOp .Or [a] pos
Rv (q0P f _).subset he
Rw (ls++[q]).map V.ref
Rx (ls++[l]).map V.ref
Ry (S2.keep x1).setH _
Rz ⟨rfl,vs,SqL.of r2⟩
RA ⟨q36 t _,rfl,xZ _⟩
RB ⟨[u],[]⟩
RC ⟨[a],[]⟩
RD ↥(.lst jv)
RE ↥(.lst AC)
RF λp=>egD (egN n p)
RG λi=>bs.getD i false
RH λi ds h=>?_
RI zd ⇑y
RJ zZ ⇑y
RK xss++[[]]
RM xc c_go_left hr B2
RN x=.non
RO x++[b]
RP vvP kH
RQ vX->ve->Prop
RS vOf (Yn oIx bm gu)
RT vH hb
RU v5 go gd T.fits fW
RV v5 go gd T.fits ?_
RW upd H x o
RX upTo i (j-i).toNat
RY u9 a (slot i) i ep
RZ ts.length-F.length
R1 trT K zBf
R3 tV->vF->Prop
R4 s.heap.get? tp=some ot
R5 qc q9d
R6 q0K kO af
R7 ns.length<64
R8 model P w
R9 kv.1=k"#
|'S'=>r#"Sb ks.map kV
Sd kkP kH
Se k _ G1 H1 x1 (qay _ _)
Sf h5.mono e.gg
Sg es.zip ls
Sh es.length<64
Si ds.length-1
Sj bH->ve->Prop
Sk a₀.toList.take x
Sl a₀.toList.take n
Sm as++Ed
Sn [none,none,none,↥aY]
So Yr.mono e h3
Sr XE.toV (q0K fF af)
Ss XE.toV (q09 dP af)
Su XD.toE Yg
Sv XD.toE (XE.toD Av)
Sw Wv Z T E a w
Sz SqL.of AQ
SA PIE X pins σ tg R
SB List ur
SC List lx
SD List jo
SE Key×V
SF Itz K a b
SG InR n P
SH ForInStep.yield ok
SJ B++[k]
SK A.map two
SL A.map mvR
SM .ref s1.heap.objs.size
SN .ok .next
SO .inl h
SQ .ext (setP w S ns)
SR .dK (putK kvs k z)
ST .Constant lI j pos
SU .Constant Ip j pos
SW .Call CY rG [] pos
SX .BoolOp op [a] pos
SY .Assign [tg] e pos
SZ .Assign [iA] e pos
S4 (egs n aq).map egD
S5 (byS as n).1++[oY]
S6 (Y1 ls').map D.int
S7 ⟨u,r1,r2.mono s1⟩
S8 ⟨rfl,rfl,rfl,rfl⟩
S9 ⟨_,rfl,pS,rfl,Ij⟩"#
|'T'=>r#"Ta ⟨_,es',ep',hL,r'⟩
Tc ⟨G5,ω3,o5,Kd,f2⟩
Td ⟨G4,ω3,o4,gg,e1⟩
Te λv _=>v=.bl true
Tf λj y v' e1 e2 e3=>?_
Tg λhab=>vN ⋯ hab
Th α->β
Ti x2.gg.trans x2.gh
Tj wpAny_load hS' ?_
Tk upd H l (.lst oU)
Tl tOf (Yn fL j7 cJ)
Tm some (.od Gd (WC Gd))
Tn s1.heap.objs.size+3
To s1.heap.objs.size+2
Tp q0k hN hi hx h1 hs hf
Tq q0M.mpr (.inr bT)
Tr ns.map PyData.int
Ts k _ _ (Ne.symm s1) e2
Tt k _ G H dy (hg _ i j)
Tu fin h' ys sb S' p
Tv entry N.length ds
Tw e _ _ h
Tx c+Yl n p0 p1 bs x
Tz Yl n h l bs x.1+c
TB Yl n h l bs e.1+0
TC Xq hr.units Lj lf
TD XE.toV (Yj lg af)
TF XE.toD (Yj lf af)
TH X4 hr.units cc Gx
TJ SqL.of (x1.gh _ _ f1)
TK .tup (p.1.map kV)
TL .lst fq
TM .Subscript o2 o3 q5
TN .Subscript o i pos'
TQ .BinOp a op b pos
TR ((k.toNat:Nat):Int)
TV (egs n P).map egD
TW (bs.map iQ).sum+w
TX ⟨i,j,rfl,rfl,kL⟩
TY ⟨h1,h2⟩
TZ ↥(.int t)
T7 λx=>D.int (x+c)
T8 λq=>Ym (Xe q.1)
T9 λi x v e1 e2 e3=>?_"#
|'U'=>r#"Ua λi ds' hi=>vN hi Gp
Ub λc hc=>(hf' c hc).1
Uc zx ∅
Ud yJ (q6i xs lo hi) hz
Ue xs.map B
Uf xc c_turns hr aW
Ug xT _
Uh x.hh _ _ hl
Ui wpAny_handled ?_
Uj vV 7
Uk vH (h1.symm.trans e)
Ul vD 7
Um vC->Prop
Uo uQ .Mult
Up truthy v
Uq stat fr5
Ur qj Je qo
Us qaj s.heap I.big
Ut qK.mem_iff.mp ht
Uu qB (pv 6) qC rfl
Uv q4x r fs
Uw pv 7
Ux pv 0
Uy ow.ext.hh.free hpn
Uz ob.data=.dict es0 ep
UA oIn true
UB ns.map WData.int
UC none::is
UD nmP k gs
UE ks.toList.zip vs
UF kV k
UG its.toArray.size-1
UH hout b y
UI getElem?_pos xs j hs
UJ gN i
UK args_list_sort _
UL a==b
UM a2.trans qF.symm
UN ["turn"]
UO (["gap"]:List Str)
UP (["arc"]:List Str)
UQ Yw vs us
UR Yt Yo (egs n Dv)
US Yp qW (Yf av E3)
UT Yf j8 Yq
UU Yf aQ Yq
UV Ye dD Yk
UW Xp.no no.pw
UX XU 1
UY XQ (WB (vOf NB))
UZ XQ (WB (vOf JT))
U0 XGs X es gs
U1 X.wish E
U2 WG X.K r op
U3 Rep K H d v
U4 RelV x u
U5 RelV v u
U6 Nat->Int
U7 L2.Inv X pins σ H s
U8 IsTup s.heap t items
U9 Int->Int->D"#
|'V'=>r#"Va I1.hok.fresh hle
Vb G p=none
Vc G a=some fV
Vd Ext.refl s1
Ve D.pys Dq
Vf Array Cm
Vg .inl e
Vh .frz o u
Vi .Tuple es x1 pos
Vj .IfExp c a b pos
Vk .Dict [] [] dpos
Vl (hs.2 b nU).trans e1
Vm ⟨h1,h2.step e'⟩
Vn λb z=>vN z (noA b)
Vo λb u e=>zF _ e
Vp λb o e=>zF _ e
Vq zS e1
Vr zJ _ (zV.mpr rfl)
Vs zAZ (Yp q0j bp)
Vt zAZ (Yp q05 oe)
Vu yC _
Vv xc c_cost hr gB
Vx vU ?_
Vy vH h1
Vz uj ?_
VA uW ?_
VB uO iZ
VC setItem ov iv v
VD s.heap.objs.size<=a
VE s.heap.IsList l2 ys
VF s.heap.IsList l1 xs
VG q::qs
VH q4l hN i3 l3 f3
VI putSet_of es' t' gd
VJ op==CmpOp.NotIn
VL mirror eW _ _ _
VM kvs.length<sizeLine
VN ks.length=vs.length
VO fr H3
VP f v u
VQ call kh (v::us)
VR assign eu X.env
VS as.getD n (0,0)
VT (a:Int)
VU Xm x&&ys.all Xm
VW Xi cK
VX Xi bn
VY X5 ts
VZ I.ok.noex b o e
V0 Ext.hide s hp _
V1 0<=k
V2 .ok f
V3 (.nx,ω.set i ss)
V4 .lst xs.reverse
V5 .bl (decide Eo)
V6 .Tuple Dr kx tp
V7 (r.drop pZ).take fB
V8 (Wo bs).map mvR
V9 ⟨v,u,h1,h2,h4⟩"#
|'a'=>r#"aa ⟨rfl,rfl,rfl,⋯,rfl,⋯,⋯⟩
ac List Int
af XD.toV Yg
ag Int×Int×Int
ah List gJ
ai model X.prog X.w
aj Inv X pins σ H s
ak ["size", "home", "last", "boxes"]
ao .lst BI
aq St h l bs
ar model prog w
au fC aV
av dOf (Yh 0)
aw [⟨some dX,.Name x p2,p3⟩]
ax Or.inl rfl
ay vOf (Yh 0)
aC List A5
aG (x==("__debug__" : Str))=false
aH dOf be
aI vK jA X.env=b8::vK es X.env
aJ .ref s.heap.objs.size
aK RfS K G0 H0 G s as p t b ks ls xss T B h y σ H
aM List D
aO vB->vF->Prop
aQ fC Oc
aT X2 X N scope C s H fp
aU λe=>Yl n h l bs e.1+c
aV .int 1
aW Ye cN (Ye dD (Ye jt E4))
aY .int n
aZ vOf be
a8 .lst Gv
aaa ⟨row,U',?_,r2⟩
aab ⟨ob,h1,h2.2.1⟩
aac (∅:0<P.length)
aad ρ e.1
aae λq=>z2 q.symm
aaf λl hl=>?_
aag λj hj=>?_
aah λi v=>v=val i
aai λe=>D.int e.1
aaj I1.laid (t':=s1.toks) Vo cP ?_
aak λq=>z1 q.symm
aal λe he=>t e Kz
aam λ_ _ _=>False
aan λ_ _ _ _ n=>n
aao zJ _ (zJ _ zG)
aap x1.gg.trans g2
aaq x1.gg.trans Kd
aar wc eZ (.ref y)
aas wU K cdv qual=true
aat upTo 0 j.toNat
aau typeIs_str s z t
aav ts.map Value.ref
aaw some (.sh p.1)
aax some (.rt r,w)
aay s2.trans o2.gh
aaz ret Value.none
aaA repA ks vs k v
aaB qc (qg (vE 7))
aaC ot.data=.seq ps nt
aaD o.ext.hh.free e2
aaE (none,a₀.size)
aaF hnext _ _ _ ?_
aaG ds.length<=1000000
aaH dOf (Yp qM E2)
aaI args_sorted1 _
aaJ [none,↥aY,↥MD]
aaK ["key", "default"]
aaL WW ks xss a' b
aaM WA N.length ws
aaN T.lst j l xs e2 e5
aaO Loc X.env.scope x3
aaP Loc X.env.scope x2
aaQ FnScope N ps scope
aaR Ext.refl ow.gh
aaS Binds X.K fd ps ds
aaT Array vB->Array vB
aaU Array eM->vF->Prop
aaV AP X pins σ Q
aaW .int pW s.toks
aaX .int ns.length
aaY .int ((b-a)*w)
aaZ .cons ry' .nil
aa0 .builtin "sum"
aa1 .builtin "max"
aa2 .builtin "len"
aa3 .builtin "all"
aa4 .builtin "abs"
aa5 (ds++[d]).length-1
aa6 ⟨z,H,I,rw',q⟩
aa7 ⟨rfl,rfl,rfl⟩
aa8 ⟨f3,f1,f4,f5⟩
aa9 ⟨_,_,_,_,rfl⟩
aba λz=>vN rfl z
abb λm=>D.int Ln
abc λj ks' es hj=>?_
abe zH _ hy
abf zH _ hq
abg zBi n d
abh zAJ CX X E
abi x-(0+1)
abj vK [e1] X.env
abk uK hTI rfl ?_
abl two m.2
abm trk h H
abn tCB r t
abo some ws
abp some kC
abq some Hr
abr shp d=true
abt rs bs n
abu plD d=true
abv (p.1:Int)
abw ow.gh.free hp
aby o.ext.gg.trans s1
abz no.od i ks ds
abA m-(0+1)
abB k<P.length
abC hn x a2
abD hn g hg
abE h5 ω r q2
abF fC .non
abG eval jr X.env
abH egs n P
abI eR n g0
abJ eL n g0
abK [dA,dQ,lc]
abL [assign tg X.env]
abM [D.int r,D.int l]
abN ["size", "boxes"]
abO Yo q.1*Y3 q.2
abP XZ op g
abQ XC 4 Kk
abR X.mg "min" = none
abS WY (XU 6) zAA
abT W0 H a y o
abU Value.int a t
abV Sum.inl n
abW Sum.inl k'
abX (Sum.inl h:Key)
abY Sc n Q p x
abZ Room k X.A
ab0 Rch es a c
ab1 P.map F
ab2 Itt K a
ab3 Itl K a
ab4 ItemsOf.nil _
ab5 Ite K a
ab6 IsT K .int
ab7 Hp->Prop
ab8 H a=some o
ab9 (0,.none)
aca .tup ys
acb .tup [lI,w1']
acd .str x t
ace .ref tp
acf .ref kS
acg .int e.2
ach .int (Y3 q.2)
aci .cons ru .nil
acj .If c a b pos
ack ((0+i:Nat):Int)
acl ⟨zH _ h1,A3⟩
acm ⟨os,hos,hcs⟩
acn ⟨o,e,ex.2.1⟩
aco ⟨[],rfl,rfl⟩
acp λk z hk=>?_
acq λa=>f (g a)
acr λ_ _ _ e=>e
acs ys.map D.int
act (y.length:Int)
acu x3.gh _ _ h1
acv x1.gh _ _ e2
acw vg kws X.env
acx vK [b] X.env
acy uK qa rfl ?_
acz uK hS rfl fW
acA uK gt gtd ?_
acB uA hS rfl ?_
acC (some p.2,p.1)
acD (some a.2,a.1)
acE (sizeLine:Nat)
acF qcd x1.hh r2
acG putK kvs k y
acH pre++[(k,g)]
acI ow0.ow i ds'
acJ ow.gh.free hpn
acK op==CmpOp.In
acL o1.gh _ _ r1
acM no2.ow i ds'
acN mg "bool" = none
acO lX=Sum.inl k
acP (kV kv.1,kv.2)
acQ g.map λ_=>v
acR eval e X.env
acS eval b X.env
acT call j0 [dJ]
acU call B9 [aJ]
acV [dA,dQ,ao,Pe,JZ]
acW Yn oIx cR lB
acX Yn oIx AO au
acY Yn oIx AO aQ
acZ X.A.handled=none
ac0 T++C1.map Xe
ac1 K_bubble hjs ∅
ac2 Itk a ob kvs
ac3 (0,Value.none)
ac4 .tup [x1,y1]
ac5 .tup [lI,x1]
ac6 .tup [Fg,Bt]
ac7 .int (glN n p)
ac8 .ins C dx fs
ac9 .inr (wT lt)
ada .List es pos
adb (h y).mpr zG"#
|'b'=>r#"bb uZ (wpAny_callSpecial?_slot (name:=Str.ofString "__next__") hT F.slotSetNext (vq F.slotSetNext hT F.entSetNext ?_ (F.argsSetNext _)))
bc Y4 (eOf (fC i9))
be Yh 1
bf X.fn x=true\/X.env.scope.names.lookup x=some .local
bh (k:Int)
bi Cal P w K mg base 1 f_is_whole d_is_whole "is_whole" gO 1 qw
bm vOf (Yh 4)
bn dOf (Yh 2)
bp Yf av (Yf aH (Yf bn E2))
br List V
bu .lst cf
bv dOf (Yh 3)
bw Yj ib af
bz qc (qg (XD.toE Xb))
bA Yl n h l bs e.1+c
bB Option Nat×ag
bC List vB
bD .ListComp elt [⟨tg,iter,ifs,0⟩] scope pos
bE .ref p
bG List D->Option O
bH Str->Option vB
bI ["size", "home", "last", "boxes", "c"]
bJ List α
bK ⟨_,rfl⟩
bO egs n aq
bP vK [] X.env
bQ ⟨rfl,rfl⟩
bR (false,eval a X.env)
bS Option W
bT .inl rfl
bU [aY,dA,dQ,ao]
bV Own K G0 H0 G ω σ H
bW .str "box"
bX List ag
bY .bl true
bZ .Call (.Name x p) jA [] pos
b0 X.calm=true
b8 (false,eval e X.env)"#
|'c'=>r#"cc XE.toV (Yj kO af)
cf ts.map D.int
ci ["home", "last", "boxes"]
cj ↥(.lst Do)
cn ["home", "last", "boxes", "edges", "lacks"]
cp λG0 H0 G ω σ H out ω' E o e k=>?_
cu .Call (.Attribute o1 "setdefault" a1) [e0,Jo] [] c1
cv fC (.int 2)
cw plc h l oJ
cz Cal P w K mg base 1 f_steps d_steps "steps" ln 4 q04
cF ns.map V.int
cG ["size", "home", "last", "boxes", "thing"]
cH List Nat
cI (1:Int)
cJ vOf (Yh 3)
cK dOf (Yh 4)
cM .int a
cN vD 0
cP zQ _
cQ Int->Int
cR vOf (Yh 2)
cT [↥ky,↥aY,Fj,↥ao,↥J1,↥J0,↥ao,Fk,Mq,Ev,RE,RD,x12,x13,x14]
cU FnOk X.prog X.w X.K X.mg X.base CX0 k f fd ps (spD X.K 1 m)
cV EP X pins σ Q
cW kbt kf ds
cX .dK kvs
cY ha pins s σ H _ I h
cZ mg "isinstance" = none
c9 .ref l"#
|'d'=>r#"da oEq false
db ⟨_,rfl,?_⟩
de qy (XW.toT (q06 (qI (qE (XE.toV kG))) (q06 (Xq hr.units l9 af) (q0J (Xq hr.units mH Gx))))) bz qq
df ⟨rfl,I.turned (t':=s.toks) (λb o hb e=>eb b o hb e) f0 f1 f3 f4 f5⟩
di List D->WSt->Option WSt
dj some GR
dn .dic ts (nbD ts es)
dq X2 X N scope P1.objs.size s2 H2 fp
du (St h l bs).map nh
dv λG0 H0 G ω σ H r Q o e k=>?_
dy Ext.refl s
dA .int h
dB List Eg
dC ([]:List Str)
dD vD 1
dE sIx items.size items.size hi-sIx items.size 0 lo
dG .str "go"
dH A.handled=none
dJ .ref a
dL XV X a f
dM List Str
dO o.data=.set es ep t
dP XE.toV (qu qr qU rfl z_len qS (qj kO qo))
dQ .int l
dS Yf dZ (Yf k9 Yq)
dW XE.toV (q0i af)
dX Str.ofString "key"
dY .lst xs
dZ dOf (Yh 5)"#
|'e'=>r#"ef Tab G H0 H p ks ls xss
eu .Name x pos'
eA x1.trans x2
eG Out×WSt
eI ["thing", "boxes"]
eJ List vC
eK λG0 H0 G ω σ H d Q o e k=>?_
eM Int×vB
eN uZ (wpAny_callSpecial?_slot (name:=Str.ofString "__next__") hT PySem.F.slot_zip_next (vq PySem.F.slot_zip_next hT PySem.F.entry_zip_next ?_ (PySem.F.args_zip_next_1 _)))
eO λr s'=>r=.ok (.ret nQ)/\OldK s₁.heap s'.heap/\s'.os=s₁.os/\tH s'.gens
eQ some kX
eS List ac
eT [dA,dQ,ao,.lst S4,.lst ((St h l bs).map λx=>D.int rP)]
eU vi (vG ⟨_,rfl, "set_iterator", _,Op,F.slotSetNext.lookup,?_⟩)
eV ls.map V.ref
eW vW st'
eX .Call (.Name "zip" p2) rG [] q2
eY .Call (.Name "range" p2) [a] [] q2
eZ .ref f
e8 .int w"#
|'f'=>r#"fh Option D
fj Array vB
fm some (.pw es)
fo qc (qg (XD.toE (q03 (XE.toD (q0p ib i_int rfl z_isinstance rfl z_int qdu)) (q0w (qdS (XE.toD (q0p ib i_bool rfl z_isinstance rfl z_bool qbs)))))))
fq ns.map D.int
fu Yn oIx ay au
fz v4 "list" vs.toArray 0
fA Option Int
fB HT.sIx xs.length xs.length hi-HT.sIx xs.length 0 lo
fD mg "len" = none
fE Cal P w K mg base 1 f_without_ways d_without_ways "without_ways" rO 1 qM
fF vV 1
fG t.fits es.size=true
fH List SE
fI Cal P w K mg base 2 f_has_place d_has_place "has_place" jV 2 qG
fJ λ_=>?_
fL oEq true
fM loT B+bh
fN Ne.symm hb
fO I.ok.hd hc
fP some bE
fQ Cal P w K mg base 1 f__law_cell d__law_cell "_law_cell" Ga 2 qW
fT XV X b g
fV .lst vs
fW vG ?_
fX ha pos pins s σ H _ I h
fY Ys je (Ys (gN 1) Xa)
fZ Yf av NI"#
|'g'=>r#"ga Ye cN UV
gc ⟨Ext.refl sg,rfl,G9,λi ds h=>vN h (no0.ow i ds),λi j ds es l h=>vN h (no0.ow i ds),λi ks ds h=>vN h (no0.od i ks ds),Xp.no no0.pw⟩
ge k==NameKind.free&&env.scope.kind == .function&&env.kindOf n==some .cell
gj XE.toD bw
gk Inv X Cy σ H s
gm s.heap.get? a=some o
gu fC (.int 3)
gz Yf av Yq
gB Ye cN Yk
gC ⟨_,e,rfl⟩
gE vJ z
gF .ref S
gG v9 PySem.F.plain_extend_loop _
gH apos.endLine==cpos.line
gJ Int×Int
gK .lst ds
gL ⟨ok.mod,ok.kind,ok.glob,ok.blt,ok.above,ok.inj,ok.has,ok.cab,ok.hd,ok.frames,ok.stk,ok.exf,ok.bs,ok.bsz,ok.noex,ok.exfs,ok.funs,ok.frf⟩
gO ["thing"]
gP .fresh 0 0 Rf
gQ b.2.2=1\/b.2.2=-1
gR vH z
gU Ye dD (Ye nJ iH)
gW (bs.map two).map XY
gX w.params.setOrder a ep
gY o.keep x1
gZ nxN P.length k
g7 vK [e] X.env
g8 ["start", "arcs", "waiting", "trail", "backwards", "here", "number"]
g9 Cal X.prog X.w X.K X.mg X.base k f fd x ps 1 m"#
|'h'=>r#"h9 some (.ow es)"#
|'i'=>r#"ib vV 0
ie X.A.units+64<ue
ig .ref it
ii .lst Qg
im [Hf,cj,none,none,none]
io Yx.refl _
ip Cal P w K mg base 7 f_ring_lacks d_ring_lacks "ring_lacks" bI 5 qH
iq (x==("__classdict__" : Str))=false
ir (false,eval b X.env)
iu dOf iG
iw XE.toV (qu qr qU rfl z_len qS (qj fF qo))
iy .int m.2.2.1
iz .int b
iA .Subscript o k pos'
iC upd H s.heap.objs.size (.tup [lI,x])
iD Cal P w K mg base 6 f_ring_gaps d_ring_gaps "ring_gaps" ak 4 qX
iE vg aw X.env
iF vK es X.env
iG Yn oIx ay aQ
iH Ye Bv (Ye GJ Yk)
iI List vP
iJ λG0 H0 G ω σ H ds R o e k=>?_
iK xO x qual (Xz st) Qz Dt .none kV doc pm an cdv ct
iL (CO:List Str)
iM bs.length<=20
iN Loc X.env.scope x
iO List JW
iP zH _ hx
iQ stN n
iR revObj l (KN-1)
iS qbC (kpos:=p3) (nm:=some dX) (qbn (v:=.ref f) hx c.2.1 rfl hd) qeG pos pins s1 σ H1 (λzs H2=>zs=[eZ]/\H2=H1) I1 bQ
iU Option vB->vF->Prop
iV List (κ×V)
iW ["size", "boxes", "left", "here", "move"]
iX λG2 H i x H' d s0 s1 hd hy=>?_
iY ((HT.sIx items.size 0 lo:Nat):Int)==0&&cI==1&&(HT.sIx items.size items.size hi-HT.sIx items.size 0 lo)==items.size
iZ .ref z
i9 .bl false"#
|'j'=>r#"ja ((0+1+1+1+1:Nat):Int)
jd (i:Int)
je gN 0
jf s _ _ h1
jh Yt Yo bO
ji .tup [bW, mB,Fg,Bt]
jj λi=>ns.getD i 0
jm fC (.int 4)
jn V->Option Int->Option Int->Hp->VK->Prop
jo List Key×vC×vB
jp Binds X.K fd ps []
jq .ref s2.heap.objs.size
jr .Name x pos
jt vD 2
ju XE.toD (xc c_is_whole hr (Ye gj Yk))
jv P.map λx=>D.int Tx
jw .frz ob cX
jx zY as.length
jy ps.map D.int
jz (m:Int)
jA e::es
jC .tup [.int g0,.int g1]
jD λj k fs gs m hj hk sj sk=>?_
jE λG0 H0 G ω σ H out ω' E ow e k=>?_
jF zAh CX P w K mg base N qual scope f cdv A outer s H E
jG (.nx,ω.set i (some (.pw ((ns.eraseIdx j).map D.int))))
jH zW _ rfl
jI upd H s.heap.objs.size BN
jJ XX f (f e.1) (f e.2.1)
jK ⟨BB,BB,I.base.free,λb o e hx=>?_,I.base.tups,I.base.frzs,I.base.tbls⟩
jL λx=>x.1.isSome
jM qv 0
jN emE λe=>Yl n h l bs e.1+c
jP HOk P w H h
jQ (.nx,ω.set i (some (.od (WF ks k) (putA ks ds k d))))
jR .lst []
jS vK [a] X.env=bR::vK [] X.env
jT q6c (q7a (XE.toV (qT (XE.toV (q09 HE cc)) ib)) (XE.toV (qT (XE.toV (q09 cc cc)) ib)))
jU b∈X.ex\/X.s₀.heap.objs.size<=b
jV ["size", "thing"]
jW BlkOk X N M frees scope
jX (bs++emS aU bO K).map two++Ed
jY (Lw:List Str)
jZ .dK Io
j0 .builtin "sorted"
j5 vD 3
j6 λcdv A outer s H vs Q E hr h=>?_
j7 vOf (Yh 6)
j8 vOf (Yh 5)
j9 ho pins s σ H _ I h"#
|'k'=>r#"ka I.tok _
kb .pw ds
kc ⟨_,qB h1 h3 hs,Ky⟩
kg Cal P w K mg base 8 f_turns d_turns "turns" ak 4 q0u
kh .builtin id
kj .ListComp elt [⟨target,iter,ifs,0⟩] scope pos
km u0 z TI TO i1 i2 l1 l2
kq gs.map gD
kr Bool->Hp->Prop
kw PE X o Lx
ky .scr ns
kA .int m.2.1
kC some LD
kD mg "list" = none
kE ls.map D.int
kG q0p ib i_tuple rfl z_isinstance rfl z_tuple q2l
kH nmP 0 gs
kI .lst M6
kJ .Tuple elts kx tpos
kK λb o hb q=>(ze _ _ fN).trans q
kL k _ G H dy rfl
kM List lL
kN .ref t
kO vV 4
kP (n:Int)
kR ["edge"]
kT SetTable.grown es1.size
kU .tup [Jm,MK,e8]
kW .Compare a [op] [b] pos
kX .int k
kY λw hw=>q3E rx fx r fs w ⇑hw
kZ bs.map two++om++lkT es ls
k5 Ext.refl o.gh
k7 .int (as.getD k.toNat (0,0)).2
k8 .int (as.getD k.toNat (0,0)).1
k9 dOf (Yh 6)"#
|'l'=>r#"lc .lst (bs.map XY)
lf vV 3
lg vV 2
lh vOf (XZ WK (Yf bm Yq))
ln ["size", "start", "goal", "way"]
lr ["size", "start", "goal", "gap"]
lu ["size", "gap"]
lw Ye cN (Ye dD (Ye jt IO))
lx Nat×List Int
lA x ≠ "__name__" 
lB vOf (Wz au)
lC tM ai X.A X.env X.xe
lD kvs.any λkv=>decide R9
lF Xp K H0 G ω σ H
lG RgO n h l bs
lH Option aM
lI .int i
lJ .BoolOp .And (a::b::rest) pos
lK λv s₁=>vM ai X.A acS (λu s₂=>vM ai X.A VP Q X.xe s₂) X.xe s₁
lL List Key×V
lM vo EI (λv s1 h1=>vo h1 (λitv s2 h2=>?_) λ_ _ q=>q) λ_ _ q=>q
lP Around.under_plainId PySem.F.plain_min_loop _
lQ .int c
lR .BoolOp .Or (a::b::rest) pos
lT ((0+1+1+1+1+1:Nat):Int)
lU ⟨c9,r1,.inl Rz,h2 G0 H0 G ω σ H d _ ow q λv G1 H1 x1 y1=>?_⟩
lV xs.map D.int
lW vH rfl
lX (Sum.inl k':Key)
lY List V->Hp->Prop
lZ I.hok.fresh cP
l6 ⟨_,e,rfl,n,rfl⟩
l7 some c9
l8 [.int p.1,.int p.2]
l9 XE.toV (qu qr qU rfl z_len qS (qj ib qo))"#
|'m'=>r#"ma X.mg "range" = none
mf List W->Option si
mi q5c (qZ jM (qZ (qv 1) q2z))
mj eval o X.env
mq [↥JY,LP,↥mB,↥(.lst ON),x4]
mv List (Str×vC)
mw D->D->Option R
mB .int bh
mC spliced ((false,eval _ X.env)::vZ q1 bP)
mD he pins s σ H _ I h
mE ds.zip xs
mF binT ha hb I h λv u s2 x y H2 I2 rx ry q=>ho pins s2 σ H2 x y v u Q I2 rx ry q
mG Yf av (Yf aH (Yf bn IN))
mH XE.toV bw
mI Option bS
mJ λb hb=>?_
mK upd H p Ko
mL q2n λ_ _ _=>rfl
mM dOf (Yh 7)
mN Ye Yg Yk
mO .int m.2.2.2
mP vW st
mQ m.2.2.2=1\/m.2.2.2=-1
mR [Mw,Mx]
mS .BoolOp .And (b::rest) pos
mT mg "sorted" = none
mU k<xs.toList.length
mV k _ _ bT e
mW ["things", "ties"]
mX (Sum.inl k:Key)
mY α->Int
mZ vq PyProof.Rows.slot_tuple_getitem ht.typeIs entry_tuple_getitem ?_ (sA _ _)
m6 vg [] X.env
m7 vK [e] X.env=b8::vK [] X.env
m8 row.drop (j+1)++row.take j
m9 qc (qg (XD.toE Wf))"#
|'n'=>r#"nc [Hf,cj,none,none,x4.map W.sh]
nh Yl n h l bs
nj X0 ks xss h
nu ((none:Option Nat),m)
nv ⟨_,_,_,rfl⟩
nw ω.set i ↥d
ny (LZ:List Str)
nA .BoolOp .Or (b::rest) pos
nB λa b=>f a<=f b
nC v6 e Pr pos.line X.env=pure false
nD ["size", "home", "last", "boxes", "gap"]
nE X1 X pins H a
nF Array eM
nG (.rt Et,ω)
nH (zY n).filter λj=>decide Ly
nJ vD 4
nL v9 PySem.F.plain_min_loop _
nM fd ω
nN (f,acc)
nO PE X a ta
nQ .bool true
nR λG0 H0 G ω σ H out ω' E ow e kk=>?_
nU zt (z9 DS (I.ok.cab x c hfn hc))
nV vOf oo
nW s.heap.objs.size+1
nX q6c (qE (XE.toV (xc c_goes_over hr (Ye dD (Ye gj (Ye gj ou))))))
nY p.2==NameKind.free
nZ mg "tuple" = none
n8 k0==NameKind.free&&env.scope.kind == .function&&env.kindOf n==some .cell"#
|'o'=>r#"oa ["start", "arcs"]
oe Yf av (Yf aH oq)
og Yf (dOf (Yh 8)) Yq
oh Ye cN (Ye dD ou)
oi Y4 (eOf abF)
oj .lst ((zAR i (j-i).toNat).map V.int)
om [(h,l)]
oo Yn oIx bm au
oq Yf bn Yq
ou Ye jt Yk
ox tW qual scope s.heap.objs.size f cd
oy some v
oz X.mg "sorted" = none
oB .type "set"
oC (.nx,ω.set i Qc)
oD .Call (.Name "reversed" p2) [a] [] q2
oE λ_ _=>rfl
oG v4 "tuple" vs.toArray 0
oH es.map egD
oJ bs.map two
oK Cal P w K mg base 4 f_check_errand d_check_errand "check_errand" ci 3 q05
oM (.rt (.sh d),ω)
oO x1.gg.trans x2.gg
oP XE.toD (Yj lg af)
oQ XE.toD (Yj kO af)
oR XE.toD (Yj fF af)
oT 0<=b.2.1/\b.2.1<n
oU (Yz ns).map V.int
oV (Y1 ls).map D.int
oW λj e hj=>?_
oX ["size", "boxes", "move"]
oY XL as n
oZ vOf (XZ WK (Yf ay Yq))
o7 vOf (XZ WK (Yf aZ Yq))
o8 some (.ow [.int (pre.map abI).sum,.int (pre.map abJ).sum])"#
|'p'=>r#"ph m.2.2=1\/m.2.2=-1
pi (Qy:List Str)
pj Cal P w K mg base 5 f_ring_forest d_ring_forest "ring_forest" cn 5 q0f
pk A.deeper (PyProof.Rows.envOfC qual Dt s.heap.objs.size f cdv)
px (.nx,ω.set i (some (.od [k] [d])))
pz .int (kn kf ds (j+1)) t2
pA .dic ks Py
pB .Call (.Attribute (.Subscript o4b e1b q8) "append" a2) [e0b] [] c2
pC ⟨(hb C s H fp).1.can,(hb C s H fp).2.1.can,(hb C s H fp).2.2.can⟩
pD .lst pR
pE ⟨none,none,none,rfl⟩
pF ⟨"tuple", _,PyProof.Rows.slot_tuple_getitem.lookup,ht.typeIs,?_⟩
pG qu qr qU rfl z_len qS (qj lg qo)
pH qI (qE (XE.toV (q0p kO i_list rfl z_isinstance rfl z_list q1m)))
pI (OY:List Str)
pJ Yy X.prog X.w
pM Ys je (Ys (gN 1) (Ys (gN 2) Xa))
pN (Sum.inl n:Key)
pO (Sum.inl a:Key)
pP HT.sIx xs.length 0 lo=0/\HT.sIx xs.length xs.length hi=xs.length
pQ (zAR lo (hi-lo).toNat).map V.int
pR (Yz F).map D.int
pS ⟨_,_,rfl⟩
pT λl hl=>k _ G _ (Ext.hide s hl _) ⟨l,us,rfl,hl,s.free hl,qf,h2⟩
pU some (.ow [])
pV (j:Int)
pW g i j
pX Yt Yo es
pY List (κ×vB)
pZ HT.sIx xs.length 0 lo
p8 D.pys ds
p9 Cal P w K mg base 7 f_ring_edges d_ring_edges "ring_edges" ak 4 q00"#
|'r'=>r#"rf Cal P w K mg base 5 f_check_ring d_check_ring "check_ring" ak 4 q0j
rh .Call (.Attribute (.Subscript o4 e0 q7) "append" a1) [e1] [] c1
rj ⟨_,jH,rfl,rfl⟩
rm λb o hb e=>(sb.2 b hb).trans e
rn nT B
rq ["home", "last", "boxes", "thing"]
rA X.mg "list" = none
rB .tup xs
rC .lst ys
rD .int s
rF vZ pos g7=b8::vZ pos bP
rG [a,b]
rH XD.toE (XE.toD (q4B hr.units Ct (XE.toD (Yj Je af))))
rJ V->List V->Hp->VK->Prop
rK Eg->Int
rL λi ks ds h=>vN h abz
rM z9 DS I.ok.above
rN c+Yl n h l bs x
rO ["boxes"]
rP Yl n h l bs x+c
rQ WSt->Prop
rR PE X e te
rS I1.hok.fresh cP
rT Gl X x
rV .tup [bW, mB,Jm,MK,e8]
rW (.nx,p.2.set i aaw)
rX .Name "list" p1
rY .Call (.Name "set" p2) [a] [] q2
rZ ((sIx n 0 lo:Nat):Int)
r8 ((Y3 (a e)).toNat:Int)
r9 λ_ _=>False"#
|'s'=>r#"sf Yy P w
si D×WSt
sn ⟨.bl _,H,I,rfl,?_⟩
sr zAC s.heap a Rf xs
ss some (.od [] [])
sw mg "range" = none
sY eqU x
sZ [GV,.int e.2.1,.int e.2.2]"#
|_=>""
local macro_rules|`($x:ident)=>do
 let s:=x.getId.toString
 if s.length>3 then Lean.Macro.throwUnsupported
 match ((tB s.front).splitOn "\n").find? (·.startsWith (s++" ")) with
 |some l=>return (<-pT 999 0 (l.toList.drop (s.length+1))).1
 |none=>Lean.Macro.throwUnsupported
set_option linter.all false
set_option maxRecDepth 100000
namespace L2
open PySem PySem.Spec PyProof.Rows
noncomputable abbrev Key:=Sum Int Str
noncomputable def zAU:Key->vB->Bool
 | .inl k,v=>Value.isInt k v
 | .inr x,v=>Value.isStrOf x v
noncomputable def keyH(w:vX):Key->Int
 | .inl k=>sO k
 | .inr x=>hashStr w x
theorem qP:∀{k:Key}{v:vB},zAU k v=true->(∃i t,k=Sum.inl i/\v=Value.int i t)\/(∃x t,k=Sum.inr x/\v=Value.str x t)
 | .inl i,v,h=>by
  obtain⟨t,e⟩:=Value.isInt_shape (k:=i) (v:=v) h;exact .inl ⟨i,t,rfl,e⟩
 | .inr x,v,h=>by
  obtain⟨t,e⟩:=Value.isStrOf_shape (x:=x) (v:=v) h;exact .inr ⟨x,t,rfl,e⟩
theorem qdZ(i:Int)(t:Tok):zAU (.inl i) Bs=true:=by simp[zAU,Value.isInt]
theorem qeM(x:Str)(t:Tok):zAU (.inr x) acd=true:=by simp[zAU,Value.isStrOf]
theorem qkg(a b:Int):decide (pO=Sum.inl b)=UL:=by
 by_cases e:a=b
 ·subst e;simp
 ·have h:¬pO=Sum.inl b:=λq=>e (Sum.inl.inj q)
  rw[vQ h];exact(beq_eq_false_iff_ne.mpr e).symm
theorem qjv(a b:Str):decide (L5=Sum.inr b)=decide (a=b):=by
 by_cases e:a=b
 ·subst e;simp
 ·have h:¬L5=Sum.inr b:=λq=>e (Sum.inr.inj q)
  rw[vQ h,vQ e]
theorem qjx(a:Int)(b:Str):decide (pO=Sum.inr b)=false:=vQ (λq=>nomatch q)
theorem qjw(a:Str)(b:Int):decide (L5=Sum.inl b)=false:=vQ (λq=>nomatch q)
noncomputable def Yy(prog:vS)(w:vX):PySem.KeyKind prog w Key where
 is:=zAU
 hash:=keyH w
 inj:=λv a b ha hb=>by
  rcases qP ha with⟨i,t,rfl,rfl⟩|⟨x,t,rfl,rfl⟩
  ·rcases qP hb with⟨j,u,rfl,e⟩|⟨y,u,rfl,e⟩
   ·injection e with e1 _;rw[e1]
   ·exact nomatch e
  ·rcases qP hb with⟨j,u,rfl,e⟩|⟨y,u,rfl,e⟩
   ·exact nomatch e
   ·injection e with e1 _;rw[e1]
 byValue:=λk v h=>by
  rcases qP h with⟨i,t,rfl,rfl⟩|⟨x,t,rfl,rfl⟩ <;> rfl
 pyHash:=λhv h=>by
  rcases qP hv with⟨i,t,rfl,rfl⟩|⟨x,t,rfl,rfl⟩
  ·exact wpAny_pyHash_int h
  ·exact wpAny_pyHash_str h
 eqBool:=λhu hv h=>by
  rcases qP hu with⟨i,t,rfl,rfl⟩|⟨x,t,rfl,rfl⟩
  ·rcases qP hv with⟨j,u,rfl,rfl⟩|⟨y,u,rfl,rfl⟩
   ·rw[qkg]at h;exact wpAny_eqBool_int h
   ·rw[qjx]at h;exact SeqAt.EqAt.int_str i t y u _ _ _ _ h
  ·rcases qP hv with⟨j,u,rfl,rfl⟩|⟨y,u,rfl,rfl⟩
   ·rw[qjw]at h;exact SeqAt.EqAt.str_int x t j u _ _ _ _ h
   ·rw[qjv]at h;exact wpAny_eqBool_str h
 «strs»:=λk x t v h=>by
  rcases qP h with⟨i,u,rfl,e⟩|⟨y,u,rfl,e⟩
  ·exact nomatch e
  ·injection e with e1 _
   subst e1;cases v <;> rfl
theorem qaM(prog:vS)(w:vX)(i:Int)(t:Tok):(Yy prog w).is (.inl i) Bs=true:=qdZ i t
theorem qaJ(prog:vS)(w:vX)(x:Str)(t:Tok):(Yy prog w).is (.inr x) acd=true:=qeM x t
inductive V where
 | non|bl (b:Bool)|int (i:Int)|str (x:Str)|byt (b:Array UInt8)|flt (b:UInt64)|ref (a:vC)|ty (n:String)
 deriving DecidableEq
def RelV:V->vB->Prop
 | .non,u=>u=Value.none
 | .bl b,u=>u=Value.bool b
 | .int i,u=>∃t,u=Value.int i t
 | .str x,u=>∃t,u=Value.str x t
 | .byt b,u=>∃t,u=Value.bytes b t
 | .flt b,u=>∃t,u=Value.float b t
 | .ref a,u=>u=Value.ref a
 | .ty n,u=>u=Value.type n
abbrev Yw:List V->List vB->Prop:=sI RelV
theorem Yw.length{xs:br}{us:bC}(r:O1):xs.length=us.length:=Paired.length r
theorem Yw.get:∀{xs:br}{us:bC}{i:Nat}{x:V},Yw xs us->xs[i]?=some x->∃u,us[i]?=some u/\RelV x u
 | _,_,_,_,.nil,e=>by simp at e
 | _,_,0,_,.cons r _,e=>by simp at e;subst e;exact PX
 | _,_,i+1,x,.cons _ t,e=>by
  obtain⟨u,h1,h2⟩:=Yw.get (i:=i) (x:=x) t ⇑e;exact⟨u,by simpa using h1,h2⟩
theorem Yw.set{x:V}{u:vB}(r:U4):∀{xs:br}{us:bC}(i:Nat),Yw xs us->Yw (xs.set i x) (us.set i u)
 | _,_,_,.nil=>.nil
 | _,_,0,.cons _ t=>.cons r t
 | _,_,i+1,.cons q t=>.cons q (Yw.set r i t)
theorem Yw.append:∀{xs ys:br}{us ws:bC},Yw xs us->Yw ys ws->Yw MY (us++ws)
 | _,_,_,_,.nil,s=>s
 | _,_,_,_,.cons r t,s=>.cons r (Yw.append t s)
theorem Yw.take:∀{xs:br}{us:bC}(n:Nat),Yw xs us->Yw (xs.take n) (us.take n)
 | _,_,0,_=>.nil
 | _,_,_+1,.nil=>.nil
 | _,_,n+1,.cons r t=>.cons r (Yw.take n t)
theorem Yw.drop:∀{xs:br}{us:bC}(n:Nat),Yw xs us->Yw (xs.drop n) (us.drop n)
 | _,_,0,r=>r
 | _,_,_+1,.nil=>.nil
 | _,_,n+1,.cons _ t=>Yw.drop n t
def zAX:Option V->Option vB->Prop
 | some v,some u=>RelV v u
 | none,none=>True
 | _,_=>False
def KV{κ:Type}:List (κ×V)->List (κ×vB)->Prop:=sI λ(p:κ×V) (q:κ×vB)=>p.1=q.1/\RelV p.2 q.2
noncomputable def kV:Key->V
 | .inl i=>.int i
 | .inr x=>.str x
inductive HO where
 
 | lst (xs:List V)
 
 | tup (xs:List V)
 
 | dK (kvs:List (Key×V))|dT (kvs:List (List Key×V))
 
 | set (S:Int->Bool) (n:Nat)
 
 | ins (C dx:vC) (fs:List (Str×V))
 
 | own (x:vC)
 
 | xd (fs:List (Str×V))
 
 | met (f x:vC)
 
 | rng (lo hi:Int)
 
 | frz (o:Obj) (u:HO)
 
 | tbl (ps:Array vB)
 
 | ext (φ:ve->Prop)
noncomputable abbrev Hp:=vC->Option HO
noncomputable def upd(H:Hp)(a:vC)(o:HO):Hp:=λb=>if b=a then some o else H b
theorem qf{H:Hp}{a:vC}{o:HO}:upd H a o a=some o:=by unfold upd;rw[lW]
theorem qd{H:Hp}{a b:vC}{o:HO}(h:b≠a):upd H a o b=H b:=by unfold upd;rw[vJ h]
theorem qld{H:Hp}{a b:vC}{o u:HO}(h:ab8)(h':H b=some u)(d:o≠u):a≠b:=by
 intro e;subst e;rw[h]at h';exact d (zr h')
theorem q0O{H:Hp}{a b:vC}{o:HO}(h:ab8)(h':H b=none):a≠b:=by
 intro e;subst e;rw[h]at h';cases h'
section
variable(P:vS)(w:vX)
def Y2(H:Hp)(h:ve)(a:vC):HO->Prop
 | .lst xs=>xs.length<=sizeLine/\∃(its:bC) (n:Nat),Yw xs its/\h.get? a=some { cls:=.type "list", data:=.seq its.toArray n }
 | .tup xs=>xs.length<=sizeLine/\∃its:List vB,Yw xs its/\IsTup h a its.toArray
 | .dK kvs=>kvs.length<=sizeLine/\Dp=false/\∃vs,KV kvs vs/\h.DictOf sf a vs
 | .dT kvs=>kvs.length<=sizeLine/\Dp=false/\∃xs:List jo,
   sI (λ(p:lL) (q:jo)=>p.1=q.1/\H q.2.1=some TK/\RelV p.2 q.2.2) kvs xs /\
   ∃o es ep,h.get? a=some o/\o.ExactDict/\o.data=.dict es ep/\es.toList=xs.map (entryOfKey (tL sf))/\(xs.map (·.1)).Nodup
 | .set S n=>h.SetOf (u7 P w) a S n
 | .ins C dx fs=>H dx=some NU/\fs.length<=1000/\dx≠a/\h.get? a=some (ZE C dx) /\
   ∃mA,h.Ns1 dx mA/\(∀f,zAX OO (mA f))/\PySem.Within mA (fs.map (·.1))
 | .own _=>∃o,h.get? a=some o
 | .xd fs=>∃mA,h.Ns1 a mA/\∀f,zAX OO (mA f)
 | .rng lo hi=>∃t u v,h.get? a=some { cls:=.type "range", data:=.fields #[CF,CG,Fh] }
 | .frz o u=>h.get? a=some o/\Y2 H h a u
 | .tbl ps=>h.get? a=some { cls:=.none,data:=.fields ps }
 | .met f x=>h.get? a=some (wc eZ (.ref x))
 | .ext φ=>φ h/\(∃o,h.get? a=some o)/\∀h1 h2:ve,φ h1->(∀o,h1.get? a=some o->h2.get? a=some o)->φ h2
def HOk(H:Hp)(h:ve):Prop:=∀a o,H a=some o->Y2 P w H h a o
end
section
variable{P:vS}{w:vX}{H H':Hp}{h h':ve}{a:vC}{o:HO}
theorem Y2.lt(x:Y2 P w H h a o):a<h.objs.size:=by
 cases o with
 | lst xs=>obtain⟨_,_,_,_,e⟩:=x;exact zS e
 | tup xs=>obtain⟨_,_,_,p⟩:=x;exact p.lt
 | dK kvs=>obtain⟨_,_,_,_,o,_,_,e,_⟩:=x;exact zS e
 | dT kvs=>obtain⟨_,_,_,_,o,_,_,e,_⟩:=x;exact zS e
 | set S n=>obtain⟨o,_,_,_,e,_⟩:=x;exact zS e
 | ins C dx fs=>obtain⟨_,_,_,e,_⟩:=x;exact zS e
 | own y=>obtain⟨_,e⟩:=x;exact zS e
 | xd fs=>obtain⟨_,⟨_,_,_,e,_⟩,_⟩:=x;exact zS e
 | rng lo hi=>obtain⟨_,_,_,e⟩:=x;exact zS e
 | frz ob u=>obtain⟨e,_⟩:=x;exact zS e
 | tbl ps=>exact zS (show h.get? a=some _ from x)
 | met f y=>exact zS (show h.get? a=some _ from x)
 | ext φ=>obtain⟨_,⟨_,e⟩,_⟩:=x;exact zS e
theorem Paired.mapP{α β:Type}{F G:α->β->Prop}:∀{l₁:bJ}{l₂:List β},sI F l₁ l₂->(∀a b,F a b->G a b)->sI G l₁ l₂
 | _,_,.nil,_=>.nil
 | _,_,.cons r t,f=>.cons (f _ _ r) (Paired.mapP t f)
theorem Y2.stay(x:Y2 P w H h a o)(k:∀b u,(b=a\/H b=some NU)->h.get? b=some u->h'.get? b=some u)(ho:∀b,H b=some NU->H' b=some NU)(ht:∀b xs,H b=some rB->H' b=some rB):Y2 P w H' h' a o:=by
 induction o with
 | lst xs=>obtain⟨z,its,n,r,e⟩:=x;exact⟨z,its,n,r,mV⟩
 | tup xs=>obtain⟨z,its,r,ob,e,c⟩:=x;exact⟨z,its,r,ob,mV,c⟩
 | dK kvs=>obtain⟨z,y,vs,r,ob,es,ep,e,c⟩:=x;exact⟨z,y,vs,r,ob,es,ep,mV,c⟩
 | dT kvs=>
  obtain⟨z,y,xs,r,ob,es,ep,e,c⟩:=x;exact⟨z,y,xs,Paired.mapP r λp q z=>MQ,ob,es,ep,mV,c⟩
 | set S n=>obtain⟨ob,es,ep,t,e,c⟩:=x;exact⟨ob,es,ep,t,mV,c⟩
 | ins C dx fs=>
  obtain⟨d,z,ne,e,mA,⟨od,es,ep,e2,c⟩,r⟩:=x;exact⟨ho _ d,z,ne,mV,mA,⟨od,es,ep,k _ _ (.inr d) e2,c⟩,r⟩
 | own y=>obtain⟨ob,e⟩:=x;exact⟨ob,mV⟩
 | xd fs=>obtain⟨mA,⟨od,es,ep,e,c⟩,r⟩:=x;exact⟨mA,⟨od,es,ep,mV,c⟩,r⟩
 | rng lo hi=>obtain⟨t,u,v,e⟩:=x;exact⟨t,u,v,mV⟩
 | frz ob u ih=>obtain⟨e,q⟩:=x;exact⟨mV,ih q⟩
 | tbl ps=>
  have e:h.get? a=some { cls:=.none,data:=.fields ps }:=x;show h'.get? a=some { cls:=.none,data:=.fields ps };exact k a _ bT e
 | met f y=>
  have e:h.get? a=some aar:=x;show h'.get? a=some aar;exact k a _ bT e
 | ext φ=>obtain⟨p,⟨o,e⟩,st⟩:=x;exact⟨st _ _ p λo q=>k _ _ bT q,⟨o,mV⟩,st⟩
theorem HOk.lt(x:jP)(e:ab8):a<h.objs.size:=(x a o e).lt
theorem HOk.fresh(x:jP)(e:OL):H a=none:=by
 cases q:H a with
 | none=>rfl
 | some u=>exact vN (z9 (x.lt q) e) Li
theorem HOk.kept(x:jP)(k:∀b u,h.get? b=some u->h'.get? b=some u):HOk P w H h':=λa o e=>
 (x a o e).stay (λb u _ q=>k b u q) MU λ_ _ q=>q
theorem HOk.laid(x:jP)(k:∀b u,h.get? b=some u->h'.get? b=some u)(hp:OL)(new:Y2 P w Gh h' a o):HOk P w Gh h':=λb u e=>by
 have hn:=x.fresh hp
 by_cases hb:b=a
 ·subst hb;rw[qf]at e;cases e;exact new
 ·rw[qd hb]at e
  exact(x b u e).stay (λc v _ q=>k c v q) (λc q=>by rw[Ea];exact q) λc xs q=>by rw[Ea];exact q
end
def Rd(H:Hp)(a:vC)(u:HO):Prop:=H a=some u\/∃o,H a=some Vh
theorem Rd.ok{P:vS}{w:vX}{H:Hp}{h:ve}{a:vC}{u:HO}(r:Rd H a u)(x:jP):Y2 P w H h a u:=by
 rcases r with r|⟨o,r⟩
 ·exact x a u r
 ·obtain⟨_,q⟩:=x a _ r
  exact q
def Mut:Option HO->Prop
 | some (.lst _)=>True
 | some (.dK _)=>True
 | some (.dT _)=>True
 | some (.set _ _)=>True
 | some (.ins _ _ _)=>True
 | some (.ext _)=>True
 | _=>False
section
variable{P:vS}{w:vX}{H:Hp}{h h':ve}{x e:vC}{o':HO}
theorem HOk.write(ok:jP)(mu:Mut (H x))(he:Fs)(k:∀b u,b≠e->h.get? b=some u->h'.get? b=some u)(heo:∃u,h'.get? e=some u)(new:Y2 P w (upd H x o') h' x o'):HOk P w (upd H x o') h':=λb u q=>by
 have nown:∀c y,H c=some (.own y)->c≠x:=λc y r z=>by subst z;rw[r]at mu;exact mu
 have ntup:∀c xs,H c=some rB->c≠x:=λc xs r z=>by subst z;rw[r]at mu;exact mu
 by_cases hb:b=x
 ·subst hb;rw[qf]at q;cases q;exact new
 ·rw[qd hb]at q
  by_cases hbe:b=e
  ·have q':H b=some (.own x):=by
    rcases he with z|z
    ·exact vN (hbe.trans z) hb
    ·rw[hbe];exact z
   rw[q]at q';cases q';obtain⟨v,hv⟩:=heo;exact⟨v,by rw[hbe];exact hv⟩
  ·refine(ok b u q).stay (λc v hc r=>k c v ?_ r) (λc r=>by rw[qd (nown c b r)];exact r) λc xs r=>by rw[qd (ntup c xs r)];exact r
   rcases hc with rfl|hc
   ·exact hbe
   ·rintro rfl
    rcases he with z|z
    ·exact nown c b hc z
    ·rw[hc]at z;cases z;exact hb rfl
end
structure Un (fs ex:List vC) (H H':Hp) (h h':ve):Prop where
 keep:∀b o,h.get? b=some o->H b=none->b∉fs->b∉ex->h'.get? b=some o
 slot:∀b o,h.get? b=some o->H b=none->b∈fs->b∉ex->∃sl,h'.get? b=some { o with slots:=sl }
 free:∀b o,h.get? b=some o->H b=none->b∉ex->H' b=none
 there:∀b o,h.get? b=some o->b∉ex->∃o',h'.get? b=some o'
 tups:∀b xs,H b=some (.tup xs)->H' b=some (.tup xs)
 frzs:∀b o u,H b=some (.frz o u)->H' b=some (.frz o u)
 tbls:∀b ps,H b=some (.tbl ps)->∃more,H' b=some (.tbl (ps++more))
section
variable{fs fs' ex ex':List vC}{H H1 H2:Hp}{h h1 h2 h':ve}{a x e:vC}{o:HO}
theorem Un.any(u:Un fs ex H H1 h h1){b:vC}{ob:Obj}(q:h.get? b=some ob)(n:H b=none)(hx:b∉ex):∃sl,h1.get? b=some { ob with slots:=sl }:=by
 by_cases hb:b∈fs
 ·exact u.slot b ob q n hb hx
 ·exact⟨ob.slots,u.keep b ob q n hb hx⟩
theorem Un.kept(k:∀b u,h.get? b=some u->h'.get? b=some u):Un fs ex H H h h' :=
 ⟨λb ob q _ _ _=>k b ob q,λb ob q _ _ _=>⟨ob.slots,k b ob q⟩,λ_ _ _ n _=>n,λb ob q _=>⟨ob,k b ob q⟩,λ_ _ q=>q,Ox,λ_ ps q=>⟨#[],by rw[q];simp⟩⟩
theorem Un.refl:Un fs ex H H h h:=Un.kept λ_ _ q=>q
theorem Un.laid(k:∀b u,h.get? b=some u->h'.get? b=some u)(hp:OL)(hn:H a=none):Un fs ex H Gh h h' where
 keep:=λb u q _ _ _=>k b u q
 slot:=λb u q _ _ _=>⟨u.slots,k b u q⟩
 free:=λb u q n _=>by rw[qd (zt (z9 (zS q) hp))];exact n
 there:=λb u q _=>⟨u,k b u q⟩
 tups:=λb xs q=>by rw[Ea];exact q
 frzs:=λb u xs q=>by rw[Ea];exact q
 tbls:=λb ps q=>⟨#[],by rw[Ea,q];simp⟩
theorem Un.write(mu:Mut (H x))(he:Fs)(k:∀b u,b≠e->h.get? b=some u->h'.get? b=some u)(heo:∃u,h'.get? e=some u):Un fs ex H RW h h':=by
 have hx:∀b,H b=none->b≠x:=λb n z=>by subst z;rw[n]at mu;exact mu
 have hb:∀b,H b=none->b≠e:=λb n z=>by
  subst z;rcases he with r|r
  ·exact hx b n r
  ·rw[n]at r;cases r
 have hm:∀b u,H b=some u->¬Mut (some u)->b≠x:=λb u q nm z=>by subst z;rw[q]at mu;exact nm mu
 refine⟨λb u q n _ _=>k b u (hb b n) q,λb u q n _ _=>⟨u.slots,k b u (hb b n) q⟩,λb u q n _=>by rw[qd (hx b n)];exact n,λb u q _=>?_,
  λb xs q=>by rw[qd JL];exact q,λb u xs q=>by rw[qd JL];exact q,λb ps q=>⟨#[],by rw[qd JL,q];simp⟩⟩
 by_cases hbe:b=e
 ·subst hbe;exact heo
 ·exact⟨u,k b u hbe q⟩
end
noncomputable def trk(h:ve)(H:Hp):List vC:=(zY h.objs.size).filter λa=>(H a).isSome
noncomputable def zBF(h:ve)(H:Hp):ve:=PySem.W.hideAll h abm
theorem qff(h:ve)(H:Hp):(zBF h H).objs.size=h.objs.size:=PySem.W.hideAll_size _ _
theorem qgy{h:ve}{H:Hp}{b:vC}{o:Obj}(e:h.get? b=some o)(n:H b=none):(zBF h H).get? b=some o :=
 PySem.W.hideAll_get _ e λhm=>by
  have q:(H b).isSome=true:=(yM.mp hm).2;rw[n]at q;simp at q
theorem qhT{h:ve}{H:Hp}{b:vC}{o:Obj}(e:(zBF h H).get? b=some o):h.get? b=some o/\H b=none:=by
 have e':h.get? b=some o:=PySem.W.of_hideAll abm e;refine⟨e',?_⟩;cases q:H b with
 | none=>rfl
 | some x=>
  have hm:b∈trk h H:=yM.mpr ⟨yO.mpr (zS e'),by simp[q]⟩;have z:(zBF h H).get? b=none:=PySem.W.hideAll_none abm hm;rw[z]at e;cases e
noncomputable def zBu(g h:ve)(L:vC):List A5:=(zY h.objs.size).filterMap λa=>if a=L\/(g.get? a).isSome=true then none else (h.get? a).map λo=>(a,o)
noncomputable def rest(g h:ve)(L d:vC):List A5:=(zBu g h L).filter λp=>decide (p.1≠d)
structure Mod (K:zC) (mg:Str->Option vB) (base:ve):Prop where
 kin:K.In base
 glob:base.Ns vT mg
 blt:∃mb,base.Ns builtinsNs mb/\∀x:Str,x ≠ "__name__" -> mb x=vf x
 nolimit:base.NoLimit
structure Cx where
 prog:vS
 w:vX
 K:zC
 mg:Str->Option vB
 base:ve
 A:vc
 N:List Str
 s₀:vF
 H₀:Hp
 env:Env
 outer:List Env
 stack:List Env
 ex:List vC
 fn:Str->Bool
 calm:Bool
 pn:List (vC×Obj)
 xe:vB->vF->Prop
noncomputable def frs(l:Ap):List vC:=l.filterMap (·.frame)
noncomputable abbrev Cx.fs(X:Cx):List vC:=frs X.outer
def Vis(sc:uu)(x:Str):Prop:=sc.names.lookup x=some .local\/sc.names.lookup x=some .cell\/sc.names.lookup x=some .free
def Loc(sc:uu)(x:Str):Prop:=sc.names.lookup x=some .local\/sc.names.lookup x=some .cell
def Look(env:Env)(h:ve)(m:bH)(x:Str)(u:vB):Prop :=
 (env.kindOf x=some .local/\m x=some u)\/((env.kindOf x=some .cell\/env.kindOf x=some .free)/\∃c,env.cells.lookup x=some c/\h.IsCell c (some u))
structure Cx.Ok (X:Cx):Prop where
 mod:Mod X.K X.mg X.base
 kind:X.env.scope.kind=.function
 glob:X.env.globals=vT
 blt:X.env.builtins=builtinsNs
 above:X.s₀.heap.objs.size<=X.env.locals
 inj:∀x y c,X.env.cells.lookup x=some c->X.env.cells.lookup y=some c->x=y
 has:∀x,(X.env.kindOf x=some .cell\/X.env.kindOf x=some .free)->∃c,X.env.cells.lookup x=some c
 cab:∀x c,X.fn x=true->X.env.cells.lookup x=some c->X.s₀.heap.objs.size<=c
 hd:X.calm=true->X.A.handled=none
 frames:X.A.frames=some X.stack
 stk:X.stack=X.outer\/(X.stack=X.env::X.outer/\X.env.frame=some X.env.locals)
 exf:∀b∈X.ex,b≠X.env.locals/\∀x c,X.env.cells.lookup x=some c->c≠b
 bs:∀b o,X.base.get? b=some o->X.s₀.heap.get? b=some o/\X.H₀ b=none
 bsz:X.base.objs.size<=X.s₀.heap.objs.size
 noex:∀b o,X.base.get? b=some o->b∉X.ex
 exfs:∀b∈X.ex,b∉X.fs
 funs:X.s₀.heap.FunFrames X.base X.outer
 frf:∀b∈X.fs,X.H₀ b=none
structure Inv (X:Cx) (pins:List (vC×Obj)) (σ:List (Option V)) (H:Hp) (s:vF):Prop where
 ok:X.Ok
 os:s.os=X.s₀.os
 bare:tH s.gens
 base:Un X.fs X.ex X.H₀ H X.s₀.heap s.heap
 loc:∃m,s.heap.Ns X.env.locals m/\∀(i:Nat)(x:Str)(v:V),X.N[i]?=some x->σ[i]?=some (some v)->Vis X.env.scope x->∃u,RelV v u/\Look X.env s.heap m x u
 cell:∀x c,X.env.cells.lookup x=some c->∃v,s.heap.IsCell c v
 free:H X.env.locals=none
 freeC:∀x c,X.env.cells.lookup x=some c->H c=none
 pin:∀p∈X.pn++pins,s.heap.get? p.1=some p.2/\H p.1=none/\p.1≠X.env.locals/\p.1∉X.fs/\∀v,p.2.data≠.cell v
 hok:HOk X.prog X.w H s.heap
 len:σ.length=X.N.length
section
variable{X:Cx}{pins:List (vC×Obj)}{σ:List (Option V)}{H H':Hp}{s:vF}{h':ve}
theorem Cx.Ok.nofr(ok:X.Ok){b:vC}{o:Obj}(e:X.base.get? b=some o):b∉X.fs:=λhb=>by
 have:=(ok.funs.mem hb).1;rw[e]at this;cases this
theorem Inv.bs(I:aj):∀b o,X.base.get? b=some o->s.heap.get? b=some o/\H b=none:=λb o e=>
 ⟨I.base.keep b o (I.ok.bs b o e).1 (I.ok.bs b o e).2 (I.ok.nofr e) VZ,I.base.free b o (I.ok.bs b o e).1 (I.ok.bs b o e).2 VZ⟩
theorem Inv.bk(I:aj):∀b o,X.base.get? b=some o->s.heap.get? b=some o:=λb o e=>(I.bs b o e).1
theorem Inv.mod(I:aj):Mod X.K X.mg X.base:=I.ok.mod
theorem Inv.kIn(I:aj):X.K.In s.heap:=I.ok.mod.kin.keeps I.bk
theorem Inv.lt(I:aj):X.env.locals<s.heap.objs.size:=let ⟨_,hn,_⟩:=I.loc;hn.lt
theorem Inv.sz(I:aj):X.s₀.heap.objs.size<=s.heap.objs.size:=yJ I.ok.above (ya I.lt)
theorem Inv.nofs(I:aj){a:vC}(h:VD):a∉X.fs:=λhb=>by
 obtain⟨_,o,ho,_⟩:=I.ok.funs.mem hb;exact vN (z9 (zS ho) (yJ I.sz h)) Li
theorem Inv.cne(I:aj):∀x c,X.env.cells.lookup x=some c->c≠X.env.locals:=λx c e z=>by
 obtain⟨v,o,ho,hd⟩:=I.cell x c e;obtain⟨m,⟨o',es,ep,ho',hd',_⟩,_⟩:=I.loc;rw[z,ho']at ho;cases ho;rw[hd']at hd;cases hd
theorem Inv.funs(I:aj):s.heap.FunFrames X.base X.outer:=by
 have all:∀(l:Ap),(∀b∈frs l,b∈X.fs)->X.s₀.heap.FunFrames X.base l->s.heap.FunFrames X.base l:=by
  intro l
  induction l with
  | nil=>intro _ _;trivial
  | cons env r ih=>
   intro hs hl;obtain⟨hk,⟨L,o,hf,hn,ho,hd⟩,hr⟩:=hl;have hL:L∈X.fs:=hs L (by unfold frs;rw[yb,hf];exact zG);obtain⟨sl,e⟩:=I.base.slot L o ho (I.ok.frf L hL) hL λz=>I.ok.exfs L z hL;exact⟨hk,⟨L,_,hf,hn,e,hd⟩,ih (λb hb=>hs b (by unfold frs;rw[yb,hf];exact zH _ hb)) hr⟩
 exact all X.outer (λ_ hb=>hb) I.ok.funs
theorem Inv.stack(I:aj):s.heap.FunFrames X.base X.stack:=by
 rcases I.ok.stk with e|⟨e,hf⟩
 ·rw[e];exact I.funs
 ·rw[e]
  obtain⟨m,hn,_⟩:=I.loc;refine .cons (by rw[I.ok.kind];decide) hf hn ?_ I.funs;exact Heap.get?_none_of_le (yJ I.ok.bsz I.ok.above)
theorem Inv.stkSub(I:aj):∀b∈frs X.stack,b∈X.env.locals::X.fs:=λb hb=>by
 rcases I.ok.stk with e|⟨e,hf⟩
 ·rw[e]at hb;exact zH _ hb
 ·rw[e]at hb
  unfold frs at hb;rw[yb,hf]at hb;exact hb
theorem Inv.stkFree(I:aj):∀b∈frs X.stack,H b=none:=λb hb=>by
 rcases zI.mp (I.stkSub b hb)with e|hb
 ·rw[e];exact I.free
 ·obtain⟨_,o,ho,_⟩:=I.ok.funs.mem hb
  exact I.base.free b o ho (I.ok.frf b hb) λz=>I.ok.exfs b z hb
theorem Inv.step{g':Array sB}{t':Nat}{d':Drawn}{ch:eJ}(I:aj)(hch:∀b∈ch,jU/\b≠X.env.locals/\(∀x c,X.env.cells.lookup x=some c->c≠b)/\∀p∈X.pn++pins,p.1≠b)(keep:∀b o,b≠X.env.locals->b∉X.fs->b∉ch->s.heap.get? b=some o->H b=none->h'.get? b=some o)(slot:∀b o,b≠X.env.locals->b∈X.fs->b∉ch->s.heap.get? b=some o->H b=none->∃sl,h'.get? b=some { o with slots:=sl })(free:∀b o,b∉ch->s.heap.get? b=some o->H b=none->H' b=none)(there:∀b o,b∉ch->s.heap.get? b=some o->∃o',h'.get? b=some o')(tups:∀b xs,H b=some rB->H' b=some rB)(frzs:∀b o u,H b=some Vh->H' b=some Vh)(tbls:∀b ps,H b=some (.tbl ps)->∃more,H' b=some (.tbl (ps++more)))(ns:∀m,s.heap.Ns X.env.locals m->h'.Ns X.env.locals m)(hok:HV)(hg:tH g'):
  Inv X pins σ H' { s with heap:=h',gens:=g',drawn:=d',toks:=t' }:=by
 have neL:∀b o,X.s₀.heap.get? b=some o->b≠X.env.locals:=λb o e=>zt rM;have neC:∀b o,X.s₀.heap.get? b=some o->b∉X.ex->b∉ch:=λb o e hx hb=>by
  rcases (hch b hb).1 with z|z
  ·exact hx z
  ·exact vN (z9 DS z) Li
 have cellK:∀x c,X.env.cells.lookup x=some c->∀v,s.heap.IsCell c v->h'.IsCell c v:=λx c e v ⟨o,ho,hd⟩=>by
  have nch:c∉ch:=λz=>(hch c z).2.2.1 x c e rfl
  by_cases hc:c∈X.fs
  ·obtain⟨sl,q⟩:=slot c o (I.cne x c e) hc nch ho Md
   exact⟨_,q,hd⟩
  ·exact⟨o,keep c o (I.cne x c e) hc nch ho Md,hd⟩
 refine⟨I.ok,I.os,hg,⟨BB,BB,λb o e n hx=>?_,λb o e hx=>?_,λb xs e=>tups b xs (I.base.tups b xs e),λb o xs e=>frzs b o xs (I.base.frzs b o xs e),λb ps e=>?_⟩,?_,λx c e=>?_,?_,λx c e=>?_,AZ,hok,I.len⟩
 ·exact keep b o (neL b o e) hb Gq BA Dw
 ·obtain⟨sl,e1⟩:=I.base.slot b o e n hb hx
  obtain⟨sl',e2⟩:=slot b _ (neL b o e) hb Gq e1 Dw;exact⟨sl',e2⟩
 ·obtain⟨o',e1⟩:=I.base.there b o e hx
  exact free b o' Gq e1 Dw
 ·obtain⟨o',e1⟩:=I.base.there b o e hx
  exact there b o' Gq e1
 ·obtain⟨m1,e1⟩:=I.base.tbls b ps e
  obtain⟨m2,e2⟩:=tbls b _ e1;exact⟨m1++m2,by rw[e2,Array.append_assoc]⟩
 ·obtain⟨m,hn,hl⟩:=I.loc
  refine⟨m,ns m hn,T9⟩;obtain⟨u,r,l⟩:=hl i x v e1 e2 e3;refine⟨u,r,?_⟩;rcases l with l|⟨k,c,e,z⟩
  ·exact .inl l
  ·exact .inr ⟨k,c,e,cellK x c e _ z⟩
 ·obtain⟨v,z⟩:=I.cell x c e
  exact⟨v,cellK x c e v z⟩
 ·obtain⟨m,⟨o,_,_,ho,_⟩,_⟩:=I.loc
  exact free _ o (λz=>(hch _ z).2.1 rfl) ho I.free
 ·obtain⟨v,o,ho,hd⟩:=I.cell x c e
  exact free c o (λz=>(hch c z).2.2.1 x c e rfl) ho Md
 ·obtain⟨e,n,ne,nf,d⟩:=I.pin p hp
  have nch:p.1∉ch:=λz=>(hch p.1 z).2.2.2 p hp rfl;exact⟨keep p.1 p.2 ne nf nch e n,free p.1 p.2 nch e n,ne,nf,d⟩
theorem Inv.un{t':Nat}(I:aj)(u:Un X.fs [] H H' s.heap h')(hok:HV):Inv X pins σ H' { s with heap:=h',toks:=t' }:=by
 obtain⟨m,⟨o,es,ep,ho,r⟩,_⟩:=id I.loc;obtain⟨sl,hL⟩:=u.any ho I.free (by simp);exact I.step (g':=s.gens) (d':=s.drawn) (ch:=[]) (λ_ z=>nomatch z) (λb o _ hb _ e n=>u.keep b o e n hb (by simp)) (λb o _ hb _ e n=>u.slot b o e n hb (by simp)) (λb o _ e n=>u.free b o e n (by simp)) (λb o _ e=>u.there b o e (by simp)) u.tups u.frzs u.tbls (λm' hm=>by
  obtain⟨o',es',ep',ho',r'⟩:=hm;rw[ho]at ho';cases ho';exact Ta) hok I.bare
theorem Inv.call{g':Array sB}{t':Nat}{d':Drawn}{ch:eJ}(I:aj)(u:Un OP ch H H' s.heap h')(hok:HV)(hg:tH g')(hch:∀b∈ch,jU/\b≠X.env.locals/\(∀x c,X.env.cells.lookup x=some c->c≠b)/\∀p∈X.pn++pins,p.1≠b):
  Inv X pins σ H' { s with heap:=h',gens:=g',drawn:=d',toks:=t' }:=by
 obtain⟨m,⟨o,es,ep,ho,r⟩,_⟩:=id I.loc;obtain⟨sl,hL⟩:=u.any ho I.free λz=>(hch _ z).2.1 rfl;exact I.step (ch:=ch) hch (λb o hL hb hc e n=>u.keep b o e n (λz=>(zI.mp (I.stkSub b z)).elim hL hb) hc) (λb o _ _ hc e n=>u.any e n hc) (λb o hc e n=>u.free b o e n hc) (λb o hc e=>u.there b o e hc) u.tups u.frzs u.tbls (λm' hm=>by
  obtain⟨o',es',ep',ho',r'⟩:=hm;rw[ho]at ho';cases ho';exact Ta) hok hg
theorem Inv.turned{t':Nat}{it:vC}(I:aj)(k:∀b o,b≠it->s.heap.get? b=some o->h'.get? b=some o)(hn:H it=none)(hL:it≠X.env.locals)(h1:it∈X.ex\/X.s₀.heap.objs.size<=it)(h2:∀x c,X.env.cells.lookup x=some c->c≠it)(h3:∀p∈X.pn++pins,p.1≠it):Inv X pins σ H { s with heap:=h',toks:=t' }:=by
 have nit:∀b u,H b=some u->b≠it:=λb u e z=>by rw[z,hn]at e;cases e
 refine I.step (g':=s.gens) (d':=s.drawn) (ch:=[it]) mJ (λb o _ _ hc e _=>k b o (λz=>hc (by simp[z])) e) (λb o _ _ hc e _=>⟨o.slots,k b o (λz=>hc (by simp[z])) e⟩) aan
  (λb o hc e=>⟨o,k b o (λz=>hc (by simp[z])) e⟩) (λ_ _ e=>e) acr (λb ps e=>⟨#[],by rw[e];simp⟩) (λm hm=>?_) (λb u e=>?_) I.bare
 ·have e:b=it:=by simpa using hb
  subst e;exact⟨h1,hL,h2,h3⟩
 ·obtain⟨o,es,ep,ho,r⟩:=hm
  exact⟨o,es,ep,k _ o (Ne.symm hL) ho,r⟩
 ·refine(I.hok b u e).stay Ow MU λ_ _ q=>q
  rcases hc with z|z
  ·rw[z];exact nit b u e
  ·exact nit c _ z
theorem Inv.tok(I:aj)(t:Nat):Inv X pins σ H { s with toks:=t }:=I.un (h':=s.heap) (t':=t) Un.refl I.hok
theorem Inv.kept{t':Nat}(I:aj)(k:∀b u,s.heap.get? b=some u->h'.get? b=some u):Inv X pins σ H { s with heap:=h',toks:=t' }:=I.un (Un.kept k) (I.hok.kept k)
theorem Inv.laid{a:vC}{o:HO}{t':Nat}(I:aj)(k:∀b u,s.heap.get? b=some u->h'.get? b=some u)(hp:VD)(new:Y2 X.prog X.w Gh h' a o):
  Inv X pins σ Gh { s with heap:=h',toks:=t' }:=I.un (Un.laid k hp (I.hok.fresh hp)) (I.hok.laid k hp new)
theorem Inv.write{x e:vC}{o:HO}{t':Nat}(I:aj)(mu:Mut (H x))(he:Fs)(k:∀b u,b≠e->s.heap.get? b=some u->h'.get? b=some u)(heo:∃u,h'.get? e=some u)(new:Y2 X.prog X.w RW h' x o):Inv X pins σ RW { s with heap:=h',toks:=t' }:=I.un (Un.write mu he k heo) (I.hok.write mu he k heo new)
theorem Inv.pins_of{pins':aC}(I:aj)(h:∀p∈pins',s.heap.get? p.1=some p.2/\H p.1=none/\p.1≠X.env.locals/\p.1∉X.fs/\∀v,p.2.data≠.cell v):Inv X pins' σ H s :=
 ⟨I.ok,I.os,I.bare,I.base,I.loc,I.cell,I.free,I.freeC,λp hp=>(zR.mp hp).elim (λz=>I.pin p (zM _ z)) (h p),I.hok,I.len⟩
theorem qad{N:dM}(hN:N.Nodup){i j:Nat}{x:Str}(a:N[i]?=some x)(b:N[j]?=some x):i=j:=by
 obtain⟨h1,e1⟩:=zc.mp a;obtain⟨h2,e2⟩:=zc.mp b;exact(wG hN).mp (e1.trans e2.symm)
theorem q8o{M:Model}{A:vc}{E:aO}{i:Nat}{x:Str}{v:V}{u:vB}{Q:An}(I:aj)(hN:X.N.Nodup)(hi:X.N[i]?=some x)(hx:iN)(r:U5)(h:∀s',Inv X pins Da H s'->(∃a,xN a s.heap s'.heap/\(a=X.env.locals\/X.env.cells.lookup x=some a))->Q () s')(hf:bf:=by first|exact .inl rfl|exact .inr rfl|assumption):vM M A QW Q E s:=by
 obtain⟨m,hn,hl⟩:=id I.loc;have hcls:(X.env.scope.kind == .class || (X.env.scope.kind == .module&&X.env.locals != X.env.globals))=false:=by rw[I.ok.kind];rfl
 have hiσ:i<σ.length:=by rw[I.len];exact(zc.mp hi).1
 have cne:=I.cne;have tracked:∀{a:vC}{h':ve},(∃o,s.heap.get? a=some o/\H a=none)->xN a s.heap h'->HOk X.prog X.w H h':=λ{a h'} ha hs b ob e=>by
  obtain⟨_,_,hfree⟩:=ha;refine(I.hok b ob e).stay (λc w' hc q=>(hs.2 c ?_).trans q) MU λ_ _ q=>q;rintro rfl;rcases hc with rfl|hc
  ·rw[hfree]at e;cases e
  ·rw[hfree]at hc;cases hc
 rcases hx with hk|hk
 ·refine wpAny_storeName_local hk hn (λh' hn' hs=>?_) hcls
  obtain⟨oL,_,_,hoL,_⟩:=id hn;refine h _ ⟨I.ok,I.os,I.bare,jK,⟨_,hn',Tf⟩,λy c e=>?_,I.free,I.freeC,AZ,tracked ⟨oL,hoL,I.free⟩ hs,by simpa using I.len⟩ ⟨_,hs,bT⟩
  ·exact(hs.2 b (zt rM)).trans BA
  ·obtain⟨sl,e1⟩:=I.base.slot b o e n hb hx
   exact⟨sl,PR⟩
  ·obtain⟨o',e1⟩:=I.base.there b o e hx
   exact⟨o',PR⟩
  ·by_cases hj:j=i
   ·subst hj
    rw[hi]at e1;cases e1;rw[ye hiσ]at e2;cases e2;exact⟨u,r,.inl ⟨hk,by simp⟩⟩
   ·rw[zP (Ne.symm hj)]at e2
    obtain⟨u',r',q⟩:=hl j y v' e1 e2 e3;refine⟨u',r',?_⟩;rcases q with⟨k,e⟩|⟨k,c,e,z⟩
    ·refine .inl ⟨k,?_⟩
     have:y≠x:=λe=>hj (qad hN e1 (e▸hi));simp[this,e]
    ·exact .inr ⟨k,c,e,P8⟩
  ·obtain⟨w',z⟩:=I.cell y c e
   exact⟨w',P8⟩
  ·obtain⟨e,n,ne,nf,d⟩:=I.pin p hp
   exact⟨(hs.2 p.1 ne).trans e,n,ne,nf,d⟩
 ·have hfn:X.fn x=true:=by
   rcases hf with z|z
   ·exact z
   ·rw[z]at hk;cases hk
  obtain⟨c,hc⟩:=I.ok.has x (.inl hk);obtain⟨w',z⟩:=I.cell x c hc;refine wpAny_storeName_cell I.ok.kind hk hc z (λh' hc' hs=>?_);obtain⟨oc,hoc,hocd⟩:=id z;refine h { s with heap:=h' } ⟨I.ok,I.os,I.bare,jK,⟨m,hn.sameBut hs (Ne.symm (cne x c hc)),Tf⟩,λy c' e=>?_,I.free,I.freeC,AZ,tracked ⟨oc,hoc,I.freeC x c hc⟩ hs,by simpa using I.len⟩ ⟨c,hs,.inr hc⟩
  ·exact(hs.2 b nU).trans BA
  ·obtain⟨sl,e1⟩:=I.base.slot b o e n hb hx
   exact⟨sl,Vl⟩
  ·obtain⟨o',e1⟩:=I.base.there b o e hx
   exact⟨o',Vl⟩
  ·by_cases hj:j=i
   ·subst hj
    rw[hi]at e1;cases e1;rw[ye hiσ]at e2;cases e2;exact⟨u,r,.inr ⟨.inl hk,c,hc,hc'⟩⟩
   ·rw[zP (Ne.symm hj)]at e2
    obtain⟨u',r',q⟩:=hl j y v' e1 e2 e3;refine⟨u',r',?_⟩;rcases q with q|⟨k,c',e,z'⟩
    ·exact .inl q
    ·refine .inr ⟨k,c',e,z'.sameBut hs ?_⟩
     rintro rfl;exact hj (qad hN e1 (I.ok.inj _ _ _ e hc▸hi))
  ·by_cases hcc:c'=c
   ·subst hcc;exact⟨_,hc'⟩
   ·obtain⟨w2,z2⟩:=I.cell y c' e
    exact⟨w2,z2.sameBut hs hcc⟩
  ·obtain⟨e,n,ne,nf,d⟩:=I.pin p hp
   refine⟨(hs.2 p.1 ?_).trans e,n,ne,nf,d⟩;intro q;rw[q,hoc]at e;have q':oc=p.2:=zr e;exact d w' (by rw[<- q'];exact hocd)
theorem qak{M:Model}{A:vc}{E:aO}{i:Nat}{x:Str}{v:V}{u:vB}{Q:An}(I:aj)(hN:X.N.Nodup)(hi:X.N[i]?=some x)(hx:iN)(r:U5)(h:∀s',Inv X pins Da H s'->Q () s')(hf:bf:=by first|exact .inl rfl|exact .inr rfl|assumption):vM M A QW Q E s :=
 q8o I hN hi hx r (λs' I' _=>h s' I') hf
theorem Inv.call'{s':vF}{ch:eJ}(I:aj)(ho:s'.os=s.os)(u:Un OP ch H H' s.heap s'.heap)(hok:HOk X.prog X.w H' s'.heap)(hg:tH s'.gens)(hch:∀b∈ch,jU/\b≠X.env.locals/\(∀x c,X.env.cells.lookup x=some c->c≠b)/\∀p∈X.pn++pins,p.1≠b):Inv X pins σ H' s':=by
 obtain⟨h',g',d',t',o'⟩:=s';have e:o'=s.os:=ho;subst e;exact I.call (g':=g') (t':=t') (d':=d') u hok hg hch
end
abbrev XK:=vB->Option vC->Hp->Prop
noncomputable abbrev St:=List AK
abbrev VK:=V->Hp->Prop
abbrev TE:=St->Hp->VK->Prop
abbrev TT:=St->Hp->kr->Prop
abbrev TA:=St->Hp->lY->Prop
structure Ends where
 nx:St->Hp->Prop
 rt:VK
 bk:St->Hp->Prop:=λ_ _=>False
 ct:St->Hp->Prop:=λ_ _=>False
abbrev TS:=Ends->St->Hp->Prop
def EP(X:Cx)(pins:aC)(σ:St)(Q:VK)(u:vB)(s':vF):Prop:=∃v H',Inv X pins σ H' s'/\RelV v u/\Q v H'
def TP(X:Cx)(pins:aC)(σ:St)(Q:kr)(b:Bool)(s':vF):Prop:=∃H',Inv X pins σ H' s'/\Q b H'
def AP(X:Cx)(pins:aC)(σ:St)(Q:lY)(us:bC)(s':vF):Prop:=∃vs H',Inv X pins σ H' s'/\Yw vs us/\Q vs H'
def SP(X:Cx)(pins:aC)(D:Ends)(f:Flow)(s':vF):Prop :=
 match f with
 | .next=>∃σ' H',Inv X pins σ' H' s'/\D.nx σ' H'
 | .brk=>∃σ' H',Inv X pins σ' H' s'/\D.bk σ' H'
 | .cont=>∃σ' H',Inv X pins σ' H' s'/\D.ct σ' H'
 | .ret u=>∃v σ' H',Inv X pins σ' H' s'/\RelV v u/\D.rt v H'
def PE(X:Cx)(e:vP)(t:TE):Prop :=
 ∀(pins:aC)(s:vF)(σ:St)(H:Hp)(Q:VK),Inv X pins σ H s->t σ H Q->vM ai X.A acR cV X.xe s
def PT(X:Cx)(e:vP)(t:TT):Prop :=
 ∀(pins:aC)(s:vF)(σ:St)(H:Hp)(Q:kr),Inv X pins σ H s->t σ H Q->vM ai X.A (sQ e X.env acR) Eh X.xe s
def PW(X:Cx)(e:vP)(t:TT):Prop :=
 ∀(whole:Sem vB)(pins:aC)(s:vF)(σ:St)(H:Hp)(Q:kr),Inv X pins σ H s->t σ H Q->vM ai X.A (sQ e X.env whole) Eh X.xe s
theorem PW.pt{X:Cx}{e:vP}{t:TT}(h:PW X e t):PT X e t:=h _
def PA(X:Cx)(es:iI)(t:TA):Prop :=
 ∀(pos:Pos)(pins:aC)(s:vF)(σ:St)(H:Hp)(Q:lY),Inv X pins σ H s->t σ H Q->vM ai X.A (spliced (vZ pos iF)) aaV X.xe s
def PS(X:Cx)(st:vm)(t:TS):Prop :=
 ∀(pins:aC)(s:vF)(σ:St)(H:Hp)(D:Ends),Inv X pins σ H s->t D σ H->vM ai X.A (exec st X.env) (SP X pins D) X.xe s
def PSs(X:Cx)(st:Ej)(t:TS):Prop :=
 ∀(pins:aC)(s:vF)(σ:St)(H:Hp)(D:Ends),Inv X pins σ H s->t D σ H->vM ai X.A (execs st X.env) (SP X pins D) X.xe s
theorem thn{α:Type}{t:Sem α}{Q Q':α->vF->Prop}{M:Model}{A:vc}{E:aO}{s:vF}(h:vM M A t Q E s)(hQ:∀a s,Q a s->Q' a s):vM M A t Q' E s:=vo h hQ λ_ _ x=>x
section
variable{X:Cx}
theorem bin{a b:vP}{ta tb:TE}(ha:nO)(hb:E9){pins:aC}{s:vF}{σ:St}{H:Hp}{R:V->V->Hp->Prop}(I:aj)(h:FR){α:Type}{Q:α->vF->Prop}{f:vB->vB->Sem α}(hf:∀v u s2 x y H2,Inv X pins σ H2 s2->RelV x v->RelV y u->R x y H2->vM ai X.A VP Q X.xe s2):
  vM ai X.A Nr lK X.xe s:=by
 refine thn cY λv s1 ⟨x,H1,I1,r1,q1⟩=>?_;refine thn BV λu s2 ⟨y,H2,I2,r2,q2⟩=>?_;exact hf v u s2 x y H2 I2 r1 r2 q2
noncomputable def XU(i:Nat):TE:=λσ H Q=>∃v,σ[i]?=some oy/\Q v H
noncomputable def tC(v:V):TE:=λ_ H Q=>Q v H
theorem qjB{i:Nat}{x:Str}{pos:Pos}(hN:X.N[i]?=some x)(hv:Ab)(hd:aG:=by decide)(hcd:iq:=by decide):PE X jr Lx:=by
 intro pins s σ H Q I h;obtain⟨v,e,h⟩:=h;obtain⟨m,hn,hl⟩:=I.loc;obtain⟨u,r,l⟩:=hl i x v hN e hv;have fin:EP X pins σ Q u s:=MR;rcases l with⟨hk,hm⟩|⟨hk,c,hc,hcell⟩
 ·exact wpAny_Name (wpAny_loadName_local I.ok.kind hk hn hm fin) hd
 ·rcases hk with hk|hk
  ·exact wpAny_Name (wpAny_loadName_cell I.ok.kind hk hc hcell fin) hd
  ·exact wpAny_Name (wpAny_loadName_free I.ok.kind hk hc hcell fin hcd) hd
theorem qko{i j pos}:PE X ST (tC lI):=λ_ _ _ H _ I h=>wpAny_Constant_int ⟨lI,H,ka,bK,h⟩
theorem qlf{b j pos}:PE X MM (tC GW):=λ_ _ _ H _ I h=>Constant_bool ⟨GW,H,I,rfl,h⟩
theorem qk5{j pos}:PE X PP (tC .non):=λ_ _ _ H _ I h=>Constant_none ⟨.non,H,I,rfl,h⟩
theorem qkH{x j pos}:PE X SU (tC Ip):=λ_ _ _ H _ I h=>Calls.Constant_str ⟨Ip,H,ka,bK,h⟩
def Gl(X:Cx)(x:Str):Prop:=X.env.kindOf x=some .globalImplicit
theorem qbu{E:aO}{pins:aC}{s:vF}{σ:St}{H:Hp}{x:Str}{u:vB}{pos:Pos}{Q:aO}(I:aj)(hg:rT)(hm:X.mg x=some u)(h:Q u s)(hd:aG:=by decide):vM ai X.A abG Q E s :=
 Calls.Name_function_global I.ok.kind hg (Calls.loadGlobal_global (by rw[I.ok.glob];exact I.mod.glob.keeps I.bk) hm h) hd
theorem q0m{E:aO}{pins:aC}{s:vF}{σ:St}{H:Hp}{x:Str}{u:vB}{pos:Pos}{Q:aO}(I:aj)(hg:rT)(hm:Bo)(hv:vf x=some u)(h:Q u s)(hn:lA:= by decide)(hd:aG:=by decide):vM ai X.A abG Q E s:=by
 obtain⟨mb,h1,h2⟩:=I.mod.blt;exact Calls.Name_function_global I.ok.kind hg (Calls.loadGlobal_builtin (by rw[I.ok.glob];exact I.mod.glob.keeps I.bk) hm (by rw[I.ok.blt];exact h1.keeps I.bk) ((h2 x hn).trans hv) h) hd
theorem qbn{x:Str}{v:V}{u:vB}{pos:Pos}(hg:rT)(hm:X.mg x=some u)(r:U5)(hd:aG:=by decide):PE X jr (tC v) :=
 λ_ _ _ H _ I h=>qbu I hg hm MR hd
theorem qiw{x:Str}{v:V}{u:vB}{pos:Pos}(hg:rT)(hm:Bo)(hv:vf x=some u)(r:U5)(hn:lA:= by decide)(hd:aG:=by decide):PE X jr (tC v) :=
 λ_ _ _ H _ I h=>q0m I hg hm hv MR hn hd
variable{a b:vP}{ta tb:TE}{pos:Pos}
def PC(X:Cx)(op:sJ)(a b:vP)(t:TE):Prop :=
 ∀(pins:aC)(s:vF)(σ:St)(H:Hp)(Q:VK),Inv X pins σ H s->t σ H Q ->
  vM ai X.A Nr (λv s₁=>vM ai X.A acS (λu s₂=>vM ai X.A (uG op v u) cV X.xe s₂) X.xe s₁) X.xe s
theorem zBM(b:vP){op:sJ}(h:op≠.In)(h2:op≠.NotIn):uD op b=false:=by
 have e1:acK=false:=by cases op <;> first|rfl|exact vN rfl h
 have e2:VJ=false:=by cases op <;> first|rfl|exact vN rfl h2
 cases b <;> simp[uD,e1,e2]
noncomputable def tB(t:TE):TT:=λσ H Q=>t σ H λx H1=>∃c,x=.bl c/\Q c H1
theorem qkE{op:sJ}{t:TE}(h:PC X op a b t)(h1:DX:=by first|exact zBM _ (by decide) (by decide)|rfl):PT X kW (tB t):=by
 intro pins s σ H Q I hw;refine tS (thn Qn λv s1 h1=>thn h1 λu s2 h2=>thn h2 λc s3 ⟨x,H1,I1,r1,q1⟩=>?_) h1;obtain⟨d,rfl,q⟩:=q1;cases r1;exact uF ⟨H1,I1,q⟩
variable{tA tB':TT}{rest:List vP}
noncomputable def tAnd(t u:TT):TT:=λσ H Q=>t σ H λc H1=>if c=true then u σ H1 Q else Q false H1
noncomputable def tOr(t u:TT):TT:=λσ H Q=>t σ H λc H1=>if c=true then Q true H1 else u σ H1 Q
noncomputable def tNot(t:TT):TT:=λσ H Q=>t σ H λc H1=>Q (!c) H1
theorem qhS(ha:L8):PW X QJ tA:=by
 intro wh pins s σ H Q I h;refine isTrue_and EX;cases c with
 | true=>exact isTrue_and_nil e
 | false=>exact e
theorem qeF(ha:L8):PW X Ru tA:=by
 intro wh pins s σ H Q I h;refine isTrue_or EX;cases c with
 | false=>exact isTrue_or_nil e
 | true=>exact e
theorem qkv(ha:L8)(hb:PW X mS tB'):PW X lJ (tAnd tA tB'):=by
 intro wh pins s σ H Q I h;refine isTrue_and (thn cY λc s1 ⟨H1,I1,q1⟩=>?_);cases c with
 | true=>exact hb wh pins s1 σ H1 Q I1 q1
 | false=>exact⟨H1,I1,q1⟩
theorem qhC(ha:L8)(hb:PW X nA tB'):PW X lR (tOr tA tB'):=by
 intro wh pins s σ H Q I h;refine isTrue_or (thn cY λc s1 ⟨H1,I1,q1⟩=>?_);cases c with
 | true=>exact⟨H1,I1,q1⟩
 | false=>exact hb wh pins s1 σ H1 Q I1 q1
theorem qka(ha:L8):PT X As (tNot tA):=by
 intro pins s σ H Q I h;exact isTrue_not (ha pins s σ H (λc H1=>Q (!c) H1) I h)
noncomputable def tAndV(ta tb:TE):TE:=λσ H Q=>ta σ H λx H1=>∃c,x=.bl c/\if c=true then tb σ H1 Q else Q i9 H1
noncomputable def tOrV(ta tb:TE):TE:=λσ H Q=>ta σ H λx H1=>∃c,x=.bl c/\if c=true then Q bY H1 else tb σ H1 Q
noncomputable def tNotV(ta:TE):TE:=λσ H Q=>ta σ H λx H1=>∃c,x=.bl c/\Q (.bl (!c)) H1
theorem qjI{op}{t:TE}(h:PE X a t):PE X SX t:=λpins s σ H Q I hw=>BoolOp_one (h pins s σ H Q I hw)
theorem qjN(ha:nO)(hb:PE X mS tb):PE X lJ (tAndV ta tb):=by
 intro pins s σ H Q I h;refine BoolOp_and (thn cY λv s1 ⟨x,H1,I1,r1,q1⟩=>?_);obtain⟨c,rfl,q1⟩:=q1;cases r1;refine uF ?_;cases c with
 | true=>exact hb pins s1 σ H1 Q I1 q1
 | false=>exact⟨i9,H1,I1,rfl,q1⟩
theorem qkM(ha:nO)(hb:PE X nA tb):PE X lR (tOrV ta tb):=by
 intro pins s σ H Q I h;refine BoolOp_or (thn cY λv s1 ⟨x,H1,I1,r1,q1⟩=>?_);obtain⟨c,rfl,q1⟩:=q1;cases r1;refine uF ?_;cases c with
 | false=>exact hb pins s1 σ H1 Q I1 q1
 | true=>exact⟨bY,H1,I1,rfl,q1⟩
theorem qki(ha:nO):PE X As (tNotV ta):=by
 intro pins s σ H Q I h;refine UnaryOp_ (thn cY λv s1 ⟨x,H1,I1,r1,q1⟩=>?_);obtain⟨c,rfl,q1⟩:=q1;cases r1;exact not_of (uF ⟨.bl (!c),H1,I1,rfl,q1⟩)
noncomputable def tIf(t:TT)(ta tb:TE):TE:=λσ H Q=>t σ H λc H1=>if c=true then ta σ H1 Q else tb σ H1 Q
theorem qg3{c:vP}(hc:PT X c tA)(ha:nO)(hb:E9):PE X Vj (tIf tA ta tb):=by
 intro pins s σ H Q I h;refine wpAny_IfExp (thn Ql λd s1 ⟨H1,I1,q1⟩=>?_);cases d with
 | true=>exact ha pins s1 σ H1 Q I1 q1
 | false=>exact hb pins s1 σ H1 Q I1 q1
end
def SqL(K:zC)(H:Hp)(a:vC)(xs:br):Prop :=
 Rd H a dY \/
  ∃(o:Obj) (its:fj) (n:Nat),K.lookup a=some o/\o.cls=.type "list" /\ o.dict=none/\o.data=.seq its n/\its.size<=sizeLine/\Yw xs its.toList
def SqT(K:zC)(H:Hp)(a:vC)(xs:br):Prop :=
 Rd H a rB \/
  ∃(o:Obj) (its:fj) (n:Nat),K.lookup a=some o/\o.cls=.type "tuple" /\ o.data=.seq its n/\its.size<=sizeLine/\Yw xs its.toList
noncomputable def absV:vB->Option V
 | .none=>some .non
 | .bool b=>some GW
 | .int i _=>some lI
 | .str x _=>some Ip
 | .bytes b _=>some (.byt b)
 | .float b _=>some (.flt b)
 | .ref a=>some dJ
 | .type n=>some (.ty n)
 | _=>none
theorem RelV.abs{x:V}{u:vB}(r:U4):absV u=some x:=by
 cases x with
 | non=>cases r;rfl
 | bl _=>cases r;rfl
 | int _=>obtain⟨t,rfl⟩:=r;rfl
 | str _=>obtain⟨t,rfl⟩:=r;rfl
 | byt _=>obtain⟨t,rfl⟩:=r;rfl
 | flt _=>obtain⟨t,rfl⟩:=r;rfl
 | ref _=>cases r;rfl
 | ty _=>cases r;rfl
theorem RelV.inj{x y:V}{u:vB}(r:U4)(q:Ao):x=y:=zr (r.abs.symm.trans q.abs)
theorem Yw.inj:∀{xs ys:br}{us:bC},Yw xs us->Yw ys us->xs=ys
 | _,_,_,.nil,.nil=>rfl
 | _,_,_,.cons r t,.cons r' t'=>by rw[r.inj r',Yw.inj t t']
section
variable{X:Cx}{pins:List (vC×Obj)}{σ:St}{H:Hp}{s:vF}{a:vC}{xs ys:List V}
theorem SqL.of{K:zC}(h:H a=some dY):SqL K H a xs:=.inl SO
theorem SqT.of{K:zC}(h:H a=some rB):SqT K H a xs:=.inl SO
theorem Inv.list(I:aj)(h:SqL X.K H a xs):∃its:List vB,Yw xs its/\PlainL s.heap a its.toArray/\xs.length<=sizeLine:=by
 rcases h with h|⟨o,its,n,hk,hc,hd,hs,hz,r⟩
 ·obtain⟨z,its,n,r,e⟩:=h.ok I.hok
  exact⟨its,r,⟨_,n,e,rfl,rfl,rfl⟩,z⟩
 ·refine⟨its.toList,r,⟨o,n,I.kIn a o hk,hc,hd,by simpa using hs⟩,?_⟩
  have e:=r.length;simp only[zU]at e;omega
theorem Inv.tuple(I:aj)(h:SqT X.K H a xs):∃its:List vB,Yw xs its/\IsTup s.heap a its.toArray/\xs.length<=sizeLine:=by
 rcases h with h|⟨o,its,n,hk,hc,hs,hz,r⟩
 ·obtain⟨z,its,r,p⟩:=h.ok I.hok
  exact⟨its,r,p,z⟩
 ·refine⟨its.toList,r,⟨o,I.kIn a o hk,hc,n,by simpa using hs⟩,?_⟩
  have e:=r.length;simp only[zU]at e;omega
theorem Inv.list_inj(I:aj)(h:SqL X.K H a xs)(h':SqL X.K H a ys):xs=ys:=by
 obtain⟨its,r,⟨o,n,e,_,_,d⟩,_⟩:=I.list h;obtain⟨its',r',⟨o',n',e',_,_,d'⟩,_⟩:=I.list h';rw[e]at e';cases e';rw[d]at d';injection d' with d1 _;have:its=its':=by simpa using vn Yb d1
 subst this;exact r.inj r'
theorem Inv.tuple_inj(I:aj)(h:SqT X.K H a xs)(h':SqT X.K H a ys):xs=ys:=by
 obtain⟨its,r,⟨o,e,_,n,d⟩,_⟩:=I.tuple h;obtain⟨its',r',⟨o',e',_,n',d'⟩,_⟩:=I.tuple h';rw[e]at e';cases e';rw[d]at d';injection d' with d1 _;have:its=its':=by simpa using vn Yb d1
 subst this;exact r.inj r'
end
noncomputable abbrev Cx.wish(X:Cx)(E:aO):Cx:={ X with xe:=E }
noncomputable abbrev Cx.nox(X:Cx):Cx:=X.wish λ_ _=>False
theorem Cx.Ok.wish{X:Cx}(ok:X.Ok)(E:aO):(X.wish E).Ok :=
 gL
theorem Cx.Ok.unwish{X:Cx}{E:aO}(ok:(X.wish E).Ok):X.Ok :=
 gL
section
variable{X:Cx}{pins:List (vC×Obj)}{σ:St}{H:Hp}{s:vF}{E:vB->vF->Prop}
theorem Inv.wish(I:aj)(E:aO):Inv U1 pins σ H s:=⟨I.ok.wish E,I.os,I.bare,I.base,I.loc,I.cell,I.free,I.freeC,I.pin,I.hok,I.len⟩
theorem Inv.unwish(I:Inv U1 pins σ H s):Inv X pins σ H s:=⟨I.ok.unwish,I.os,I.bare,I.base,I.loc,I.cell,I.free,I.freeC,I.pin,I.hok,I.len⟩
theorem SP.unwish{D:Ends}{f:Flow}{s':vF}(h:SP U1 pins D f s'):SP X pins D f s':=by
 cases f with
 | next=>obtain⟨σ',H',I,q⟩:=h;exact Eu
 | brk=>obtain⟨σ',H',I,q⟩:=h;exact Eu
 | cont=>obtain⟨σ',H',I,q⟩:=h;exact Eu
 | ret u=>obtain⟨v,σ',H',I,r,q⟩:=h;exact⟨v,σ',H',I.unwish,r,q⟩
theorem PSs.nox{st:Ej}{t:TS}(h:PSs X.nox st t):PSs X st t:=λpins s σ H D I hw=>
 vo (h pins s σ H D (I.wish _) hw) (λ_ _ q=>q.unwish) λ_ _ z=>False.elim z
end
section
variable{X:Cx}{st:vm}{rest:List vm}{t u:TS}{e:vP}{te:TE}{pos:Pos}
noncomputable def tNext:TS:=λD σ H=>D.nx σ H
noncomputable def zAb(t u:TS):TS:=λD σ H=>t { D with nx:=u D } σ H
theorem qiH:PSs X [] tNext:=λ_ _ σ H _ I h=>u5 ⟨σ,H,I,h⟩
theorem qO(h1:PS X st t)(h2:PSs X rest u):PSs X (st::rest) (zAb t u):=by
 intro pins s σ H D I h;refine wpAny_execs_cons (thn (h1 pins s σ H { D with nx:=u D } I h) λf s1 q=>?_);cases f with
 | next=>
  obtain⟨σ',H',I',q⟩:=q;exact h2 pins s1 σ' H' D I' q
 | ret v=>exact q
 | brk=>exact q
 | cont=>exact q
theorem q0V(h1:PS X st t):PSs X [st] t:=by
 intro pins s σ H D I h;refine wpAny_execs_cons (thn (h1 pins s σ H D I h) λf s1 q=>?_);cases f with
 | next=>exact u5 q
 | ret v=>exact q
 | brk=>exact q
 | cont=>exact q
theorem Inv.quiet{pins:aC}{σ:St}{H:Hp}{s:vF}(I:aj):interactive X.env=false:=by simp[interactive,I.ok.kind]
noncomputable def zAo(te:TE):TS:=λD σ H=>te σ H λ_ H1=>D.nx σ H1
theorem q1l(he:rR)(hs:Jf:=by rfl):PS X (.Expr e pos) (zAo te):=by
 intro pins s σ H D I h;exact wpAny_Expr_any (thn mD λv s1 ⟨x,H1,I1,r1,q1⟩=>⟨σ,H1,I1,q1⟩) I.quiet hs
noncomputable def tRet(te:TE):TS:=λD σ H=>te σ H D.rt
theorem q5I(he:rR):PS X ES (tRet te):=by
 intro pins s σ H D I h;exact wpAny_Return_some (thn mD λv s1 ⟨x,H1,I1,r1,q1⟩=>⟨x,σ,H1,I1,r1,q1⟩)
noncomputable def tIfS(c:TT)(t u:TS):TS:=λD σ H=>c σ H λb H1=>if b=true then t D σ H1 else u D σ H1
theorem qgR{c:vP}{a b:Ej}{tc:TT}(hc:PT X c tc)(ha:PSs X a t)(hb:PSs X b u):PS X acj (tIfS tc t u):=by
 intro pins s σ H D I h;refine wpAny_If (thn Ql λd s1 ⟨H1,I1,q1⟩=>?_);cases d with
 | true=>exact ha pins s1 σ H1 D I1 q1
 | false=>exact hb pins s1 σ H1 D I1 q1
noncomputable def tNever:TS:=λ_ _ _=>False
theorem qg0:PS X st tNever:=λ_ _ _ _ _ _ h=>h.elim
end
abbrev TG:=V->St->Hp->Bp->Prop
abbrev TGs:=List V->St->Hp->Bp->Prop
def PG(X:Cx)(target:vP)(t:TG):Prop :=
 ∀(pins:aC)(s:vF)(σ:St)(H:Hp)(v:V)(u:vB)(Q:Bp),Inv X pins σ H s->RelV v u->t v σ H Q ->
  vM ai X.A (assign target X.env u) (λ_ s'=>∃σ' H',Inv X pins σ' H' s'/\Q σ' H') X.xe s
def PGs(X:Cx)(ts:iI)(t:TGs):Prop :=
 ∀(pins:aC)(s:vF)(σ:St)(H:Hp)(vs:br)(us:bC)(Q:Bp),Inv X pins σ H s->Yw vs us->t vs σ H Q ->
  vM ai X.A (assignInOrder ((uB ts X.env).map (·.2)) us) (λ_ s'=>∃σ' H',Inv X pins σ' H' s'/\Q σ' H') X.xe s
abbrev TSet:=V->V->V->Hp->ab7->Prop
def PSet(X:Cx)(t:TSet):Prop :=
 ∀(pins:aC)(s:vF)(σ:St)(H:Hp)(o i v:V)(ov iv u:vB)(Q:ab7),Inv X pins σ H s->RelV o ov->RelV i iv->RelV v u->t o i v H Q ->
  vM ai X.A (setItem ov iv u) (λ_ s'=>∃H',Inv X pins σ H' s'/\Q H') X.xe s
section
variable{X:Cx}{pos:Pos}
noncomputable def Xy(i:Nat):TG:=λv σ H Q=>Q Da H
theorem q4l{i:Nat}{x:Str}(hN:X.N.Nodup)(hi:X.N[i]?=some x)(hx:iN)(hf:bf:=by first|exact .inl rfl|exact .inr rfl|assumption):PG X jr (Xy i):=by
 intro pins s σ H v u Q I r h;exact wpAny_assign_Name (qak I hN hi hx r (λs' I'=>⟨_,H,I',h⟩) hf)
noncomputable def gNil:TGs:=λvs σ H Q=>vs=[]/\Q σ H
noncomputable def gCons(t:TG)(u:TGs):TGs:=λvs σ H Q=>∃v r,vs=v::r/\t v σ H λσ' H'=>u r σ' H' Q
theorem qbp:PGs X [] gNil:=by
 intro pins s σ H vs us Q I r h;obtain⟨e,h⟩:=h;subst e;cases r;exact assignInOrder_nil ⟨σ,H,I,h⟩
theorem q6Z{e:vP}{es:iI}{t:TG}{u:TGs}(h1:PG X e t)(h2:PGs X es u)(hs:(uB jA X.env).map (·.2)=assign e X.env::(uB es X.env).map (·.2):=by rfl):PGs X jA (gCons t u):=by
 intro pins s σ H vs us Q I r h;obtain⟨v,vr,e1,h⟩:=h;subst e1;cases r with
 | cons r rr=>
  rw[hs];refine assignInOrder_cons (thn (h1 pins s σ H _ _ _ I r h) λ_ s1 ⟨σ1,H1,I1,q1⟩=>?_);exact h2 pins s1 σ1 H1 _ _ Q I1 rr q1
noncomputable def gTup(K:zC)(n:Nat)(t:TGs):TG:=λv σ H Q=>∃a xs,v=.ref a/\SqT K H a xs/\xs.length=n/\t xs σ H Q
theorem qdI{es:iI}{k:Nat}{t:TGs}{n:Nat}(hc:b0)(h:PGs X es t)(hn:Ad:=by rfl)(hst:(uB es X.env).findIdx? (·.1)=none:=by rfl):PG X CW (gTup X.K n t):=by
 intro pins s σ H v u Q I r hw;obtain⟨a,xs,e1,hq,hl,hw⟩:=hw;subst e1;cases r;obtain⟨its,rv,ht,hz⟩:=I.tuple hq;refine assign_Tuple_tuple fO ht (by simp[hn,<- hl,rv.length]) hst λh' hx=>?_;have I1:Inv X pins σ H { s with heap:=h' }:=I.kept (t':=s.toks) λb o e=>hx b o (zt DS) e;exact h pins _ σ H xs _ Q I1 ⇑rv hw
noncomputable def gSub(to ti:TE)(t:TSet):TG:=λv σ H Q=>to σ H λo H1=>ti σ H1 λi H2=>t o i v H2 λH3=>Q σ H3
theorem qkm{o i:vP}{to ti:TE}{t:TSet}(ho:PE X o to)(hi:PE X i ti)(hs:PSet X t)(ha:∀v,assign GB X.env v=(do
   let ov <- holding [v] (eval o X.env)
   let iv <- holding [v,ov] (eval i X.env)
   sP pos
   holding Rb VC
   release Rb []):=by intro _;rfl):PG X GB (gSub to ti t):=by
 intro pins s σ H v u Q I r h;rw[ha];refine vA (vU (thn j9 λov s1 ⟨x,H1,I1,r1,q1⟩=>?_));refine vA (vU (thn Nm λiv s2 ⟨y,H2,I2,r2,q2⟩=>?_));refine vA (uy (vA (vU (thn (hs pins s2 σ H2 x y v ov iv u _ I2 r1 r2 r q2) λ_ s3 ⟨H3,I3,q3⟩=>?_))));exact wpAny_release ⟨σ,H3,I3,q3⟩
noncomputable def zAM(te:TE)(g:TG):TS:=λD σ H=>te σ H λx H1=>g x σ H1 D.nx
theorem qeZ{tg e:vP}{te:TE}{g:TG}(he:rR)(hg:PG X tg g)(hs:Jg:=by rfl)(hw:Pq:=by rfl)(h1:(uB [tg] X.env).map (·.2)=abL:=by rfl):PS X SY (zAM te g):=by
 intro pins s σ H D I h;refine wpAny_Assign_stores (thn mD λv s1 ⟨x,H1,I1,r1,q1⟩=>?_) hs hw;rw[h1];exact thn (hg pins s1 σ H1 x v _ I1 r1 q1) λ_ s2 q=>q
theorem q0k{i:Nat}{x:Str}{e:vP}{te:TE}{pos':Pos}(hN:X.N.Nodup)(hi:X.N[i]?=some x)(hx:iN)(he:rR)(hs:nC:=by rfl)(hf:bf:=by first|exact .inl rfl|exact .inr rfl|assumption):
  PS X GD (zAM te (Xy i)):=by
 intro pins s σ H D I h;refine wpAny_Assign_Name (thn mD λv s1 ⟨y,H1,I1,r1,q1⟩=>?_) hs;exact qak I1 hN hi hx r1 (λs2 I2=>⟨_,H1,I2,q1⟩) hf
end
section
variable{X:Cx}{pos:Pos}
noncomputable def zAw(c:TT)(tb:TS):TS:=λD σ H=>∃W:Nat->St->Hp->Prop,(∃m,W m σ H)/\∀m σ H,W m σ H ->
 c σ H λb H1=>if b=true then ∃N:St->Hp->Prop,(∀σ' H',N σ' H'->∃m',m'<m/\W m' σ' H')/\tb { D with nx:=N,ct:=N,bk:=D.nx } σ H1 else D.nx σ H1
theorem q9k{c:vP}{body:Ej}{tc:TT}{tb:TS}(hp:lC)(hc:PT X c tc)(hb:PSs X body tb):PS X QI (zAw tc tb):=by
 intro pins s σ H D I h;obtain⟨W,⟨m0,w0⟩,turn⟩:=h;refine wpAny_While (codeAny_whileLoop (λn s'=>∃σ' H',Inv X pins σ' H' s'/\W n σ' H') ?_ m0 ⟨σ,H,I,w0⟩);rintro n s1 ⟨σ1,H1,I1,w1⟩;refine uP hp (thn (hc pins s1 σ1 H1 _ I1 (turn n σ1 H1 w1)) λb s2 ⟨H2,I2,q2⟩=>?_);cases b with
 | true=>
  obtain⟨N,hN,q2⟩:=q2;rw[lW];refine uP hp (thn (hb pins s2 σ1 H2 _ I2 q2) λf s3 q3=>?_);cases f with
  | next=>
   obtain⟨σ3,H3,I3,n3⟩:=q3;obtain⟨m',hm,w3⟩:=hN σ3 H3 n3;exact PU
  | cont=>
   obtain⟨σ3,H3,I3,n3⟩:=q3;obtain⟨m',hm,w3⟩:=hN σ3 H3 n3;exact PU
  | brk=>exact q3
  | ret v=>exact q3
 | false=>
  rw[vJ yL];exact u5 ⟨σ1,H2,I2,q2⟩
end
structure It where
 go:Nat->Hp->Prop
 yld:Nat->Hp->V->Hp->Prop
 stop:Nat->Hp->Prop
def X1(X:Cx)(pins:aC)(H:Hp)(b:vC):Prop :=
 H b=none/\b≠X.env.locals/\b∉X.fs/\jU/\(∀x c,X.env.cells.lookup x=some c->c≠b)/\∀p∈X.pn++pins,p.1≠b
theorem Inv.fpOk{X:Cx}{pins:aC}{σ:St}{H H':Hp}{s:vF}{b:vC}(I:aj)(hb:s.heap.objs.size<=b)(hn:H' b=none):X1 X pins H' b:=by
 refine⟨hn,xb (z9 I.lt hb),I.nofs hb,.inr (yJ I.sz hb),λx c e z=>?_,λp hp z=>?_⟩
 ·obtain⟨v,q⟩:=I.cell x c e
  exact vN (z9 q.lt (by rw[z];exact hb)) Li
 ·exact vN (z9 (zS (I.pin p hp).1) (by rw[z];exact hb)) Li
structure Turn (P:vS) (w:vX) (K:zC) (tg:vP) (J:It) (fp:List vC) (it:vC) (tn:Nat->ve->Prop):Prop where
 mem:it∈fp
 obj:∀i h,tn i h->∀b∈fp,∃o,h.get? b=some o/\∀v,o.data≠.cell v
 keep:∀i h h',tn i h->(∀b∈fp,∀o,h.get? b=some o->h'.get? b=some o)->tn i h'
 item:∀(X:Cx),X.prog=P->X.w=w->X.K=K->X.calm=true->∀(i:Nat)(pins:List (vC×Obj))(s:vF)(σ:St)(H:Hp)(E:vB->vF->Prop),Inv X pins σ H s->(∀b∈fp,X1 X pins H b)->tn i s.heap->J.go i H ->
  vM (model P w) X.A (uO (.ref it)) (λr s1=>∃u,r=some u /\
   vM (model P w) X.A (u6 tg (.ref it) u) (λ_ s2=>∃x H',Inv X pins σ H' s2/\RelV x u/\J.yld i H x H'/\tn (i+1) s2.heap/\∀b∈fp,H' b=none) E s1) E s
 done:∀(X:Cx),X.prog=P->X.w=w->X.K=K->X.calm=true->∀(i:Nat)(pins:List (vC×Obj))(s:vF)(σ:St)(H:Hp)(E:vB->vF->Prop),Inv X pins σ H s->(∀b∈fp,X1 X pins H b)->tn i s.heap->J.stop i H ->
  vM (model P w) X.A (uO (.ref it)) (λr s1=>r=none/\Inv X pins σ H s1) E s
 self:∀(A:vc)(i:Nat)(s:vF)(Q:vB->vF->Prop)(E:vB->vF->Prop),tn i s.heap->Q (.ref it) s->vM (model P w) A (sR (.ref it)) Q E s
abbrev TI:=St->Hp->EO->Prop
def PIE(X:Cx)(pins:aC)(σ:St)(tg:vP)(R:EO)(itv:vB)(s2:vF):Prop :=
 ∃(it:vC) (fp:eJ) (tn:Nat->ve->Prop) (J:It) (H':Hp),itv=.ref it/\Inv X pins σ H' s2/\Turn X.prog X.w X.K tg J fp it tn/\tn 0 s2.heap/\(∀b∈fp,X1 X pins H' b)/\R J H'
def PI(X:Cx)(tg iter:vP)(wi:TI):Prop :=
 ∀(pins:aC)(s:vF)(σ:St)(H:Hp)(R:EO),Inv X pins σ H s->wi σ H R ->
  vM ai X.A (eval iter X.env) (λv s1=>vM ai X.A (sR v) SA X.xe s1) X.xe s
theorem q9c{M:Model}{A:vc}{E:aO}{s:vF}{tg:vP}{it:vC}{u:vB}{o:Obj}{n:String}{vs:fj}{Q:An}(ho:s.heap.get? it=some o)(hc:o.cls=.type n)(hd:o.data=.fields vs)(hn:["enumerate", "zip", "dict_itemiterator", "dict_reverseitemiterator", "odict_iterator", "itertools.zip_longest", "itertools.pairwise"].contains n=false)(hQ:Q () s):vM M A (u6 tg ig u) Q E s:=by
 unfold u6;cases tg <;> first
  | exact vG hQ
  | (cases u <;> first
    | exact vG hQ
    | (refine vA (wpAny_load ho ?_)
       rw[hc,hd];show vM M A (if (["enumerate", "zip", "dict_itemiterator", "dict_reverseitemiterator", "odict_iterator", "itertools.zip_longest", "itertools.pairwise"].contains n&&vs[0]?==some (uT _))=true then _ else _) Q E s;rw[vJ (by intro h;rw[hn,ZO]at h;cases h)];exact vG hQ))
noncomputable def Itl(K:zC)(a:vC):It :=
 ⟨λi H=>∃xs x,SqL K H a xs/\xs[i]?=some x,λi H x H'=>H'=H/\∀xs,SqL K H a xs->xs[i]?=some x,λi H=>∃xs,SqL K H a xs/\xs.length<=i⟩
noncomputable def Itt(K:zC)(a:vC):It :=
 ⟨λi H=>∃xs x,SqT K H a xs/\xs[i]?=some x,λi H x H'=>H'=H/\∀xs,SqT K H a xs->xs[i]?=some x,λi H=>∃xs,SqT K H a xs/\xs.length<=i⟩
noncomputable def Itr(lo:Int)(n:Nat):It:=⟨λi _=>i<n,λi H x H'=>H'=H/\x=.int (lo+i),λi _=>n<=i⟩
theorem qeV{P:vS}{w:vX}{K:zC}{tg:vP}(a it:vC):Turn P w K tg ab3 [it] it (λi h=>h.IsListIter it a i) where
 mem:=by simp
 obj:=λi h st b hb=>by
  have e:b=it:=by simpa using hb
  subst e;obtain⟨o,e,c,d⟩:=st;exact⟨o,e,λv z=>by rw[d]at z;cases z⟩
 keep:=λi h h' st k=>st.at λo e=>k it (by simp) o e
 item:=by
  intro X hP hw hK hc i pins s σ H E I hf st hg;subst hP hw hK;obtain⟨xs,x,hq,hx⟩:=hg;obtain⟨its,rv,p,hz⟩:=I.list hq;obtain⟨u,hu,ru⟩:=rv.get hx;obtain⟨f0,f1,f2,f3,f4,f5⟩:=hf it (by simp);refine wpAny_pyNext_list_item st p.isList (x:=u) ⇑hu λh' st' sb=>?_;have I1:Inv X pins σ H { s with heap:=h' }:=I.turned (t':=s.toks) rm f0 f1 f3 f4 f5;obtain⟨o,e,c,d⟩:=id st';exact⟨u,rfl,q9c (s:={ s with heap:=h' }) e c d (by decide) ⟨x,H,I1,ru,⟨rfl,λys hy=>by rw[I.list_inj hy hq];exact hx⟩,st',BC⟩⟩
 done:=by
  intro X hP hw hK hc i pins s σ H E I hf st hg;subst hP hw hK;obtain⟨xs,hq,hx⟩:=hg;obtain⟨its,rv,p,hz⟩:=I.list hq;obtain⟨f0,f1,f2,f3,f4,f5⟩:=hf it (by simp);have hl:=rv.length;exact wpAny_pyNext_list_end fO st p.isList (by simp;omega) λh' eb=>df
 self:=λ_ _ _ _ _ st h=>wpAny_pyIter_listiter st h
theorem qcU{P:vS}{w:vX}{K:zC}{tg:vP}(a it:vC):Turn P w K tg ab2 [it] it (λi h=>h.IsTupleIter it a i) where
 mem:=by simp
 obj:=λi h st b hb=>by
  have e:b=it:=by simpa using hb
  subst e;obtain⟨o,e,c,d⟩:=st;exact⟨o,e,λv z=>by rw[d]at z;cases z⟩
 keep:=λi h h' st k=>st.at λo e=>k it (by simp) o e
 item:=by
  intro X hP hw hK hc i pins s σ H E I hf st hg;subst hP hw hK;obtain⟨xs,x,hq,hx⟩:=hg;obtain⟨its,rv,p,hz⟩:=I.tuple hq;obtain⟨u,hu,ru⟩:=rv.get hx;obtain⟨f0,f1,f2,f3,f4,f5⟩:=hf it (by simp);refine wpAny_pyNext_tuple_item st (show s.heap.IsTuple a its.toArray from p) (x:=u) ⇑hu λh' st' sb=>?_;have I1:Inv X pins σ H { s with heap:=h' }:=I.turned (t':=s.toks) rm f0 f1 f3 f4 f5;obtain⟨o,e,c,d⟩:=id st';exact⟨u,rfl,q9c (s:={ s with heap:=h' }) e c d (by decide) ⟨x,H,I1,ru,⟨rfl,λys hy=>by rw[I.tuple_inj hy hq];exact hx⟩,st',BC⟩⟩
 done:=by
  intro X hP hw hK hc i pins s σ H E I hf st hg;subst hP hw hK;obtain⟨xs,hq,hx⟩:=hg;obtain⟨its,rv,p,hz⟩:=I.tuple hq;obtain⟨f0,f1,f2,f3,f4,f5⟩:=hf it (by simp);have hl:=rv.length;exact wpAny_pyNext_tuple_end fO st (show s.heap.IsTuple a its.toArray from p) (by simp;omega) λh' eb=>df
 self:=λ_ _ _ _ _ st h=>wpAny_pyIter_tupleiter st h
theorem qdj{P:vS}{w:vX}{K:zC}{tg:vP}(it:vC)(lo:Int)(n:Nat):Turn P w K tg (Itr lo n) [it] it (λi h=>IsRangeIter h it (lo+(i:Nat)*1) (kP-(i:Nat)) 1) where
 mem:=by simp
 obj:=λi h st b hb=>by
  have e:b=it:=by simpa using hb
  subst e;exact⟨_,st,λv z=>by
   have z':Data.fields _=Data.cell v:=z;cases z'⟩
 keep:=λi h h' st k=>k it (by simp) _ st
 item:=by
  intro X hP hw hK hc i pins s σ H E I hf st hg;subst hP hw hK;obtain⟨f0,f1,f2,f3,f4,f5⟩:=hf it (by simp);have W:=Walks.range (prog:=X.prog) (w:=X.w) fO it lo 1 n;refine W.item i s _ _ hg st λv h' tk hv st' kk=>?_;obtain⟨t,rfl⟩:=hv;have I1:Inv X pins σ H { s with heap:=h',toks:=tk }:=I.turned (λb o hb e=>kk b o (by simpa using hb) e) f0 f1 f3 f4 f5;refine⟨_,rfl,q9c (s:={ s with heap:=h',toks:=tk }) (n := "range_iterator") st' rfl rfl (by decide) ⟨.int (lo+i),H,I1,⟨t,?_⟩,bQ,st',BC⟩⟩;rw[ZP]
 done:=by
  intro X hP hw hK hc i pins s σ H E I hf st hg;subst hP hw hK;obtain⟨f0,f1,f2,f3,f4,f5⟩:=hf it (by simp);exact wpAny_pyNext_range_end fO st (by have:n<=i:=hg;omega) λh' eb=>df
 self:=λ_ _ _ _ _ st h=>wpAny_pyIter_rangeiter st h
section
variable{X:Cx}{tg:vP}
noncomputable def iList(K:zC)(tl:TE):TI:=λσ H R=>tl σ H λx H1=>∃a,x=.ref a/\(∃xs,SqL K H1 a xs)/\R ab3 H1
noncomputable def iTup(K:zC)(tl:TE):TI:=λσ H R=>tl σ H λx H1=>∃a,x=.ref a/\(∃xs,SqT K H1 a xs)/\R ab2 H1
theorem q7I{l:vP}{tl:TE}(hl:PE X l tl):PI X tg l (iList X.K tl):=by
 intro pins s σ H R I h;refine thn EH λv s1 ⟨x,H1,I1,r1,q1⟩=>?_;obtain⟨a,e,⟨xs,hq⟩,q⟩:=q1;subst e;cases r1;obtain⟨its,rv,p,hz⟩:=I1.list hq;refine ua p.isList ?_;refine⟨s1.heap.objs.size,IH,_,_,H1,rfl,I1.kept (t':=s1.toks) λb o e=>zF _ e,qeV a _,rj,mJ,q⟩;have e:b=s1.heap.objs.size:=by simpa using hb
 subst e;exact I1.fpOk cP rS
theorem qjP{l:vP}{tl:TE}(hl:PE X l tl):PI X tg l (iTup X.K tl):=by
 intro pins s σ H R I h;refine thn EH λv s1 ⟨x,H1,I1,r1,q1⟩=>?_;obtain⟨a,e,⟨xs,hq⟩,q⟩:=q1;subst e;cases r1;obtain⟨its,rv,p,hz⟩:=I1.tuple hq;refine wpAny_pyIter_tuple (show s1.heap.IsTuple a its.toArray from p) ?_;refine⟨s1.heap.objs.size,IH,_,_,H1,rfl,I1.kept (t':=s1.toks) λb o e=>zF _ e,qcU a _,rj,mJ,q⟩;have e:b=s1.heap.objs.size:=by simpa using hb
 subst e;exact I1.fpOk cP rS
theorem q9F{pins:aC}{σ:St}{H:Hp}{s:vF}{R:EO}{E:aO}{lo hi:Int}{t u v:Tok}{tk:Nat}(I:aj)(h1:-(2^62)<=lo)(h2:lo<2^62)(h3:-(2^62)<=hi)(h4:hi<2^62)(q:R (Itr lo (hi-lo).toNat) H):vM ai X.A (sR aJ) SA E { s with heap:=s.heap.push { cls:=.type "range", data:=.fields #[CF,CG,Fh] },toks:=tk }:=by
 refine wpAny_pyIter_range (IsRange.new ..) (small_one h1 h2 h3 h4) ?_;have I1:Inv X pins σ H { s with heap:=s.heap.push { cls:=.type "range", data:=.fields #[CF,CG,Fh] },toks:=tk }:=I.kept λb o e=>zF _ e;refine⟨(s.heap.push { cls:=.type "range", data:=.fields #[CF,CG,Fh] }).objs.size,[(s.heap.push { cls:=.type "range", data:=.fields #[CF,CG,Fh] }).objs.size],_,_,H,rfl,
  I1.kept (t':=tk) λb o e=>zF _ e,qdj _ lo (hi-lo).toNat,?_,λb hb=>?_,q⟩
 ·have e1:lo+AY*1=lo:=by simp
  have e2:Oh-AY=Builtin.Range.rangeSize lo hi 1:=by rw[rangeSize_one];split <;> omega
  show IsRangeIter _ _ (lo+AY*1) (Oh-AY) 1;rw[e1,e2];exact zW _ rfl
 ·have e:b=(s.heap.push { cls:=.type "range", data:=.fields #[CF,CG,Fh] }).objs.size:=by simpa using hb
  subst e;exact I1.fpOk cP rS
noncomputable def iRng1(ta:TA):TI:=λσ H R=>ta σ H λvs H1=>∃j:Int,vs=[.int j]/\-(2^62)<=j/\j<2^62/\R (Itr 0 j.toNat) H1
noncomputable def iRng2(ta:TA):TI:=λσ H R=>ta σ H λvs H1=>∃i j:Int,vs=[lI,.int j]/\(-(2^62)<=i/\i<2^62/\-(2^62)<=j/\j<2^62)/\R (Itr i (j-i).toNat) H1
theorem qeh{a:vP}{ta:TA}{p pos:Pos}(hg:Co)(hm:ma)(ha:PA X [a] ta)(hs:DG:=by rfl):PI X tg Rt (iRng1 ta):=by
 intro pins s σ H R I h;refine Call_ (q0m I hg hm boot_range (PyProof.Rows.callWith_type1 (thn fX λus s1 ⟨vs,H1,I1,r1,q1⟩=>?_) hs rfl));obtain⟨j,e,q1,q2,q⟩:=q1;subst e;cases r1 with
 | cons r rr=>
  cases rr;obtain⟨t,rfl⟩:=r;exact call_range_1 (q9F I1 ∅ ∅ q1 q2 ⇑q)
theorem qdK{a b:vP}{ta:TA}{p pos:Pos}(hg:Co)(hm:ma)(ha:PA X rG ta)(hs:BE:=by rfl)(hs2:DF:=by rfl):
  PI X tg SW (iRng2 ta):=by
 intro pins s σ H R I h;refine Call_ (q0m I hg hm boot_range (PyProof.Rows.callWith_type1 (thn fX λus s1 ⟨vs,H1,I1,r1,q1⟩=>?_) (by rw[hs,hs2]) (by rw[hs2];rfl)));obtain⟨i,j,e,⟨q1,q2,q3,q4⟩,q⟩:=q1;subst e;cases r1 with
 | cons r rr=>
  cases rr with
  | cons r' rr=>
   cases rr;obtain⟨t,rfl⟩:=r;obtain⟨t',rfl⟩:=r';exact call_range_2 (q9F I1 q1 q2 q3 q4 q)
noncomputable def tFor(wi:TI)(g:TG)(tb:TS):TS:=λD σ H=>wi σ H λJ H1=>∃W:Nat->Nat->St->Hp->Prop,(∃m,W 0 m σ H1)/\∀i m σ H,W i m σ H ->
 (J.stop i H/\D.nx σ H)\/(J.go i H/\∃N:St->Hp->Prop,(∀σ' H',N σ' H'->∃m',m'<m/\W (i+1) m' σ' H')/\∀x H',J.yld i H x H'->g x σ H' λσ2 H2=>tb { D with nx:=N,ct:=N,bk:=D.nx } σ2 H2)
noncomputable def W3(fp:eJ)(h:ve):List A5:=fp.filterMap λb=>(h.get? b).map λo=>(b,o)
theorem q33{fp:eJ}{h:ve}{b:vC}{o:Obj}(hb:b∈fp)(e:h.get? b=some o):(b,o)∈W3 fp h:=Zi.mpr ⟨b,hb,by rw[e];rfl⟩
theorem qeW{fp:eJ}{h:ve}{p:A5}(hp:p∈W3 fp h):p.1∈fp/\h.get? p.1=some p.2:=by
 obtain⟨b,hb,e⟩:=Zi.mp hp;cases q:h.get? b with
 | none=>rw[q]at e;cases e
 | some o=>
  rw[q]at e;have e':(b,o)=p:=zr e;subst e';exact⟨hb,q⟩
theorem Inv.pinned{pins:aC}{σ:St}{H:Hp}{s:vF}{fp:eJ}(I:aj)(hf:∀b∈fp,X1 X pins H b)(ho:∀b∈fp,∃o,s.heap.get? b=some o/\∀v,o.data≠.cell v):Inv X (pins++W3 fp s.heap) σ H s :=
 I.pins_of λp hp=>(zR.mp hp).elim (λz=>I.pin p (zJ _ z)) λz=>by
  obtain⟨hb,e⟩:=qeW z;obtain⟨f0,f1,f2,_⟩:=hf p.1 hb;obtain⟨o,e',d⟩:=ho p.1 hb;rw[e]at e';cases e';exact⟨e,f0,f1,f2,d⟩
theorem Inv.unpinned{pins pl:aC}{σ:St}{H:Hp}{s:vF}(I:Inv X (pins++pl) σ H s):Inv X pins σ H s:=I.pins_of λp hp=>I.pin p (zJ _ (zM _ hp))
theorem q7n{iter:vP}{body:Ej}{wi:TI}{g:TG}{tb:TS}{pos:Pos}(hp:lC)(hc:b0)(hi:NP)(hg:PG X tg g)(hb:PSs X body tb)(hs:∀x,uC iter X.env x=pure x:=by intro _;rfl):PS X NY (tFor wi g tb):=by
 intro pins s σ H D I h;refine wpAny_For (thn EI λv s1 h1=>thn h1 λitv s2 h2=>?_) hs;obtain⟨it,fp,tn,J,H2,e,I2,T,st2,f2,W,⟨m0,w0⟩,turn⟩:=h2;subst e;have stat:∀{H':Hp},(∀b∈fp,H' b=none)->∀b∈fp,X1 X pins H' b:=λhn b hb=>⟨hn b hb,(f2 b hb).2⟩;refine codeAny_forLoop_any (λn s'=>∃i σ' H',Inv X pins σ' H' s'/\tn i s'.heap/\(∀b∈fp,H' b=none)/\W i n σ' H') ?_ m0 ⟨0,σ,H2,I2,st2,λb hb=>(f2 b hb).1,w0⟩;rintro n s3 ⟨i,σ3,H3,I3,st3,fr3,w3⟩;rcases turn i n σ3 H3 w3 with⟨stop,qn⟩|⟨go,N,hN,step⟩
 ·refine uP hp (thn (T.done X rfl rfl rfl hc i pins s3 σ3 H3 X.xe I3 (stat fr3) st3 stop) λr s4 ⟨hr,I4⟩=>?_)
  subst hr;exact u5 ⟨σ3,H3,I4,qn⟩
 ·refine uP hp (thn (T.item X rfl rfl rfl hc i pins s3 σ3 H3 X.xe I3 (stat fr3) st3 go) λr s4 ⟨u,hr,h4⟩=>?_)
  subst hr;refine uP hp (thn h4 λ_ s5 ⟨x,H5,I5,r5,y5,st5,fr5⟩=>?_);have I5':=I5.pinned Uq (T.obj _ _ st5);refine uP hp (thn (hg _ s5 σ3 H5 x u _ I5' r5 (step x H5 y5)) λ_ s6 ⟨σ6,H6,I6,q6⟩=>?_);refine uP hp (thn (hb _ s6 σ6 H6 _ I6 q6) λf s7 q7=>?_);have again:∀{σ7:St}{H7:Hp},Inv X (pins++W3 fp s5.heap) σ7 H7 s7->N σ7 H7->∃m,m<n/\∃i σ' H',Inv X pins σ' H' s7/\tn i s7.heap/\(∀b∈fp,H' b=none)/\W i m σ' H':=λ{σ7 H7} I7 n7=>by
   obtain⟨m',hm,w7⟩:=hN σ7 H7 n7;refine⟨m',hm,i+1,σ7,H7,I7.unpinned,T.keep _ _ _ st5 λb hb o e=>(I7.pin (b,o) Oz).1,mJ,w7⟩;obtain⟨o,e,d⟩:=T.obj _ _ st5 b hb;exact(I7.pin (b,o) Oz).2.1
  cases f with
  | next=>obtain⟨σ7,H7,I7,n7⟩:=q7;exact again I7 n7
  | cont=>obtain⟨σ7,H7,I7,n7⟩:=q7;exact again I7 n7
  | brk=>obtain⟨σ7,H7,I7,q7⟩:=q7;exact⟨σ7,H7,I7.unpinned,q7⟩
  | ret v=>obtain⟨x7,σ7,H7,I7,r7,q7⟩:=q7;exact⟨x7,σ7,H7,I7.unpinned,r7,q7⟩
end
abbrev R2:=V->V->Hp->VK->Prop
def OpR(X:Cx)(f:Ai)(r:R2):Prop :=
 ∀(pins:aC)(s:vF)(σ:St)(H:Hp)(x y:V)(v u:vB)(Q:VK),Inv X pins σ H s->RelV x v->RelV y u->r x y H Q ->
  vM ai X.A VP cV X.xe s
def UnR(X:Cx)(f:vB->Sem vB)(r:NO):Prop :=
 ∀(pins:aC)(s:vF)(σ:St)(H:Hp)(x:V)(v:vB)(Q:VK),Inv X pins σ H s->RelV x v->r x H Q ->
  vM ai X.A (f v) cV X.xe s
def Xu(X:Cx)(f:vB)(r:HS):Prop :=
 ∀(pins:aC)(s:vF)(σ:St)(H:Hp)(xs:br)(us:bC)(Q:VK),Inv X pins σ H s->Yw xs us->r xs H Q ->
  vM ai X.A (call f us) cV X.xe s
def TruR(X:Cx)(r:V->Hp->kr->Prop):Prop :=
 ∀(pins:aC)(s:vF)(σ:St)(H:Hp)(x:V)(v:vB)(Q:kr),Inv X pins σ H s->RelV x v->r x H Q ->
  vM ai X.A Up Eh X.xe s
noncomputable def tOp(r:R2)(ta tb:TE):TE:=λσ H Q=>ta σ H λx H1=>tb σ H1 λy H2=>r x y H2 Q
noncomputable def tUn(r:NO)(ta:TE):TE:=λσ H Q=>ta σ H λx H1=>r x H1 Q
noncomputable def rI(C:O9)(g:MI):R2:=λx y H Q=>∃i j,x=.int i/\y=.int j/\C i j/\Q pW H
noncomputable def rI0(g:MI):R2:=λx y H Q=>∃i j,x=.int i/\y=.int j/\Q pW H
def rU(g:Int->V):V->Hp->VK->Prop:=λx H Q=>∃i,x=.int i/\Q (g i) H
section
variable{X:Cx}{a b c:vP}{ta tb tc:TE}{pos:Pos}
theorem binT(ha:nO)(hb:E9){pins:aC}{s:vF}{σ:St}{H:Hp}{R:V->V->Hp->Prop}(I:aj)(h:FR){Q:aO}{f:Ai}(hf:∀v u s2 x y H2,Inv X pins σ H2 s2->RelV x v->RelV y u->R x y H2->vM ai X.A VP Q X.xe s2):
  vM ai X.A Nr lK X.xe s:=by
 refine thn cY λv s1 ⟨x,H1,I1,r1,q1⟩=>?_;refine thn BV λu s2 ⟨y,H2,I2,r2,q2⟩=>?_;exact hf v u s2 x y H2 I2 r1 r2 q2
theorem ql1{op:Operator}{r:R2}(ho:OpR X (uQ op) r)(ha:nO)(hb:E9):PE X TQ Il:=by
 intro pins s σ H Q I h;exact wpAny_BinOp mF
theorem qkT{op:UnaryOp}{r:NO}(ho:UnR X (unaryOp op) r)(ha:nO):PE X (.UnaryOp op a pos) (tUn r ta):=by
 intro pins s σ H Q I h;exact UnaryOp_ (thn cY λv s1 ⟨x,H1,I1,r1,q1⟩=>ho pins s1 σ H1 x v Q I1 r1 q1)
theorem opI{f:Ai}{C:O9}{g:Int->Int->Int}(rule:∀(i j:Int)(t u:Tok)(s:vF)(Q:aO)(E:aO),C i j->Q aaW { s with toks:=s.toks+1 }->vM ai X.A JN Q E s):
  OpR X f (rI C λi j=>.int pW):=by
 intro pins s σ H x y v u Q I rx ry h;obtain⟨i,j,rfl,rfl,hc,q⟩:=h;obtain⟨t,rfl⟩:=rx;obtain⟨t',rfl⟩:=ry;exact rule i j t t' s _ _ hc QN
theorem opI0{f:Ai}{g:Int->Int->Int}(rule:∀(i j:Int)(t u:Tok)(s:vF)(Q:aO)(E:aO),Q aaW { s with toks:=s.toks+1 }->vM ai X.A JN Q E s):
  OpR X f (rI0 λi j=>.int pW):=by
 intro pins s σ H x y v u Q I rx ry h;obtain⟨i,j,rfl,rfl,q⟩:=h;obtain⟨t,rfl⟩:=rx;obtain⟨t',rfl⟩:=ry;exact rule i j t t' s _ _ QN
theorem opB0{f:Ai}{g:Pa}(rule:∀(i j:Int)(t u:Tok)(s:vF)(Q:aO)(E:aO),Q (.bool pW) s->vM ai X.A JN Q E s):
  OpR X f (rI0 λi j=>.bl pW):=by
 intro pins s σ H x y v u Q I rx ry h;obtain⟨i,j,rfl,rfl,q⟩:=h;obtain⟨t,rfl⟩:=rx;obtain⟨t',rfl⟩:=ry;exact rule i j t t' s _ _ ⟨.bl pW,H,I,rfl,q⟩
def CDiv(i j:Int):Prop:=0<j/\j<1073741824
def CPow(i j:Int):Prop:=0<=j/\j<=1000000/\i.natAbs<2^64
def CMul(i j:Int):Prop:=(-(2^64)<i/\i<2^64)\/(-(2^64)<j/\j<2^64)
theorem CMul.ok{i j:Int}(h:CMul i j):sS i j:=by
 rcases h with⟨h1,h2⟩|⟨h1,h2⟩
 ·exact .of_left Q7
 ·exact .of_right Q7
theorem qkI:OpR X KF (rI0 λi j=>.int (i+j)):=opI0 λ_ _ _ _ _ _ _ q=>add_int q
theorem qkh:OpR X (uQ .Sub) (rI0 λi j=>.int (i-j)):=opI0 λ_ _ _ _ _ _ _ q=>sub_int q
theorem qkC:OpR X Uo (rI CMul λi j=>.int (i*j)):=opI λ_ _ _ _ _ _ _ hc q=>mul_int q hc.ok
theorem qhX:OpR X (uQ .FloorDiv) (rI CDiv λi j=>.int (i/j)):=opI λi j _ _ _ _ _ hc q=>by
 have h1:A7<j:=hc.1;have h2:j<1073741824:=hc.2;exact floordiv_int ∅ (by rw[Int.fdiv_eq_ediv_of_nonneg i ∅];exact q) (.inl (PyProof.noPylong_small ∅))
theorem qjq:OpR X (uQ .Mod) (rI (λ_ j=>0<j) λi j=>.int (i%j)):=opI λi j _ _ _ _ _ hc q=>by
 have h1:A7<j:=hc;exact mod_int' ∅ (by rw[Int.fmod_eq_emod_of_nonneg i ∅];exact q)
theorem qjn:OpR X (uQ .Pow) (rI CPow λi j=>.int (i^j.toNat)):=opI λ_ _ _ _ _ _ _ hc q=>pow_int_small hc.1 hc.2.1 hc.2.2 q
theorem unI{f:vB->Sem vB}{g:cQ}(rule:∀(i:Int)(t:Tok)(s:vF)(Q:aO)(E:aO),Q (.int (g i) s.toks) { s with toks:=s.toks+1 }->vM ai X.A (f Bs) Q E s):
  UnR X f (rU λi=>.int (g i)):=by
 intro pins s σ H x v Q I rx h;obtain⟨i,rfl,q⟩:=h;obtain⟨t,rfl⟩:=rx;exact rule i t s _ _ ⟨.int (g i),H,ka,bK,q⟩
theorem qkl:UnR X (unaryOp .USub) (rU λi=>.int (-i)):=unI λ_ _ _ _ _ q=>neg_int q
end
section
variable{X:Cx}{a b c:vP}{ta tb tc:TE}{pos:Pos}
theorem qek{pins:aC}{σ:St}{H:Hp}{s:vF}{Q:VK}{k k':Bool}(I:aj)(q:Q (.bl k) H)(e:k=k'):EP X pins σ Q (.bool k') s:=by
 subst e;exact⟨.bl k,H,I,rfl,q⟩
theorem qhE:OpR X (uG .Lt) (rI0 λi j=>.bl (decide (i<j))):=opB0 λ_ _ _ _ _ _ _ q=>lt_int q
theorem qkR:OpR X (uG .Gt) (rI0 λi j=>.bl (decide (j<i))):=opB0 λ_ _ _ _ _ _ _ q=>gt_int q
theorem qgW:OpR X (uG .GtE) (rI0 λi j=>.bl (decide (j<=i))):=opB0 λ_ _ _ _ _ _ _ q=>ge_int q
theorem qkp:OpR X (uG .Is) (λx y H Q=>y=.non/\Q (.bl (decide RN)) H):=by
 intro pins s σ H x y v u Q I rx ry h;obtain⟨rfl,q⟩:=h;cases ry;refine is_none_gen (qek I q ?_);cases x <;> first
  | (cases rx;rfl)
  | (obtain⟨t,rfl⟩:=rx;rfl)
theorem qia:OpR X (uG .IsNot) (λx y H Q=>y=.non/\Q (.bl (!decide RN)) H):=by
 intro pins s σ H x y v u Q I rx ry h;obtain⟨rfl,q⟩:=h;cases ry;refine isnot_none_gen (qek I q ?_);cases x <;> first
  | (cases rx;rfl)
  | (obtain⟨t,rfl⟩:=rx;rfl)
theorem OpR.or{f:Ai}{r r':R2}(h:OpR X f r)(h':OpR X f r'):OpR X f Iw:=by
 intro pins s σ H x y v u Q I rx ry q;rcases q with q|q
 ·exact h pins s σ H x y v u Q I rx ry q
 ·exact h' pins s σ H x y v u Q I rx ry q
theorem Xt(b:vP){op:sJ}(h:op≠.In:=by decide)(h2:op≠.NotIn:=by decide):uD op b=false:=by
 have e1:acK=false:=by cases op <;> first|rfl|exact vN rfl h
 have e2:VJ=false:=by cases op <;> first|rfl|exact vN rfl h2
 cases b <;> simp[uD,e1,e2]
theorem qja{op:sJ}{r:R2}(ho:Gb)(ha:nO)(hb:E9)(hm:DX):PE X kW Il:=by
 intro pins s σ H Q I h;exact wpAny_Compare1 mF hm
noncomputable def tTest(t:TE):TT:=λσ H Q=>t σ H λx H'=>∃k,x=.bl k/\Q k H'
theorem qif{op:sJ}{r:R2}(ho:Gb)(ha:nO)(hb:E9)(hm:DX):PT X kW (tTest Il):=by
 intro pins s σ H Q I h;refine tS (thn cY λv s1 ⟨x,H1,I1,r1,q1⟩=>thn BV λu s2 ⟨y,H2,I2,r2,q2⟩=>
  thn (ho pins s2 σ H2 x y v u _ I2 r1 r2 q2) λc s3 ⟨z,H3,I3,r3,k,e,q3⟩=>?_) hm
 subst e;cases r3;exact uF ⟨H3,I3,q3⟩
def TruV(K:zC)(x:V)(H:Hp)(k:Bool):Prop :=
 match x with
 | .non=>k=false
 | .bl b=>k=b
 | .int i=>k=(i != 0)
 | .str y=>y.length<=sizeLine/\k=(act != 0)
 | .byt y=>y.size<=sizeLine/\k=((y.size:Int) != 0)
 | .ref p=>(∃xs,SqL K H p xs/\k=!xs.isEmpty)\/(∃xs,SqT K H p xs/\k=!xs.isEmpty)\/∃kvs,H p=some cX/\k=!kvs.isEmpty
 | _=>False
theorem qdd{κ:Type}{kvs:iV}{vs:pY}(r:CD):(!vs.isEmpty)=!kvs.isEmpty:=by
 cases r <;> rfl
theorem q7u{xs:br}{its:bC}(r:Yw xs its):(!its.toArray.isEmpty)=!xs.isEmpty:=by
 cases r <;> simp
theorem WP:acE<2^63:=by rw[vh];decide
theorem qkw:TruR X (λx H Q=>∃k,TruV X.K x H k/\Q k H):=by
 intro pins s σ H x v Q I rx h;obtain⟨k,e,q⟩:=h;have hl:=WP;have hs:sizeLine=16777216:=vh;cases x with
 | non=>
  cases rx;have e':k=false:=e;subst e';exact truthy_none Mp
 | bl b=>
  cases rx;have e':k=b:=e;subst e';exact uF Mp
 | int i=>
  obtain⟨t,rfl⟩:=rx;have e':k=(i != 0):=e;subst e';exact PySem.P.truthy_int Mp
 | str y=>
  obtain⟨t,rfl⟩:=rx;obtain⟨hy,e'⟩:y.length<=sizeLine/\k=(act != 0):=e;subst e';exact PySem.P.truthy_str ∅ ⟨H,ka,q⟩
 | byt y=>
  obtain⟨t,rfl⟩:=rx;obtain⟨hy,e'⟩:y.size<=sizeLine/\k=((y.size:Int) != 0):=e;subst e';exact PySem.W.truthy_bytes ∅ ⟨H,ka,q⟩
 | ref p=>
  cases rx;have e':(∃xs,SqL X.K H p xs/\k=!xs.isEmpty)\/(∃xs,SqT X.K H p xs/\k=!xs.isEmpty)\/∃kvs,H p=some cX/\k=!kvs.isEmpty:=e;rcases e' with⟨xs,hx,e'⟩|⟨xs,hx,e'⟩|⟨kvs,hx,e'⟩
  ·subst e'
   obtain⟨its,r,pl,hz⟩:=I.list hx;have hlen:=r.length;exact wpAny_truthy_list pl.isList (by simp only[zN];omega) ⟨H,I.tok _,by rw[q7u r];exact q⟩
  ·subst e'
   obtain⟨its,r,pl,hz⟩:=I.tuple hx;have hlen:=r.length;exact truthy_tuple pl (by simp only[zN];omega) ⟨H,I.tok _,by rw[q7u r];exact q⟩
  ·subst e'
   obtain⟨hz,hS,vs,r,m⟩:kvs.length<=sizeLine/\(p==uL)=false/\∃vs,KV kvs vs/\s.heap.DictOf pJ p vs:=I.hok p _ hx;have hlen:kvs.length=vs.length:=Paired.length r;exact wpAny_truthy_dict hS m ∅ ⟨H,I.tok _,by rw[qdd r];exact q⟩
 | _=>exact(show False from e).elim
theorem q4G(ha:nO)(he:∀whole,sQ a X.env whole=(do let v <- whole;sP a.pos;holding [v] Up)):
  PT X a (λσ H Q=>ta σ H λx H'=>∃k,TruV X.K x H' k/\Q k H'):=by
 intro pins s σ H Q I h;exact isTrue_plain (thn cY λv s1 ⟨x,H1,I1,r1,q1⟩=>qkw pins s1 σ H1 x v Q I1 r1 q1) (he _)
theorem vals1{x:V}{us:bC}(r:Yw [x] us):∃u,us=[u]/\RelV x u:=by
 cases r with
 | cons r1 r2=>cases r2;exact Oo
theorem vals2{x y:V}{us:bC}(r:Yw [x,y] us):∃u w',us=[u,w']/\RelV x u/\RelV y w':=by
 cases r with
 | cons r1 r2=>
  cases r2 with
  | cons r3 r4=>cases r4;exact⟨_,_,rfl,r1,r3⟩
theorem q6O:Xu X aa4 (λxs H Q=>∃i,xs=[lI]/\Q (.int (if i<0 then -i else i)) H):=by
 intro pins s σ H xs us Q I r h;obtain⟨i,rfl,q⟩:=h;obtain⟨u,rfl,t,rfl⟩:=vals1 r;exact call_abs_int λu tk=>⟨.int (if i<0 then -i else i),H,ka,bK,q⟩
end
structure ObjM (h:ve) (x dx C:vC) (mA:Str->Option vB):Prop where
 obj:h.get? x=some (ZE C dx)
 ns:h.Ns1 dx mA
 ne:dx≠x
theorem qdO{h:ve}{dx:vC}{mA:bH}(n:h.Ns1 dx mA):∃od,h.get? dx=some od/\∀name,ZQ name od=some (mA name):=by
 obtain⟨o,es,ep,ho,hd,hk,_,hm⟩:=n;refine⟨o,ho,λname=>?_⟩;have e:=hm name;unfold nsFind findBy at e;rw[<- Array.find?_toList]at e;unfold ZQ;rw[hd]
 dsimp only
 split
 ·rename_i y q
  rw[q]at e;exact vn some e
 ·rename_i q
  rw[q]at e;have a:es.toList.any (·.refKey)=false:=by
   rw[List.any_eq_false];intro y hy;obtain⟨z,t,hkey⟩:=hk y (Array.mem_toList_iff.mp hy);simp[DictEntry.refKey,hkey]
  have a':¬es.toList.any (·.refKey)=true:=by rw[a];exact yL
  rw[vJ a'];exact vn some e
theorem ObjM.look{h:ve}{x dx C:vC}{mA:bH}(I:ObjM h x dx C mA):∃od,PySem.W.InstAt h x (ZE C dx) C (some od)/\∀name,ZQ name od=some (mA name) :=
 let ⟨od,ho,hl⟩:=qdO I.ns
 ⟨od,⟨I.obj,rfl,rfl,ho⟩,hl⟩
section
variable{prog:vS}{w:vX}{A:vc}{E:vB->vF->Prop}{s:vF}{K:zC}{x dx C f:vC}{mA:Str->Option vB}{name:Str}{v:vB}
end
theorem zAX.some_of{v:V}{o:Cm}(r:zAX oy o):∃u,o=some u/\RelV v u:=by
 cases o with
 | none=>exact(show False from r).elim
 | some u=>exact⟨u,rfl,r⟩
section
variable{P:vS}{w:vX}{H H':Hp}{h h':ve}{a C dx:vC}{fs fs':List (Str×V)}
theorem qiL(hok:jP)(e:H a=some ac8):∃mA,ObjM h a dx C mA/\(∀f,zAX OO (mA f))/\PySem.Within mA (fs.map (·.1))/\fs.length<=1000/\H dx=some NU:=by
 obtain⟨d,z,ne,ob,mA,n,r,q⟩:=(show Y2 P w H h a ac8 from hok a _ e);exact⟨mA,⟨ob,n,ne⟩,r,q,z,d⟩
end
structure Cls (K:zC) (C:vC):Prop where
 pg:Z6 K C Str.empty=true
 hd:PySem.W.hasDictIn K C=true
 po:PySem.W.plainOver K C=true
 sa:YK K (.ref C) "__setattr__" = some (some (.builtin "object.__setattr__"))
theorem Cls.get{K:zC}{C:vC}(c:Cls K C)(f:Str):Z6 K C f=true:=c.pg
section
variable{X:Cx}{pins:List (vC×Obj)}{σ:St}{H:Hp}{s:vF}{a C dx:vC}{fs:List (Str×V)}{f:Str}{v:V}{A:vc}{E:vB->vF->Prop}
end
section
variable{X:Cx}{o e value:vP}{f:Str}{pos pos' tpos:Pos}{ta tv:TE}
end
section
variable{X:Cx}{pins:List (vC×Obj)}{σ:St}{H:Hp}{s:vF}{A:vc}{E:vB->vF->Prop}{Q:vB->vF->Prop}{c:vB}{b:Bool}
inductive TyOf (K:zC) (H:Hp):V->vB->Prop where
 | non:TyOf K H .non (.type "NoneType")
 | bl (x:Bool):TyOf K H (.bl x) (.type "bool")
 | int (i:Int):TyOf K H (.int i) (.type "int")
 | str (x:Str):TyOf K H (.str x) (.type "str")
 | flt (x:UInt64):TyOf K H (.flt x) (.type "float")
 | lst {a:vC} {xs:List V} (e:H a=some (.lst xs)):TyOf K H (.ref a) (.type "list")
 | frz {a:vC} {o:Obj} {xs:List V} (e:H a=some (.frz o (.lst xs))):TyOf K H (.ref a) (.type "list")
 | tup {a:vC} {xs:List V} (e:H a=some (.tup xs)):TyOf K H (.ref a) (.type "tuple")
 | dK {a:vC} {kvs:List (Key×V)} (e:H a=some (.dK kvs)):TyOf K H (.ref a) (.type "dict")
 | dT {a:vC} {kvs:List (List Key×V)} (e:H a=some (.dT kvs)):TyOf K H (.ref a) (.type "dict")
 | ins {a C dx:vC} {fs:List (Str×V)} (e:H a=some (.ins C dx fs)) (cl:Cls K C) (ha:YK K (.ref C) "__class__" = some (some (.builtin "object.__class__")))
   (hn:PySem.W.specialIn K (.builtin "object.__class__") "__get__" = some (some (.builtin "getset_descriptor.__get__"))) (htk:PySem.W.takesIn K (.builtin "object.__class__")=some true)
   (hm:PySem.W.mroIn K C (.type "object")=some true):TyOf K H (.ref a) (.ref C)
theorem qfv{x:V}{u t:vB}(I:aj)(rx:U4)(ty:TyOf X.K H x t)(e:ZR X.K t c=some b)(h:∀tk,Q (.bool b) { s with toks:=tk }):
  vM ai A (call PN [u,c]) Q E s:=by
 cases ty with
 | non=>cases (show u=Value.none from rx);exact yj PySem.W.kitx_none I.kIn True.intro e (λz=>nomatch z) h
 | bl y=>cases (show u=Value.bool y from rx);exact yj PySem.W.kitx_bool I.kIn True.intro e (λz=>nomatch z) h
 | int i=>obtain⟨t,q⟩:=(show ∃t,u=Value.int i t from rx);cases q;exact yj PySem.W.kitx_int I.kIn True.intro e (λz=>nomatch z) h
 | str y=>obtain⟨t,q⟩:=(show ∃t,u=Value.str y t from rx);cases q;exact yj PySem.W.kitx_str I.kIn True.intro e (λz=>nomatch z) h
 | flt y=>obtain⟨t,q⟩:=(show ∃t,u=Value.float y t from rx);cases q;exact yj PySem.W.kitx_float I.kIn True.intro e (λz=>nomatch z) h
 | @lst a xs ea=>
  cases (show u=Value.ref a from rx);obtain⟨_,_,n,_,h1⟩:=(show Y2 X.prog X.w H s.heap a dY from I.hok a _ ea);exact yj Zq I.kIn ⟨_,h1,rfl⟩ e (λz=>nomatch z) h
 | @frz a ob xs ea=>
  cases (show u=Value.ref a from rx);obtain⟨_,_,_,n,_,h1⟩:=(show Y2 X.prog X.w H s.heap a (.frz ob dY)from I.hok a _ ea);exact yj Zq I.kIn ⟨_,h1,rfl⟩ e (λz=>nomatch z) h
 | @tup a xs ea=>
  cases (show u=Value.ref a from rx);obtain⟨_,_,_,p⟩:=(show Y2 X.prog X.w H s.heap a rB from I.hok a _ ea);obtain⟨o,h1,h2,_⟩:=p;exact yj PySem.W.kitx_tuple I.kIn ⟨o,h1,h2⟩ e (λz=>nomatch z) h
 | @dK a kvs ea=>
  cases (show u=Value.ref a from rx);obtain⟨_,_,vs,_,p⟩:=(show Y2 X.prog X.w H s.heap a cX from I.hok a _ ea);obtain⟨o,es,ep,h1,h2,_⟩:=p;exact yj Zr I.kIn ⟨o,h1,h2.1⟩ e (λz=>nomatch z) h
 | @dT a kvs ea=>
  cases (show u=Value.ref a from rx);obtain⟨_,_,xs,_,o,es,ep,h1,h2,_⟩:=(show Y2 X.prog X.w H s.heap a Cb from I.hok a _ ea);exact yj Zr I.kIn ⟨o,h1,h2.1⟩ e (λz=>nomatch z) h
 | @ins a C dx fs ea cl ha hn htk hm=>
  cases (show u=Value.ref a from rx);obtain⟨mA,O,_⟩:=qiL I.hok ea;obtain⟨od,J,_⟩:=O.look;exact yj (PySem.W.kitx_own (cl.get _) cl.hd ha hn htk hm) I.kIn J e (λz=>nomatch z) h
end
structure Room (k:Nat) (A:vc):Prop where
 hd:A.handled=none
 dp:A.depth+3*k+5<recursionLimit
 un:A.units+16*k+200<ue
theorem Room.mono{j k:Nat}{A:vc}(r:Room k A)(h:j<=k):Room j A:=⟨r.hd,by have:=r.dp;omega,by have:=r.un;omega⟩
theorem Room.deeper{k:Nat}{A:vc}(r:Room (k+1) A)(env:Env):Room k (A.deeper env) :=
 ⟨r.hd,by have:=r.dp;show A.depth+1+3*k+5<_;omega,by have:=r.un;show A.units+3+16*k+200<_;omega⟩
theorem Room.in1{k:Nat}{A:vc}(r:Room (k+1) A):Room k A.in1 :=
 ⟨r.hd,by have:=r.dp;show A.depth+3*k+5<_;omega,by have:=r.un;show A.units+1+16*k+200<_;omega⟩
theorem Room.depth{k:Nat}{A:vc}(r:Room k A):A.depth<recursionLimit:=by have:=r.dp;omega
theorem Room.units{k:Nat}{A:vc}(r:Room k A):A.units+64<ue:=by have:=r.un;omega
noncomputable def zAA:TA:=λ_ H Q=>Q [] H
noncomputable def WY(ta:TE)(tr:TA):TA:=λσ H Q=>ta σ H λx H1=>tr σ H1 λxs H2=>Q OD H2
section
variable{X:Cx}{e:vP}{es:List vP}{te:TE}{t:TA}{pos:Pos}
theorem qC:PA X [] zAA:=λ_ _ _ _ H Q I h=>Calls.spliced_nil Iu
theorem qB(ha:rR)(hr:PA X es t)(hs:aI:=by rfl):PA X jA (WY te t):=by
 intro pos pins s σ H Q I h;rw[hs];show vM _ _ (spliced (b8::vZ pos iF)) _ _ s;refine Calls.spliced_cons (thn cY λu s1 ⟨x,H1,I1,r1,q1⟩=>?_);exact thn KO λus s2 ⟨xs,H2,I2,r2,q2⟩=>Kp
noncomputable def tTup(t:TA):TE:=λσ H Q=>t σ H λxs H1=>xs.length<=sizeLine/\∀p,H1 p=none->Q bE (upd H1 p rB)
noncomputable def zB4(t:TA):TE:=λσ H Q=>t σ H λxs H1=>xs.length<=sizeLine/\∀p,H1 p=none->Q bE (upd H1 p dY)
theorem qju{x1}(h:PA X es t):PE X Vi (tTup t):=by
 intro pins s σ H Q I hq;refine wpAny_Tuple_spliced (thn Np λus s1 ⟨xs,H1,I1,r,z,q⟩=>⟨by rw[<- r.length];exact z,?_⟩);have hf:H1 s1.heap.objs.size=none:=I1.hok.fresh cP;refine⟨SM,upd H1 s1.heap.objs.size rB,aaj,rfl,q _ hf⟩;exact⟨z,us,r,GY⟩
theorem q3x(h:PA X es t):PE X ada (zB4 t):=by
 intro pins s σ H Q I hq;refine wpAny_List_spliced (thn Np λus s1 ⟨xs,H1,I1,r,z,q⟩=>⟨by rw[<- r.length];exact z,?_⟩);have hf:H1 s1.heap.objs.size=none:=I1.hok.fresh cP;refine⟨SM,upd H1 s1.heap.objs.size dY,aaj,rfl,q _ hf⟩;exact⟨z,us,0,r,jH⟩
end
abbrev Sp:=List V->Hp->VK->XK->Prop
abbrev CXT:=List Env->Hp->vF->XK->vB->vF->Prop
structure Env0 (P:vS) (w:vX) (K:zC) (mg:Str->Option vB) (base:ve) (A:vc) (outer:List Env) (s:vF) (H:Hp):Prop where
 frames:A.frames=some outer
 mod:Mod K mg base
 bs:∀b o,base.get? b=some o->s.heap.get? b=some o/\H b=none
 bsz:base.objs.size<=s.heap.objs.size
 funs:s.heap.FunFrames base outer
 frf:∀b∈frs outer,H b=none
 hok:HOk P w H s.heap
 bare:tH s.gens
def CE(outer:Ap)(P:vS)(w:vX)(H:Hp)(s:vF)(Q:VK)(u:vB)(s':vF):Prop :=
 ∃v H',s'.os=s.os/\tH s'.gens/\Un (frs outer) [] H H' s.heap s'.heap/\HOk P w H' s'.heap/\RelV v u/\Q v H'
def CR(CX:CXT)(outer:Ap)(P:vS)(w:vX)(H:Hp)(s:vF)(Q:VK)(E:XK)(r:tV)(s':vF):Prop :=
 match r with
 | .ok (.ret u)=>CE outer P w H s Q u s'
 | .ok _=>False
 | .error e=>CX outer H s E e s'
structure FnOk (P:vS) (w:vX) (K:zC) (mg:Str->Option vB) (base:ve) (CX:CXT) (k:Nat) (f:vC) (fd:vL) (ps:List Str) (sp:Sp):Prop where
 len:∀vs H Q E,sp vs H Q E->vs.length=ps.length
 run:∀(A:vc)(outer:List Env)(s:vF)(H:Hp)(args:Args)(us:List vB)(vs:List V)(Q:VK)(E:XK),Room k A->Env0 P w K mg base A outer s H->sC s fd args (ps.zip us)->Yw vs us->sp vs H Q E ->
  uU (model P w) A (.call (.ref f) args) (CR CX outer P w H s Q E) s
theorem Env0.in1{P:vS}{w:vX}{K:zC}{mg:bH}{base:ve}{A:vc}{outer:Ap}{s:vF}{H:Hp}(e:Mf):
  Env0 P w K mg base A.in1 outer s H:=⟨e.frames,e.mod,e.bs,e.bsz,e.funs,e.frf,e.hok,e.bare⟩
section
variable{X:Cx}{pins:List (vC×Obj)}{σ:St}{H:Hp}{s s':vF}
theorem Inv.env0(I:aj):Env0 X.prog X.w X.K X.mg X.base X.A X.stack s H :=
 ⟨I.ok.frames,I.ok.mod,I.bs,yJ I.ok.bsz I.sz,I.stack,I.stkFree,I.hok,I.bare⟩
theorem Inv.after{Q:VK}{u:vB}(I:aj)(h:CE X.stack X.prog X.w H s Q u s'):EP X pins σ Q u s':=by
 obtain⟨v,H',os,bare,un,hok,r,q⟩:=h;obtain⟨hh,g,d,t,os'⟩:=s';obtain rfl:os'=s.os:=os;exact⟨v,H',I.call (h':=hh) (g':=g) (d':=d) (t':=t) (ch:=[]) un hok bare (λb z=>vN z (by simp)),r,q⟩
end
noncomputable def zBe(sp:Sp)(dvs:br)(E:XK)(t:TA):TE:=λσ H Q=>t σ H λvs H1=>sp Pp H1 Q E
def Binds(K:zC)(fd:vL)(ps:dM)(ds:bC):Prop :=
 ∀(s:vF)(us:bC),K.In s.heap->(us++ds).length=ps.length->sC s fd Bj (ps.zip (us++ds))
theorem Binds.all{K:zC}{fd:vL}{ps:dM}(h:∀us:List vB,us.length=ps.length->bindArgs fd Bj=pure Go):Binds K fd ps []:=λs us _ hl=>by
 rw[zn]at hl ⊢;exact .of_eq (h us hl)
def zAJ(CX:CXT)(X:Cx)(E:XK):Prop:=∀(pins:aC)(σ:St)(H:Hp)(s:vF)(e:vB)(s':vF),Inv X pins σ H s->CX X.stack H s E e s'->X.xe e s'
section
variable{X:Cx}{CX:CXT}{k:Nat}{f C:vC}{fd:vL}{ps:List Str}{sp:Sp}{dvs:List V}{ds:List vB}{E:XK}{x m:Str}{p pos apos:Pos}{e o:vP}{es:List vP}{ta:TE}{t:TA}
theorem qjy{pins:aC}{σ:St}{H:Hp}{s:vF}{Q:VK}{us:bC}{vs:br}(F:DM)(hr:abZ)(hb:aaS)(hd:Yw dvs ds)(hx:abh)(I:aj)(r:UQ)(h:sp Pp H Q E):vM ai X.A Qv cV X.xe s:=by
 have r2:Yw Pp (us++ds):=r.append hd;have hl:(us++ds).length=ps.length:=by rw[<- r2.length];exact F.len _ _ _ _ h
 refine t8 (uV (F.run X.A X.stack s H Bj (us++ds) Pp Q E hr I.env0 (hb s us I.kIn hl) r2 h) λr s' hq=>?_);cases r with
 | error e=>exact hx pins σ H s e s' I hq
 | ok fl=>
  cases fl with
  | ret u=>exact I.after hq
  | next=>exact False.elim hq
  | brk=>exact False.elim hq
  | cont=>exact False.elim hq
theorem q7Y(F:DM)(hr:abZ)(hg:rT)(hm:X.mg x=some eZ)(hk:xK X.K eZ=true)(hb:aaS)(hd:Yw dvs ds)(hx:abh)(ha:Rj)(hdb:aG:=by decide)(he:aI:=by rfl)(hpl:(vZ pos iF).any (·.1)=false:=by rfl):
  PE X bZ (zBe sp dvs E t):=by
 intro pins s σ H Q I h;refine vp (qbu I hg hm ?_ hdb);refine PySem.W.callWith_K (h₀:=X.base) I.ok.mod.kin hk (thn fX λus s1 ⟨vs,H1,I1,r,q⟩=>⟨I1.kIn,?_⟩) he hpl;exact qjy F hr hb hd hx I1 r q
end
def PK(X:Cx)(kws:List uI)(t:TA):Prop :=
 ∀(pos:Pos)(pins:aC)(s:vF)(σ:St)(H:Hp)(Q:lY),Inv X pins σ H s->t σ H Q->vM ai X.A (evalAll ((v7 pos acw).map (·.2))) aaV X.xe s
section
variable{X:Cx}{CX:CXT}{k:Nat}{f C:vC}{fd:vL}{ps ks:List Str}{sp:Sp}{E:XK}{x m:Str}{p pos apos kpos:Pos}{e o:vP}{es:List vP}{kws:List uI}{te ta:TE}{t tk:TA}{nm:Option Str}
theorem qeG:PK X [] zAA:=λ_ _ _ _ H Q I h=>wpAny_evalAll_nil Iu
theorem qbC(ha:rR)(hr:PK X kws t):PK X (⟨nm,e,kpos⟩::kws) (WY te t):=by
 intro pos pins s σ H Q I h;show vM _ _ (evalAll ((do let v <- eval e X.env;sP pos;pure v)::(v7 pos acw).map (·.2))) _ _ s;refine wpAny_evalAll_cons (vA (thn cY λu s1 ⟨x,H1,I1,r1,q1⟩=>vA (uy fW)));exact thn KO λus s2 ⟨xs,H2,I2,r2,q2⟩=>Kp
variable{g:List vB->List vB->List vB}{gV:List V->List V->List V}
end
structure FnScope (N P:List Str) (sc:uu):Prop where
 kind:sc.kind=.function
 co:sc.isCoroutine=false
 gen:sc.isGenerator=false
 nd:N.Nodup
 pre:N.take P.length=P
 par:∀x∈P,sc.names.lookup x=some .local\/sc.names.lookup x=some .cell
 nofree:∀y∈sc.names,y.2≠.free
theorem q8p{kindOf:HK}{x:Str}:∀{binds:List PD}{m:bH},(∀v,(x,v)∉binds)->bindL kindOf binds m x=m x
 | [],_,_=>rfl
 | (n,v)::r,m,h=>by
  unfold bindL;rw[q8p λw hw=>h w (zH _ hw)]
  split
  ·have:x≠n:=by rintro rfl;exact h v zG
   simp[this]
  ·rfl
theorem q8j{kindOf:HK}{x:Str}:∀{binds:List PD}{m:bH},(∀v,(x,v)∉binds)->bindC kindOf binds m x=m x
 | [],_,_=>rfl
 | (n,v)::r,m,h=>by
  unfold bindC;rw[q8j λw hw=>h w (zH _ hw)]
  split
  ·rfl
  ·have:x≠n:=by rintro rfl;exact h v zG
   simp[this]
theorem q8t{kindOf:HK}{x:Str}{v:vB}:∀{P:dM}{vs:bC}{i:Nat}{m:bH},P.Nodup->P[i]?=some x->vs[i]?=some v->kindOf x=some .local ->
  bindL kindOf (P.zip vs) m x=some v
 | [],_,_,_,_,h,_,_=>by simp at h
 | _::_,[],_,_,_,_,h,_=>by simp at h
 | p::P,w::vs,0,m,nd,h1,h2,hk=>by
  simp at h1 h2;subst h1;subst h2;show bindL kindOf CZ m p=_;unfold bindL;rw[q8p λv hv=>(yk.mp nd).1 (wN hv).1,vH hk];simp
 | p::P,w::vs,i+1,m,nd,h1,h2,hk=>by
  show bindL kindOf CZ m x=_;unfold bindL;exact q8t (i:=i) (yk.mp nd).2 ⇑h1 ⇑h2 hk
theorem q8u{kindOf:HK}{x:Str}{v:vB}:∀{P:dM}{vs:bC}{i:Nat}{m:bH},P.Nodup->P[i]?=some x->vs[i]?=some v->kindOf x≠some .local ->
  bindC kindOf (P.zip vs) m x=some v
 | [],_,_,_,_,h,_,_=>by simp at h
 | _::_,[],_,_,_,_,h,_=>by simp at h
 | p::P,w::vs,0,m,nd,h1,h2,hk=>by
  simp at h1 h2;subst h1;subst h2;show bindC kindOf CZ m p=_;unfold bindC;rw[q8j λv hv=>(yk.mp nd).1 (wN hv).1,vJ hk];simp
 | p::P,w::vs,i+1,m,nd,h1,h2,hk=>by
  show bindC kindOf CZ m x=_;unfold bindC;exact q8u (i:=i) (yk.mp nd).2 ⇑h1 ⇑h2 hk
noncomputable def start(N:dM)(vs:br):St:=vs.map some++zv (N.length-vs.length) none
noncomputable def zAh(CX:CXT)(P:vS)(w:vX)(K:zC)(mg:bH)(base:ve)(N:dM)(qual:Str)(scope:uu)(f:vC)(cd:vB)(A:vc)(outer:Ap)(s:vF)(H:Hp)(E:XK):Cx where
 prog:=P
 w:=w
 K:=K
 mg:=mg
 base:=base
 A:=A.deeper ox
 N:=N
 s₀:=s
 H₀:=H
 env:=tW qual scope s.heap.objs.size f cd
 outer:=outer
 stack:=tW qual scope s.heap.objs.size f cd::outer
 ex:=[]
 calm:=true
 fn:=λ_=>true
 pn:=[]
 xe:=λe s'=>vM R8 (A.deeper ox) (leaving ox e) (λ_ s''=>CX outer H s E e s'') (λe' s''=>CX outer H s E e' s'') s'
theorem q9D{sc:uu}{n:Nat}{x:Str}(h:sc.names.lookup x=some .cell):∃c,(cellsFrom n sc.names []).lookup x=some c:=by
 have q:=wz sc.names n [] SO;exact yr.mp q
theorem qe6{CX:CXT}{P:vS}{w:vX}{K:zC}{mg:bH}{base:ve}{N ps:dM}{qual:Str}{scope:uu}{f:vC}{cd:vB}{A:vc}{outer:Ap}{s s1:vF}{H:Hp}{E:XK}{us:bC}{vs:br}(S:aaQ)(hd:dH)(e0:Mf)(hl:vs.length=ps.length)(r:UQ)(x:InCallC s s.heap.objs.size (bindL (tW qual scope s.heap.objs.size f cd).kindOf Go λ_=>none) (cellsFrom nW scope.names []) (bindC (tW qual scope s.heap.objs.size f cd).kindOf Go λ_=>none) s1):
  Inv (zAh CX P w K mg base N qual scope f cd A outer s H E) [] EC H s1:=by
 have hpl:ps.length<=N.length:=by have:=vn yZ S.pre;rw[zo]at this;omega
 obtain⟨h1,tk,rfl,hk⟩:=x.done;have noA:∀b:vC,b∉(zAh CX P w K mg base N qual scope f cd A outer s H E).ex:=λb z=>vN (show b∈Qw from z) (by simp);refine⟨⟨e0.mod,S.kind,rfl,rfl,cP,λy z c h1 h2=>?_,Iv,λy c _ h=>?_,λ_=>hd,Around.frames_deeper e0.frames,.inr bQ,Vn,e0.bs,e0.bsz,λb _ _=>noA b,Vn,e0.funs,e0.frf⟩,
  rfl,e0.bare,Un.kept hk,⟨_,x.toInCall.ns,λi y v h1 h2 h3=>?_⟩,λy c h=>⟨_,x.cell y c h⟩,e0.hok.fresh cP,λy c h=>?_,λp hp=>vN (show p∈Qx from hp) (by simp),e0.hok.kept hk,?_⟩
 ·exact name_of_addr x.apart (PySem.mem_of_lookup h1) (PySem.mem_of_lookup h2)
 ·have hy:scope.names.lookup y=some .cell\/scope.names.lookup y=some .free:=hy
  rcases hy with hy|hy
  ·exact q9D hy
  ·exact vN rfl (S.nofree _ (PySem.mem_of_lookup hy))
 ·exact ya GH
 ·have hi:i<vs.length:=by
   unfold start at h2
   by_cases hi:i<vs.length
   ·exact hi
   ·rw[zZ ⇑hi]at h2
    rw[yi]at h2
    split at h2 <;> cases h2
  have ha:vs[i]?=some v:=by
   unfold start at h2;rw[zd ⇑hi,zX]at h2;cases e:vs[i]? with
   | none=>rw[e]at h2;cases h2
   | some a=>rw[e]at h2;cases h2;rfl
  obtain⟨u,hu,rv⟩:=r.get ha;have hp:ps[i]?=some y:=by
   rw[<- S.pre,List.getElem?_take_of_lt ∅];exact h1
  have ndP:ps.Nodup:=by rw[<- S.pre];exact S.nd.sublist (Zs _ _)
  refine⟨u,rv,?_⟩;rcases S.par y (zw hp)with k|k
  ·exact .inl ⟨k,q8t ndP hp hu k⟩
  ·obtain⟨c,e⟩:=q9D (n:=s.heap.objs.size+1) k
   refine .inr ⟨.inl k,c,e,?_⟩;have q:=x.cell y c e;rw[q8u ndP hp hu (by show scope.names.lookup y≠_;rw[k];decide)]at q;exact q
 ·exact e0.hok.fresh (ya GH)
 ·unfold start
  show _=N.length;rw[zE,zB,yT];omega
theorem qkP{CX:CXT}{P:vS}{w:vX}{K:zC}{mg:bH}{base:ve}{k:Nat}{f:vC}{name qual:Str}{params:Arguments}{body:Ej}{scope:uu}{dV kV doc pm cdv ct oc:vB}{an od:IT}{osl:Vf}{N ps:dM}{sp:Sp}(lk:K.lookup f=some ⟨oc,od,.func A4,osl⟩)(hcd:aas)(S:aaQ)(len:∀vs H Q E,sp vs H Q E->vs.length=ps.length)(hbody:∀(A:vc)(outer:Ap)(s:vF)(H:Hp)(vs:br)(Q:VK)(E:XK),Room k (A.deeper (tW qual scope s.heap.objs.size f cdv))->sp vs H Q E ->
   ∃t,PSs jF body t/\t { nx:=λ_ H'=>Q .non H',rt:=Q } EC H) :
  FnOk P w K mg base CX (k+1) f A4 ps sp:=by
 refine⟨len,λA outer s H args us vs Q E hr e0 hb r hsp=>?_⟩;have hl:=len _ _ _ _ hsp;have KX:K.In s.heap:=e0.mod.kin.keeps λb o e=>(e0.bs b o e).1;have lim:s.heap.NoLimit:=e0.mod.nolimit.keeps λb o e=>(e0.bs b o e).1;have hkind:∀y∈ps.zip us,scope.names.lookup y.1=some .local\/(scope.names.lookup y.1=some .cell/\((cellsFrom nW scope.names []).lookup y.1).isSome=true):=λ⟨n,v⟩ hy=>by
  rcases S.par n (wN hy).1 with q|q
  ·exact .inl q
  ·exact .inr ⟨q,wz _ _ _ (.inl q)⟩
 refine codeAny_call_function hr.depth (KX _ _ lk) rfl S.co S.gen rfl (PySem.W.codeRec_of KX hcd) (hb _ _ _ _ ?_);refine wpAny_newFunctionEnv_cells S.kind hkind λenv he s1 x=>?_;subst he;refine⟨lim.keeps x.toInCall.keep,codeAny_func ?_⟩;obtain⟨t,ht,hq⟩:=hbody A outer s H vs Q E (hr.deeper _) hsp;have I:Inv jF [] EC H s1:=qe6 S hr.hd e0 hl r x;refine vo (ht [] s1 EC H _ I hq) (λfl s' hs=>?_) λe s' hs=>hs;have fin:∀{σ':St}{H':Hp}{v:V}{u:vB},Inv jF [] σ' H' s'->RelV v u->Q v H'->CE outer P w H s Q u s' :=
  λ{σ' H' v u} J rv q=>⟨v,H',J.os,J.bare,J.base,J.hok,rv,q⟩
 cases fl with
 | ret u=>
  obtain⟨v,σ',H',J,rv,q⟩:=hs;exact fin J rv q
 | next=>
  obtain⟨σ',H',J,q⟩:=hs;exact fin (v:=V.non) (u:=Value.none) J rfl q
 | brk=>
  obtain⟨_,_,_,q⟩:=hs;exact False.elim q
 | cont=>
  obtain⟨_,_,_,q⟩:=hs;exact False.elim q
section
variable{X:Cx}{x:Str}{p pos:Pos}{e:vP}{es:List vP}{t:TA}{id T:String}{r:List V->Hp->VK->Prop}
noncomputable def tCB(r:HS)(t:TA):TE:=λσ H Q=>t σ H λvs H1=>r vs H1 Q
theorem q3v(hc:Xu X kh r)(hg:rT)(hm:Bo)(hv:vf x=some kh)(ha:Rj)(hn:lA:= by decide)(hdb:aG:=by decide)(he:aI:=by rfl)(hpl:(vZ pos iF).any (·.1)=false:=by rfl):PE X bZ abn:=by
 intro pins s σ H Q I h;refine vp Nb;exact PyProof.Rows.callWith_builtin1 (thn fX λus s1 ⟨vs,H1,I1,r1,q1⟩=>hc pins s1 σ H1 vs us Q I1 r1 q1) he hpl
theorem q8D(hc:Xu X B8 r)(hg:rT)(hm:Bo)(hv:vf x=some B8)(ha:Rj)(hn:lA:= by decide)(hdb:aG:=by decide)(he:aI:=by rfl)(hpl:(vZ pos iF).any (·.1)=false:=by rfl):PE X bZ abn:=by
 intro pins s σ H Q I h;refine vp Nb;exact PyProof.Rows.callWith_type1 (thn fX λus s1 ⟨vs,H1,I1,r1,q1⟩=>hc pins s1 σ H1 vs us Q I1 r1 q1) he hpl
end
end L2
namespace HT
open PySem PyProof.Rows
section
open PySem.SeqAt
open PySem.AutoSeq1 (wpAny_loadPart')
open PySem.MeetsSeq PySem.MeetsSeq2 PySem.MeetsSeq3
end
section
variable{prog:vS}{w:vX}{A:vc}{E:vB->vF->Prop}{s:vF}
theorem qj7{t b:vC}{vs ws:bC}{Q:aO}(ht:IsTup s.heap t vs.toArray)(hb:IsTup s.heap b ws.toArray)(hv:vs≠[])(h1:ws=[]->Q kN s)(h2:ws≠[]->Q aJ { s with heap:=s.heap.push { cls:=.type "tuple", data:=.seq (vs++ws).toArray } })(hsz:vs.length+ws.length<=sizeLine):vM ar A (uQ .Add kN Bi) Q E s:=by
 obtain⟨⟨cls,dd,data,sl⟩,ho,hc,n,hd⟩:=id ht;obtain⟨⟨cls2,dd2,data2,sl2⟩,ho2,hc2,n2,hd2⟩:=id hb;simp only at hc hd hc2 hd2;subst hc hd hc2 hd2;have e:vs.toArray++ws.toArray=(vs++ws).toArray:=by simp
 by_cases hw:ws=[]
 ·exact concat_meets Os MT noFill_tuple_add seq_tuple_add PySem.F.slot_tuple_add PySem.F.entry_tuple_add AB
   (tuple_addW1 t b vs.toArray ws.toArray n n2 dd dd2 sl sl2 ⇑hv (by simp[hw])) ⟨ho,ho2,h1 hw⟩
 ·refine concat_meets Os MT noFill_tuple_add seq_tuple_add PySem.F.slot_tuple_add PySem.F.entry_tuple_add AB
   (tuple_addW2 t b vs.toArray ws.toArray n n2 dd dd2 sl sl2 ⇑hv ⇑hw (by rw[zN,zN];exact hsz)) ⟨ho,ho2,?_⟩
  rw[e];exact h2 hw
noncomputable def sIx(n d:Nat):Option Int->Nat
 | none=>d
 | some v=>if v<0 then (v+kP).toNat else min v.toNat n
theorem q4Z(n d:Nat):sIx n d none=d:=rfl
theorem q3b(n d k:Nat):sIx n d (some bh)=min k n:=by
 show (if bh<0 then (bh+kP).toNat else min (k:Int).toNat n)=min k n;rw[Ez,yK]
theorem qkt(n d:Nat)(hd:d<=n)(o:fA):sIx n d o<=n:=by
 cases o with
 | none=>exact hd
 | some v=>
  show (if v<0 then (v+kP).toNat else min v.toNat n)<=n
  by_cases hv:v<0
  ·rw[vH hv];omega
  ·rw[vJ hv];exact Z7 _ _
theorem qcu(v:Int)(n d:Nat):(if v<0 then max (v+kP) 0 else min v kP)=((sIx n d oy:Nat):Int):=by
 show (if v<0 then max (v+kP) 0 else min v kP)=(((if v<0 then (v+kP).toNat else min v.toNat n):Nat):Int)
 by_cases hv:v<0
 ·simp only[vH hv];omega
 ·simp only[vJ hv];omega
theorem qcP(lo hi:fA)(n:Nat):Builtin.Slice.sliceAdjust lo hi 1 kP=(rZ,QL):=by
 have h1:¬(cI<0):=∅
 unfold Builtin.Slice.sliceAdjust;simp only[h1,if_false];refine Prod.ext ?_ ?_
 ·cases lo with
  | none=>rfl
  | some v=>exact qcu v n 0
 ·cases hi with
  | none=>rfl
  | some v=>exact qcu v n n
theorem qcJ(i j:Nat):Builtin.Slice.slicePlaces jd pV 1=j-i:=by
 unfold Builtin.Slice.slicePlaces;have h1:cI>0:=∅
 simp only[h1,if_true,Int.ediv_one]
 split <;> omega
theorem q7i{v:vB}{o:fA}{Q:Option Int->vF->Prop}(p:tP v o)(h:Q o s):vM ar A (Builtin.Slice.slicePartIndex v) Q E s:=by
 cases p with
 | none=>exact slicePart_none h
 | int i t=>exact slicePart_int h
theorem q3y{sl:vC}{vl vu:vB}{lo hi:fA}{n:Nat}{Q:Int×Int×Nat->vF->Prop}(hs:Ax)(pl:tP vl lo)(pu:tP vu hi)(h:Q (rZ,1,sIx n n hi-sIx n 0 lo) s):vM ar A (Builtin.Slice.sliceApplied Ib (pure kP)) Q E s:=by
 obtain⟨os,hos,hcs,hds⟩:=id hs;unfold Builtin.Slice.sliceApplied Builtin.Slice.sliceFields;refine vA (vA (uS hos hds (x:=vl) rfl (vA (uS hos hds (x:=vu) rfl (vA (uS hos hds (x:=.none) rfl fW))))));refine vA (slicePart_none ?_);show vM _ _ (if (cI==0)=true then _ else _) _ _ s;rw[vJ (by decide)];refine vA (q7i pl (vA (q7i pu (vA fW))));show vM _ _ (match Builtin.Slice.sliceAdjust lo hi 1 kP with|(lo,hi)=>pure (lo,cI,Builtin.Slice.slicePlaces lo hi 1)) _ _ s;rw[qcP lo hi n];show vM _ _ (pure (rZ,cI,Builtin.Slice.slicePlaces rZ QL 1)) _ _ s;rw[qcJ];exact vG h
theorem qfE(xs:fj)(i k:Nat):((zY k).filterMap λ(m:Nat)=>xs[(jd+jz*1).toNat]?).toArray=((xs.toList.drop i).take k).toArray:=by
 have e:(λ(m:Nat)=>xs[(jd+jz*1).toNat]?)=λm=>xs[i+m]?:=by
  funext m
  have:(jd+jz*1).toNat=i+m:=∅
  rw[this]
 rw[e];have:=pick_run xs i k;rw[wV]at this;have e2:((λx=>xs[x]?) ∘ λx=>i+x)=λm=>xs[i+m]?:=rfl;rw[e2]at this;rw[this]
theorem q6f{t sl:vC}{items:fj}{vl vu:vB}{lo hi:fA}{Q:aO}(ht:U8)(hs:Ax)(pl:tP vl lo)(pu:tP vu hi)(hw:¬(sIx items.size 0 lo=0/\sIx items.size items.size hi=items.size))(h:Q aJ { s with heap:=s.heap.push { cls:=.type "tuple", data:=.seq ((items.toList.drop Fq).take dE).toArray } })(hsz:Hw):vM ar A (u8 kN Ib) Q E s:=by
 have htake:sizeOk (.seq ((items.toList.drop Fq).take dE).toArray):=by
  show ((items.toList.drop Fq).take dE).toArray.size<=sizeLine;rw[zN,zo,yN,zU];omega
 have hj:sIx items.size items.size hi<=items.size:=qkt _ _ cP hi;obtain⟨os,hos,hcs,hds⟩:=id hs;have hTs:s.TypeIs Ib "slice" := acm;unfold u8
 try with_reducible refine vU ?_
 first|refine vA fW|skip
 refine vA (wpAny_sequenceKey ht.typeIs (by decide) ?_);refine vA (wpAny_callSpecial?_slot (name:=Str.ofString "__getitem__") ht.typeIs PyProof.Rows.slot_tuple_getitem
  mZ)
 show vM _ _ (Builtin.Tuple.tupleItemsOf kN >>= _) _ _ s;refine vA QV;refine vA (uc hTs ?_);rw[vH (by decide)];refine vA (q3y hs pl pu ?_);have hno:¬(K3=true):=by
  intro q;rw[zu,zu]at q;have q1:Ae=0:=eq_of_beq q.1.1;have q2:sIx items.size items.size hi-sIx items.size 0 lo=items.size:=eq_of_beq q.2;exact hw DO
 show vM _ _ (if K3=true then _ else _) _ _ s;rw[vJ hno,qfE]
 first
  | exact vA (m:=Builtin.Tuple.tupleExact _) (vi Ah htake)
  | exact vA (m:=Builtin.Tuple.tupleExact _) (vi (vA (vG Ah)) htake)
  | exact vA (vA (m:=Builtin.Tuple.tupleExact _) (vi (vG Ah) htake))
  | exact vA (vA (m:=Builtin.Tuple.tupleExact _) (vi Ah htake))
end
end HT
namespace L2
open PySem PySem.Spec PyProof.Rows
abbrev TO:=St->Hp->Gy->Prop
def PO(X:Cx)(e:Fy)(t:TO):Prop :=
 ∀(pins:aC)(s:vF)(σ:St)(H:Hp)(Q:Gy),Inv X pins σ H s->t σ H Q ->
  vM ai X.A (evalPart e X.env) (λu s'=>∃o H',Inv X pins σ H' s'/\tP u o/\Q o H') X.xe s
noncomputable def zB0:TO:=λ_ H Q=>Q none H
noncomputable def tPart(t:TE):TO:=λσ H Q=>t σ H λx H1=>∃i,x=.int i/\Q Bm H1
theorem q20{ns:ac}:∀{us:bC},Yw cF us->uJ us ns:=by
 induction ns with
 | nil=>intro us r;rw[yU]at r;cases r;exact .nil
 | cons n ns ih=>
  intro us r;rw[zL]at r;cases r with
  | cons r1 r2=>
   obtain⟨t,e⟩:=r1;subst e;exact .cons n t (ih r2)
section
variable{X:Cx}{e:vP}{te:TE}{lo hi:Option vP}{tl th:TO}{pos p2:Pos}
theorem qj1:PO X none zB0:=by
 intro pins s σ H Q I h;rw[evalPart_none];exact vG ⟨none,H,I,.none,h⟩
theorem qj8(h:rR):PO X (some e) (tPart te):=by
 intro pins s σ H Q I hw;rw[evalPart_some];refine thn Qn λu s1 ⟨x,H1,I1,r1,q1⟩=>?_;obtain⟨i,rfl,q⟩:=q1;obtain⟨t,rfl⟩:=r1;exact⟨Bm,H1,I1,Bs,q⟩
def SlR(X:Cx)(r:jn):Prop :=
 ∀(pins:aC)(s:vF)(σ:St)(H:Hp)(x:V)(v vl vu:vB)(lo hi:fA)(sl:vC)(Q:VK),Inv X pins σ H s->RelV x v->s.heap.IsSliceOf sl vl vu .none->tP vl lo->tP vu hi->r x lo hi H Q ->
  ∃T id,uv B8 "__getitem__" = pure (some kh)/\s.TypeIs v T/\vM ai X.A (u8 v Ib) cV X.xe s
theorem SlR.or{r r':jn}(h:SlR X r)(h':SlR X r'):SlR X (λx lo hi H Q=>r x lo hi H Q\/r' x lo hi H Q):=by
 intro pins s σ H x v vl vu lo hi sl Q I rx hs pl pu q;rcases q with q|q
 ·exact h pins s σ H x v vl vu lo hi sl Q I rx hs pl pu q
 ·exact h' pins s σ H x v vl vu lo hi sl Q I rx hs pl pu q
noncomputable def tSl(r:jn)(te:TE)(tl th:TO):TE:=λσ H Q=>te σ H λx H1=>tl σ H1 λl H2=>th σ H2 λu H3=>r x l u H3 Q
theorem qg7{r:jn}(hr:SlR X r)(he:rR)(hl:PO X lo tl)(hu:PO X hi th):PE X (.Subscript e ER pos) (tSl r te tl th):=by
 intro pins s σ H Q I h;refine Subscript_ (thn mD λv s1 ⟨x,H1,I1,r1,q1⟩=>?_);refine wpAny_Slice (thn (hl pins s1 σ H1 _ I1 q1) λvl s2 ⟨l,H2,I2,pl,q2⟩=>thn (hu pins s2 σ H2 _ I2 q2) λvu s3 ⟨u,H3,I3,pu,q3⟩=>?_);rw[evalPart_none];refine vG ?_;have I4:Inv X pins σ H3 { s3 with heap:=s3.heap.push { cls:=.type "slice", data:=.fields #[vl,vu,.none] } }:=I3.kept (t':=s3.toks) λb ob q=>zF _ q;obtain⟨T,id,hT,ht,hg⟩:=hr pins { s3 with heap:=s3.heap.push { cls:=.type "slice", data:=.fields #[vl,vu,.none] } } σ H3 x v vl vu l u s3.heap.objs.size Q I4 r1 (Yd ..) pl pu q3;show vM ai X.A (t6 e ER v QG) cV X.xe { s3 with heap:=s3.heap.push { cls:=.type "slice", data:=.fields #[vl,vu,.none] } };exact tail_any (ops:=[QG,v]) ht hT hg (by with_unfolding_all rfl)
noncomputable def zAm(xs:br)(lo hi:fA):List V:=(xs.drop pZ).take fB
theorem q6i(xs:br)(lo hi:fA):(zAm xs lo hi).length<=xs.length:=by
 unfold zAm;rw[zo,yN];omega
def rSlT(K:zC):V->Option Int->Option Int->Hp->VK->Prop:=λx lo hi H Q=>∃a xs,x=.ref a/\SqT K H a xs /\
 ¬pP/\∀p,H p=none->Q bE (upd H p (.tup Ge))
theorem qjr:SlR X (rSlT X.K):=by
 intro pins s σ H x v vl vu lo hi sl Q I rx hs pl pu h;obtain⟨a,xs,rfl,hx,hw,q⟩:=h;cases rx;obtain⟨its,r,ht,hz⟩:=I.tuple hx;have hlen:its.toArray.size=xs.length:=by rw[zN];exact r.length.symm
 refine pF;refine HT.q6f ht hs pl pu (by rw[hlen];exact hw) ?_ (by rw[hlen];exact hz);rw[hlen];refine⟨aJ,_,I.laid (t':=s.toks) (o:=.tup Ge) Ix cP ?_,rfl,q _ lZ⟩;exact⟨Ud,_,V7,IsTup.new _ _⟩
noncomputable def rCatT(K:zC):R2:=λx y H Q=>∃a b xs ys,x=.ref a/\y=.ref b/\SqT K H a xs/\SqT K H b ys/\xs≠[]/\xs.length+ys.length<=sizeLine /\
 (ys=[]->Q dJ H)/\(ys≠[]->∀p,H p=none->Q bE (upd H p (.tup MY)))
theorem Yw.nil_iff{xs:br}{us:bC}(r:O1):us=[]↔xs=[]:=by
 cases r with
 | nil=>simp
 | cons _ _=>simp
theorem qiK:OpR X KF (rCatT X.K):=by
 intro pins s σ H x y v u Q I rx ry h;obtain⟨a,b,xs,ys,rfl,rfl,ha,hb,hx,hz,q1,q2⟩:=h;cases rx;cases ry;obtain⟨its,r1,p1,_⟩:=I.tuple ha;obtain⟨its2,r2,p2,_⟩:=I.tuple hb;refine HT.qj7 p1 p2 (λz=>hx (r1.nil_iff.mp z)) (λz=>⟨dJ,H,I,rfl,q1 (r2.nil_iff.mp z)⟩) Ou (by rw[<- r1.length,<- r2.length];exact hz);refine⟨aJ,_,I.laid (t':=s.toks) (o:=.tup MY) Ix cP ?_,rfl,q2 (λw=>z (r2.nil_iff.mpr w)) _ lZ⟩;exact⟨by rw[zE];exact hz,_,r1.append r2,IsTup.new _ _⟩
end
noncomputable def ixN(n:Nat)(i:Int):Option Nat:=if 0<=i then (if i<n then some i.toNat else none)else if -kP<=i then some (i+n).toNat else none
noncomputable def atI{α:Type}(xs:bJ)(i:Int):Option α:=(ixN xs.length i).bind λj=>xs[j]?
theorem qcl{n:Nat}{i:Int}{j:Nat}(h:ixN n i=some j):seqIndex? i n=some j/\j<n/\-kP<=i/\i<n:=by
 unfold ixN at h
 by_cases h0:0<=i
 ·rw[vH h0]at h
  by_cases h1:i<n
  ·rw[Vy]at h
   have e:i.toNat=j:=zr h;exact⟨by rw[sL h0 h1,e],∅,∅,h1⟩
  ·rw[vJ h1]at h;cases h
 ·rw[vJ h0]at h
  by_cases h1:-kP<=i
  ·rw[Vy]at h
   have e:(i+n).toNat=j:=zr h;exact⟨by rw[seqIndex_neg ∅ h1,e],∅,h1,∅⟩
  ·rw[vJ h1]at h;cases h
theorem q84{α:Type}{xs:bJ}{i:Int}{v:α}(h:atI xs i=some v):∃j,seqIndex? i xs.length=some j/\xs[j]?=some v/\j<xs.length/\-(xs.length:Int)<=i/\i<xs.length:=by
 unfold atI at h;cases e:ixN xs.length i with
 | none=>rw[e]at h;cases h
 | some j=>
  rw[e]at h;obtain⟨h1,h2,h3,h4⟩:=qcl e;exact⟨j,h1,h,h2,h3,h4⟩
def zAD(b:vP):Prop:=∀o i,subscripted b false o i=operate [o,i] (u8 o i)
def IxR(X:Cx)(r:R2):Prop :=
 ∀(value slice:vP)(pins:aC)(s:vF)(σ:St)(H:Hp)(x y:V)(v u:vB)(Q:VK),Inv X pins σ H s->RelV x v->RelV y u->r x y H Q ->
  subscripted slice false v u=operate [v,u] (u8 v u)->vM ai X.A (t6 value slice v u) cV X.xe s
def MtR(X:Cx)(id:String)(r:rJ):Prop :=
 ∀(pins:aC)(s:vF)(σ:St)(H:Hp)(x:V)(xs:br)(v:vB)(us:bC)(Q:VK),Inv X pins σ H s->RelV x v->Yw xs us->r x xs H Q ->
  vM ai X.A VQ cV X.xe s
section
variable{X:Cx}{a b:vP}{ta tb:TE}{pos:Pos}
theorem IxR.or{r r':R2}(h:IxR X r)(h':IxR X r'):IxR X Iw:=by
 intro value slice pins s σ H x y v u Q I rx ry q hs;rcases q with q|q
 ·exact h value slice pins s σ H x y v u Q I rx ry q hs
 ·exact h' value slice pins s σ H x y v u Q I rx ry q hs
theorem qkW{r:R2}(hr:IxR X r)(ha:nO)(hb:E9)(hs:zAD b):PE X GC Il:=by
 intro pins s σ H Q I h;exact Subscript_ (binT ha hb I h λv u s2 x y H2 I2 rx ry q=>hr a b pins s2 σ H2 x y v u Q I2 rx ry q (hs _ _))
noncomputable def rIxL(K:zC):R2:=λx y H Q=>∃p xs i v,x=.ref p/\y=.int i/\SqL K H p xs/\atI xs i=some v/\Q v H
noncomputable def rIxT(K:zC):R2:=λx y H Q=>∃p xs i v,x=.ref p/\y=.int i/\SqT K H p xs/\atI xs i=some v/\Q v H
noncomputable def rIxS:R2:=λx y H Q=>∃z i c,x=.str z/\y=.int i/\z.length<=sizeLine/\atI z.cps.toList i=some c/\Q (.str ⟨#[c]⟩) H
theorem qio:IxR X (rIxL X.K):=by
 intro value slice pins s σ H x y v u Q I rx ry h hs;obtain⟨p,xs,i,z,rfl,rfl,hq,he,q⟩:=h;cases rx;obtain⟨t,rfl⟩:=ry;obtain⟨its,r,pl,hz⟩:=I.list hq;obtain⟨j,h1,h2,h3,h4,h5⟩:=q84 he;obtain⟨w,ew,rw'⟩:=r.get h2;have hl:=r.length;have hn:=WP;have fin:EP X pins σ Q w s:=aa6
 by_cases h0:0<=i
 ·have hj:i.toNat=j:=by
   rw[sL h0 h5]at h1;exact zr h1
  exact item_listR pl.isList h0 ∅ (by rw[hj];simpa using ew) fin hs
 ·have hj:(i+Qi).toNat=j:=by
   rw[seqIndex_neg ∅ h4]at h1;rw[zN,<- hl];exact zr h1
  exact tQ (x:=w) pl.isList.typeIs slot_list_getitem.lookup
   (wpAny_getItem_list_neg (Q:=λr s'=>r=w/\EP X pins σ Q r s') pl.isList ∅ (by rw[zN] <;> omega) ∅ (by rw[hj];simpa using ew) ⟨rfl,fin⟩) hs
theorem qjj:IxR X (rIxT X.K):=by
 intro value slice pins s σ H x y v u Q I rx ry h hs;obtain⟨p,xs,i,z,rfl,rfl,hq,he,q⟩:=h;cases rx;obtain⟨t,rfl⟩:=ry;obtain⟨its,r,pl,hz⟩:=I.tuple hq;obtain⟨j,h1,h2,h3,h4,h5⟩:=q84 he;obtain⟨w,ew,rw'⟩:=r.get h2;have hl:=r.length;have hn:=WP;have fin:EP X pins σ Q w s:=aa6;exact tQ (x:=w) pl.typeIs slot_tuple_getitem.lookup
  (getItem_tuple (j:=j) (Q:=λr s'=>r=w/\EP X pins σ Q r s') pl ∅ ∅ (by rw[zN,<- hl];exact h1) ⇑ew ⟨rfl,fin⟩) hs
theorem qjL:IxR X rIxS:=by
 intro value slice pins s σ H x y v u Q I rx ry h hs;obtain⟨z,i,c,rfl,rfl,hz,he,q⟩:=h;obtain⟨t,rfl⟩:=rx;obtain⟨t',rfl⟩:=ry;obtain⟨j,h1,h2,h3,h4,h5⟩:=q84 he;have hl:z.cps.toList.length=z.length:=by simp[Str.length]
 rw[hl]at h1 h4 h5;have hn:=WP;exact tail_any aau slot_str_getitem.lookup (getItem_str (c:=c) (by
  have e1:decide (i < -(2^63:Int))=false:=vQ ∅;have e2:decide (i>=2^63)=false:=vQ ∅;rw[e1,e2,wL]) (by rw[h1];simpa using h2) ⟨.str ⟨#[c]⟩,H,ka,bK,q⟩) hs
noncomputable def rIx(K:zC):R2:=λx y H Q=>rIxL K x y H Q\/rIxT K x y H Q\/rIxS x y H Q
theorem qk7:IxR X (rIx X.K):=qio.or (qjj.or qjL)
theorem qcG(its:bC)(n j:Nat)(u:vB):Obj.mapSeq (·.setIfInBounds j u) { cls:=.type "list", data:=.seq its.toArray n }={ cls:=.type "list", data:=.seq (its.set j u).toArray n }:=by
 simp[Obj.mapSeq]
theorem Inv.lst{pins:aC}{σ:St}{H:Hp}{s:vF}{p:vC}{xs:br}(I:aj)(h:HW):
  ∃(its:bC) (n:Nat),Yw xs its/\s.heap.get? p=some { cls:=.type "list", data:=.seq its.toArray n }/\xs.length<=sizeLine:=by
 obtain⟨z,its,n,r,e⟩:=I.hok p _ h;exact⟨its,n,r,e,z⟩
theorem Inv.lstUpd{pins:aC}{σ:St}{H:Hp}{s:vF}{p:vC}{xs ys:br}{its its':bC}{n n':Nat}{f:Obj->Obj}(I:aj)(h:HW)(ho:s.heap.get? p=some { cls:=.type "list", data:=.seq its.toArray n })(hf:f { cls:=.type "list", data:=.seq its.toArray n }={ cls:=.type "list", data:=.seq its'.toArray n' })(r:Yw ys its')(hz:BD)(t:Nat):
  Inv X pins σ (upd H p rC) { s with heap:=s.heap.update p f,toks:=t }:=by
 have e:(s.heap.update p f).get? p=some { cls:=.type "list", data:=.seq its'.toArray n' }:=by
  rw[yx f ho (by rw[hf] <;> rfl),hf]
 refine I.write (x:=p) (e:=p) (by rw[h];trivial) bT (λb u hb q=>(ze _ _ fN).trans q) ⟨_,e⟩ ?_;exact⟨hz,its',n',r,e⟩
def rSetL:V->V->V->Hp->ab7->Prop:=λo i v H Q=>∃p xs k j,o=.ref p/\i=.int k/\H p=some dY/\ixN xs.length k=some j/\Q Lk
theorem qgm:PSet X rSetL:=by
 intro pins s σ H o i v ov iv u Q I ro ri rv h;obtain⟨p,xs,k,j,rfl,rfl,hp,hj,q⟩:=h;cases ro;obtain⟨t,rfl⟩:=ri;obtain⟨its,n,r,ho,hz⟩:=I.lst hp;obtain⟨h1,h2,h3,h4⟩:=qcl hj;have hl:=r.length;have hn:=WP;have I':Inv X pins σ Lk { s with heap:=s.heap.update p (Obj.mapSeq (·.setIfInBounds j u)) } :=
  I.lstUpd hp ho (qcG its n j u) (r.set rv j) (by rw[yR];exact hz) s.toks
 by_cases h0:0<=k
 ·have hk:k.toNat=j:=by
   rw[sL h0 h4]at h1;exact zr h1
  exact PySem.W.ki_setAt ho h0 ∅ (by rw[zN,<- hl];exact h4) (by rw[hk];exact⟨_,I',q⟩)
 ·have hk:(k+Qi).toNat=j:=by
   rw[seqIndex_neg ∅ h3]at h1;rw[zN,<- hl];exact zr h1
  exact PySem.W.ki_setBack ho ∅ (by rw[zN,<- hl];exact h3) ∅ (by rw[hk];exact⟨_,I',q⟩)
theorem qa7(lo hi:fA)(n:Nat):(uh lo hi none n).1=((HT.sIx n 0 lo:Nat):Int)/\(uh lo hi none n).2.1=((HT.sIx n n hi:Nat):Int)/\(uh lo hi none n).2.2=1:=by
 refine⟨?_,?_,rfl⟩
 ·cases lo with
  | none=>simp[uh,HT.sIx]
  | some i=>
   simp only[uh,HT.sIx,Z8,show cI>0 by decide,if_true]
   by_cases h:i<0
   ·simp only[h,if_true] <;> omega
   ·simp only[h,if_false] <;> omega
 ·cases hi with
  | none=>simp[uh,HT.sIx]
  | some i=>
   simp only[uh,HT.sIx,Z8,show cI>0 by decide,if_true]
   by_cases h:i<0
   ·simp only[h,if_true] <;> omega
   ·simp only[h,if_false] <;> omega
theorem q8U(its:bC)(lo hi:fA):slicePick its.toArray lo hi none=((its.drop (HT.sIx its.length 0 lo)).take (HT.sIx its.length its.length hi-HT.sIx its.length 0 lo)).toArray:=by
 obtain⟨h1,h2,h3⟩:=qa7 lo hi its.toArray.size;unfold slicePick;rw[h1,h2,h3];simp only[sliceRange_one,pick_run,zN] <;> rfl
def rSlL(K:zC):V->Option Int->Option Int->Hp->VK->Prop:=λx lo hi H Q=>∃a xs,x=.ref a/\SqL K H a xs/\∀p,H p=none->Q bE (upd H p (.lst Ge))
theorem qiP:SlR X (rSlL X.K):=by
 intro pins s σ H x v vl vu lo hi sl Q I rx hs pl pu h;obtain⟨a,xs,rfl,hx,q⟩:=h;cases rx;obtain⟨its,r,ht,hz⟩:=I.list hx;have hlen:=r.length;refine⟨"list", _,slot_list_getitem.lookup,ht.isList.typeIs,?_⟩;refine wpAny_getItem_list_slice ht.isList hs pl pu .none (by simp) ?_ (by rw[zN] <;> omega);rw[q8U,<- hlen];refine⟨aJ,_,I.laid (t':=s.toks) (o:=.lst Ge) Ix cP ?_,rfl,q _ lZ⟩;exact⟨Ud,_,0,V7,jH⟩
noncomputable def Wa:V->Bool
 | .non=>true
 | .bl _=>true
 | .int _=>true
 | .str _=>true
 | _=>false
noncomputable def eqV:V->V->Bool
 | .non,.non=>true
 | .bl a,.bl b=>a==b
 | .bl a,.int b=>(if a then 1 else 0)==b
 | .int a,.bl b=>a==(if b then 1 else 0)
 | .int a,.int b=>a==b
 | .str a,.str b=>a==b
 | _,_=>false
theorem qk8{A:vc}{s:vF}{y x:V}{u v:vB}(ry:Ao)(rx:RelV x v)(fy:Wa y=true)(fx:Wa x=true):SeqAt.EqAt A s u v (eqV y x):=by
 cases y with
 | non=>
  cases ry;cases x with
  | non=>cases rx;exact SeqAt.EqAt.same _
  | bl b=>cases rx;exact SeqAt.EqAt.none_bool b
  | int b=>obtain⟨t,rfl⟩:=rx;exact SeqAt.EqAt.none_int b t
  | str b=>obtain⟨t,rfl⟩:=rx;exact SeqAt.EqAt.none_str b t
  | _=>exact vN (show false=true from fx) yL
 | bl a=>
  cases ry;cases x with
  | non=>cases rx;exact SeqAt.EqAt.bool_none a
  | bl b=>cases rx;exact SeqAt.EqAt.bool_bool a b
  | int b=>obtain⟨t,rfl⟩:=rx;exact SeqAt.EqAt.bool_int a b t
  | str b=>obtain⟨t,rfl⟩:=rx;exact SeqAt.EqAt.bool_str a b t
  | _=>exact vN (show false=true from fx) yL
 | int a=>
  obtain⟨t',rfl⟩:=ry;cases x with
  | non=>cases rx;exact SeqAt.EqAt.int_none a t'
  | bl b=>cases rx;exact SeqAt.EqAt.int_bool a t' b
  | int b=>obtain⟨t,rfl⟩:=rx;exact SeqAt.EqAt.int_int a t' b t
  | str b=>obtain⟨t,rfl⟩:=rx;exact SeqAt.EqAt.int_str a t' b t
  | _=>exact vN (show false=true from fx) yL
 | str a=>
  obtain⟨t',rfl⟩:=ry;cases x with
  | non=>cases rx;exact SeqAt.EqAt.str_none a t'
  | bl b=>cases rx;exact SeqAt.EqAt.str_bool a t' b
  | int b=>obtain⟨t,rfl⟩:=rx;exact SeqAt.EqAt.str_int a t' b t
  | str b=>obtain⟨t,rfl⟩:=rx;exact SeqAt.EqAt.str_str a t' b t
  | _=>exact vN (show false=true from fx) yL
 | _=>exact vN (show false=true from fy) yL
noncomputable def eqU(x:V)(u:vB):Bool:=match u with
 | .none=>eqV .non x
 | .bool b=>eqV GW x
 | .int i _=>eqV lI x
 | .str z _=>eqV (.str z) x
 | _=>false
theorem qe3{x y:V}{u:vB}(r:Ao)(f:Wa y=true):eqU x u=eqV y x:=by
 cases y with
 | non=>cases r;rfl
 | bl b=>cases r;rfl
 | int i=>obtain⟨t,rfl⟩:=r;rfl
 | str z=>obtain⟨t,rfl⟩:=r;rfl
 | _=>exact vN (show false=true from f) yL
theorem q4x{x:V}:∀{xs:br}{us:bC},Yw xs us->xs.all Wa=true->us.any sY=xs.any λy=>eqV y x
 | _,_,.nil,_=>rfl
 | y::xs,u::us,.cons r t,f=>by
  rw[xV,zu]at f;rw[xk,xk,qe3 r f.1,q4x t f.2]
theorem q3E{A:vc}{s:vF}{x:V}{v:vB}(rx:RelV x v)(fx:Wa x=true):∀{xs:br}{us:bC},Yw xs us->xs.all Wa=true->∀u∈us,SeqAt.EqAt A s u v (eqU x u)
 | _,_,.nil,_=>λu hu=>by cases hu
 | y::xs,u::us,.cons r t,f=>λu' hu=>by
  rw[xV,zu]at f;rcases zI.mp hu with rfl|hu
  ·rw[qe3 r f.1];exact qk8 r rx f.1 fx
  ·exact q3E rx fx t f.2 u' hu
noncomputable def inV(x:V)(xs:br):Bool:=xs.any λy=>eqV y x
noncomputable def rIn(K:zC)(neg:Bool):R2:=λx y H Q=>∃p xs,y=.ref p/\(SqL K H p xs\/SqT K H p xs)/\Wa x=true/\xs.all Wa=true/\Q (.bl (if neg then !inV x xs else inV x xs)) H
theorem qeS:OpR X (uG .In) (rIn X.K false):=by
 intro pins s σ H x y v u Q I rx ry h;obtain⟨p,xs,rfl,hq,fx,fs,q⟩:=h;cases ry;rcases hq with hq|hq
 ·obtain⟨its,r,pl,hz⟩:=I.list hq
  refine SeqAt.in_listAt sY pl.isList kY sn;rw[show its.toArray.any sY=its.any sY by simp,Uv];exact q
 ·obtain⟨its,r,pl,hz⟩:=I.tuple hq
  refine SeqAt.in_tupleAt sY pl kY sn;rw[show its.toArray.any sY=its.any sY by simp,Uv];exact q
theorem qai:OpR X (uG .NotIn) (rIn X.K true):=by
 intro pins s σ H x y v u Q I rx ry h;obtain⟨p,xs,rfl,hq,fx,fs,q⟩:=h;cases ry;rcases hq with hq|hq
 ·obtain⟨its,r,pl,hz⟩:=I.list hq
  refine SeqAt.notIn_listAt sY pl.isList kY sn;rw[show its.toArray.any sY=its.any sY by simp,Uv];exact q
 ·obtain⟨its,r,pl,hz⟩:=I.tuple hq
  refine SeqAt.notIn_tupleAt sY pl kY sn;rw[show its.toArray.any sY=its.any sY by simp,Uv];exact q
theorem qr:Xu X aa2 (λxs H Q=>∃p ys,xs=OX/\JV/\Q FF H):=by
 intro pins s σ H xs us Q I r h;obtain⟨p,ys,rfl,hq,q⟩:=h;obtain⟨u,rfl,rx⟩:=vals1 r;cases rx;have hn:=WP;rcases hq with hq|hq
 ·obtain⟨its,r',pl,hz⟩:=I.list hq
  have hlen:=r'.length;exact Calls.call_len_list pl.isList (by simp only[zN] <;> omega) ⟨FF,H,ka,⟨s.toks+1,by rw[zN,hlen]⟩,q⟩
 ·obtain⟨its,r',pl,hz⟩:=I.tuple hq
  have hlen:=r'.length;exact len_tuple pl (by simp only[zN] <;> omega) ⟨FF,H,ka,⟨s.toks+1,by rw[zN,hlen]⟩,q⟩
theorem q9n:Xu X B9 (λxs H Q=>∃p ys,xs=OX/\JV/\∀l,H l=none->Q c9 Qa):=by
 intro pins s σ H xs us Q I r h;obtain⟨p,ys,rfl,hq,q⟩:=h;obtain⟨u,rfl,rx⟩:=vals1 r;cases rx;have fin:∀(its:bC),Yw ys its->ys.length<=sizeLine->∀(h':ve)(c':Nat),(∀b o',s.heap.get? b=some o'->h'.get? b=some o') ->
   h'.get? s.heap.objs.size=some { cls:=.type "list", dict:=none,data:=.seq its.toArray c',slots:=#[] }->EP X pins σ Q aJ { s with heap:=h' }:=λits r' hz h' c' kp e=>
  ⟨aJ,_,I.laid (t':=s.toks) kp cP (show Y2 X.prog X.w _ h' _ rC from ⟨hz,its,c',r',e⟩),rfl,q _ lZ⟩
 rcases hq with hq|hq
 ·obtain⟨its,r',pl,hz⟩:=I.list hq
  have hlen:=r'.length;obtain⟨o,ho,hc,n,hd⟩:=pl.isList;exact call_list_seq p bT ho hc hd Fl (by simp only[zN] <;> omega)
 ·obtain⟨its,r',pl,hz⟩:=I.tuple hq
  have hlen:=r'.length;obtain⟨o,ho,hc,n,hd⟩:=pl;exact call_list_seq p Ml ho hc hd Fl (by simp only[zN] <;> omega)
def tyV(K:zC)(T:String)(x:V)(H:Hp):Prop:=match x with
 | .str _=>T = "str"
 | .int _=>T = "int"
 | .ref p=>(T = "list" /\ ∃xs,SqL K H p xs)\/(T = "tuple" /\ ∃o,K.lookup p=some o/\o.cls=.type "tuple" /\ o.dict=none) \/
   (T = "dict" /\ ((∃kvs,H p=some cX)\/∃kvs,H p=some Cb))\/(T = "set" /\ ∃S n,H p=some (.set S n))
 | _=>False
theorem qfr{pins:aC}{σ:St}{H:Hp}{s:vF}{T:String}{x:V}{v:vB}(I:aj)(r:RelV x v)(ty:tyV X.K T x H):
  s.TypeIs v T/\∀a,v=.ref a->∃ob,s.heap.get? a=some ob/\ob.dict=none:=by
 cases x with
 | str z=>
  obtain⟨t,rfl⟩:=r;cases (show T = "str" from ty);exact⟨aau,λ_ e=>nomatch e⟩
 | int i=>
  obtain⟨t,rfl⟩:=r;cases (show T = "int" from ty);exact⟨typeIs_int s i t,λ_ e=>nomatch e⟩
 | ref p=>
  cases r;rcases ty with⟨rfl,xs,hq⟩|⟨rfl,o,hk,hc,hd⟩|⟨rfl,hk⟩|⟨rfl,S,n,hk⟩
  ·obtain⟨its,_,pl,_⟩:=I.list hq
   refine⟨pl.isList.typeIs,λa e=>?_⟩;cases e;obtain⟨o,n,e,c,hd,_⟩:=pl;exact⟨o,e,hd⟩
  ·refine⟨⟨o,I.kIn p o hk,hc⟩,λa e=>?_⟩
   cases e;exact⟨o,I.kIn _ o hk,hd⟩
  ·have z:∃o,s.heap.get? p=some o/\o.ExactDict:=by
    rcases hk with⟨kvs,hk⟩|⟨kvs,hk⟩
    ·obtain⟨_,_,_,_,o,_,_,e,ex,_⟩:=I.hok p _ hk
     exact⟨o,e,ex⟩
    ·obtain⟨_,_,_,_,o,_,_,e,ex,_⟩:=I.hok p _ hk
     exact⟨o,e,ex⟩
   obtain⟨o,e,ex⟩:=z;refine Lb;cases e2;exact acn
  ·obtain⟨o,_,_,_,e,ex,_⟩:=I.hok p _ hk
   refine Lb;cases e2;exact acn
 | _=>exact False.elim ty
noncomputable def tBM0(K:zC)(T:String)(r:rJ)(to:TE):TE:=λσ H Q=>to σ H λx H1=>tyV K T x H1/\r x [] H1 Q
noncomputable def tBM(K:zC)(T:String)(r:rJ)(to:TE)(t:TA):TE:=λσ H Q=>to σ H λx H1=>tyV K T x H1/\t σ H1 λxs H2=>r x xs H2 Q
variable{o e:vP}{es:List vP}{to:TE}{t:TA}{name:Str}{apos cpos:Pos}{T id:String}{r:V->List V->Hp->VK->Prop}
theorem qag(pa:PlainAttrs T)(slot:Slot T name id)(hty:Fo)(hm:MtR X id r)(ho:PE X o to)(hbase:Ll:=by rfl)(hline:gH=true:=by rfl):PE X (.Call Pf [] [] cpos) (tBM0 X.K T r to):=by
 intro pins s σ H Q I h;refine wpAny_Call_method0_late hbase hline (thn j9 λv s1 ⟨x,H1,I1,r1,ty,q1⟩=>?_);obtain⟨h1,h2⟩:=qfr I1 r1 ty;exact⟨T,id,pa,slot,hty,h1,h2,Calls.callWith_builtin rfl (PySem.evalArgs_none (hm pins s1 σ H1 x [] v [] Q I1 r1 .nil q1))⟩
theorem q38(pa:PlainAttrs T)(slot:Slot T name id)(hty:Fo)(hm:MtR X id r)(ho:PE X o to)(ha:Rj)(hbase:Ll:=by rfl)(hfew:((vZ cpos (vK jA X.env)).all (λx=>!x.1)&&(v7 cpos m6).all jL
   && decide ((e::es).length+([]:List uI).length+(if ([]:List uI).isEmpty then 0 else 1)<30))=true:=by rfl)
  (hline:gH=true:=by rfl) (hs:vK jA X.env=b8::vK es X.env:=by rfl) (hplain:(vZ cpos iF).any (·.1)=false:=by rfl) :
  PE X (.Call Pf jA [] cpos) (tBM X.K T r to t):=by
 intro pins s σ H Q I h;refine wpAny_Call_method_late hbase hfew hline rfl (thn j9 λv s1 ⟨x,H1,I1,r1,ty,q1⟩=>?_);obtain⟨h1,h2⟩:=qfr I1 r1 ty;refine⟨T,id,pa,slot,hty,h1,h2,?_⟩;have hA:=ha cpos pins s1 σ H1 _ I1 q1;rw[hs]at hA ⊢;refine Calls.callWith_builtin (by show (false || (vZ cpos iF).any (·.1))=false;rw[hplain] <;> rfl) (Calls.evalArgs_plain ?_);exact thn hA λus s2 ⟨vs,H2,I2,r2,q2⟩=>hm pins s2 σ H2 x vs v us Q I2 r1 r2 q2
end
def MtM(X:Cx)(id:String)(r:rJ):Prop :=
 ∀(pins:aC)(s:vF)(σ:St)(H:Hp)(x:V)(xs:br)(v:vB)(us:bC)(Q:VK),Inv X pins σ H s->RelV x v->Yw xs us->r x xs H Q ->
  vM ai X.A VQ cV X.xe s
theorem Yw.one:∀{x:V}{us:bC},Yw [x] us->∃u,us=[u]/\RelV x u
 | _,_,.cons r .nil=>PX
theorem Yw.zero:∀{us:bC},Yw [] us->us=[]
 | _,.nil=>rfl
theorem Yw.dropLast{xs:br}{us:bC}(h:O1):Yw xs.dropLast us.dropLast:=by
 induction h with
 | nil=>exact .nil
 | cons r t ih=>
  cases t with
  | nil=>exact .nil
  | cons q t'=>exact .cons r ih
theorem Yw.eraseIdx:∀{xs:br}{us:bC}(i:Nat),Yw xs us->Yw (xs.eraseIdx i) (us.eraseIdx i)
 | _,_,_,.nil=>.nil
 | _,_,0,.cons _ t=>t
 | _,_,i+1,.cons r t=>.cons r (Yw.eraseIdx i t)
theorem Yw.reverse{xs:br}{us:bC}(h:O1):Yw xs.reverse us.reverse:=by
 induction h with
 | nil=>exact .nil
 | cons r t ih=>rw[wd,wd];exact Yw.append ih (.cons r .nil)
theorem Yw.rep{xs:br}{us:bC}(h:O1):∀k:Nat,Yw (zv k xs).flatten (zv k us).flatten
 | 0=>.nil
 | k+1=>by
  rw[yP,yP,yo,yo];exact Yw.append h (Yw.rep h k)
theorem qdn{α:Type}(l:bJ):l.eraseIdx (l.length-1)=l.dropLast:=by
 induction l with
 | nil=>rfl
 | cons a r ih=>
  cases r with
  | nil=>rfl
  | cons b r=>
   have e:(a::b::r).length-1=((b::r).length-1)+1:=by
    have h1:(a::b::r).length=r.length+2:=rfl;have h2:(b::r).length=r.length+1:=rfl;omega
   rw[e,List.eraseIdx_cons_succ,ih]
   all_goals rfl
theorem q8C{α:Type}:∀(l:bJ)(i:Nat),(l.eraseIdx i).length<=l.length
 | [],_=>zQ _
 | _::_,0=>yt _
 | _::r,i+1=>Nat.succ_le_succ (q8C r i)
theorem q8L(its:bC):∀(k:Nat)(acc:bC),
  YL Js acc.toArray (zv k its.toArray)=(acc++(zv k its).flatten).toArray
 | 0,acc=>by simp
 | k+1,acc=>by
  have e:acc.toArray++its.toArray=(acc++its).toArray:=by simp
  have e2:(acc++its)++(zv k its).flatten=acc++(zv (k+1) its).flatten:=by
   rw[yP,yo,yB]
  rw[<- e2,<- q8L its k (acc++its),<- e,yP,ZF]
section
variable{X:Cx}{pins:List (vC×Obj)}{σ:St}{H:Hp}{s:vF}{l b:vC}{xs ys zs:List V}
theorem Inv.lset{its its':bC}{n:Nat}{f:aaT}{t':Nat}(I:aj)(hH:H l=some dY)(e:s.heap.get? l=some { cls:=.type "list", data:=.seq its.toArray n })(hf:f its.toArray=its'.toArray)(hv:Yw ys its')(hz:BD):
  Inv X pins σ Qa { s with heap:=s.heap.update l NQ,toks:=t' }:=by
 have q:=PySem.IsL.update e f;rw[hf]at q;refine I.write (x:=l) (e:=l) (by rw[hH];exact trivial) bT (λb' u hb hu=>(ze s.heap NQ fN).trans hu) ⟨_,q⟩ ?_;exact⟨hz,its',_,hv,q⟩
theorem Inv.lnew{its:bC}{t':Nat}(I:aj)(hv:Yw ys its)(hz:BD):
  Inv X pins σ (upd H s.heap.objs.size rC) { s with heap:=s.heap.push { cls:=.type "list", data:=.seq its.toArray },toks:=t' } :=
 I.laid Jv cP ⟨hz,its,0,hv,jH⟩
theorem Inv.fresh(I:aj):H s.heap.objs.size=none:=I.hok.fresh cP
theorem Inv.lstM(I:aj)(hH:H l=some dY):xs.length<=sizeLine/\∃(its:bC) (n:Nat),Yw xs its/\xs.length=its.length/\s.heap.get? l=some { cls:=.type "list", data:=.seq its.toArray n }:=by
 obtain⟨z,its,n,r,e⟩:=I.hok l _ hH;exact⟨z,its,n,r,r.length,e⟩
theorem Ww{n:Nat}(h:n<=sizeLine):Builtin.List.listTooLong n=false:=by
 unfold Builtin.List.listTooLong;exact vQ ∅
end
section
variable{X:Cx}
def Xx:V->List V->Hp->VK->Prop:=λx vs H Q=>∃l xs y,x=.ref l/\vs=[y]/\H l=some dY/\xs.length<sizeLine/\Q .non (upd H l (.lst (xs++[y])))
theorem q18:MtM X "list.append" Xx:=by
 intro pins s σ H x vs v us Q I rx rv h;obtain⟨l,xs,y,rfl,rfl,hH,hz,q⟩:=h;cases rx;obtain⟨u,rfl,ru⟩:=rv.one;obtain⟨z,its,n,r,hl,e⟩:=I.lstM hH;refine uf F.slot_list_append gC F.entry_list_append (F.args_list_append_2 _ _) (PySem.list_append l its.toArray n u (by rw[zN];omega)) Jr;refine⟨.non,_,I.lset (its':=its++[u]) hH e (by simp) (r.append aci) ?_,rfl,q⟩;rw[zE,zq];omega
def zA2:V->List V->Hp->VK->Prop:=λx vs H Q=>∃l b xs zs,x=.ref l/\vs=[Bi]/\H l=some dY/\H b=some (.lst zs)/\xs.length+zs.length<=sizeLine/\Q .non (upd H l Mj)
theorem qfj:MtM X "list.extend" zA2:=by
 intro pins s σ H x vs v us Q I rx rv h;obtain⟨l,b,xs,zs,rfl,rfl,hH,hB,hz,q⟩:=h;cases rx;obtain⟨u,rfl,ru⟩:=rv.one;cases ru;obtain⟨z,its,n,r,hl,e⟩:=I.lstM hH;obtain⟨z2,its2,n2,r2,hl2,e2⟩:=I.lstM hB;have hsz:its.toArray.size+its2.toArray.size<=sizeLine:=by rw[zN,zN];omega
 have hlong:¬(!its.toArray.isEmpty&&Builtin.List.listTooLong Hv)=true:=by
  rw[Ww hsz,wW];exact yL
 refine uf F.slot_list_extend gC F.entry_list_extend NS
  (AutoSeq1.list_extend_list_list_0 l its.toArray n b its2.toArray n2 hlong (by rw[zN];omega) ∅) ⟨e,e2,?_⟩
 refine⟨.non,_,I.lset (its':=its++its2) hH e (by simp) OH ?_,rfl,q⟩;rw[zE];omega
def rPop:V->List V->Hp->VK->Prop:=λx vs H Q=>∃l xs y,x=.ref l/\vs=[]/\H l=some dY/\xs[Jc]?=some y/\Q y (upd H l (.lst xs.dropLast))
theorem qar:MtM X "list.pop" rPop:=by
 intro pins s σ H x vs v us Q I rx rv h;obtain⟨l,xs,y,rfl,rfl,hH,hy,q⟩:=h;cases rx;have hus:=rv.zero;subst hus;obtain⟨z,its,n,r,hl,e⟩:=I.lstM hH;obtain⟨u,hu,ru⟩:=r.get hy;have hy':its.toArray[UG]?=some u:=by
  show its.toArray[its.length-1]?=some u;rw[<- zj,<- hl];exact hu
 refine uf F.slot_list_pop gC F.entry_list_pop (F.args_list_pop_1 _) (MeetsSeq.list_pop_last l its.toArray n u hy' (by rw[zN];omega)) Jr;refine⟨y,_,I.lset (its':=its.dropLast) hH e ?_ r.dropLast ?_,ru,q⟩
 ·show its.toArray.eraseIdxIfInBounds UG=its.dropLast.toArray
  rw[zN,wE,qdn]
 ·rw[List.length_dropLast]
  omega
noncomputable def rCat:R2:=λx y H Q=>∃l b xs zs,x=.ref l/\y=.ref b/\H l=some dY/\H b=some (.lst zs)/\xs.length+zs.length<=sizeLine/\∀p,H p=none->Q bE (upd H p Mj)
theorem qjD:OpR X KF rCat:=by
 intro pins s σ H x y v u Q I rx ry h;obtain⟨l,b,xs,zs,rfl,rfl,hH,hB,hz,q⟩:=h;cases rx;cases ry;obtain⟨z,its,n,r,hl,e⟩:=I.lstM hH;obtain⟨z2,its2,n2,r2,hl2,e2⟩:=I.lstM hB;refine PySem.P.add_list e e2 ?_ (by rw[zN,zN];omega);have ea:its.toArray++its2.toArray=(its++its2).toArray:=by simp
 rw[ea];exact⟨PM,_,I.lnew (t':=s.toks) OH (by rw[zE];omega),rfl,q _ I.fresh⟩
noncomputable def rRep:R2:=λx y H Q=>∃l k xs,x=.ref l/\y=.int k/\H l=some dY/\-(2^63)<=k/\k<2^63/\xs.length*k.toNat<=sizeLine /\
 ∀p,H p=none->Q bE (upd H p (.lst (zv k.toNat xs).flatten))
theorem qiA{α:Type}(xs:bJ)(k:Nat):(zv k xs).flatten.length=k*xs.length:=by
 induction k with
 | zero=>simp
 | succ k ih=>rw[yP,yo,zE,ih,Nat.succ_mul,Nat.add_comm]
theorem qjO:OpR X Uo rRep:=by
 intro pins s σ H x y v u Q I rx ry h;obtain⟨l,k,xs,rfl,rfl,hH,h1,h2,hz,q⟩:=h;cases rx;obtain⟨t,rfl⟩:=ry;obtain⟨z,its,n,r,hl,e⟩:=I.lstM hH;have hlen:its.toArray.size*k.toNat<=sizeLine:=by rw[zN,<- hl];exact hz
 have hcap:¬its.toArray.size*k.toNat>(2^63-1)/8:=by
  have:acE<=(2^63-1)/8:=by decide
  omega
 have hfit:¬(!Builtin.List.listFitsIndex k)=true:=by
  rw[fitsIndex_both h1 h2];exact yL
 have hlong:¬Builtin.List.listTooLong (its.toArray.size*k.toNat)=true:=by
  rw[Ww hlen];exact yL
 have hnew:YL Js #[] (zv (if its.toArray.isEmpty=true then 0 else k.toNat) its.toArray)=(zv k.toNat its).flatten.toArray:=by
  have f0:∀m:Nat,YL Js #[] (zv m its.toArray)=(zv m its).flatten.toArray:=λm=>by
   have:=q8L its m [];rw[yV]at this;exact this
  rw[f0];cases its with
  | nil=>simp
  | cons a r'=>rw[vJ (by simp)]
 refine wpAny_binaryOp_repeat_ref (T := "list") (U := "int") (by decide) gC (λs'=>typeIs_int s' k t) noFill_list_mul F.fills_int_mul F.slot_int_rmul repeat_list F.slot_int_index.lookup
  (uf F.slot_int_rmul (typeIs_int s k t) F.entry_int_rmul (F.args_int_rmul_2 _ _) (int___rmul___int_list k t l its.toArray n)
   ⟨e,rfl,gC,uf F.slot_list_mul gC F.entry_list_mul (F.args_list_mul_2 _ _) (AutoListH.list___mul___list_int_3 l its.toArray n k t hfit hcap hlong) Jr⟩)
 rw[hnew];exact⟨PM,_,I.lnew (t':=s.toks) (r.rep k.toNat) (by rw[qiA,Nat.mul_comm];exact hz),rfl,q _ I.fresh⟩
end
section
variable{prog:vS}{w:vX}{A:vc}{E:vB->vF->Prop}{s:vF}
end
section
variable{X:Cx}
end
end L2
namespace Att
open PySem PySem.W PySem.Calls PyProof.Rows
theorem WO{P:Params}{h:ve}:∀(ns:ac)(vs:bC),WellAll P h vs UB->uJ vs ns:=by
 intro ns
 induction ns with
 | nil=>
  intro vs w;rw[yU]at w;cases w;exact .nil
 | cons n ns ih=>
  intro vs w;rw[zL]at w;cases w with
  | cons a b=>
   cases a;exact .cons _ _ (ih _ b)
theorem zAp{l:OpenLaw}{n:Nat}(hn:Qh){P:Params}{h:ve}{args:List WData}{vals:bC}(hpre:l.row.toRowW.claim.pre args=true)(hwl:WellAll P h vals args):
  ∃a vs ns,vals=[Value.ref a]/\args=[WData.list UB]/\h.get? a=some { cls:=.type "list", data:=.seq vs.toArray }/\uJ vs ns/\ns.length<=n:=by
 have hsh:WShape.hasAll [] args [.list .int]=true:=(pre_splitW hpre).1;have hc:l.pre.holds [] { args:=args }=true:=(pre_splitW hpre).2;obtain⟨d,r,rfl,h1,h2⟩:=hasAllW_cons hsh;obtain rfl:=hasAllW_nil h2;obtain⟨xs,rfl,h3⟩:=hasW_list h1;obtain⟨ns,rfl⟩:=items_int h3;have hlen:ns.length<=n:=by
  unfold OpenLaw.pre at hc;have h4:(WTm.not (.lt (.lit (.int kP)) (.len (.arg 0)))).holds [] { args:=[.list (ns.map .int)] }=true:=by
   have h4:=(holds_andW hc).1;rw[hn]at h4;exact h4
  have h5:=condW_of h4 (w_not (w_lt w_lit (w_len_list (w_arg rfl))));rw[zB]at h5;refine Nat.le_of_not_lt λq=>?_;have q':kP<((ns.length:Nat):Int):=∅
  first
   | (rw[vO q']at h5;exact vN h5 (by decide))
   | (simp at h5;omega)
 cases hwl with
 | cons w1 w2=>
  cases w2;cases w1 with
  | list ho hall=>exact⟨_,_,ns,rfl,rfl,ho,WO ns _ hall,hlen⟩
theorem zAl(l:OpenLaw)(args:List WData):l.row.toRowW.claim.post args nQ args=true :=
 postW_of (r:=l.row.toRowW) (X:=(true==true))
  (show WShape.has [] nQ .bool=true by first|rfl|decide|simp[WShape.has,WShape.arms,WShape.armsAll])
  (show (WTm.eq .res (.lit nQ)).value [] { args:=args,res:=some nQ,after:=args }=some (.bool (true==true))from w_eq_bool (w_res rfl) w_lit) rfl
theorem attach_call{l:OpenLaw}{n:Nat}{q:vS}{loose:dM}{XP:Sj}{YP:RQ}{d:DefRec}(hn:Qh)(hdf:HA)(call:∀(w:vX)(s₀ s₁:vF)(mg mb:bH)(fa:vC)(o:Obj)(pm cd doc:vB)(a:vC)(vs:bC)(ns:ac),
   Ground q loose [] XP w s₀ mg mb s₁.heap->YP w s₁.heap ->
   s₁.heap.get? fa=some o->o.data=.func (docDef d.name d.params d.body d.scope pm cd doc)->s₁.heap.CodeRec cd d.name->mg d.name=some K7 ->
   s₁.heap.get? a=some { cls:=.type "list", data:=.seq vs.toArray }->uJ vs ns->ns.length<=n->s₁.gens=#[] ->
   uU (model l.prog w) tt Ac eO s₁) :
  WalkO q loose XP YP l.row.toRowW d [] Cr:=by
 intro w s₀ s₁ mg mb G Y fa o pm cd doc dV kV ho hd hcd hD hmg hg args vals as hpre hlay hrd hwl hlo;obtain rfl:dV=.none:=Dflts.none hD hdf;obtain rfl:kV=.none:=Dflts.noKw hD;obtain⟨a,vs,ns,rfl,rfl,hobj,zAT,hlen⟩:=zAp hn hpre hwl;refine enter_call (uV (call w s₀ s₁ mg mb fa o pm cd doc a vs ns G Y ho (fd_plain hd) hcd hmg hobj zAT hlen hg) λr s' hq=>?_);obtain⟨rfl,h2,h3,h4⟩:=hq;exact⟨.inl ⟨nQ,nQ,[],rfl,Ij,nQ,zAl l _,λ_=>⟨xv,λ_ hm=>(nomatch hm)⟩⟩,h2,h3,h4⟩
section
variable{prog:vS}{w:vX}{A:vc}{E:vB->vF->Prop}{s:vF}{K:Frag}
end
end Att
namespace L2
open PySem PySem.Spec PyProof.Rows
theorem q2D:∀{vs:bC}{ns:ac},uJ vs ns->Yw cF vs
 | _,_,.nil=>.nil
 | _,_,.cons n t h=>.cons Mm (q2D h)
def Only(H:Hp):Prop:=∀b,H b=none\/∃o xs,H b=some (.frz o dY)
theorem qgb{P:vS}{w:vX}{K:zC}{mg mb:bH}{CX:CXT}{k:Nat}{fa a:vC}{fd:vL}{x:Str}{sp:Sp}{s₁:vF}{vs:bC}{ns:ac}(KX:K.In s₁.heap)(hns:s₁.heap.Ns vT mg)(hb:s₁.heap.Ns builtinsNs mb)(hbb:∀x:Str,x ≠ "__name__" -> mb x=vf x)(hlim:s₁.heap.NoLimit)(hg:s₁.gens=#[])(ha:s₁.heap.get? a=some { cls:=.type "list", data:=.seq vs.toArray })(hi:uJ vs ns)(hl:ns.length<=sizeLine)(hr:Room k tt)(F:∀base:ve,K.In base->base.Ns vT mg->FnOk P w K mg base CX k fa fd [x] sp)(hbind:∀(s:vF)(u:vB),sC s fd RB [(x,u)])(hsp:∀H:Hp,Only H->SqL K H a cF->sp [dJ] H Te λ_ _ _=>False)(hCX:∀H e s',CX [] H s₁ aam e s'->False):
  uU R8 tt Ac eO s₁:=by
 have rv:=q2D hi;have lenV:=hi.length;have core:∀H:Hp,Only H->SqL K H a cF->HOk P w H s₁.heap->(∀b,H b≠none->b=a)->(H a≠none->K.lookup a=none) ->
   uU R8 tt Ac eO s₁:=by
  intro H hO hS hok hA hK;have base_of:∀{b:vC}{o:Obj},s₁.heap.get? b=some o->H b=none->(zBF s₁.heap H).get? b=some o:=λe n=>qgy e n;have noA:∀{b:vC}{o:Obj}{es:NT}{ep:Nat},s₁.heap.get? b=some o->o.data=.dict es ep->H b=none:=λ{b o es ep} e d=>by
   cases q:H b with
   | none=>rfl
   | some u=>
    have e':b=a:=hA b (by rw[q];simp);subst e';rw[ha]at e;cases e;have d':Data.seq vs.toArray _=Data.dict es ep:=d;cases d'
  have nsK:∀{b:vC}{m:bH},s₁.heap.Ns b m->(zBF s₁.heap H).Ns b m:=λ{b m} ⟨o,es,ep,e,d,r⟩=>⟨o,es,ep,base_of e (noA e d),d,r⟩;have hKb:K.In Jw:=λb o e=>base_of (KX b o e) (by
   cases q:H b with
   | none=>rfl
   | some u=>
    have e':b=a:=hA b (by rw[q];simp);subst e';rw[hK (by rw[q];simp)]at e;cases e)
  have hM:Mod K mg Jw:=⟨hKb,nsK hns,⟨mb,nsK hb,hbb⟩,let ⟨mc,h1,h2⟩:=hlim;⟨mc,nsK h1,h2⟩⟩;have e0:Env0 P w K mg Jw tt [] s₁ H:=⟨rfl,hM,λb o e=>qhT e,Nat.le_of_eq (qff _ _),trivial,λb hb=>vN (show b∈Qw from hb) (by simp),hok,.of_eq hg⟩;refine uV ((F _ hKb (nsK hns)).run tt [] s₁ H PY [dJ] [dJ] _ _ hr e0 (hbind s₁ dJ) (.cons rfl .nil) (hsp H hO hS)) λr s' h=>?_;cases r with
  | error e=>exact(hCX H e s' h).elim
  | ok fl=>
   cases fl with
   | next=>exact False.elim h
   | brk=>exact False.elim h
   | cont=>exact False.elim h
   | ret u=>
    obtain⟨v,H',os,bare,un,hok',r',q⟩:=h;have q':v=.bl true:=q;subst q';obtain rfl:u=Value.bool true:=r';refine⟨rfl,OldK.of_keep λb o e=>?_,os,bare⟩;cases q:H b with
    | none=>exact un.keep b o e q (by intro z;exact vN (show b∈Qw from z) (by simp)) (by simp)
    | some u=>
     rcases hO b with z|⟨ob,xs,z⟩
     ·rw[q]at z;cases z
     ·have z2:=un.frzs b ob _ z
      obtain⟨e1,_⟩:=hok b _ z;obtain⟨e2,_⟩:=hok' b _ z2;rw[e]at e1;cases e1;exact e2
 cases hk:K.lookup a with
 | some o=>
  have e:=KX a o hk;rw[ha]at e;cases e;refine core (λ_=>none) (λ_=>.inl rfl) (.inr ⟨_,vs.toArray,_,hk,rfl,rfl,rfl,by rw[zN,lenV];exact hl,by simpa using rv⟩) (λb u z=>by have z':(none:Option HO)=some u:=z;cases z') (λb z=>vN rfl z) λz=>vN rfl z
 | none=>
  refine core (λb=>if b=a then some (.frz { cls:=.type "list", data:=.seq vs.toArray } Ca)else none) (λb=>?_) (.inl (.inr ⟨{ cls:=.type "list", data:=.seq vs.toArray },lW⟩)) Le (λb z=>?_) λ_=>hk
  ·by_cases hb:b=a
   ·exact .inr ⟨_,_,RT⟩
   ·exact .inl Mu
  ·by_cases hb:b=a
   ·have z':=(vH hb).symm.trans z
    cases z';subst hb;exact⟨ha,by rw[zB];exact hl,vs,_,rv,ha⟩
   ·have z':=(vJ hb).symm.trans z
    cases z'
  ·by_cases hb:b=a
   ·exact hb
   ·exact vN Mu z
noncomputable abbrev KOf{K:zC}{h:ve}(_:K.In h):zC:=K
theorem qcA{l:ZG}{n k:Nat}{q:vS}{loose:dM}{XP:Sj}{YP:RQ}{d:DefRec}{K:Params->zC}{CX:vX->CXT}{sp:vX->Sp}{x:Str}(hn:Qh)(hn2:n<=sizeLine)(hdf:HA)(hr:Room k tt)(hY:∀(w:vX)(h:ve),YP w h->(K w.params).In h)(F:∀(w:vX)(mg:bH)(fa:vC)(h:ve),(K w.params).In h->h.Ns vT mg->mg d.name=some K7 ->
   ∃fd:vL,(∀(s:vF)(u:vB),sC s fd RB [(x,u)]) /\
    ∀base:ve,(K w.params).In base->base.Ns vT mg->FnOk l.prog w EN mg base (CX w) k fa fd [x] (sp w))
  (hsp:∀(w:vX)(H:Hp)(a:vC)(ns:ac),ns.length<=n->Only H->SqL EN H a cF->sp w [dJ] H Te λ_ _ _=>False)
  (hCX:∀(w:vX)(H:Hp)(s:vF)(e:vB)(s':vF),CX w [] H s aam e s'->False) :
  YV q loose XP YP l.row.toRowW d [] Cr:=by
 refine Att.attach_call hn hdf λw s₀ s₁ mg mb fa o pm cd doc a vs ns G Y ho hd hcd hmg hobj zAT hlen hg=>?_;have KX:=hY w _ Y;obtain⟨fd,hb,hF⟩:=F w mg fa _ KX G.T.g hmg;exact qgb KX G.T.g G.T.b G.T.builtins G.T.nolimit hg hobj zAT (yJ hlen hn2) hr hF hb (λH hO hS=>hsp w H a ns hlen hO hS) λH e s'=>hCX w H s₁ e s'
end L2
namespace L2
open PySem PySem.Spec PyProof.Rows
noncomputable def Xz(s:vm):Arguments:=match s with
 | .FunctionDef _ a _ _ _ _ _ _ _ _=>a
 | _=>{ posonlyargs:=[],args:=[],vararg:=none,kwonlyargs:=[],kw_defaults:=[],kwarg:=none,defaults:=[] }
noncomputable def Xc(s:vm):List vm:=match s with
 | .FunctionDef _ _ b _ _ _ _ _ _ _=>b
 | _=>[]
noncomputable def Yi(s:vm):uu:=match s with
 | .FunctionDef _ _ _ _ _ _ sc _ _ _=>sc
 | _=>{ kind:=.function,names:=[],isGenerator:=false,isCoroutine:=false }
noncomputable abbrev CX0:CXT:=λ_ _ _ _ _ _=>False
noncomputable abbrev E0:XK:=λ_ _ _=>False
theorem zBm{X:Cx}:zAJ CX0 X E0:=λ_ _ _ _ _ _ _ h=>h.elim
structure Fun (K:zC) (x qual:Str) (st:vm) (f:vC) (fd:vL):Prop where
 ex:∃(oc:vB) (od:Option vC) (kV doc pm:vB) (an:Option vC) (cdv ct:vB) (osl:Array (Option vB)),
  fd=xO x qual (Xz st) (Xc st) (Yi st) .none kV doc pm an cdv ct/\K.lookup f=some ⟨oc,od,.func fd,osl⟩/\wU K cdv qual=true
 kp:xK K (.ref f)=true
section
variable{P:vS}{w:vX}{K:zC}{mg:Str->Option vB}{base:ve}
theorem Fun.ok{x qual:Str}{st:vm}{f:vC}{fd:vL}{N ps:dM}{k:Nat}{sp:Sp}(F:Bg)(S:NR)(len:∀vs H Q E,sp vs H Q E->vs.length=ps.length)(hbody:∀(cdv:vB)(A:vc)(outer:Ap)(s:vF)(H:Hp)(vs:br)(Q:VK)(E:XK),Room k (A.deeper (tW qual Dt s.heap.objs.size f cdv))->sp vs H Q E ->
   ∃t,PSs (zAh CX0 P w K mg base N qual Dt f cdv A outer s H E).nox Qz t/\t { nx:=λ_ H'=>Q .non H',rt:=Q } EC H):FnOk P w K mg base CX0 (k+1) f fd ps sp:=by
 obtain⟨oc,od,kV,doc,pm,an,cdv,ct,osl,rfl,lk,hcd⟩:=F.ex;refine qkP lk hcd S len λA outer s H vs Q E hr hsp=>?_;obtain⟨t,h,q⟩:=hbody cdv A outer s H vs Q E hr hsp;exact⟨t,h.nox,q⟩
theorem Fun.binds{x qual:Str}{st:vm}{f:vC}{fd:vL}{ps:dM}(F:Bg)(h:∀(kV doc pm:vB)(an:IT)(cdv ct:vB)(us:bC),us.length=ps.length->bindArgs iK Bj=pure Go):Binds K fd ps []:=by
 obtain⟨oc,od,kV,doc,pm,an,cdv,ct,osl,rfl,lk,hcd⟩:=F.ex;exact .all (h kV doc pm an cdv ct)
theorem qk3{x qual:Str}{st:vm}{f:vC}{oc:vB}{od an:IT}{osl:Vf}{kV doc pm cdv ct:vB}(l:K.lookup f=some ⟨oc,od,.func iK,osl⟩)(c:aas)(k:xK K eZ=true):Fun K x qual st f iK:=⟨⟨oc,od,kV,doc,pm,an,cdv,ct,osl,rfl,l,c⟩,k⟩
end
theorem zA0{n:Nat}(h:n<=1000):n<sizeLine:=xm h (by decide)
section
variable{X:Cx}
theorem pv(i:Nat){x:Str}{pos:Pos}(hN:X.N[i]?=some x:=by rfl)(hv:Ab:=by first|exact Or.inl rfl|exact Or.inr ax|exact Or.inr EM)(hd:aG:=by decide)(hcd:iq:=by decide):PE X jr Lx:=qjB hN hv hd hcd
end
def Yx(H H':Hp):Prop:=∀b o,H b=some o->H' b=some o
theorem Yx.refl(H:Hp):Yx H H:=λ_ _ h=>h
theorem Yx.trans{H H1 H2:Hp}(a:Yx H H1)(b:Yx H1 H2):Yx H H2:=λc o h=>b c o (a c o h)
theorem Yx.free{H H':Hp}(e:OZ){l:vC}(h:H' l=Yc):H l=Yc:=by
 cases q:H l with
 | none=>rfl
 | some o=>
  rw[e l o q]at h;cases h
theorem Yx.seq{K:zC}{H H':Hp}{a:vC}{xs:br}(e:OZ)(h:SqL K H a xs):SqL K H' a xs:=by
 rcases h with (h|⟨o,h⟩)|h
 ·exact .inl (.inl Tw)
 ·exact .inl (.inr ⟨o,Tw⟩)
 ·exact .inr h
end L2
namespace Hk
open PySem
def zAc(xs:Fc):Prop:=xs.toList.Pairwise (· < ·)
theorem q68{l:cH}(h:l.Pairwise (· < ·)){i j:Nat}(hi:i<l.length)(hj:j<l.length)(hij:i<j):l[i]<l[j]:=yv.mp h i j hi hj hij
theorem qgq{xs:Fc}{j:Nat}(h:zAc xs):∀(fuel lo hi:Nat),lo<=hi->hi<=xs.size->hi-lo<=fuel->(∀k(z:mU),k<lo->xs.toList[k]<j)->(∀k(z:mU),hi<=k->j<=xs.toList[k]) ->
  SetTable.below.go xs j fuel lo hi<=xs.size/\(∀k(z:mU),k<SetTable.below.go xs j fuel lo hi->xs.toList[k]<j)/\(∀k(z:mU),SetTable.below.go xs j fuel lo hi<=k->j<=xs.toList[k]):=by
 intro fuel
 induction fuel with
 | zero=>
  intro lo hi h1 h2 h3 h4 h5;have e:lo=hi:=∅
  subst e;exact⟨h2,h4,h5⟩
 | succ n ih=>
  intro lo hi h1 h2 h3 h4 h5;unfold SetTable.below.go
  by_cases hl:lo<hi
  ·rw[vH hl]
   have hm:Ni/2<xs.toList.length:=by rw[zU];omega
   have hg:xs.getD (Ni/2) j=xs.toList[Ni/2]:=by
    rw[Array.getD_eq_getD_getElem?,<- zj,zD hm];rfl
   by_cases hc:xs.getD (Ni/2) j<j
   ·simp only[hc,if_true]
    refine ih _ _ ∅ h2 ∅ acp h5
    by_cases e:k=Ni/2
    ·subst e;rw[hg]at hc;exact hc
    ·have:=q68 h z hm ∅
     rw[hg]at hc;omega
   ·simp only[hc,if_false]
    refine ih _ _ ∅ ∅ ∅ h4 acp
    by_cases e:k=Ni/2
    ·subst e;rw[hg]at hc;omega
    ·have:=q68 h hm z ∅
     rw[hg]at hc;omega
  ·rw[vJ hl]
   have e:lo=hi:=∅
   subst e;exact⟨h2,h4,h5⟩
theorem q9C{xs:Fc}(h:zAc xs)(j:Nat):SetTable.below xs j<=xs.size/\(∀k(z:mU),k<SetTable.below xs j->xs.toList[k]<j)/\(∀k(z:mU),SetTable.below xs j<=k->j<=xs.toList[k]) :=
 qgq h xs.size 0 xs.size Cf cP ∅ (λk z hk=>vN hk Ug) (λk z hk=>by rw[zU]at z;omega)
theorem q56{α:Type}(xs:Array α)(p:Nat)(x:α):(SetTable.insertAt xs p x).toList=xs.toList.take p++x::xs.toList.drop p:=by
 unfold SetTable.insertAt;simp[Array.toList_extract,xw]
theorem qaK{xs:Fc}(h:zAc xs){j:Nat}(hn:xs[Bq]?≠some j):zAc (SetTable.insertAt xs Bq j):=by
 obtain⟨h1,h2,h3⟩:=q9C h j;unfold zAc;rw[q56,xY];have lt:∀y∈xs.toList.drop (SetTable.below xs j),j<y:=by
  intro y hy;obtain⟨k,hk,e⟩:=z8.mp hy;rw[yN]at hk;rw[List.getElem_drop]at e;have hb:SetTable.below xs j<xs.toList.length:=∅
  have hh:=h3 _ hb cP;have ne:xs.toList[Bq]≠j:=λz=>hn (by rw[<- zj,zD hb,z]);have hle:xs.toList[Bq]<=y:=by
   by_cases e0:k=0
   ·subst e0;rw[<- e];simp
   ·rw[<- e];exact ya (q68 h hb ∅ ∅)
  omega
 refine⟨wF (Zs _ _) h,zm.mpr ⟨lt,wF (List.drop_sublist _ _) h⟩,λa ha b hb=>?_⟩;have haj:a<j:=by
  obtain⟨k,hk,e⟩:=z8.mp ha;rw[zo]at hk;rw[Zt]at e;rw[<- e];exact h2 k ∅ ∅
 rcases zI.mp hb with rfl|hb
 ·exact haj
 ·exact Zu haj (lt b hb)
structure Tb (t:SetTable) (n:Nat):Prop where
 fits:t.fits n=true
 rise:zAc t.place
 dum:t.dummies=#[]
theorem qa9{t:SetTable}(hd:t.dummies=#[])(j:Nat):t.slot j≠.dummy:=by
 unfold SetTable.slot;rw[hd]
 dsimp only
 split
 ·exact λz=>nomatch z
 ·have:SetTable.has #[] j=false:=by simp[SetTable.has]
  rw[this];exact λz=>nomatch z
theorem qb2{t:SetTable}(hd:t.dummies=#[]){h:Int}:∀(fuel:Nat)(p:SetTable.Probe)(m:SetTable.Met),p.dummy=none->SetTable.probe.go t (λ_=>h+1) h fuel p=some m->∃j,m=.empty j none/\t.slot j=.empty:=by
 intro fuel
 induction fuel with
 | zero=>intro p m _ e;cases e
 | succ n ih=>
  intro p m hp e;unfold SetTable.probe.go at e;cases hs:t.slot p.j with
  | empty=>
   rw[hs]at e;cases e;exact⟨p.j,by rw[hp],hs⟩
  | dummy=>exact vN hs (qa9 hd _)
  | live i=>
   rw[hs]at e;have hne:(h+1==h)=false:=by simp only[beq_eq_false_iff_ne,ne_eq];omega
   dsimp only at e
   rw[hne]at e;refine ih _ m ?_ e;unfold SetTable.advance
   split
   ·exact hp
   ·exact hp
theorem qaS{t:SetTable}(hd:t.dummies=#[]){h:Int}{slot:Nat}{b:Bool}(e:t.freeSlot h=some (slot,b)):b=false/\t.place[B5]?≠some slot:=by
 unfold SetTable.freeSlot at e;cases q:t.probe (λ_=>h+1) h (t.probeStart h)with
 | none=>rw[q]at e;cases e
 | some m=>
  rw[q]at e;obtain⟨j,rfl,hs⟩:=qb2 hd _ _ m (by rfl) q;cases e;refine⟨rfl,Ou⟩;unfold SetTable.slot at hs
  dsimp only at hs
  have:(t.place[QB]?==some j)=true:=by
   rw[show t.place[QB]?=some j from z];simp
  rw[vH this]at hs;cases hs
theorem qcO(n:Nat):zAc (Array.range n):=by
 unfold zAc;rw[Array.toList_range];exact xx
theorem q36(t:SetTable)(n:Nat):Tb (t.standIn n) n:=by
 refine⟨?_,qcO n,rfl⟩;unfold SetTable.fits SetTable.standIn SetTable.fill;simp;omega
theorem ql4{t:SetTable}{n:Nat}(h:zAc t.place)(hd:t.dummies=#[]):Tb (t.orStandIn n) n:=by
 unfold SetTable.orStandIn
 by_cases z:t.fits n=true
 ·rw[gR];exact⟨z,h,hd⟩
 ·rw[gE];exact q36 t n
theorem qkz(t:SetTable)(n:Nat):(t.orStandIn n).led=t.led:=by
 unfold SetTable.orStandIn
 split <;> rfl
theorem qfw{t:SetTable}{es:nF}{h:Int}{x:vB}(T:Tb t es.size):
  (layNew t es h x).2.2.1=false/\Tb (layNew t es h x).2.1 (layNew t es h x).1.size/\(layNew t es h x).2.1.led=t.led/\(layNew t es h x).1.toList.Perm ((h,x)::es.toList):=by
 unfold layNew;cases q:t.freeSlot h with
 | none=>
  refine⟨rfl,?_,rfl,?_⟩
  ·rw[ZH];exact q36 t _
  ·rw[Zv]
   exact List.perm_append_singleton _ _
 | some p=>
  obtain⟨slot,b⟩:=p;obtain⟨rfl,hn⟩:=qaS T.dum q;have hd:(t.put slot).1.dummies=#[]:=by
   unfold SetTable.put
   dsimp only
   rw[T.dum];simp[SetTable.has]
  refine⟨rfl,ql4 (qaK T.rise hn) hd,(qkz _ _).trans rfl,?_⟩;rw[q56];refine xl wp ?_;rw[yy]
theorem q6E{α:Type}{f:α->Option α}(h:∀x y,f x=some y->y=x):∀l:List α,(l.filterMap f).Sublist l
 | []=>by simp
 | a::r=>by
  rw[yb];cases q:f a with
  | none=>exact(q6E h r).cons a
  | some b=>rw[h a b q];exact(q6E h r).cons_cons a
theorem q7q{α:Type}:∀l:List α,(zY l.length).filterMap (λi=>l[i]?)=l
 | []=>rfl
 | a::r=>by
  rw[zK,w8,yb];simp only[xQ];rw[wV];have e:((λi=>(a::r)[i]?) ∘ Nat.succ)=λi=>r[i]?:=by funext i;simp
  rw[e,q7q r]
theorem qj9{mask finger moves:Nat}{led plain:Bool}{hs:Array Int}{t:SetTable}{o:Fc}(e:SetTable.laid mask finger moves led plain hs=some (t,o)):zAc t.place/\t.dummies=#[]/\t.led=led:=by
 unfold SetTable.laid at e;cases q:SetTable.layClean mask hs with
 | none=>rw[q]at e;cases e
 | some owner=>
  rw[q]at e;cases e;refine⟨?_,rfl,rfl⟩;unfold zAc
  dsimp only
  rw[List.map_filterMap];refine wF (q6E (λx y z=>?_) _) xx;cases q2:owner.getD x none with
  | none=>rw[q2]at z;cases z
  | some c=>rw[q2]at z;exact(zr z).symm
theorem qg4{t:SetTable}{es:nF}(w:Nat):Tb (relayAll t es w).2.1 (relayAll t es w).1.size/\(relayAll t es w).2.1.led=t.led/\(relayAll t es w).1.toList.Perm es.toList:=by
 unfold relayAll;cases q:t.relaid (es.map (·.1)) w with
 | none=>exact RA
 | some p=>
  obtain⟨t',order⟩:=p
  dsimp only
  obtain⟨h1,h2,h3⟩:=qj9 q
  by_cases z:(coversAll order es.size&&t'.fits (order.filterMap (es[·]?)).size)=true
  ·rw[gR]
   rw[zu]at z;refine⟨⟨z.2,h1,h2⟩,h3,?_⟩;have hp:order.toList.Perm P6:=List.isPerm_iff.mp z.1;rw[Array.toList_filterMap];have e:(λ(i:Nat)=>es[i]?)=λ(i:Nat)=>es.toList[i]?:=by funext i;simp
   rw[e];have q2:=hp.filterMap λi=>es.toList[i]?;rw[<- zU,q7q]at q2;exact q2
  ·rw[gE]
   exact RA
end Hk
namespace Hk
open PySem PySem.Spec PyProof.Rows
noncomputable def vI:vB->Int
 | .int i _=>i
 | _=>0
def Ws(e:eM):Prop:=∃x t,e=(sO x,Value.int x t)
theorem qcS{prog:vS}{w:vX}{l:LC}(h:∀e∈l,Ws e):ElemsOf (u7 prog w) l:=λe he=>by
 obtain⟨x,t,rfl⟩:=h e he;exact⟨⟨x,Hz,rfl⟩,rfl⟩
def zAC(h:ve)(a:vC)(led:Bool)(xs:ac):Prop:=∃o es ep t,h.get? a=some o/\o.ExactSet/\o.data=.set es ep t/\Tb t es.size/\t.led=led/\es.size<ud /\
 (∀e∈es.toList,Ws e)/\es.toList.map Dc=xs/\xs.Nodup
theorem zAC.len{h:ve}{a:vC}{led:Bool}{xs:ac}(S:zAC h a led xs):xs.length<ud:=by
 obtain⟨o,es,ep,t,_,_,_,_,_,z,_,e,_⟩:=S;rw[<- e,zB,zU];exact z
theorem zAC.at{h h':ve}{a:vC}{led:Bool}{xs:ac}(S:zAC h a led xs)(k:∀o,h.get? a=some o->h'.get? a=some o):zAC h' a led xs:=by
 obtain⟨o,es,ep,t,e,r⟩:=S;exact⟨o,es,ep,t,k o e,r⟩
theorem qb8{prog:vS}{w:vX}{e:eM}(h:Ws e)(x:Int):(u7 prog w).is x e.2=decide (vI e.2=x):=by
 obtain⟨y,t,rfl⟩:=h;show Value.isInt x (.int y t)=decide (y=x)
 by_cases z:y=x
 ·subst z;simp[Value.isInt]
 ·simp[Value.isInt,z]
theorem qfq{prog:vS}{w:vX}{l:LC}(h:∀e∈l,Ws e){x:Int}(q:l.findIdx? Bu=none):x∉l.map Dc:=λz=>by
 obtain⟨e,he,ex⟩:=za.mp z;have:=List.findIdx?_eq_none_iff.mp q e he;rw[qb8 (h e he),ex]at this;simp at this
theorem qf7{prog:vS}{w:vX}{l:LC}(h:∀e∈l,Ws e){x:Int}{j:Nat}(q:l.findIdx? Bu=some j):x∈l.map Dc:=by
 obtain⟨hj,hp,_⟩:=List.findIdx?_eq_some_iff_getElem.mp q;rw[qb8 (h _ (yC hj))]at hp;exact za.mpr ⟨_,yC hj,of_decide_eq_true hp⟩
section
variable{prog:vS}{w:vX}{A:vc}{E:vB->vF->Prop}{s:vF}
theorem qcg{h:ve}{a:vC}{o:Obj}{es es':nF}{ep:Nat}{t t':SetTable}{led:Bool}{xs:ac}(go:h.get? a=some o)(gx:o.ExactSet)(gd:dO)(T:Tb t' es'.size)(gl:t'.led=led)(gb:es'.size<ud)(gg:∀e∈es'.toList,Ws e)(gv:es'.toList.map Dc=xs)(gn:xs.Nodup):
  (h.update a HR).get? a=some { o with data:=.set es' (ep+1) t' }/\zAC (h.update a HR) a led xs:=by
 have q:=yx HR go (by rw[VI];rfl);rw[VI]at q;exact⟨q,_,es',ep+1,t',q,gx,rfl,T,gl,gb,gg,gv,gn⟩
theorem qf1{g:Bool->Sem Unit}(gw:∀(b:Bool)(s1:vF)(Q':An),Q' () s1->vM ar A (g b) Q' E s1){a:vC}{o:Obj}{es es1:nF}{ep:Nat}{t t2:SetTable}{led:Bool}{xs:ac}(go:gm)(gx:o.ExactSet)(gd:dO)(T:Tb t2 es1.size)(gl:t2.led=led)(gb:es1.size<ud)(gg:∀e∈es1.toList,Ws e)(gv:es1.toList.map Dc=xs)(gn:xs.Nodup){dm:Bool}{R:Option Bool->vF->Prop}(k:∀h' ys,xN a s.heap h'->zAC h' a led ys->ys.Perm xs->R Gj { s with heap:=h' }):
  vM ar A (do
    storeSet a es1 t2
    if (!dm&&t2.tooFull)=true then do
      g (relayAll t2 es1 kT).2.2
      storeSet a (relayAll t2 es1 kT).1 (relayAll t2 es1 kT).2.1
      pure Gj
     else pure Gj) R E s:=by
 refine vA (wpAny_storeSet_of go gd ?_ (fits_of_scanBound gb));obtain⟨g1,S1⟩:=qcg go gx gd T gl gb gg gv gn;have sb:=ZW s.heap a (Obj.putSet es1 t2)
 split
 ·obtain⟨T2,l2,p2⟩:=qg4 (t:=t2) (es:=es1) kT
  generalize relayAll t2 es1 kT=rl at T2 l2 p2 ⊢;obtain⟨es2,t3,gv2⟩:=rl
  dsimp only at T2 l2 p2 ⊢
  have hz:es2.size=es1.size:=by rw[<- zU,p2.length_eq,zU]
  have gb2:es2.size<ud:=by rw[hz];exact gb
  have pv:(es2.toList.map λe=>vI e.2).Perm xs:=by rw[<- gv];exact p2.map _
  refine vA (gw _ _ _ ?_);refine vA (wpAny_storeSet_of g1 rfl ?_ (fits_of_scanBound gb2));obtain⟨_,S2⟩:=qcg g1 gx rfl T2 (l2.trans gl) gb2 (λe he=>gg e (p2.mem_iff.mp he)) rfl (pv.nodup_iff.mpr gn);exact vG (k _ _ (sb.trans (ZW _ a _)) S2 pv)
 ·exact vG (k _ _ sb S1 (xZ _))
theorem qkV{a:vC}{led:Bool}{xs:ac}{x:Int}{tk:Tok}{Q:Ar}(S:zAC s.heap a led xs)(room:xs.length+1<ud)(k:∀b h' ys,xN a s.heap h'->zAC h' a led ys->(x∈xs->ys=xs)->(x∉xs->ys.Perm OD)->Q b { s with heap:=h' }):
  vM ar A (setAddHashed a (.int x tk) (sO x)) Q E s:=by
 obtain⟨o,es,ep,t,go,gx,gd,T,gl,gb,gg,gv,gn⟩:=id S;have hl:es.size=xs.length:=by rw[<- gv,zB,zU]
 have el:ElemsOf (u7 prog w) es.toList:=qcS gg;unfold setAddHashed setAddHashedIn;refine vU (vA RV)
 dsimp only
 rw[byScan_of (knd:=u7 prog w) (x:=.int x tk) rfl gb el];simp only[↓reduceIte];unfold setAddByScan;refine vA (vA (uW (vA (wpAny_setScan_of (knd:=u7 prog w) (k:=x) Hz go gd T.fits el ?_))));cases q:List.findIdx? Bu es.toList with
 | some j=>
  dsimp only
  have hx:x∈xs:=by rw[<- gv];exact qf7 gg q
  refine vG fW;exact k false s.heap xs (Zw a s.heap) S Ij λz=>vN hx z
 | none=>
  dsimp only
  have hx:x∉xs:=by rw[<- gv];exact qfq gg q
  obtain⟨d0,T1,l1,p1⟩:=qfw (t:=t) (es:=es) (h:=sO x) (x:=.int x tk) T;generalize layNew t es (sO x) (.int x tk)=ly at d0 T1 l1 p1 ⊢;obtain⟨es1,t1,dm,gave⟩:=ly
  dsimp only at d0 T1 l1 p1 ⊢
  have gg1:∀e∈es1.toList,Ws e:=λe he=>by
   rcases zI.mp (p1.mem_iff.mp he)with rfl|he
   ·exact⟨x,tk,rfl⟩
   ·exact gg e he
  have pv:(es1.toList.map λe=>vI e.2).Perm OD:=by rw[<- gv];exact p1.map _
  have gn1:(es1.toList.map λe=>vI e.2).Nodup:=pv.nodup_iff.mpr (yk.mpr ⟨hx,gn⟩);have gb1:es1.size<ud:=by
   have:=pv.length_eq;rw[zB,zU,zK]at this;omega
  have gw:∀(b:Bool)(s1:vF)(Q':An),Q' () s1->vM ar A (match b with|true=>rule "set.scan.the-table-gave-way" | false=>pure ()) Q' E s1 :=
   λb s1 Q' z=>by cases b <;> first|exact vG z|exact uW z
  refine vA (gw _ _ _ ?_);have fin:∀h' ys,xN a s.heap h'->zAC h' a led ys->ys.Perm (es1.toList.map λe=>vI e.2)->Q true { s with heap:=h' }:=λh' ys sb S' p=>k true h' ys sb S' (λz=>vN z hx) λ_=>p.trans pv
  split
  ·refine vA ?_
   rw[hashByValue_scannable 8 (x:=Value.int x tk) rfl];refine vG ?_;refine qf1 (λb s1 Q' z=>by cases b <;> first|exact vG z|exact uW z) go gx gd T1 (l1.trans gl) gb1 gg1 rfl gn1 λh' ys sb S' p=>?_;exact vG Tu
  ·refine vA fW
   simp only[↓reduceIte];refine qf1 (λb s1 Q' z=>by cases b <;> first|exact vG z|exact uW z) go gx gd T1 (l1.trans gl) gb1 gg1 rfl gn1 λh' ys sb S' p=>?_;exact vG Tu
end
def zBG(h:ve)(S:vC)(led:Bool)(val:U6)(m:Nat):Prop:=∃xs,zAC h S led xs/\xs.length<=m/\∀x,x∈xs↔∃i,i<m/\val i=x
theorem zBG.at{h h':ve}{a:vC}{led:Bool}{val:U6}{m:Nat}(S:zBG h a led val m)(k:∀o,h.get? a=some o->h'.get? a=some o):zBG h' a led val m:=by
 obtain⟨xs,q,r⟩:=S;exact⟨xs,q.at k,r⟩
section
variable{prog:vS}{w:vX}{A:vc}{R:tV->vF->Prop}{I:vC}{fp wr:List vC}{G:Array sB->Array sB->Prop}{n:Nat}{P:Nat->vB->Prop}{St:Nat->vF->Prop}
theorem zBj(W:WalksS prog w A.in1 I fp wr G n P St)(S:vC)(hS:S∉fp){led:Bool}(val:U6)(hv:∀i v,P i v->∃t,v=.int (val i) t)(hb:n+1<ud):
  ∀(k i:Nat)(s:vF),n-i=k->i<=n->St i s->zBG s.heap S led val i->(∀s',Moved (S::wr) G s s'->zBG s'.heap S led val n->R (.ok (.ret .none)) s') ->
   uU ar A (.builtin "set.update.loop" ⟨[gF,DN],[]⟩) R s:=by
 have hw:S∉wr:=λz=>hS (W.sub _ z);have hsub:∀b∈wr,b∈S::wr:=λb z=>zH _ z;intro k
 induction k with
 | zero=>
  intro i s hk hi st SV hR;have hin:i=n:=∅
  subst hin;refine v8 PyProof.Rows.F.entry_set_update_loop ?_;rw[AL];show vM _ A.in1 (uO DN >>= _) _ _ s;refine vA (W.done s _ _ st λs' hm=>?_);show vM _ A.in1 aaz _ _ s';exact vG (hR s' (hm.mono hsub) (SV.at λo e=>hm.heap S o hw e))
 | succ k ih=>
  intro i s hk hi st SV hR;have hlt:i<n:=∅
  refine v8 PyProof.Rows.F.entry_set_update_loop ?_;rw[AL];show vM _ A.in1 (uO DN >>= _) _ _ s;refine vA (W.item i s _ _ hlt st λv s1 hP st1 hm=>?_);obtain⟨t,rfl⟩:=hv i v hP;obtain⟨xs,S1,hl,hx⟩:=SV.at (h':=s1.heap) λo e=>hm.heap S o hw e;show vM _ A.in1 (holding [Value.int (val i) t] (setAdd S (.int (val i) t)) >>= _) _ _ s1;refine vA Vx;unfold setAdd;refine vU ?_;refine vA ((u7 prog w).pyHash (k:=val i) Hz ?_);refine qkV (s:={ s1 with toks:=s1.toks+1 }) (x:=val i) S1 ∅ λb h' ys sb S2 y1 y2=>?_;have SV2:zBG h' S led val (i+1):=by
   refine⟨ys,S2,?_,λx=>?_⟩
   ·by_cases z:val i∈xs
    ·rw[y1 z];omega
    ·rw[(y2 z).length_eq,zK];omega
   ·by_cases z:val i∈xs
    ·rw[y1 z,hx]
     refine⟨λ⟨j,h1,h2⟩=>GX,λ⟨j,h1,h2⟩=>?_⟩
     by_cases e:j=i
     ·subst e;exact(hx x).mp (by rw[<- h2];exact z)
     ·exact GX
    ·rw[(y2 z).mem_iff,zI,hx]
     refine⟨λh=>?_,λ⟨j,h1,h2⟩=>?_⟩
     ·rcases h with h|⟨j,h1,h2⟩
      ·exact⟨i,∅,h.symm⟩
      ·exact GX
     ·by_cases e:j=i
      ·subst e;exact .inl h2.symm
      ·exact .inr GX
  refine vG ⟨v9 PyProof.Rows.F.plain_set_update_loop _,ih (i+1) _ ∅ hlt (W.frame _ s1 _ _ st1 QP λb z o e=>?_) SV2 λs2 hm2 S3=>?_⟩
  ·rw[sb.2 b (λy:b=S=>hS (by rw[<- y];exact z))];exact e
  ·refine hR s2 (Moved.trans W.gtrans ((hm.mono hsub).then_heap QP λb o z e=>?_) hm2) S3
   rw[sb.2 b (λy:b=S=>z (by rw[y];exact zG))];exact e
end
noncomputable abbrev Xh(w:vX):Bool:=!w.params.followText "set-order"
section
variable{prog:vS}{w:vX}{A:vc}{E:vB->vF->Prop}{s:vF}
theorem qi7(a:vB){Q1:aO}(h:Q1 aJ { s with heap:=s.heap.push { cls:=.type "set", data:=.set #[] 0 gP } }):
  uU ar A (.call (.builtin "set.__new__") LJ) (wants Q1 E) s:=by
 refine codeAny_of_tree ?_;show vM _ A.in1 (checkBuiltinCall "set.__new__" LJ >>= λ_=>again (.builtin "set.__new__" LJ)) _ _ s;refine vA (tX (PySem.F.newCall_set_1 a) (vG ⟨v9 PySem.F.plain_set_new _,v8 PySem.F.entry_set_new ?_⟩));rw[Around.under_plainId PySem.F.plain_set_new _];unfold Builtin.«set.__new__» Builtin.Frozenset.newClass;have p1:=sub_set_self;obtain⟨hp,g,d,tk,os⟩:=s
 dsimp only
 wp_walk
 refine tN fW
 dsimp only
 simp only[newObj];refine vA (wpAny_alloc fW);exact vG h
set_option maxHeartbeats 3200000 in
theorem qb1{l:vC}{items:fj}{ns:ac}{Q:aO}(hh:dH)(il:Gn)(ia:uJ items.toList ns)(hb:items.size+1<ud)(k:∀(h':ve)(tk:Nat),zBG h' s.heap.objs.size Rf jj items.size->(∀b o,b<s.heap.objs.size->s.heap.get? b=some o->h'.get? b=some o)->Q aJ { s with heap:=h',toks:=tk }):
  vM ar A (call oB [c9]) Q E s:=by
 obtain⟨c,tl,c1⟩:=PySem.F.called_set.mro;have c2:=PySem.F.called_set.made;have c3:=PySem.F.called_set.sub;refine t8 (codeAny_of_tree ?_);show vM _ _ (callAny oB _) _ _ _;refine vG ⟨Code.quiet_builtin _ ⋯,v8 PySem.F.entry_type_call ?_⟩;rw[Around.under_plain (weight_type_call_type "set" [c9] []) rfl];have c4:=PySem.F.called_set.notType;have c5:=PySem.F.called_set.canCreate;have c6:=PySem.F.typeCall_set_1 c9
 repeat (any_goals (first|assumption|wp_step))
 refine uV (qi7 c9 (E:=E) (Q1:=λobj s1=>obj=.ref s.heap.objs.size/\s1={ s with heap:=s.heap.push { cls:=.type "set", data:=.set #[] 0 gP } }) bQ) λr s1 hr=>?_;cases r with
 | error e=>exact hr
 | ok fl=>
  cases fl with
  | ret obj=>
   obtain⟨rfl,rfl⟩:=hr;have hS:(s.heap.push { cls:=.type "set", data:=.set #[] 0 gP }).get? s.heap.objs.size=some { cls:=.type "set", data:=.set #[] 0 gP }:=zW _ rfl;have hT:Shared.TypeIs { s with heap:=s.heap.push { cls:=.type "set", data:=.set #[] 0 gP } } aJ "set" := ⟨_,hS,rfl⟩;have c7:=PySem.F.called_set.init.lookup;have c8:=PySem.F.called_set.init.bind aJ
   repeat (any_goals (first|assumption|wp_step))
   refine uV (codeAny_call_builtin (R:=wants (λr s2=>r=.none/\∃h' tk,s2={ s with heap:=h',toks:=tk }/\zBG h' s.heap.objs.size Rf jj items.size /\
     (∀b o,b<s.heap.objs.size->s.heap.get? b=some o->h'.get? b=some o)) E) PySem.F.called_set.init.plain PySem.F.entry_set_init (check_set_init_1 hT ?_)) λr2 s2 hr2=>?_
   ·obtain⟨ol,e1,e2,nl,e3⟩:=il
    obtain⟨ocls,odict,odata,oslots⟩:=ol;simp only at e2 e3;subst e2;subst e3;have e1':(s.heap.push { cls:=.type "set", data:=.set #[] 0 gP }).get? l=some { cls:=.type "list", dict:=odict,data:=.seq items nl,slots:=oslots }:=zF _ e1;have d1:=PySem.F.sub_list_set;have d2:=PySem.F.sub_list_frozenset;have d3:(Value.type "list" == Value.type "dict")=false:=by decide
    have il1:(s.heap.push { cls:=.type "set", data:=.set #[] 0 gP }).IsList l items:=⟨_,e1',rfl,nl,rfl⟩;unfold Builtin.«set.__init__» noKeywords Builtin.Frozenset.updateFrom;generalize hPI:sR=PI
    wp_walk
    subst hPI;refine ua il1 ?_;refine vA (wpAny_runValue ?_);have lS:l<s.heap.objs.size:=zS e1;have h3:A.in1.in1.in1.handled=none:=by simp[hh]
    have nI:l≠(s.heap.push { cls:=.type "set", data:=.set #[] 0 gP }).objs.size:=by rw[yc];exact zt (yS lS)
    have nS:s.heap.objs.size∉[(s.heap.push { cls:=.type "set", data:=.set #[] 0 gP }).objs.size,l]:=by
     rw[yc];simp only[zI,zV,zg,or_false,not_or];exact⟨zt QQ,xb lS⟩
    have hv:∀(i:Nat)(v:vB),items[i]?=some v->∃t,v=.int ((λi=>ns.getD i 0) i) t:=λi v z=>IntsAre.int_at ia i v (by rw[zj];exact z);refine zBj ((Walks.list h3 _ l nI items).toS) s.heap.objs.size nS (led:=Xh w) jj hv hb (items.size-0) 0 _ ∅ Cf ⟨rj,(il1.push _)⟩ ?S0 ?RR
    case S0=>
     refine⟨[],⟨_,#[],0,.fresh 0 0 Rf,zF _ hS,aa7,rfl,⟨rfl,xv,rfl⟩,rfl,by show 0<ud;decide,λe z=>by simp at z,rfl,xa⟩,cP,λx=>⟨λz=>(by cases z),λ⟨i,z,_⟩=>vN z Ug⟩⟩
    case RR=>
     intro s' hm S';obtain⟨h',g',d',tk',os'⟩:=s';have eg:g'=s.gens:=hm.gens;have ed:d'=s.drawn:=hm.drawn;have eos:os'=s.os:=hm.os;subst eg;subst ed;subst eos;show vM _ _ _ _ _ _;refine vG ?_;show vM _ _ aaz _ _ _;refine vG ⟨rfl,h',tk',rfl,S',λb o z y=>?_⟩;refine hm.heap b o ?_ (zF _ (zF _ y));simp only[zI,zV,zg,or_false,not_or];exact⟨zt z,by rw[yc];exact zt (yS z)⟩
   ·cases r2 with
    | error e=>exact hr2
    | ok fl2=>
     cases fl2 with
     | ret r=>
      obtain⟨rfl,h',tk,rfl,S',kp⟩:=hr2
      repeat (any_goals (first|assumption|wp_step))
      exact k _ _ S' kp
     | next=>exact hr2.elim
     | brk=>exact hr2.elim
     | cont=>exact hr2.elim
  | next=>exact hr.elim
  | brk=>exact hr.elim
  | cont=>exact hr.elim
end
end Hk
namespace PySem.F
theorem slotSetNext:Slot "set_iterator" "__next__" "set_iterator.__next__" := .of (owner := "set_iterator") (n := "__next__") (by rw[uM,v3];kernel_rfl) ⋯ ⋯ ⋯ (by first|exact .inl ⋯|exact .inr ⋯) (by rw[uk];kernel_rfl)
theorem slotSetIt:Slot "set_iterator" "__iter__" "set_iterator.__iter__" := .of (owner := "set_iterator") (n := "__iter__") (by rw[uM,v3];kernel_rfl) ⋯ ⋯ ⋯ (by first|exact .inl ⋯|exact .inr ⋯) (by rw[uk];kernel_rfl)
theorem zAI:Manifest.owners.lookup (String.ofList ['r','o','t','a','r','e','t','i','_','t','e','s'].reverse)=some Manifest.sig_set_iterator:=by kernel_rfl
theorem argsSetNext(a:vB):sT "set_iterator.__next__" RC:=by
 unfold sT;rw[signature?_of (id := "set_iterator.__next__") (n:=['_','_','t','x','e','n','_','_']) (o:=['r','o','t','a','r','e','t','i','_','t','e','s']) (by kernel_rfl) zAI]
 kernel_rfl
theorem argsSetIt(a:vB):sT "set_iterator.__iter__" RC:=by
 unfold sT;rw[signature?_of (id := "set_iterator.__iter__") (n:=['_','_','r','e','t','i','_','_']) (o:=['r','o','t','a','r','e','t','i','_','t','e','s']) (by kernel_rfl) zAI]
 kernel_rfl
theorem entSetNext:entryFor table "set_iterator.__next__" = some Builtin.«set_iterator.__next__»:=entryFor_of_tree (by kernel_rfl)
theorem entSetIter:entryFor table "set.__iter__" = some Builtin.«frozenset.__iter__»:=entryFor_alias (id' := "frozenset.__iter__") (by kernel_rfl) rfl ⋯ (by kernel_rfl)
theorem entSetIt:entryFor table "set_iterator.__iter__" = some Builtin.«dict_keyiterator.__iter__»:=entryFor_alias (id' := "dict_keyiterator.__iter__") (by kernel_rfl) rfl ⋯ (by kernel_rfl)
end PySem.F
namespace Hk
open PySem PySem.Spec PyProof.Rows
section
variable{prog:vS}{w:vX}{A:vc}{E:vB->vF->Prop}{s:vF}
theorem q4E{α:Type}:∀(l:bJ)(k:Nat)(h:k<l.length),(l[k]::l.eraseIdx k).Perm l
 | a::r,0,_=>xZ _
 | a::r,k+1,h=>by
  have h':k<r.length:=by simpa using h
  show (r[k]::a::r.eraseIdx k).Perm (a::r);exact(List.Perm.swap a r[k] _).trans ((q4E r k h').cons a)
theorem qbf{α:Type}(next:Nat->Nat):∀(fuel k:Nat)(left:bJ)(out:Array α),left.length=fuel->(pickOrder.go next fuel k left out).toList.Perm (out.toList++left)
 | 0,k,left,out,h=>by
  have e:left=[]:=yp h;subst e;unfold pickOrder.go;rw[zn]
 | fuel+1,k,left,out,h=>by
  unfold pickOrder.go;have hlt:next k%left.length<left.length:=Nat.mod_lt _ ∅
  rw[J8]
  dsimp only
  refine(qbf next fuel (k+1) _ _ (by rw[wX hlt,h];rfl)).trans ?_;rw[Zv,yB];exact xM _ (q4E left _ hlt)
theorem qem{α:Type}(next:Nat->Nat)(xs:Array α):(uw next xs).toList.Perm xs.toList:=by
 have:=qbf next xs.size 0 xs.toList #[] (by simp)
 simpa [uw]using this
theorem qez{M:Model}{src:Source}{n:Nat}{Q:Nat->vF->Prop}(hn:n≠0)(h:Q (M.w.draws src (s.drawn.get src)%n) { s with drawn:=s.drawn.bump src }):vM M A (choose src n) Q E s:=λ_ _ _=>⟨hn,h⟩
theorem q5p{M:Model}{α:Type}:∀(n:Nat)(xs:bJ)(s:vF)(Q:List α->vF->Prop),xs.length=n->(∀ys d,ys.Perm xs->Q ys { s with drawn:=d })->vM M A (drawOrder n xs) Q E s
 | 0,xs,s,Q,hl,h=>by
  have e:xs=[]:=yp hl;subst e;exact vG (h [] s.drawn (xZ _))
 | n+1,[],s,Q,hl,h=>by cases hl
 | n+1,x::r,s,Q,hl,h=>by
  unfold drawOrder;refine vA (qez (by simp) ?_);generalize hk:M.w.draws Source.order (s.drawn.get Source.order)%(x::r).length=k;have hlt:k<(x::r).length:=by rw[<- hk];exact Nat.mod_lt _ (by simp)
  rw[J8]
  dsimp only
  have hl2:((x::r).eraseIdx k).length=n:=by rw[wX hlt,hl];rfl
  refine vA (q5p n _ _ _ hl2 λys d p=>vG (h _ d ?_));refine xl (p.cons _) ?_;exact q4E _ k hlt
end
noncomputable abbrev WE(f:vB)(i:Nat)(a:vC)(n ep:Nat):Obj:={ cls:=.type "set_iterator", data:=.fields #[f,.int i 0,dJ,.int n 0,.int ep 0] }
section
variable{prog:vS}{w:vX}{A:vc}{E:vB->vF->Prop}{s:vF}
theorem q1M{a:vC}{o:Obj}{es:nF}{ep:Nat}{t:SetTable}{Q:aaU}(go:gm)(gd:dO)(gf:fG)(h:Q es s):vM ar A (setEntries a) Q E s:=by
 unfold setEntries;exact vA (v5 go gd gf (vG h))
theorem qeR{it a:vC}{slot i n ep:Nat}{o:Obj}{es:nF}{t:SetTable}{x:vB}{nxt:Nat}{Q:iU}(e:DI)(go:gm)(gd:dO)(gf:fG)(hn:Ra)(hnext:∀A' Q' E',Q' (some (x,nxt)) s->vM ar A' DY Q' E' s)(k:∀h',h'.get? it=some (WE (.int nxt 0) (i+1) a n ep)->xN it s.heap h'->Q (some x) { s with heap:=h' }):
  vM ar A M5 Q E s:=by
 have hT:s.TypeIs ig "set_iterator" := gC;unfold uO;refine vA bb;unfold Builtin.«set_iterator.__next__»;refine vA (m:=sD "__next__" 0 Ja) fW;refine vA Im
 dsimp only
 refine vA CK;rw[vJ (by rw[hn];simp)];simp only[yK];refine vA aaF
 dsimp only
 refine vA (uH e (by simp) λh1 e1 sb1=>?_);refine vA (uH (s:={ s with heap:=h1 }) e1 (by simp) λh2 e2 sb2=>?_);refine vG ⟨_,rfl,vG (k h2 ?_ (sb1.trans sb2))⟩;rw[e2];simp[uT]
theorem qfi{it a:vC}{slot i n ep:Nat}{o:Obj}{es:nF}{t:SetTable}{Q:iU}(hh:dH)(e:DI)(go:gm)(gd:dO)(gf:fG)(hn:Ra)(hnext:∀A' Q' E',Q' none s->vM ar A' DY Q' E' s)(k:∀h',Heap.ExtBut it s.heap h'->Q none { s with heap:=h' }):
  vM ar A M5 Q E s:=by
 have hT:s.TypeIs ig "set_iterator" := gC;unfold uO;refine vA bb;unfold Builtin.«set_iterator.__next__»;refine vA (m:=sD "__next__" 0 Ja) fW;refine vA Im
 dsimp only
 refine vA CK;rw[vJ (by rw[hn];simp)];simp only[yK];refine vA aaF
 dsimp only
 refine vA (uH e (by simp) λh1 e1 sb1=>?_);show vM _ _ (newExc PH [] >>= λx=>sU x) _ _ _;refine vA ?_;simp only[newExc,newTuple];refine vA (vi ?_ (by size_fits));refine vA (m:=tF _ _) (tX (a:=Value.none) (by first|rfl|(simp only[tF];rfl)) ?_);refine vi ?_ (by size_fits);simp only[sU];refine vA Ui;rw[show A.in1.handled=none from hh];refine vA QU;refine vA (uR (T := "StopIteration") (b:=true) Op tG ?_);exact vG (k _ ((sb1.extBut.push _).push _))
end
section
variable{prog:vS}{w:vX}{A:vc}{E:vB->vF->Prop}{s:vF}
theorem q3L{Q:Ar}(h:Q (w.params.followText "set-order") s):vM ar A setsByText Q E s:=by
 unfold setsByText;exact vA (tN (vG h))
theorem q7h{a:vC}{o:Obj}{es:nF}{ep:Nat}{t:SetTable}{slot i:Nat}{r:Option (vB×Nat)}{Q:O6}(go:gm)(gd:dO)(gf:fG)(hB:w.params.followText "set-order" = false)(hl:t.led=true)(hd:(!t.plain&&decide (es.size>1))=false)(hr:(match es[B5]?,t.place[B5]? with|some (_,x),some j=>some (x,j+1)|_,_=>none)=r)(h:Q r s):vM ar A DY Q E s:=by
 unfold u9;refine vA DW
 dsimp only
 refine vA (q3L ?_);rw[hB];refine vY (λz=>vN z (by decide)) fJ;refine vY (λz=>vN ((show (!t.plain&&decide (es.size>1))=true from z).symm.trans hd) (by decide)) fJ;refine vA ?_;refine vY Ou fJ
 ·have z':(!t.led && !es.isEmpty)=true:=z
  rw[hl]at z';exact vN z' (by simp)
 ·refine vG ?_
  refine vG ?_;rw[<- hr]at h;exact h
theorem qen{a:vC}{o:Obj}{es:nF}{ep:Nat}{t:SetTable}{Q:aaU}(go:gm)(gd:dO)(gf:fG)(hB:Hd)(h:Q (uw gX es) s):vM ar A (setWalk a) Q E s:=by
 unfold setWalk;refine vA DW
 dsimp only
 refine vA (q3L ?_);rw[hB];refine vY fJ aba;exact vA (tN (vG h))
theorem q8i{a:vC}{o:Obj}{es:nF}{ep:Nat}{t:SetTable}{slot i:Nat}{Q:O6}(go:gm)(gd:dO)(gf:fG)(hB:Hd)(h:Q (((uw gX es)[i]?).map λe=>(e.2,slot)) s):vM ar A DY Q E s:=by
 unfold u9;refine vA DW
 dsimp only
 refine vA (q3L ?_);rw[hB];refine vY fJ aba;refine vY (λz=>vN z (by simp)) fJ;exact vA (qen go gd gf hB (vG h))
theorem qbk{it:vC}{f:vB}{i:Nat}{a:vC}{n ep:Nat}{Q:aO}(e:s.heap.get? it=some (WE f i a n ep))(h:Q ig s):vM ar A (sR ig) Q E s:=by
 have hT:s.TypeIs ig "set_iterator" := gC;refine wpAny_pyIter_slot hT F.slotSetIt (vq F.slotSetIt hT F.entSetIt ?_ (F.argsSetIt _));show vM _ _ (ret ig) _ _ s;exact vG ⟨_,rfl, "set_iterator", _,hT,F.slotSetNext.lookup,h⟩
theorem qd5(hh:dH){I a:vC}(hne:a≠I){o:Obj}{es:nF}{ep:Nat}{t:SetTable}(gd:dO)(gf:fG)(slot:Nat->Nat)(val:Nat->vB)(hn:∀(i:Nat)(s:vF),i<es.size->s.heap.get? a=some o->∀A' Q' E',Q' (some (val i,slot (i+1))) s->vM ar A' RY Q' E' s)(hz:∀(s:vF),s.heap.get? a=some o->∀A' Q' E',Q' none s->vM ar A' JC Q' E' s):
  Walks prog w A I [I,a] [I] es.size aah (λi h=>h.get? I=some GP/\h.get? a=some o) where
 sub:=λb hb=>by simp at hb;simp[hb]
 frame:=λ_ _ _ st hk=>⟨hk I (by simp) _ st.1,hk a (by simp) _ st.2⟩
 item:=λi s Q E hi st hQ=>by
  refine qeR st.1 st.2 gd gf rfl (hn i s hi st.2) λh' e' sb=>?_;exact hQ _ h' s.toks rfl ⟨e',sb.extBut a o hne st.2⟩ λb u hb e=>sb.extBut b u (λz=>hb (by simp[z])) e
 done:=λs Q E st hQ=>qfi hh st.1 st.2 gd gf rfl (hz s st.2) λh' eb=>hQ h' s.toks λb u hb e=>eb b u (λz=>hb (by simp[z])) e
 self:=λ_ _ _ _ st hQ=>qbk st.1 hQ
theorem qdp{it a tp:vC}{i n ep p:Nat}{o:Obj}{es:nF}{t:SetTable}{x:eM}{ps:fj}{ot:Obj}{nt:Nat}{Q:iU}(e:EZ)(go:gm)(gd:dO)(gf:fG)(hn:Ra)(gt:R4)(gtd:aaC)(hp:ps[i]?=some (.int p 0))(hx:es[p]?=some x)(k:∀h',h'.get? it=some (WE ace (i+1) a n ep)->xN it s.heap h'->Q (some x.2) { s with heap:=h' }):
  vM ar A M5 Q E s:=by
 have hT:s.TypeIs ig "set_iterator" := gC;unfold uO;refine vA bb;unfold Builtin.«set_iterator.__next__»;refine vA (m:=sD "__next__" 0 Ja) fW;refine vA Im
 dsimp only
 refine vA CK;rw[vJ (by rw[hn];simp)];refine vA acA
 dsimp only
 simp only[yK];rw[hp]
 dsimp only
 unfold setNextDrawn;refine vA (vA DW)
 dsimp only
 refine vY (λz=>vN z (by simp)) fJ;simp only[yK];rw[hx];refine vG ?_;refine vA (uH e (by simp) λh1 e1 sb1=>?_);refine vG ⟨_,rfl,vG (k h1 ?_ sb1)⟩;rw[e1];simp[uT]
theorem qd9{it a tp:vC}{i n ep:Nat}{o:Obj}{es:nF}{t:SetTable}{ps:fj}{ot:Obj}{nt:Nat}{Q:iU}(hh:dH)(e:EZ)(go:gm)(gd:dO)(gf:fG)(hn:Ra)(gt:R4)(gtd:aaC)(hp:ps[i]?=none)(k:∀h',Heap.ExtBut it s.heap h'->Q none { s with heap:=h' }):
  vM ar A M5 Q E s:=by
 have hT:s.TypeIs ig "set_iterator" := gC;unfold uO;refine vA bb;unfold Builtin.«set_iterator.__next__»;refine vA (m:=sD "__next__" 0 Ja) fW;refine vA Im
 dsimp only
 refine vA CK;rw[vJ (by rw[hn];simp)];refine vA acA
 dsimp only
 simp only[yK];rw[hp]
 dsimp only
 refine vA (uH e (by simp) λh1 e1 sb1=>?_);refine vA (uH (s:={ s with heap:=h1 }) e1 (by simp) λh2 e2 sb2=>?_);show vM _ _ (newExc PH [] >>= λx=>sU x) _ _ _;refine vA ?_;simp only[newExc,newTuple];refine vA (vi ?_ (by size_fits));refine vA (m:=tF _ _) (tX (a:=Value.none) (by first|rfl|(simp only[tF];rfl)) ?_);refine vi ?_ (by size_fits);simp only[sU];refine vA Ui;rw[show A.in1.handled=none from hh];refine vA QU;refine vA (uR (T := "StopIteration") (b:=true) Op tG ?_);exact vG (k _ (((sb1.trans sb2).extBut.push _).push _))
theorem qaW(hh:dH){I a tp:vC}(hne:a≠I)(htp:tp≠I){o:Obj}{es:nF}{ep:Nat}{t:SetTable}(gd:dO)(gf:fG){ot:Obj}{nt:Nat}(ord:cH)(hp:ord.Perm P6)(gtd:ot.data=.seq (ord.map λ(i:Nat)=>uT i).toArray nt):
  Walks prog w A I [I,a,tp] [I] es.size (λi v=>∃p x,ord[i]?=some p/\es[p]?=some x/\v=x.2) (λi h=>h.get? I=some (WE ace i a es.size ep)/\h.get? a=some o/\h.get? tp=some ot) where
 sub:=λb hb=>by simp at hb;simp[hb]
 frame:=λ_ _ _ st hk=>⟨hk I (by simp) _ st.1,hk a (by simp) _ st.2.1,hk tp (by simp) _ st.2.2⟩
 item:=λi s Q E hi st hQ=>by
  have hl:ord.length=es.size:=by rw[hp.length_eq,zh]
  have ho:ord[i]?=some (ord[i]'∅):=zD _;have hlt:ord[i]'∅<es.size:=yO.mp (hp.mem_iff.mp Vu);refine qdp (p:=ord[i]'∅) (x:=es[ord[i]'∅]) st.1 st.2.1 gd gf rfl st.2.2 gtd (by simp[uT,ho]) (by simp[hlt]) λh' e' sb=>?_;exact hQ _ h' s.toks ⟨_,_,ho,by simp[hlt],rfl⟩ ⟨e',sb.extBut a o hne st.2.1,sb.extBut tp ot htp st.2.2⟩ λb u hb e=>sb.extBut b u (λz=>hb (by simp[z])) e
 done:=λs Q E st hQ=>qd9 hh st.1 st.2.1 gd gf rfl st.2.2 gtd (by simp[hp.length_eq]) λh' eb=>hQ h' s.toks λb u hb e=>eb b u (λz=>hb (by simp[z])) e
 self:=λ_ _ _ _ st hQ=>qbk st.1 hQ
end
end Hk
namespace PySem.F
theorem slotSetLen:uv oB "__len__" = pure (some (.builtin "set.__len__")):=by rw[uM,v3];kernel_rfl
theorem slotSetIter:Slot "set" "__iter__" "set.__iter__" := .of (owner := "set") (n := "__iter__") (by rw[uM,v3];kernel_rfl) ⋯ ⋯ ⋯ (by first|exact .inl ⋯|exact .inr ⋯) (by rw[uk];kernel_rfl)
theorem argsSetIter(a:vB):sT "set.__iter__" RC:=by
 unfold sT;kernel_rfl
end PySem.F
namespace Hk
open PySem PySem.Spec PyProof.Rows
noncomputable def slotAt(xs:Fc):Nat->Nat
 | 0=>0
 | i+1=>xs.toList.getD i 0+1
theorem q76{xs:Fc}(h:zAc xs):∀i,i<=xs.size->SetTable.below xs (slotAt xs i)=i:=by
 intro i hi;obtain⟨h1,h2,h3⟩:=q9C h (slotAt xs i);have hz:xs.toList.length=xs.size:=zU;cases i with
 | zero=>
  rcases Zj (SetTable.below xs (slotAt xs 0))with z|z
  ·exact z
  ·exact vN (h2 0 ∅ z) Ug
 | succ i=>
  have hlt:i<xs.toList.length:=∅
  have e:slotAt xs (i+1)=xs.toList[i]+1:=by
   show xs.toList.getD i 0+1=_;rw[zT,J8];rfl
  rw[e]at h2 h3 h1 ⊢;generalize SetTable.below xs (xs.toList[i]+1)=b at h1 h2 h3 ⊢;have a1:i<b:=by
   rcases yD i b with z|z
   ·exact z
   ·have:=h3 i hlt z;omega
  have a2:b<=i+1:=by
   rcases yD (i+1) b with z|z
   ·have y:=h2 (i+1) ∅ z
    have y':=q68 h hlt (show i+1<xs.toList.length by omega) (yW i);omega
   ·exact z
  omega
theorem qdF{val:Nat->vB}{n:Nat}{acc:fj}(h:ItemsOf aah acc n):acc.toList=(zY n).map val:=by
 apply xB;intro i;rw[zj,zX];rcases yD i n with z|z
 ·rw[yn z]
  have hz:i<acc.size:=by rw[h.1];exact z
  have:acc[i]?=some acc[i]:=yE hz;rw[this,h.2 i _ this];rfl
 ·rw[zx (by rw[zh];exact z),yf (by rw[h.1];exact z)];rfl
theorem q8B:∀{l:LC},(∀e∈l,Ws e)->uJ (l.map (·.2)) (l.map λe=>vI e.2)
 | [],_=>.nil
 | e::r,h=>by
  obtain⟨x,t,rfl⟩:=h e zG;exact .cons _ _ (q8B λe he=>h e Kz)
section
variable{prog:vS}{w:vX}{A:vc}{E:vB->vF->Prop}{s:vF}
theorem qgA{r:vC}{Q:Ar}(hT:s.TypeIs (.ref r) "set")(h:Q false s):vM ar A GA Q E s:=by
 unfold Builtin.List.listLengthHint;refine vA (uY hT F.slotSetLen ?_);generalize hid:("set.__len__" : String)=id0
 wp_delta
 rw[show splitId id0=some ("set", "__len__")from by subst hid;decide +kernel];subst hid;refine vA (uR (T := "set") (b:=true) hT (by rw[uk];kernel_rfl) ?_);refine vY (λhab=>vN hab (by decide)) fJ;refine vY fJ Tg;refine vA (uc hT ?_);exact vG h
theorem qge{a:vC}{xs:ac}{Q:aO}(S:sr)(k:∀(h':ve)(d:Drawn)(I:vC)(fp:eJ)(P:Nat->vB->Prop)(St:Nat->ve->Prop),(∀b o,s.heap.get? b=some o->h'.get? b=some o)->s.heap.objs.size<=I->(∀b∈fp,b=a\/s.heap.objs.size<=b) ->
   (∀A:vc,A.handled=none->Walks prog w A I fp [I] xs.length P St)->St 0 h'->(∀acc:Array vB,ItemsOf P acc xs.length->∃ys,uJ acc.toList ys/\ys.Perm xs)->(∀b∈fp,b<h'.objs.size)->Q DN { s with heap:=h',drawn:=d }) :
  vM ar A (sR dJ) Q E s:=by
 obtain⟨o,es,ep,t,go,gx,gd,T,gl,gb,gg,gv,gn⟩:=id S;have hl:es.size=xs.length:=by rw[<- gv,zB,zU]
 have hlt:a<s.heap.objs.size:=zS go;have hps:t.place.size=es.size:=by
  have:=T.fits;unfold SetTable.fits at this;simp only[zu,beq_iff_eq]at this;exact this.1
 have hT:s.TypeIs dJ "set" := ⟨o,go,gx.1⟩;refine wpAny_pyIter_slot hT F.slotSetIter (vq F.slotSetIter hT F.entSetIter ?_ (F.argsSetIter _));unfold Builtin.«frozenset.__iter__» Builtin.Frozenset.slot0 Builtin.Frozenset.sizeOf;refine vA ?_;refine vA (m:=sD "__iter__" 0 PY) fW;show vM _ _ (pure a) _ _ s;refine vG ?_;refine vA (vA (q1M go gd T.fits fW));refine vA ?_;unfold setDrawn;refine vA RV
 dsimp only
 refine vA (q3L fW);have perm_ok:∀(l:LC),l.Perm es.toList->∃ys,uJ (l.map (·.2)) ys/\ys.Perm xs:=λl p=>
  ⟨_,q8B λe he=>gg e (p.mem_iff.mp he),by rw[<- gv];exact p.map _⟩
 have slots:∀(slot:Nat->Nat)(l:LC),slot 0=0->l.Perm es.toList ->
   (∀(i:Nat)(s:vF),i<es.size->s.heap.get? a=some o->∀A' Q' E',Q' (some ((l.map (·.2)).getD i .none,slot (i+1))) s->vM ar A' RY Q' E' s) ->
   (∀(s:vF),s.heap.get? a=some o->∀A' Q' E',Q' none s->vM ar A' JC Q' E' s) ->
   Q aJ { s with heap:=s.heap.push E8 }:=λslot l h0 p hn hz=>by
  have:=k (s.heap.push E8) s.drawn s.heap.objs.size [s.heap.objs.size,a] (λi v=>v=(l.map (·.2)).getD i .none) (λi h=>h.get? s.heap.objs.size=some GP/\h.get? a=some o)
   (λb u e=>zF _ e) cP (λb hb=>by
    simp only[zI,zg,or_false]at hb;rcases hb with rfl|rfl
    ·exact .inr cP
    ·exact .inl rfl) (λA hh=>by rw[<- hl];exact qd5 hh MV gd T.fits slot _ hn hz) ⟨jH,zF _ go⟩ (λacc hacc=>by
    rw[qdF hacc];obtain⟨ys,y1,y2⟩:=perm_ok l p;have e:(zY xs.length).map (λi=>(l.map (·.2)).getD i .none)=l.map (·.2):=by
     apply xB;intro i;have hll:l.length=xs.length:=by rw[p.length_eq,zU,hl]
     rw[zX];rcases yD i xs.length with z|z
     ·rw[yn z]
      show some ((l.map (·.2)).getD i .none)=_;rw[zT,zD (by rw[zB,hll];exact z)];rfl
     ·rw[zx (by rw[zh];exact z),zx (by rw[zB,hll];exact z)];rfl
    rw[e];exact⟨ys,y1,y2⟩) (λb hb=>by
    rw[yc];simp only[zI,zg,or_false]at hb;rcases hb with rfl|rfl
    ·exact yW _
    ·exact yS hlt)
  exact this
 have getD_at:∀(l:LC)(i:Nat)(e:eM),l[i]?=some e->(l.map (·.2)).getD i .none=e.2:=λl i e h=>by
  rw[zT,zX,h];rfl
 cases hB:w.params.followText "set-order" with
 | true=>
  refine vA fW;refine vA ?_;unfold setEpoch;refine vA RU;refine vA eU;have pp:=qem gX es;have hpl:(uw gX es).size=es.size:=by rw[<- zU,pp.length_eq,zU]
  refine slots (λ_=>0) _ rfl pp Ld λs go' A' Q' E' q=>?_
  ·refine q8i go' gd T.fits hB ?_
   have hz:i<(uw gX es).size:=by rw[hpl];exact hi
   rw[yE hz];have:=getD_at (uw gX es).toList i (uw gX es)[i] (by rw[zj,yE hz]);rw[this]at q;exact q
  ·refine q8i go' gd T.fits hB ?_
   rw[yf (by rw[hpl];exact zQ _)];exact q
 | false=>
  have led:t.led=true:=by rw[gl];unfold Xh;rw[hB];rfl
  cases hD:(!t.plain&&decide (es.size>1))with
  | false=>
   refine vY (λz=>vN ((show (!false&&(!t.plain&&decide (es.size>1)))=true from z)) (by rw[hD];decide)) fJ;refine vA fW;refine vA ?_;unfold setEpoch;refine vA RU;refine vA eU;refine slots (slotAt t.place) es.toList rfl (xZ _) Ld λs go' A' Q' E' q=>?_
   ·refine q7h go' gd T.fits hB led hD rfl ?_
    rw[q76 T.rise i ∅,yE hi,yE (show i<t.place.size by omega)];have:=getD_at es.toList i es[i] (by rw[zj,yE hi]);rw[this]at q;have e2:slotAt t.place (i+1)=t.place[i]'∅+1:=by
     show t.place.toList.getD i 0+1=_;rw[zT,zj,yE (show i<t.place.size by omega)];rfl
    rw[e2]at q;exact q
   ·refine q7h go' gd T.fits hB led hD rfl ?_
    rw[q76 T.rise es.size ∅,yf cP];exact q
  | true=>
   refine vY fJ (λz=>vN (show (!false&&(!t.plain&&decide (es.size>1)))=true by rw[hD];rfl) z);refine vA (q5p es.size P6 _ _ zh λord d po=>?_);have hol:ord.length=es.size:=by rw[po.length_eq,zh]
   refine vA (tY ?_ (by rw[zB,hol];exact yJ (ya gb) (by decide)));refine vA ?_;unfold setEpoch;have go2:(s.heap.push { cls:=.type "tuple", data:=.seq (ord.map λ(i:Nat)=>uT i).toArray }).get? a=some o:=zF _ go;refine vA (v5 go2 gd T.fits fW);refine vA eU;have hs1:(s.heap.push { cls:=.type "tuple", data:=.seq (ord.map λ(i:Nat)=>uT i).toArray }).objs.size=s.heap.objs.size+1:=yc _ _;have ht1:(s.heap.push { cls:=.type "tuple", data:=.seq (ord.map λ(i:Nat)=>uT i).toArray }).get? s.heap.objs.size=some { cls:=.type "tuple", data:=.seq (ord.map λ(i:Nat)=>uT i).toArray }:=zW _ rfl;refine k _ d _ [(s.heap.push { cls:=.type "tuple", data:=.seq (ord.map λ(i:Nat)=>uT i).toArray }).objs.size,a,s.heap.objs.size] (λi v=>∃p x,ord[i]?=some p/\es[p]?=some x/\v=x.2)
    (λi h=>h.get? (s.heap.push { cls:=.type "tuple", data:=.seq (ord.map λ(i:Nat)=>uT i).toArray }).objs.size=some (WE aJ i a es.size ep)/\h.get? a=some o/\h.get? s.heap.objs.size=some { cls:=.type "tuple", data:=.seq (ord.map λ(i:Nat)=>uT i).toArray }) (λb u e=>zF _ FN) (by rw[hs1];exact yt _) mJ (λA hh=>by
    rw[<- hl];exact qaW (tp:=s.heap.objs.size) hh (by rw[hs1];exact zt (yS hlt)) (by rw[hs1];exact zt QQ) gd T.fits ord po rfl)
    ⟨jH,zF _ go2,zF _ ht1⟩ (λacc hacc=>?_) mJ
   ·simp only[zI,zg,or_false]at hb
    rcases hb with rfl|rfl|rfl
    ·exact .inr (by rw[hs1];exact yt _)
    ·exact .inl rfl
    ·exact .inr cP
   ·have e:acc.toList=(ord.map λp=>es.toList.getD p ab9).map (·.2):=by
     apply xB;intro i;rw[zj,zX,zX];rcases yD i acc.size with z|z
     ·obtain⟨p,x,h1,h2,h3⟩:=hacc.2 i acc[i] (yE z)
      rw[yE z,h1,h3];show _=some (es.toList.getD p ab9).2;rw[zT,zj,h2];rfl
     ·rw[yf z,zx (by rw[hol,hl,<- hacc.1];exact z)];rfl
    have p2:(ord.map λp=>es.toList.getD p ab9).Perm es.toList:=by
     refine(po.map _).trans ?_;have:(zY es.size).map (λp=>es.toList.getD p ac3)=es.toList:=by
      apply xB;intro i;rw[zX];rcases yD i es.size with z|z
      ·rw[yn z]
       show some (es.toList.getD i ac3)=_;rw[zT,zD (by rw[zU];exact z)];rfl
      ·rw[zx (by rw[zh];exact z),zx (by rw[zU];exact z)];rfl
     rw[this]
    rw[e];exact perm_ok _ p2
   ·rw[yc,hs1]
    simp only[zI,zg,or_false]at hb;rcases hb with rfl|rfl|rfl
    ·rw[hs1];exact yW _
    ·exact yS (yS hlt)
    ·exact yS QQ
end
section
variable{prog:vS}{w:vX}{A:vc}{E:vB->vF->Prop}{s:vF}
theorem qdg{R:R3}{a:vC}{xs:ac}(hh:dH)(SI:sr)(S:vC)(hSa:S≠a)(res:vB)(c₀:Nat)(hS:s.heap.get? S=some { cls:=.type "list", data:=.seq #[] c₀ })(hR:∀h' tk d acc' c',(∀b o,b≠S->s.heap.get? b=some o->h'.get? b=some o)->h'.get? S=some { cls:=.type "list", dict:=none,data:=.seq acc' c',slots:=#[] }->(∃ys,uJ acc'.toList ys/\ys.Perm xs)->R El { s with heap:=h',toks:=tk,drawn:=d }):
  vM ar A.in1 (Builtin.List.listExtendWith gF dJ res)
   (λfin s'=>match fin with|.done f=>R V2 s'|.again c'=>c'.quiet=true/\uU ar A c' R s') Cs s:=by
 have hn:xs.length<=sizeLine:=yJ (ya SI.len) (by decide);obtain⟨o,es,ep,t,go,gx,gd,T,gl,gb,gg,gv,gn⟩:=id SI;have hTy:∀h:ve,h.get? a=some o->Shared.TypeIs { s with heap:=h } dJ "set" := λh e=>⟨o,e,gx.1⟩;unfold Builtin.List.listExtendWith;refine vA (uc (T := "set") ⟨o,go,gx.1⟩ ?_);have h1:Builtin.List.listSameRef gF dJ=false:=by simp[Builtin.List.listSameRef,hSa]
 have h2:(Value.type "set" == Value.type "list")=false:=by decide
 have h3:(Value.type "set" == Value.type "tuple")=false:=by decide
 simp only[h1,h2,h3,wL,yG,if_false];refine vA (qge SI λh1 d I fp P St keep hI hfp W st items hlt=>?_);have hS1:h1.get? S=some { cls:=.type "list", data:=.seq #[] c₀ }:=keep _ _ hS;have hSlt:S<s.heap.objs.size:=zS hS;have hSf:S∉fp:=λhm=>by
  rcases hfp S hm with z|z
  ·exact hSa z
  ·exact vN hSlt (YN.mpr z)
 have key:∀(h:ve)(c₁ tk:Nat),St 0 h->(∀b o,b≠S->s.heap.get? b=some o->h.get? b=some o) ->
   h.get? S=some { cls:=.type "list", data:=.seq #[] c₁ }->uU ar A (.builtin "list.extend.loop" ⟨[gF,DN,res],[]⟩) R { s with heap:=h,toks:=tk,drawn:=d }:=by
  intro h c₁ tk hst hk hS₁;refine tZ (W A.in1 hh).toS hn S hSf res xs.length 0 _ #[] c₁ rfl (yA _) hst hS₁ ab4 λs' acc' c' hm hS' hacc=>?_;rw[Mb];refine hR s'.heap s'.toks d acc' c' (λb o hb e=>hm.heap b o (λhmem=>?_) (hk b o hb e)) hS' (items acc' hacc);rcases zI.mp hmem with e'|hmem
  ·exact hb e'
  ·exact vN DS (by rw[zV.mp hmem];exact YN.mpr hI)
 refine vA (vU (qgA ⟨o,keep _ _ go,gx.1⟩ ?_));refine vY fJ (λ_=>vG ⟨gG,key _ c₀ _ st (λb o _ e=>keep b o e) hS1⟩);refine vA VA;refine vA ?_;show vM _ _ (ui S (·.push .none) >>= λ_=>ui S (·.pop)) _ _ _;refine vA (uA hS1 rfl ?_);have hS₂:=yx (Obj.mapSeq (·.push Value.none)) hS1 rfl;refine uA (hz:=by seq_fits) hS₂ rfl ?_;have hS₃:=yx (Obj.mapSeq (·.pop)) hS₂ rfl;refine vG ⟨gG,key _ _ _ ?_ Kv hS₃⟩
 ·refine(W A.in1 hh).frame 0 _ _ st λb hb o e=>?_
  have hbS:b≠S:=λh=>hSf (h▸hb);exact(ze _ _ (Ne.symm hbS)).trans ((ze _ _ (Ne.symm hbS)).trans e)
 ·exact(ze _ _ fN).trans ((ze _ _ fN).trans (keep b o e))
theorem qaX{R:List vB->vF->Prop}{a:vC}{xs:ac}(hh:dH)(SI:sr)(h:∀(h':ve)(tk:Nat)(d:Drawn)(vs:bC)(ys:ac),(∀b o,s.heap.get? b=some o->h'.get? b=some o)->s.heap.objs.size<h'.objs.size->uJ vs ys->ys.Perm xs->R vs { s with heap:=h',toks:=tk,drawn:=d }):
  vM ar A (collect dJ) R E s:=by
 obtain⟨o,es,ep,t,go,gx,gd,T,gl,gb,gg,gv,gn⟩:=id SI;have hlt:a<s.heap.objs.size:=zS go;unfold collect;refine vA (wpAny_runValue (v8 entry_proto_collect' ?_));rw[Around.under_plainId PySem.F.plain_proto_collect _];show vM _ A.in1 (newList [] >>= λl=>again (.builtin "list.__iadd__" ⟨[l,dJ],[]⟩)) _ _ s;refine vA (vi ?_);refine vG ⟨v9 PySem.F.plain_list_iadd _,v8 entry_list_iadd' ?_⟩;rw[Around.under_plainId PySem.F.plain_list_iadd _];have hS₁:(s.heap.push { cls:=.type "list", data:=.seq ([]:List vB).toArray }).get? s.heap.objs.size=some { cls:=.type "list", data:=.seq #[] }:=zW _ rfl;show vM _ A.in1 (Builtin.List.listExtendWith aJ dJ aJ) _ _ _;have key:=qdg (prog:=prog) (A:=A) (s:={ s with heap:=s.heap.push { cls:=.type "list", data:=.seq ([]:List vB).toArray } })
  (R:=λ(q:tV) (s':vF)=>∃(h':ve) (tk:Nat) (d:Drawn) (acc':fj) (c':Nat),q=.ok (.ret aJ)/\s'={ s with heap:=h',toks:=tk,drawn:=d } /\
   (∀b o,s.heap.get? b=some o->h'.get? b=some o)/\h'.get? s.heap.objs.size=some { cls:=.type "list", dict:=none,data:=.seq acc' c',slots:=#[] }/\∃ys,uJ acc'.toList ys/\ys.Perm xs)
  hh (SI.at λo e=>zF _ e) s.heap.objs.size (xb hlt) aJ 0 hS₁
  (λh' tk d acc' c' hk hS' hacc=>⟨h',tk,d,acc',c',rfl,rfl,λb o e=>hk b o (zt DS) FN,hS',hacc⟩)
 refine vo key (λfin s' x=>?_) λe s' x=>?_
 ·cases fin with
  | done f=>
   obtain⟨h',tk,d,acc',c',e,rfl,hk,hS',ys,y1,y2⟩:=x;cases e;show vM _ A (load s.heap.objs.size >>= _) _ _ _;refine vA Tj;exact vG IF
  | again c₁=>
   refine⟨x.1,uV x.2 λq s₂ y=>?_⟩;obtain⟨h',tk,d,acc',c',rfl,rfl,hk,hS',ys,y1,y2⟩:=y;show vM _ A (load s.heap.objs.size >>= _) _ _ _;refine vA Tj;exact vG IF
 ·obtain⟨_,_,_,_,_,e',_⟩:=x
  cases e'
theorem qcK{a:vC}{xs:ac}{Q:aO}(hh:dH)(SI:sr)(h64:xs.length<64)(h:∀(D:vC)(h':ve)(tk:Nat)(d:Drawn)(vs:bC)(ys:ac)(n:Nat),(∀b o,s.heap.get? b=some o->h'.get? b=some o)->s.heap.objs.size<=D->h'.get? D=some Dm->uJ vs ys->ys.Perm xs->ys.Pairwise (· <= ·)->Q Jl { s with heap:=h',toks:=tk,drawn:=d }):
  vM ar A acT Q E s:=by
 refine Calls.call_function_entry sM sF sG aaI ?_;unfold Builtin.«sorted»;refine vA (m:=checkCount "sorted" 1 1 _) fW;refine vA (qaX (A:=A.in1) hh SI λh1 tk d vs ys hk hz y1 y2=>?_);have hlen:vs.length=xs.length:=by rw[IntsAre.length y1,y2.length_eq]
 refine vA (uz ?_ (yJ (by rw[hlen];exact ya h64) (by decide)));have hoL:(h1.push fz).get? h1.objs.size=some fz:=zW _ rfl;refine vA (vU (vq slot_list_sort ⟨_,hoL,rfl⟩ entry_list_sort (list_sort_tree hoL y1 (by rw[hlen];exact h64) λout ns' a1 a2 a3=>db) UK));obtain⟨n,hn⟩:=sortedHeap_at (vs:=vs) (out:=out) hoL;refine vG ⟨_,rfl,h h1.objs.size _ tk d out.toList ns' n (λb o e=>?_) ?_ ?_ a1 (a2.trans y2) a3⟩
 ·have e1:=hk b o e
  rw[sortedHeap_old (zt Vq) (by rw[yc];exact yS Vq)];exact zF _ e1
 ·exact ya hz
 ·rw[xP];exact hn
end
end Hk
namespace L2
open PySem PySem.Spec PyProof.Rows
noncomputable def WQ(names:Aq)(cells:mv)(cs:mv):List (Str×vC) :=
 match names with
 | []=>cs
 | p::r=>WQ r cells (if p.2 == .free then (p.1,(cells.lookup p.1).getD 0)::cs else cs)
theorem q55{scope:uu}{env:Env}(h:∀p∈scope.names,p.2=NameKind.free->(env.cells.lookup p.1).isSome=true):
  closureFor scope env=pure (WQ scope.names env.cells []):=by
 simp only[closureFor];generalize scope.names=l at h ⊢;have key:∀(l:Aq)(cs:mv),(∀p∈l,p.2=NameKind.free->(env.cells.lookup p.1).isSome=true) ->
   (forIn l cs (λ(p:Str×uX) (r:mv)=>if nY=true then (do let a <- cellOf env p.1;pure (ForInStep.yield ((p.1,a)::r)))else pure HZ):Sem _)=pure (WQ l env.cells cs):=by
  intro l
  induction l with
  | nil=>intro cs _;rfl
  | cons p r ih=>
   intro cs hp;rw[ZI];have hr:=λq hq=>hp q abf
   by_cases hf:p.2=NameKind.free
   ·have hs:=hp p zG hf
    obtain⟨a,ha⟩:=yr.mp hs;have e:cellOf env p.1=pure a:=by unfold cellOf;rw[ha]
    have hb:nY=true:=by rw[hf];rfl
    rw[RT,e,pure_bind,pure_bind];show forIn r _ _=_;rw[ih _ hr];show _=pure (WQ r env.cells (if p.2 == .free then _ else _));rw[RT,ha];rfl
   ·have hb:¬nY=true:=by intro z;exact hf (by cases hk:p.2 <;> simp_all)
    rw[Mu,pure_bind];show forIn r _ _=_;rw[ih _ hr];show _=pure (WQ r env.cells (if p.2 == .free then _ else _));rw[Mu]
 rw[key l [] h];rfl
theorem qcn{k:uX}(h:(k==NameKind.free)=true):k=NameKind.free:=by cases k <;> first|rfl|cases h
theorem q5H{cells:mv}:∀(l:Aq)(cs:mv),(∀p∈l,p.2=NameKind.free->(cells.lookup p.1).isSome=true) ->
  (∀x c,cs.lookup x=some c->cells.lookup x=some c)->∀x c,(WQ l cells cs).lookup x=some c->cells.lookup x=some c
 | [],cs,_,h,x,c,e=>h x c e
 | p::r,cs,hp,h,x,c,e=>by
  refine q5H r _ (λq hq=>hp q abf) (λy d hy=>?_) x c e
  by_cases hb:nY=true
  ·rw[RT,y9]at hy
   cases hyp:y==p.1 with
   | true=>
    rw[hyp]at hy;have hy':(cells.lookup p.1).getD 0=d:=zr hy;obtain⟨a,ha⟩:=yr.mp (hp p zG (qcn hb));rw[ha]at hy';rw[eq_of_beq hyp,ha,<- hy'];rfl
   | false=>rw[hyp]at hy;exact h y d hy
  ·rw[Mu]at hy;exact h y d hy
theorem q5t{cells:mv}:∀(l:Aq)(cs:mv)(x:Str),(Jx∈l\/(cs.lookup x).isSome=true)->((WQ l cells cs).lookup x).isSome=true
 | [],cs,x,h=>by
  rcases h with h|h
  ·cases h
  ·exact h
 | p::r,cs,x,h=>by
  refine q5t r _ x ?_;rcases h with h|h
  ·rcases zI.mp h with rfl|h
   ·right
    show (List.lookup x (if (NameKind.free==NameKind.free)=true then _ else _)).isSome=true;rw[vH (by rfl),y9,beq_self_eq_true];rfl
   ·exact .inl h
  ·right
   by_cases hb:nY=true
   ·rw[RT,y9]
    cases hx:x==p.1 with
    | true=>rfl
    | false=>exact h
   ·rw[Mu];exact h
noncomputable def X2(X:Cx)(N:dM)(scope:uu)(C:vC)(s:vF)(H:Hp)(fp:eJ):Cx :=
 { X with N:=N,s₀:=s,H₀:=H,env:=compEnvC scope Aa C X.env,outer:=X.stack,stack:=X.stack,ex:=fp,fn:=λ_=>false,pn:=[],xe:=λ_ _=>False }
noncomputable def zA8(M:Nat)(frees:cH)(σ:St):St:=zv M none++frees.map λj=>(σ[j]?).getD none
structure BlkOk (X:Cx) (N:List Str) (M:Nat) (frees:List Nat) (scope:uu):Prop where
 kind:scope.kind=.function
 nocell:∀y∈scope.names,y.2≠.cell
 own:∀y∈scope.names,y.2=.local->scope.names.lookup y.1=some .local
 cells:∀p∈scope.names,p.2=NameKind.free->(X.env.cells.lookup p.1).isSome=true
 fr:∀(k:Nat)(x:Str),N[M+k]?=some x->∃j,frees[k]?=some j/\X.N[j]?=some x/\(X.env.kindOf x=some .cell\/X.env.kindOf x=some .free)/\scope.names.lookup x=some .free
 len:N.length=M+frees.length
theorem q3g{env:Env}{x:Str}:∀{names:Aq}{k:uX},(∀y∈names,y.2≠.cell)->(k=.cell\/k=.free) ->
  (names.map λ(n,k)=>if ge then JJ else (n,k)).lookup x=some k->Jx∈names
 | [],_,_,_,h=>by cases h
 | (n,k0)::r,k,hc,hk,h=>by
  have ih:=@q3g env x r k (λy hy=>hc y abe) hk;rw[zL]at h
  by_cases hb:n8=true
  ·have hf:k0=NameKind.free:=qcn (by rw[zu,zu]at hb;exact hb.1.1)
   dsimp only at h
   rw[RT,y9]at h;cases hx:x==n with
   | true=>rw[eq_of_beq hx,hf];exact zG
   | false=>rw[hx]at h;exact zH _ (ih h)
  ·dsimp only at h
   rw[Mu,y9]at h;cases hx:x==n with
   | true=>
    rw[hx]at h;have e:k0=k:=zr h;have z:=hc (n,k0) zG;rw[eq_of_beq hx];rcases hk with rfl|rfl
    ·exact vN e z
    ·rw[e];exact zG
   | false=>rw[hx]at h;exact zH _ (ih h)
theorem q5v{env:Env}{x:Str}:∀{names:Aq},names.lookup x=some .free ->
  (names.map λ(n,k)=>if ge then JJ else (n,k)).lookup x=some .cell \/
  (names.map λ(n,k)=>if ge then JJ else (n,k)).lookup x=some .free
 | [],h=>by cases h
 | (n,k0)::r,h=>by
  have ih:=@q5v env x r;rw[zL]
  dsimp only
  rw[y9]at h
  by_cases hb:n8=true
  ·rw[RT,y9]
   cases hx:x==n with
   | true=>exact .inl rfl
   | false=>rw[hx]at h;exact ih h
  ·rw[Mu,y9]
   cases hx:x==n with
   | true=>rw[hx]at h;exact .inr h
   | false=>rw[hx]at h;exact ih h
section
variable{X:Cx}{pins:List (vC×Obj)}{σ:St}{H:Hp}{s:vF}{N:List Str}{M:Nat}{frees:List Nat}{scope:uu}{fp:List vC}
theorem Inv.enter{h1:ve}{C D tk:Nat}{m1:bH}(I:aj)(B:jW)(f:∀b∈fp,X1 X pins H b)(lt:∀b∈fp,b<s.heap.objs.size)(hC:s.heap.objs.size<C)(hD:s.heap.objs.size<=D)(hDC:C≠D)(k:∀b u,s.heap.get? b=some u->h1.get? b=some u)(hns:h1.Ns C m1)(hl:h1.get? D=some { cls:=.type "list", data:=.seq ([]:List vB).toArray }):
  Inv aT [] DU (upd H D jR) { s with heap:=h1,toks:=tk }:=by
 have sub:=q5H (cells:=X.env.cells) scope.names [] B.cells (λx c e=>by cases e);have hfr:H D=none:=I.hok.fresh hD;have hfc:H C=none:=I.hok.fresh (ya hC);have clt:∀x c,(WQ scope.names X.env.cells []).lookup x=some c->c<s.heap.objs.size:=λx c e=>by
  obtain⟨v,q⟩:=I.cell x c Lm;exact q.lt
 refine⟨⟨I.ok.mod,B.kind,I.ok.glob,I.ok.blt,ya hC,λx y c e1 e2=>I.ok.inj x y c (sub x c e1) (sub y c e2),λx hx=>?_,λx c e=>vN e (by intro z;cases z),I.ok.hd,I.ok.frames,.inl rfl,λb hb=>?_,I.bs,yJ I.ok.bsz I.sz,λb o e hb=>?_,
  λb hb hf=>?_,I.stack,I.stkFree⟩,rfl,I.bare,Un.laid k hD hfr,⟨m1,hns,T9⟩,λx c e=>?_,?_,λx c e=>?_,λp hp=>vN (show p∈Qx from hp) (by simp),I.hok.laid k hD ⟨Cf,[],0,.nil,hl⟩,?_⟩
 ·have hm:Jx∈scope.names:=by
   rcases hx with hx|hx
   ·exact q3g B.nocell bT hx
   ·exact q3g B.nocell Ml hx
  exact yr.mp (q5t scope.names [] x (.inl hm))
 ·exact⟨zt (Zu (lt b hb) hC),λx c e=>(f b hb).2.2.2.2.1 x c Lm⟩
 ·rcases (f b hb).2.2.2.1 with z|z
  ·exact I.ok.noex b o e z
  ·exact vN (z9 DS (yJ I.ok.bsz z)) Li
 ·rcases zI.mp (I.stkSub b hf)with z|z
  ·exact(f b hb).2.1 z
  ·exact(f b hb).2.2.1 z
 ·have hi:M<=i:=by
   rcases yD i M with z|z
   ·unfold zA8 at e2
    rw[zd ⇑z,yi,gR]at e2;cases e2
   ·exact z
  obtain⟨q,rfl⟩:∃q,i=M+q:=⟨i-M,∅⟩;obtain⟨j,h1',h2',h3',h4'⟩:=B.fr q x e1;have ev:σ[j]?=some oy:=by
   unfold zA8 at e2;rw[zZ (by simp),yT,wq,zX,h1']at e2;cases e:σ[j]? with
   | none=>rw[xE,e]at e2;cases e2
   | some o=>rw[xE,e]at e2;exact e2
  obtain⟨m,hn,hl'⟩:=I.loc;have vis:Vis X.env.scope x:=by
   rcases h3' with z|z
   ·exact .inr (.inl z)
   ·exact .inr (.inr z)
  obtain⟨u,ru,lk⟩:=hl' j x v h2' ev vis;refine⟨u,ru,.inr ?_⟩;rcases lk with⟨z,_⟩|⟨_,c,ec,ic⟩
  ·rcases h3' with y|y <;> (rw[z]at y;cases y)
  ·obtain⟨c',ec'⟩:=yr.mp (q5t (cells:=X.env.cells) scope.names [] x (.inl (PySem.mem_of_lookup h4')))
   have:c'=c:=zr ((sub x c' ec').symm.trans ec);subst this;exact⟨q5v h4',c',ec',ic.keeps k⟩
 ·obtain⟨v,q⟩:=I.cell x c Lm
  exact⟨v,q.keeps k⟩
 ·show upd H D jR C=none
  rw[qd hDC];exact hfc
 ·show upd H D jR c=none
  rw[qd (zt (z9 (clt x c e) hD))];exact I.freeC x c Lm
 ·show (zA8 M frees σ).length=N.length
  unfold zA8;rw[zE,yT,zB,B.len]
end
section
variable{prog:vS}{w:vX}{A:vc}{R:tV->vF->Prop}{s:vF}
theorem qaP{elt target iter:vP}{ifs:iI}{scope:uu}{pos:Pos}{it acc:vB}{env:Env}(J:Nat->vF->Prop)(turn:∀n s,J n s->vM ar A (uO it) (λr s1=>match r with
   | none=>R SN s1
   | some v=>vM ar A (u6 target it v) (λ_ s2=>vM ar A (assign target env v) (λ_ s3=>
     vM ar A (forIn ifs true λc r=>if r=true then do let ok <- sQ c env (eval c env);pure SH else pure HZ) (λok s4=>
      if ok=true then vM ar A (eval elt env) (λx s5=>vM ar A (call (.builtin "list.append") [acc,x]) (λ_ s6=>∃m,m<n/\J m s6) r9 s5) r9 s4
      else ∃m,m<n/\J m s4) r9 s3) r9 s2) r9 s1) r9 s)
  (n:Nat) (h:J n s):uU ar A (.compLoop kj 0 it acc env) R s:=by
 refine codeAny_loop rfl J (λn s hJ=>?_) n h;show vM _ A ((compTurn kj 0 it acc env).onRaise (λx=>do noteFrame x env;theTreesLotGoes x)) _ _ s;refine wpAny_noted (vo (Q:=λfin s'=>match fin with|.done f=>R V2 s'|.again c'=>c'=.compLoop kj 0 it acc env/\∃m,m<n/\J m s') ?_ (λ_ _ q=>q) λ_ _ (z:False)=>z.elim);rw[compTurn_list];refine vA (uy (vA (vo (turn n s hJ) (λr s1 h1=>?_) λ_ _ q=>q)));cases r with
 | none=>exact vG h1
 | some v=>
  refine vA (vo h1 (λ_ s2 h2=>vA (vo h2 (λ_ s3 h3=>vA (vo h3 (λok s4 h4=>?_) λ_ _ q=>q)) λ_ _ q=>q)) λ_ _ q=>q);cases ok with
  | false=>exact vG ⟨rfl,h4⟩
  | true=>exact vA (vA (vo h4 (λx s5 h5=>vA (vo h5 (λ_ s6 h6=>vG (vG ⟨rfl,h6⟩)) λ_ _ q=>q)) λ_ _ q=>q))
end
def PTs(X:Cx)(ifs:iI)(t:TT):Prop :=
 ∀(pins:aC)(s:vF)(σ:St)(H:Hp)(Q:kr),Inv X pins σ H s->t σ H Q ->
  vM ai X.A (forIn ifs true λc r=>if r=true then do let ok <- sQ c X.env (eval c X.env);pure SH else pure HZ) Eh X.xe s
theorem qjf{X:Cx}:PTs X [] (λ_ H Q=>Q true H):=λ_ _ _ H _ I q=>wpAny_tests_nil Mp
theorem qi0{X:Cx}{c:vP}{t:TT}(h:PT X c t):PTs X [c] t:=λpins s σ H Q I q=>wpAny_tests_one (h pins s σ H Q I q)
noncomputable def zBn(M:Nat)(frees:cH)(wi:TI)(g:TG)(tc:TT)(te:TE):TE:=λσ H Q=>wi σ H λJ H1=>∀D,H1 D=none ->
 ∃W:Nat->Nat->St->Hp->Prop,(∃m,W 0 m DU (upd H1 D jR))/\∀i m σ' H',W i m σ' H' ->
  QD\/(J.go i H'/\∀x H2,J.yld i H' x H2->g x σ' H2 λσ2 H3=>tc σ2 H3 λb H4=>
   if b=true then te σ2 H4 λv H5=>∃acc,H5 D=some (.lst acc)/\acc.length<sizeLine/\∃m',m'<m/\W (i+1) m' σ2 LN
   else ∃m',m'<m/\W (i+1) m' σ2 H4)
section
variable{X:Cx}{N:List Str}{M:Nat}{frees:List Nat}{scope:uu}{tg iter elt:vP}{ifs:List vP}{pos:Pos}{wi:TI}{g:TG}{tc:TT}{te:TE}
theorem qaD(hc:b0)(B:jW)(hb:∀C s H fp,PG aT tg g/\PTs aT ifs tc/\PE aT elt te){pins:aC}{σ:St}{Q:VK}{s2:vF}{itv:vB}{E:aO}{RR:vB->vC->tV->vF->Prop}(h2:PIE X pins σ tg (λJ H1=>∀D,H1 D=none ->
   ∃W:Nat->Nat->St->Hp->Prop,(∃m,W 0 m DU (upd H1 D jR))/\∀i m σ' H',W i m σ' H' ->
    QD\/(J.go i H'/\∀x H2,J.yld i H' x H2->g x σ' H2 λσ2 H3=>tc σ2 H3 λb H4=>
     if b=true then te σ2 H4 λv H5=>∃acc,H5 D=some (.lst acc)/\acc.length<sizeLine/\∃m',m'<m/\W (i+1) m' σ2 LN
     else ∃m',m'<m/\W (i+1) m' σ2 H4)) itv s2)
  (hR:∀D C s' H' m,Inv X pins σ H' s'->Q Jl H'->s'.heap.Ns C m->H' C=none->C≠X.env.locals->X.s₀.heap.objs.size<=C->(∀x c,X.env.cells.lookup x=some c->c≠C)->(∀p∈X.pn++pins,p.1≠C)->RR Jl C SN s') :
  vM ai X.A (newList []) (λacc s3=>vM ai X.A (newFunctionEnv scope X.env.globals Aa [] X.env.qual none .none (some X.env)) (λcenv s4=>
   uU ai X.A (.compStart bD 0 itv acc { cenv with scope:=relabel scope X.env }) (RR acc cenv.locals) s4) E s3) E s2:=by
 obtain⟨it,fp,tn,J,H2,e,I2,T,st2,f2,q⟩:=h2;subst e;refine vi (wpAny_newFunctionEnv B.nocell (by intro y hy;simp at hy) (λh1 hns hsb=>?_) B.kind)
 dsimp only at hns hsb ⊢
 generalize hP:s2.heap.push { cls:=.type "list", dict:=none,data:=.seq ([]:List vB).toArray }=P1 at hns hsb ⊢;have hsz:P1.objs.size=s2.heap.objs.size+1:=by rw[<- hP,yc]
 have below:∀b,b<s2.heap.objs.size->b≠P1.objs.size:=λb z=>by rw[hsz];exact zt (yS z)
 have keep:∀b u,s2.heap.get? b=some u->h1.get? b=some u:=λb u z=>hsb.extBut b u (below b (zS z)) (zF _ (hP▸zF _ z));have hne:s2.heap.objs.size≠P1.objs.size:=by rw[hsz];exact zt QQ
 have hl:h1.get? s2.heap.objs.size=some { cls:=.type "list", data:=.seq ([]:List vB).toArray }:=hsb.extBut _ _ hne (zF _ (hP▸zW _ rfl));have lt2:∀b∈fp,b<s2.heap.objs.size:=λb z=>by
  obtain⟨o,eo,_⟩:=T.obj _ _ st2 b z;exact zS eo
 have hD0:H2 s2.heap.objs.size=none:=I2.hok.fresh cP;obtain⟨W,⟨m0,w0⟩,turn⟩:=q s2.heap.objs.size hD0;have I4:=I2.enter (N:=N) (M:=M) (frees:=frees) (scope:=scope) (fp:=fp) (h1:=h1) (C:=P1.objs.size) (D:=s2.heap.objs.size) (tk:=s2.toks+([]:List PD).length) B f2 lt2 (by rw[hsz];exact yW _) cP (Ne.symm hne) keep hns hl;have hcx:∀(C:vC),(X2 X N scope C s2 H2 fp).calm=true:=λ_=>hc;have stat:∀{H':Hp},(∀b∈fp,H' b=none)->∀b∈fp,X1 dq [] H' b:=λ{H'} hn b z=>by
  refine⟨hn b z,below b (lt2 b z),λy=>?_,.inl z,λx c y=>?_,λp y=>vN (show p∈Qx from y) (by simp)⟩
  ·rcases zI.mp (I2.stkSub b y)with u|u
   ·exact(f2 b z).2.1 u
   ·exact(f2 b z).2.2.1 u
  ·exact(f2 b z).2.2.2.2.1 x c (q5H (cells:=X.env.cells) scope.names [] B.cells (λx c e=>by cases e) x c y)
 have fr4:∀b∈fp,(upd H2 s2.heap.objs.size (HO.lst [])) b=none:=λb z=>by
  rw[qd (zt (lt2 b z))];exact(f2 b z).1
 have st4:tn 0 h1:=T.keep _ _ _ st2 λb _ o z=>keep b o z;have fin:∀(s':vF)(σ':St)(H':Hp),Inv dq [] σ' H' s'->Q jq H'->RR jq P1.objs.size SN s':=λs' σ' H' I' q'=>by
  obtain⟨m,hm,_⟩:=I'.loc;have u':Un OP fp H2 H' s2.heap s'.heap:=I'.base;have I0:Inv X pins σ H' s':=I2.call' (ch:=fp) I'.os u' I'.hok I'.bare λb z=>⟨(f2 b z).2.2.2.1,(f2 b z).2.1,(f2 b z).2.2.2.2.1,(f2 b z).2.2.2.2.2⟩;refine hR _ _ s' H' m I0 q' hm I'.free (xb (z9 I2.lt (by rw[hsz];exact yt _))) (yJ I2.sz (by rw[hsz];exact yt _)) (λx c z=>?_) λp z=>?_
  ·obtain⟨v,y⟩:=I2.cell x c z
   exact below c y.lt
  ·exact below p.1 (zS (I2.pin p z).1)
 have loop:∀s4:vF,s4={ s2 with heap:=h1,toks:=s2.toks+([]:List PD).length } ->
   uU ai X.A (.compLoop bD 0 ig jq (compEnvC scope Aa P1.objs.size X.env)) (RR jq P1.objs.size) s4:=by
  rintro s4 rfl;refine qaP (λn s'=>∃i σ' H',Inv dq [] σ' H' s'/\tn i s'.heap/\(∀b∈fp,H' b=none)/\W i n σ' H') ?_ m0 ⟨0,_,_,I4,st4,fr4,w0⟩;rintro n s5 ⟨i,σ5,H5,I5,st5,fr5,w5⟩;rcases turn i n σ5 H5 w5 with⟨stop,qn⟩|⟨go,step⟩
  ·refine thn (T.done dq rfl rfl rfl hc i [] s5 σ5 H5 _ I5 Uq st5 stop) λr s6 ⟨hr,I6⟩=>?_
   subst hr;exact fin s6 σ5 H5 I6 qn
  ·refine thn (T.item dq rfl rfl rfl hc i [] s5 σ5 H5 _ I5 Uq st5 go) λr s6 ⟨u,hr,h6⟩=>?_
   subst hr;refine thn h6 λ_ s7 ⟨x,H7,I7,r7,y7,st7,fr7⟩=>?_;have I7':=I7.pinned (stat fr7) (T.obj _ _ st7);have B7:=hb P1.objs.size s2 H2 fp;refine thn (B7.1 _ s7 σ5 H7 x u _ I7' r7 (step x H7 y7)) λ_ s8 ⟨σ8,H8,I8,q8⟩=>?_;refine thn (B7.2.1 _ s8 σ8 H8 _ I8 q8) λok s9 ⟨H9,I9,q9⟩=>?_;have again:∀{σa:St}{Ha:Hp}{sa:vF},Inv dq ([]++W3 fp s7.heap) σa Ha sa->(∃m',m'<n/\W (i+1) m' σa Ha) ->
     ∃m,m<n/\∃i σ' H',Inv dq [] σ' H' sa/\tn i sa.heap/\(∀b∈fp,H' b=none)/\W i m σ' H':=λ{σa Ha sa} Ia ⟨m',hm,wa⟩=>by
    refine⟨m',hm,i+1,σa,Ha,Ia.unpinned,T.keep _ _ _ st7 λb z o eo=>(Ia.pin (b,o) Oy).1,λb z=>?_,wa⟩;obtain⟨o,eo,d⟩:=T.obj _ _ st7 b z;exact(Ia.pin (b,o) Oy).2.1
   cases ok with
   | false=>exact again I9 q9
   | true=>
    rw[lW];refine thn (B7.2.2 _ s9 σ8 H9 _ I9 q9) λy s10 ⟨v,H10,I10,r10,acc,ha,hz,m',hm,wn⟩=>?_;refine thn (q18 (X:=X2 X N scope P1.objs.size s2 H2 fp) _ s10 σ8 H10 jq [v] jq [y] (λ_ Hn=>∃m',m'<n/\W (i+1) m' σ8 Hn) I10 rfl (.cons r10 .nil) ⟨_,acc,v,rfl,rfl,ha,hz,m',hm,wn⟩) λ_ s11 ⟨_,H11,I11,_,q11⟩=>?_;exact again I11 q11
 exact codeAny_compStart_list (loop _ rfl) (T.self _ 0 _ _ _ st4 (loop _ rfl))
theorem qiW(hc:b0)(B:jW)(hi:NP)(hb:∀C s H fp,PG aT tg g/\PTs aT ifs tc/\PE aT elt te)(hs:∀x,uC iter X.env x=pure x:=by intro _;rfl):PE X bD Dg:=by
 intro pins s σ H Q I h;rw[eval_ListComp];refine tJ (use:=none) rfl hs (q55 B.cells) B.kind B.own lM;refine qaD (RR:=λacc C=>compPost ai X.A X.xe none cV acc C) hc B hb h2 λD C s' H' m I' q' hm hC h1 h3 h4 h5=>?_;exact⟨m,hm,λh' hs'=>⟨Jl,H',I'.turned (t':=s'.toks) J5 hC h1 (.inr h3) h4 h5,rfl,q'⟩⟩
theorem qiR{i:Nat}{x:Str}{pos' spos:Pos}(hc:b0)(hN:X.N.Nodup)(hi':X.N[i]?=some x)(hx:HH)(B:jW)(hi:NP)(hb:∀C s H fp,PG aT tg g/\PTs aT ifs tc/\PE aT elt te)(hsw:FQ:=by rfl)(hs:∀x,uC iter X.env x=pure x:=by intro _;rfl):PS X QK (zAM Dg (Xy i)):=by
 intro pins s σ H D I h;rw[exec_Assign_Name_used _ _ _ _ hsw];refine vA (uy (vA ?_));show vM _ X.A (do let _ <- comprehension (.ListComp elt [⟨tg,iter,ifs,0⟩] scope pos) scope X.env _ (newList []) false (eval iter X.env) (some (assign (.Name x pos') X.env))) _ _ s;refine vA (vo (tJ (use:=some VR) (Q:=λ_ s'=>SP X pins D .next s') rfl hs (q55 B.cells) B.kind B.own
  lM) (λ_ s' hq=>vG (vG hq)) λ_ _ q=>q)
 refine qaD (Q:=λy H1=>Xy i y σ H1 D.nx) (RR:=λacc C=>compPost ai X.A X.xe (some VR) (λ_ s'=>SP X pins D .next s') acc C) hc B hb h2 λDd C s' H' m I' q' hm hC h1 h3 h4 h5=>?_;show vM _ X.A (assign eu X.env (.ref Dd)) _ _ _;refine wpAny_assign_Name (q8o I' hN hi' (.inl hx) (v:=.ref Dd) (u:=.ref Dd) rfl (λs'' I'' ⟨a,hsb,ha⟩=>?_) (.inr hx));have hCa:C≠a:=by
  rcases ha with rfl|ha
  ·exact h1
  ·exact Ne.symm (h4 x a ha)
 refine⟨m,hm.sameBut hsb hCa,λh' hs'=>⟨_,H',I''.turned (t':=s''.toks) J5 hC h1 (.inr h3) h4 h5,q'⟩⟩
end
end L2
namespace Hk
open PySem L2
inductive D where
 | non|bl (b:Bool)|int (i:Int)|str (x:Str)|lst (xs:List D)|tup (xs:List D)|scr (ns:List Int)|exc (c:Str)|dic (ks:List Int) (xs:List D)
noncomputable def kvsOf:List Int->List V->List SE
 | k::ks,v::vs=>(.inl k,v)::kvsOf ks vs
 | _,_=>[]
def excP(a C:vC)(h:ve):Prop:=∃o,h.get? a=some o/\o.cls=.ref C
mutual
def Rep(K:zC)(H:Hp):D->V->Prop
 | .non,v=>v=.non
 | .bl b,v=>v=.bl b
 | .int i,v=>v=.int i
 | .str x,v=>v=.str x
 | .lst ds,v=>∃a vs,v=.ref a/\H a=some fV/\Yr K H ds vs
 | .tup ds,v=>∃a vs,v=.ref a/\H a=some PJ/\Yr K H ds vs
 | .scr ns,v=>∃a,v=.ref a/\SqL K H a cF
 | .exc c,v=>∃a C,v=.ref a/\yQ K vT c=some (some (.ref C))/\H a=some (.ext (excP a C))
 | .dic ks ds,v=>∃a vs,v=.ref a/\(∃o,H a=some (.frz o jZ))/\ks.length=ds.length/\Yr K H ds vs
def Yr(K:zC)(H:Hp):List D->List V->Prop
 | [],vs=>vs=[]
 | d::ds,vs=>∃v r,vs=v::r/\Rep K H d v/\Yr K H ds r
end
mutual
theorem Rep.mono{K:zC}{H H':Hp}(e:OZ):∀{d:D}{v:V},Rep K H d v->Rep K H' d v
 | .non,_,h=>h
 | .bl _,_,h=>h
 | .int _,_,h=>h
 | .str _,_,h=>h
 | .lst _,_,⟨a,vs,h1,h2,h3⟩=>IZ
 | .tup _,_,⟨a,vs,h1,h2,h3⟩=>IZ
 | .scr _,_,⟨a,h1,h2⟩=>⟨a,h1,e.seq h2⟩
 | .exc _,_,⟨a,C,h1,h2,h3⟩=>⟨a,C,h1,h2,e _ _ h3⟩
 | .dic _ _,_,⟨a,vs,h1,⟨o,h2⟩,h4,h3⟩=>⟨a,vs,h1,⟨o,e _ _ h2⟩,h4,So⟩
theorem Yr.mono{K:zC}{H H':Hp}(e:OZ):∀{ds:aM}{vs:br},Yr K H ds vs->Yr K H' ds vs
 | [],_,h=>h
 | _::_,_,⟨v,r,h1,h2,h3⟩=>⟨v,r,h1,Rep.mono e h2,So⟩
end
section
variable{K:zC}{H:Hp}
theorem Yr.nil:Yr K H [] []:=rfl
theorem Yr.cons{d:D}{ds:aM}{v:V}{vs:br}(h:U3)(t:Ck):Yr K H (d::ds) (v::vs):=⟨v,vs,rfl,h,t⟩
theorem Yr.len:∀{ds:aM}{vs:br},Yr K H ds vs->ds.length=vs.length
 | [],_,h=>by cases (show _=_ from h);rfl
 | _::_,_,⟨v,r,h1,_,h3⟩=>by rw[h1,zK,zK,Yr.len h3]
theorem Yr.app:∀{ds es:aM}{vs us:br},Yr K H ds vs->Yr K H es us->Yr K H (ds++es) (vs++us)
 | [],_,_,_,h,t=>by cases (show _=_ from h);exact t
 | _::_,_,_,_,⟨v,r,h1,h2,h3⟩,t=>by rw[h1];exact⟨v,_,rfl,h2,Yr.app h3 t⟩
theorem Yr.get:∀{ds:aM}{vs:br}{i:Nat}{d:D},Yr K H ds vs->ds[i]?=some d->∃v,vs[i]?=some v/\Rep K H d v
 | [],_,_,_,_,e=>by simp at e
 | _::_,_,0,_,⟨v,r,h1,h2,h3⟩,e=>by simp at e;subst e;rw[h1];exact⟨v,rfl,h2⟩
 | _::_,_,i+1,d,⟨v,r,h1,h2,h3⟩,e=>by
  obtain⟨u,e1,e2⟩:=Yr.get (i:=i) (d:=d) h3 ⇑e;exact⟨u,by rw[h1];simpa using e1,e2⟩
theorem Yr.take:∀{ds:aM}{vs:br}(n:Nat),Yr K H ds vs->Yr K H (ds.take n) (vs.take n)
 | _,_,0,_=>rfl
 | [],_,_+1,h=>by cases (show _=_ from h);rfl
 | _::_,_,n+1,⟨v,r,h1,h2,h3⟩=>by rw[h1];exact⟨v,_,rfl,h2,Yr.take n h3⟩
theorem Yr.drop:∀{ds:aM}{vs:br}(n:Nat),Yr K H ds vs->Yr K H (ds.drop n) (vs.drop n)
 | _,_,0,h=>h
 | [],_,_+1,h=>by cases (show _=_ from h);rfl
 | _::_,_,n+1,⟨v,r,h1,h2,h3⟩=>by rw[h1];exact Yr.drop n h3
theorem Yr.ints:∀(ns:ac),Yr K H fq cF
 | []=>rfl
 | n::r=>⟨aY,_,rfl,rfl,Yr.ints r⟩
theorem Yr.of_ints:∀{ns:ac}{vs:br},Yr K H fq vs->vs=ns.map V.int
 | [],_,h=>h
 | n::r,_,⟨v,vs,h1,h2,h3⟩=>by
  have:=Yr.of_ints h3;have e:v=.int n:=h2;rw[h1,this,e];rfl
theorem Yr.one{d:D}{vs:br}(h:Yr K H [d] vs):∃v,vs=[v]/\Rep K H d v:=by
 obtain⟨v,r,h1,h2,h3⟩:=h;cases (show r=[]from h3);exact⟨v,h1,h2⟩
theorem Yr.two{d e:D}{vs:br}(h:Yr K H [d,e] vs):∃v u,vs=[v,u]/\Rep K H d v/\Rep K H e u:=by
 obtain⟨v,r,h1,h2,h3⟩:=h;obtain⟨u,rfl,h4⟩:=Yr.one h3;exact V9
end
structure Ext (G H G' H':Hp):Prop where
 gg:Yx G G'
 gh:Yx G' H'
 hh:Yx H H'
 new:∀b,G b=none->H b≠none->G' b=none
theorem Ext.refl{G H:Hp}(h:Bc):Ext G H G H:=⟨io,h,io,λ_ e _=>e⟩
theorem Ext.trans{G H G1 H1 G2 H2:Hp}(a:Ext G H G1 H1)(b:Ext G1 H1 G2 H2):Ext G H G2 H2:=by
 refine⟨a.gg.trans b.gg,b.gh,a.hh.trans b.hh,λc h1 h2=>?_⟩;have e1:=a.new c h1 h2;refine b.new c e1 λz=>h2 ?_;exact a.hh.free z
theorem Xj{H:Hp}{p:vC}(h:H p=none)(o:HO):Yx H Gg:=λb u q=>by rw[qd (q0O q h)];exact q
theorem W1{G H:Hp}{p:vC}(e:Bc)(o:HO):Yx (upd G p o) Gg:=λb u q=>by
 by_cases z:b=p
 ·subst z;rw[qf]at q ⊢;exact q
 ·rw[qd z]at q ⊢;exact e b u q
theorem Yv{G H:Hp}{p:vC}(e:Bc)(h:Vb)(o:HO):Yx G Gg:=λb u q=>by rw[qd (q0O q h)];exact e b u q
theorem Ext.lay{G H:Hp}{p:vC}(e:Bc)(h:H p=none)(o:HO):Ext G H (upd G p o) Gg:=by
 have g:G p=none:=e.free h;refine⟨Xj g o,W1 e o,Xj h o,λb h1 h2=>?_⟩
 by_cases z:b=p
 ·subst z;exact vN h h2
 ·rw[qd z];exact h1
theorem Ext.hide{G H:Hp}{p:vC}(e:Bc)(h:H p=none)(o:HO):Ext G H G Gg :=
 ⟨io,Yv e (e.free h) o,Xj h o,λ_ z _=>z⟩
inductive W where
 | sh (d:D)|ow (ds:List D)|od (ks:List Int) (ds:List D)|pw (ds:List D)
noncomputable abbrev WSt:=List bS
structure Fr where
 hp:Hp
 pin:Nat->vC
noncomputable instance:CoeFun Fr λ_=>Hp:=⟨Fr.hp⟩
noncomputable instance:Coe Fr Hp:=⟨Fr.hp⟩
noncomputable def fr(H:Hp):Fr:=⟨H,λ_=>0⟩
def Xp(K:zC)(F:Fr)(G:Hp)(ω:WSt)(σ:St)(H:Hp):Prop:=∀(i:Nat)ds,ω[i]?=some BT->∃vs,σ[i]?=some DZ/\H K2=some fV/\G K2=none/\F.hp K2=none/\Yr K G ds vs /\
 (∀(j:Nat)es,ω[j]?=some fm->F.pin j=F.pin i->j=i)/\∀(j:Nat)es,ω[j]?=some h9->σ[j]?≠some DZ
theorem Xp.keep{K:zC}{F:Fr}{G G':Hp}{ω:WSt}{σ:St}{H H':Hp}(o:Xp K F G ω σ H)(e:Ek):Xp K F G' ω σ H':=λi ds h=>by
 obtain⟨vs,h1,h2,h3,h4,h5,h6⟩:=o i ds h;exact⟨vs,h1,Mz,e.new _ h3 (by rw[h2];exact λz=>by cases z),h4,Sf,h6⟩
theorem Xp.no{K:zC}{F:Fr}{G:Hp}{ω:WSt}{σ:St}{H:Hp}(h:∀(i:Nat)ds,ω[i]?≠some BT):Xp K F G ω σ H:=λi ds e=>vN e (h i ds)
structure Own (K:zC) (G0:Hp) (H0:Fr) (G:Hp) (ω:WSt) (σ:St) (H:Hp):Prop where
 ext:Ext G0 H0.hp G H
 len:ω.length=σ.length
 sh:∀(i:Nat)d,ω[i]?=some ↥d->∃v,σ[i]?=some (some v)/\Rep K G d v
 ow:∀(i:Nat)ds,ω[i]?=some (some (.ow ds))->∃l vs,σ[i]?=some (some (.ref l))/\H l=some (.lst vs)/\G l=none/\H0 l=none/\Yr K G ds vs
 nd:∀(i j:Nat)ds es l,ω[i]?=some (some (.ow ds))->ω[j]?=some (some (.ow es))->σ[i]?=some (some (.ref l))->σ[j]?=some (some (.ref l))->i=j
 od:∀(i:Nat)ks ds,ω[i]?=some (some (.od ks ds))->∃p vs,σ[i]?=some (some (.ref p))/\H p=some (.dK (kvsOf ks vs))/\G p=none/\H0 p=none/\ks.length=ds.length/\Yr K G ds vs /\
  ∀(j:Nat)ks' es,ω[j]?=some (some (.od ks' es))->σ[j]?=some (some (.ref p))->i=j
 pw:Xp K H0 G ω σ H
inductive R where
 | sh (d:D)|fr (ds:List D)|vw (ds:List D)
noncomputable def R.d:R->D
 | .sh d=>d
 | .fr ds=>.lst ds
 | .vw ds=>.lst ds
def zBC(K:zC)(H G' H':Hp):R->V->Prop
 | .sh d,v=>Rep K G' d v
 | .fr ds,v=>∃l vs,v=.ref l/\H l=none/\G' l=none/\H' l=some fV/\Yr K G' ds vs
 | .vw ds,v=>∃l vs,v=.ref l/\H' l=some fV/\Yr K G' ds vs
def Vw(K:zC)(G H:Hp)(d:D)(v:V):Prop:=Rep K G d v\/∃ds l vs,d=.lst ds/\v=.ref l/\H l=some fV/\Yr K G ds vs
theorem Own.keep{K:zC}{G0:Hp}{H0:Fr}{G G':Hp}{ω:WSt}{σ:St}{H H':Hp}(o:bV)(e:Ek):Own K G0 H0 G' ω σ H':=by
 refine⟨o.ext.trans e,o.len,G9,RH,o.nd,λi ks ds h=>?_,o.pw.keep e⟩
 ·obtain⟨v,h1,h2⟩:=o.sh i d h
  exact⟨v,h1,h2.mono e.gg⟩
 ·obtain⟨l,vs,h1,h2,h3,h4,h5⟩:=o.ow i ds h
  exact⟨l,vs,h1,Mz,e.new l h3 (by rw[h2];exact λz=>by cases z),h4,Sf⟩
 ·obtain⟨l,vs,h1,h2,h3,h4,h6,h5,h7⟩:=o.od i ks ds h
  exact⟨l,vs,h1,Mz,e.new l h3 (by rw[h2];exact λz=>by cases z),h4,h6,Sf,h7⟩
theorem Own.gh{K:zC}{G0:Hp}{H0:Fr}{G:Hp}{ω:WSt}{σ:St}{H:Hp}(o:bV):Yx G H:=o.ext.gh
noncomputable abbrev FE:=WSt->Option R
noncomputable abbrev FD:=WSt->Option D
noncomputable abbrev FT:=WSt->Option Bool
noncomputable abbrev FA:=WSt->Option aM
def zB6(K:zC)(t:TE)(f:FE):Prop:=∀G0 H0 G ω σ H r(Q:VK),Own K G0 H0 G ω σ H->f ω=some r ->
 (∀v G' H',Ext G H G' H'->zBC K H G' H' r v->Q v H')->t σ H Q
def zA1(K:zC)(t:TE)(f:FD):Prop:=∀G0 H0 G ω σ H d(Q:VK),Own K G0 H0 G ω σ H->f ω=some d ->
 (∀v G' H',Ext G H G' H'->Rep K G' d v->Q v H')->t σ H Q
def SimV(K:zC)(t:TE)(f:FD):Prop:=∀G0 H0 G ω σ H d(Q:VK),Own K G0 H0 G ω σ H->f ω=some d ->
 (∀v G' H',Ext G H G' H'->Vw K G' H' d v->Q v H')->t σ H Q
def zAL(K:zC)(t:TT)(f:FT):Prop:=∀G0 H0 G ω σ H b(Q:kr),Own K G0 H0 G ω σ H->f ω=some b ->
 (∀G' H',Ext G H G' H'->Q b H')->t σ H Q
def SimA(K:zC)(t:TA)(f:FA):Prop:=∀G0 H0 G ω σ H ds(Q:lY),Own K G0 H0 G ω σ H->f ω=some ds ->
 (∀vs G' H',Ext G H G' H'->Yr K G' ds vs->Q vs H')->t σ H Q
def XE(X:Cx)(e:vP)(f:FE):Prop:=∃t,PE X e t/\zB6 X.K t f
def XD(X:Cx)(e:vP)(f:FD):Prop:=∃t,PE X e t/\zA1 X.K t f
def XV(X:Cx)(e:vP)(f:FD):Prop:=∃t,PE X e t/\SimV X.K t f
def XT(X:Cx)(e:vP)(f:FT):Prop:=∃t,PT X e t/\zAL X.K t f
def XW(X:Cx)(e:vP)(f:FT):Prop:=∃t,PW X e t/\zAL X.K t f
def XA(X:Cx)(es:iI)(f:FA):Prop:=(∃t,PA X es t/\SimA X.K t f)/\∀ω ds,f ω=some ds->ds.length=es.length
noncomputable def eOf(f:FD):FE:=λω=>(f ω).map R.sh
noncomputable def dOf(f:FE):FD:=λω=>match f ω with
 | ↥d=>some d
 | some (.fr ds)=>some gK
 | _=>none
noncomputable def vOf(f:FE):FD:=λω=>(f ω).map R.d
section
variable{X:Cx}{e:vP}
theorem XD.toE{f:FD}(h:LA):XE X e (eOf f):=by
 obtain⟨t,h1,h2⟩:=h;refine⟨t,h1,dv⟩;unfold eOf at e;cases q:f ω with
 | none=>rw[q]at e;cases e
 | some d=>rw[q]at e;cases e;exact h2 G0 H0 G ω σ H d Q o q k
theorem XE.toD{f:FE}(h:XE X e f):XD X e (dOf f):=by
 obtain⟨t,h1,h2⟩:=h;refine⟨t,h1,eK⟩;unfold dOf at e;cases q:f ω with
 | none=>rw[q]at e;cases e
 | some r=>
  rw[q]at e;cases r with
  | sh d'=>cases e;exact h2 G0 H0 G ω σ H _ Q o q k
  | fr ds=>
   cases e;refine h2 G0 H0 G ω σ H _ Q o q λv G' H' x ⟨l,vs,e1,e2,e3,e4,e5⟩=>?_;have s1:Yx G' (upd G' l fV):=Xj e3 _;refine k v (upd G' l fV) H' ⟨x.gg.trans s1,Le,x.hh,DR⟩ ⟨l,vs,e1,qf,e5.mono s1⟩
   ·by_cases hb:b=l
    ·subst hb;rw[qf]at z;rw[e4];exact z
    ·rw[qd hb]at z;exact x.gh b u z
   ·rw[qd (λhb=>z2 (by rw[hb];exact e2))];exact x.new b z1 z2
  | vw ds=>cases e
theorem XE.toV{f:FE}(h:XE X e f):XV X e (vOf f):=by
 obtain⟨t,h1,h2⟩:=h;refine⟨t,h1,eK⟩;unfold vOf at e;cases q:f ω with
 | none=>rw[q]at e;cases e
 | some r=>
  rw[q]at e;have e':r.d=d:=zr e;subst e';refine h2 G0 H0 G ω σ H r Q o q λv G' H' x y=>k v G' H' x ?_;cases r with
  | sh d'=>exact .inl y
  | fr ds=>obtain⟨l,vs,e1,e2,e3,e4,e5⟩:=y;exact .inr ⟨ds,l,vs,rfl,e1,e4,e5⟩
  | vw ds=>obtain⟨l,vs,e1,e2,e3⟩:=y;exact .inr ⟨ds,l,vs,rfl,e1,e2,e3⟩
theorem XD.toV{f:FD}(h:LA):XV X e f:=by
 obtain⟨t,h1,h2⟩:=h;exact⟨t,h1,λG0 H0 G ω σ H d Q o e k=>h2 G0 H0 G ω σ H d Q o e λv G' H' x y=>k v G' H' x (.inl y)⟩
end
noncomputable def Yh(i:Nat):FE:=λω=>match ω[i]? with
 | some ↥d=>↥d
 | some (some (.ow ds))=>some GQ
 | some (some (.pw ds))=>some GQ
 | _=>none
noncomputable def fC(d:D):FD:=λ_=>some d
section
variable{X:Cx}
theorem zAu{e:vP}(i:Nat)(h:PE X e Lx):XE X e (Yh i):=by
 refine⟨_,h,dv⟩;unfold Yh at e;cases q:ω[i]? with
 | none=>rw[q]at e;cases e
 | some w=>
  rw[q]at e;cases w with
  | none=>cases e
  | some w=>
   cases w with
   | sh d=>
    cases e;obtain⟨v,h1,h2⟩:=o.sh i d q;exact⟨v,h1,k v G H k5 h2⟩
   | ow ds=>
    cases e;obtain⟨l,vs,h1,h2,h3,h4,h5⟩:=o.ow i ds q;exact⟨_,h1,k _ G H k5 ⟨l,vs,rfl,h2,h5⟩⟩
   | od ks ds=>cases e
   | pw ds=>
    cases e;obtain⟨vs,h1,h2,h3,h4,h5,_⟩:=o.pw i ds q;exact⟨_,h1,k _ G H k5 ⟨_,vs,rfl,h2,h5⟩⟩
theorem xd_c{e:vP}{v:V}{d:D}(h:PE X e (tC v))(hr:∀K H,Rep K H d v):XD X e (fC d):=by
 refine⟨_,h,dv⟩;cases e;exact k v G H k5 (hr _ _)
theorem Yg{i j pos}:XD X ST (fC lI):=xd_c qko λ_ _=>rfl
theorem Xb{b j pos}:XD X MM (fC GW):=xd_c qlf λ_ _=>rfl
theorem Wf{j pos}:XD X PP abF:=xd_c qk5 λ_ _=>rfl
theorem Xr{x j pos}:XD X SU (fC Ip):=xd_c qkH λ_ _=>rfl
end
theorem bnd{α β:Type}{o:Option α}{f:α->Option β}{r:β}(h:o.bind f=some r):∃a,o=some a/\f a=some r:=Option.bind_eq_some_iff.mp h
theorem mpd{α β:Type}{o:Option α}{f:Th}{r:β}(h:o.map f=some r):∃a,o=some a/\f a=r:=xy.mp h
noncomputable def Yq:FA:=λ_=>some []
noncomputable def Yf(f:FD)(g:FA):FA:=λω=>(f ω).bind λd=>(g ω).map λds=>d::ds
section
variable{X:Cx}{e:vP}{es:List vP}
theorem Yk:XA X [] Yq:=⟨⟨_,qC,λG0 H0 G ω σ H ds Q o e k=>by cases e;exact k [] G H k5 rfl⟩,λω ds e=>by cases e;rfl⟩
theorem Ye{f:FD}{g:FA}(h:LA)(hr:XA X es g)(hs:aI:=by rfl):XA X jA (Yf f g):=by
 obtain⟨t,h1,h2⟩:=h;obtain⟨⟨u,h3,h4⟩,h5⟩:=hr;refine⟨kc,P3⟩
 ·obtain⟨d,q,e⟩:=bnd e
  obtain⟨r,q2,e⟩:=mpd e;subst e;refine h2 G0 H0 G ω σ H d _ o q λv G1 H1 x1 y1=>?_;refine h4 G0 H0 G1 ω σ H1 r _ gY q2 λvs G2 H2 x2 y2=>?_;exact k _ G2 H2 eA (Yr.cons BS y2)
 ·obtain⟨d,q,e⟩:=bnd e
  obtain⟨r,q2,e⟩:=mpd e;subst e;rw[zK,zK,abE]
noncomputable def zAW(g:FA):FD:=λω=>(g ω).map D.tup
noncomputable def WZ(g:FA):FE:=λω=>(g ω).map R.fr
theorem zAj{n:Nat}(h:n<=1000):n<=sizeLine:=ya (zA0 h)
theorem Xs{x1 pos}{g:FA}(h:XA X es g)(hl:es.length<=1000:=by decide):XD X Vi (zAW g):=by
 obtain⟨⟨t,h1,h2⟩,h5⟩:=h;refine⟨_,qju h1,eK⟩;obtain⟨ds,q,e⟩:=mpd e;subst e;refine h2 G0 H0 G ω σ H ds _ o q λvs G1 H1 x1 y1=>⟨zAj (by rw[<- y1.len,h5 ω ds q];exact hl),AZ⟩;have x2:=Ext.lay x1.gh hp PJ;exact k _ _ _ eA ⟨p,vs,rfl,qf,BS⟩
theorem XF{pos}{g:FA}(h:XA X es g)(hl:es.length<=1000:=by decide):XE X ada (WZ g):=by
 obtain⟨⟨t,h1,h2⟩,h5⟩:=h;refine⟨_,q3x h1,eK⟩;obtain⟨ds,q,e⟩:=mpd e;subst e;refine h2 G0 H0 G ω σ H ds _ o q λvs G1 H1 x1 y1=>⟨zAj (by rw[<- y1.len,h5 ω ds q];exact hl),AZ⟩;have x2:=Ext.hide x1.gh hp fV;exact k _ _ _ eA ⟨p,vs,rfl,x1.hh.free hp,x1.gh.free hp,qf,y1⟩
inductive O where
 | sh (d:D)|fr (ds:List D)
noncomputable def O.r:O->R
 | .sh d=>.sh d
 | .fr ds=>.fr ds
noncomputable def spD(K:zC)(n:Nat)(m:bG):Sp:=λvs H Q _=>∃G ds r,m ds=some r/\ds.length=n/\Yx G H/\Yr K G ds vs/\∀v G' H',Ext G H G' H'->zBC K H G' H' r.r v->Q v H'
noncomputable def Yp(m:bG)(g:FA):FE:=λω=>(g ω).bind λds=>(m ds).map O.r
theorem zBr{CX:CXT}{k:Nat}{f:vC}{fd:vL}{ps:dM}{m:bG}{E:XK}{x:Str}{p pos:Pos}{g:FA}(F:FnOk X.prog X.w X.K X.mg X.base CX k f fd ps (spD X.K (e::es).length m))(hr:abZ)(hg:rT)(hm:X.mg x=some eZ)(hk:xK X.K eZ=true)(hb:jp)(hx:abh)(ha:XA X jA g)(hdb:aG:=by decide)(he:aI:=by rfl)(hpl:(vZ pos iF).any (·.1)=false:=by rfl):
  XE X bZ (Yp m g):=by
 obtain⟨⟨t,h1,h2⟩,h5⟩:=ha;refine⟨_,q7Y F hr hg hm hk hb .nil hx h1 hdb he hpl,dv⟩;obtain⟨ds,q,e⟩:=bnd e;obtain⟨r',q2,e⟩:=mpd e;subst e;refine h2 G0 H0 G ω σ H ds _ o q λvs G1 H1 x1 y1=>?_;refine⟨G1,ds,r',q2,h5 ω ds q,x1.gh,by rw[zn];exact y1,λv G2 H2 x2 y2=>k v G2 H2 eA ?_⟩;cases r' with
 | sh d=>exact y2
 | fr ds=>obtain⟨l,vs,e1,e2,e3⟩:=y2;exact⟨l,vs,e1,x1.hh.free e2,e3⟩
end
open PySem.Spec PyProof.Rows PySem.SeqAt PySem.MeetsSeq PySem.MeetsSeq2 PySem.MeetsSeq3 in
theorem q94{prog:vS}{w:vX}{A:vc}{E:aO}{s:vF}{t sl:vC}{items:fj}{vl vu:vB}{lo hi:fA}{Q:aO}(ht:U8)(hs:Ax)(pl:tP vl lo)(pu:tP vu hi)(hw:HT.sIx items.size 0 lo=0/\HT.sIx items.size items.size hi=items.size)(h:Q kN s):vM ar A (u8 kN Ib) Q E s:=by
 obtain⟨os,hos,hcs,hds⟩:=id hs;have hTs:s.TypeIs Ib "slice" := acm;unfold u8
 try with_reducible refine vU ?_
 first|refine vA fW|skip
 refine vA (wpAny_sequenceKey ht.typeIs (by decide) ?_);refine vA (wpAny_callSpecial?_slot (name:=Str.ofString "__getitem__") ht.typeIs PyProof.Rows.slot_tuple_getitem
  mZ)
 show vM _ _ (Builtin.Tuple.tupleItemsOf kN >>= _) _ _ s;refine vA QV;refine vA (uc hTs ?_);rw[vH (by decide)];refine vA (HT.q3y hs pl pu ?_);have hy:iY=true:=by
  rw[hw.1,hw.2];simp
 show vM _ _ (if iY=true then _ else _) _ _ s;rw[vH hy];have hb:∀{R:Ar},R true s->vM ar A.in1 (Builtin.Tuple.tupleIsExact kN) R E s:=λr=>by
  unfold Builtin.Tuple.tupleIsExact;refine vA (uc ht.typeIs ?_);exact vG r
 refine vA (hb ?_);rw[lW];refine vA VA;exact vG AN
section
variable{X:Cx}
def rSlW(K:zC):V->Option Int->Option Int->Hp->VK->Prop:=λx lo hi H Q=>∃a xs,x=.ref a/\SqT K H a xs /\
 pP/\Q dJ H
theorem qfK:SlR X (rSlW X.K):=by
 intro pins s σ H x v vl vu lo hi sl Q I rx hs pl pu h;obtain⟨a,xs,rfl,hx,hw,q⟩:=h;cases rx;obtain⟨its,r,ht,hz⟩:=I.tuple hx;have hlen:its.toArray.size=xs.length:=by rw[zN];exact r.length.symm
 refine pF;exact q94 ht hs pl pu (by rw[hlen];exact hw) ⟨dJ,H,I,rfl,q⟩
end
theorem Vw.rep{K:zC}{G H:Hp}{d:D}{v:V}(h:K1)(e:Bc):Rep K H d v:=by
 rcases h with h|⟨ds,l,vs,rfl,rfl,h1,h2⟩
 ·exact h.mono e
 ·exact⟨l,vs,rfl,h1,h2.mono e⟩
theorem Vw.keep{K:zC}{G H G' H':Hp}{d:D}{v:V}(h:K1)(e:Ek):Vw K G' H' d v:=by
 rcases h with h|⟨ds,l,vs,h0,h1,h2,h3⟩
 ·exact .inl (h.mono e.gg)
 ·exact .inr ⟨ds,l,vs,h0,h1,Mz,h3.mono e.gg⟩
theorem Vw.lst{K:zC}{G H:Hp}{ds:aM}{v:V}(h:Vw K G H gK v)(e:Bc):∃a vs,v=.ref a/\H a=some fV/\Yr K G ds vs:=by
 rcases h with⟨a,vs,h1,h2,h3⟩|⟨ds',l,vs,h0,h1,h2,h3⟩
 ·exact⟨a,vs,h1,e _ _ h2,h3⟩
 ·cases h0;exact⟨l,vs,h1,h2,h3⟩
theorem Vw.of_ne{K:zC}{G H:Hp}{d:D}{v:V}(h:K1)(n:∀ds,d≠.lst ds):Rep K G d v:=by
 rcases h with h|⟨ds',l,vs,h0,h1,h2,h3⟩
 ·exact h
 ·exact vN h0 (n _)
def VwA(K:zC)(G H:Hp):List D->List V->Prop
 | [],vs=>vs=[]
 | d::ds,vs=>∃v r,vs=v::r/\Vw K G H d v/\VwA K G H ds r
def SimVA(K:zC)(t:TA)(f:FA):Prop:=∀G0 H0 G ω σ H ds(Q:lY),Own K G0 H0 G ω σ H->f ω=some ds ->
 (∀vs G' H',Ext G H G' H'->VwA K G' H' ds vs->Q vs H')->t σ H Q
def XVA(X:Cx)(es:iI)(f:FA):Prop:=∃t,PA X es t/\SimVA X.K t f
section
variable{X:Cx}{e:vP}{es:List vP}
theorem qo:XVA X [] Yq:=⟨_,qC,λG0 H0 G ω σ H ds Q o e k=>by cases e;exact k [] G H k5 rfl⟩
theorem qj{f:FD}{g:FA}(h:XV X e f)(hr:XVA X es g)(hs:aI:=by rfl):XVA X jA (Yf f g):=by
 obtain⟨t,h1,h2⟩:=h;obtain⟨u,h3,h4⟩:=hr;refine kc;obtain⟨d,q,e⟩:=bnd e;obtain⟨r,q2,e⟩:=mpd e;subst e;refine h2 G0 H0 G ω σ H d _ o q λv G1 H1 x1 y1=>?_;refine h4 G0 H0 G1 ω σ H1 r _ gY q2 λvs G2 H2 x2 y2=>?_;exact k _ G2 H2 eA ⟨v,vs,rfl,y1.keep x2,y2⟩
noncomputable def Yn(op:mw)(f g:FD):FE:=λω=>(f ω).bind λx=>(g ω).bind λy=>op x y
def OpV(K:zC)(r:R2)(op:mw):Prop:=∀G H x y d v u(Q:VK),Yx G H->op x y=some d->Vw K G H x v->Vw K G H y u ->
 (∀w G' H',Ext G H G' H'->zBC K H G' H' d w->Q w H')->r v u H Q
theorem q5U{r:R2}{o:mw}{f g:FD}{t u:TE}(hd:HQ)(h2:SimV X.K t f)(h4:SimV X.K u g):zB6 X.K (tOp r t u) IL:=by
 intro G0 H0 G ω σ H d Q ow e k;obtain⟨x,q,e⟩:=bnd e;obtain⟨y,q2,e⟩:=bnd e;refine h2 G0 H0 G ω σ H x _ ow q λv G1 H1 x1 y1=>?_;refine h4 G0 H0 G1 ω σ H1 y _ Qf q2 λv2 G2 H2 x2 y2=>?_;refine hd G2 H2 x y d v v2 Q x2.gh e (y1.keep x2) y2 λw G3 H3 x3 z=>k w G3 H3 DC ?_;cases d with
 | sh d=>exact z
 | fr ds=>obtain⟨l,vs,e1,e2,e3⟩:=z;exact⟨l,vs,e1,(x1.trans x2).hh.free e2,e3⟩
 | vw ds=>exact z
variable{a b:vP}{pos:Pos}{f g:FD}
theorem q2H{op:Operator}{r:R2}{o:mw}(ho:OpR X (uQ op) r)(hd:HQ)(ha:dL)(hb:fT):XE X TQ IL:=by
 obtain⟨t,h1,h2⟩:=ha;obtain⟨u,h3,h4⟩:=hb;exact⟨_,ql1 ho h1 h3,JG⟩
theorem q5m{op:sJ}{r:R2}{o:mw}(ho:Gb)(hd:HQ)(ha:dL)(hb:fT)(hm:DX):XE X kW IL:=by
 obtain⟨t,h1,h2⟩:=ha;obtain⟨u,h3,h4⟩:=hb;exact⟨_,qja ho h1 h3 hm,JG⟩
theorem qle{r:R2}{o:mw}(ho:IxR X r)(hd:HQ)(ha:dL)(hb:fT)(hs:zAD b):XE X GC IL:=by
 obtain⟨t,h1,h2⟩:=ha;obtain⟨u,h3,h4⟩:=hb;exact⟨_,qkW ho h1 h3 hs,JG⟩
noncomputable def tOf(f:FE):FT:=λω=>match f ω with
 | ↥(.bl k)=>some k
 | _=>none
theorem qec{t:TE}{f:FE}(h:zB6 X.K t f):zAL X.K (tTest t) (tOf f):=by
 intro G0 H0 G ω σ H b Q o e k;unfold tOf at e;cases q:f ω with
 | none=>rw[q]at e;cases e
 | some r=>
  rw[q]at e;cases r with
  | sh d=>
   cases d with
   | bl c=>
    cases e;refine h G0 H0 G ω σ H _ _ o q λv G' H' x y=>?_;cases (show v=V.bl b from y);exact⟨b,rfl,k G' H' x⟩
   | _=>cases e
  | _=>cases e
theorem q2J{op:sJ}{r:R2}{o:mw}(ho:Gb)(hd:HQ)(ha:dL)(hb:fT)(hm:DX):XT X kW (tOf IL):=by
 obtain⟨t,h1,h2⟩:=ha;obtain⟨u,h3,h4⟩:=hb;exact⟨_,qif ho h1 h3 hm,qec JG⟩
noncomputable def zAd(c:Pa)(g:U9):D->D->Option R
 | .int i,.int j=>if c i j=true then ↥pW else none
 | _,_=>none
theorem Vw.int{K:zC}{G H:Hp}{i:Int}{v:V}(h:Vw K G H lI v):v=.int i:=h.of_ne (λ_ z=>by cases z)
theorem Vw.bl{K:zC}{G H:Hp}{i:Bool}{v:V}(h:Vw K G H (.bl i) v):v=.bl i:=h.of_ne (λ_ z=>by cases z)
theorem Vw.str{K:zC}{G H:Hp}{i:Str}{v:V}(h:Vw K G H (.str i) v):v=.str i:=h.of_ne (λ_ z=>by cases z)
theorem Vw.non{K:zC}{G H:Hp}{v:V}(h:Vw K G H .non v):v=.non:=h.of_ne (λ_ z=>by cases z)
theorem Vw.tup{K:zC}{G H:Hp}{ds:aM}{v:V}(h:Vw K G H Fe v):∃a vs,v=.ref a/\G a=some PJ/\Yr K G ds vs:=h.of_ne (λ_ z=>by cases z)
theorem Vw.scr{K:zC}{G H:Hp}{ns:ac}{v:V}(h:Vw K G H ky v):∃a,v=.ref a/\SqL K G a cF:=h.of_ne (λ_ z=>by cases z)
theorem q4o{K:zC}{C:O9}{c:Pa}{gV:MI}{g:U9}(hc:∀i j,c i j=true->C i j)(hg:∀H i j,Rep K H pW (gV i j)):OpV K (rI C gV) (zAd c g):=by
 intro G H x y d v u Q s e hx hy k;cases x with
 | int i=>
  cases y with
  | int j=>
   cases hx.int;cases hy.int;unfold zAd at e
   dsimp only at e
   by_cases z:c i j=true
   ·rw[gR]at e
    cases e;exact⟨i,j,rfl,rfl,hc i j z,Tt⟩
   ·rw[gE]at e;cases e
  | _=>cases e
 | _=>cases e
theorem q2n{K:zC}{gV:MI}{g:U9}(hg:∀H i j,Rep K H pW (gV i j)):OpV K (rI0 gV) (zAd Df g):=by
 intro G H x y d v u Q s e hx hy k;cases x with
 | int i=>
  cases y with
  | int j=>
   cases hx.int;cases hy.int;cases e;exact⟨i,j,rfl,rfl,Tt⟩
  | _=>cases e
 | _=>cases e
noncomputable def zBq(i j:Int):Bool:=(decide (-(2^64)<i)&&decide (i<2^64)) || (decide (-(2^64)<j)&&decide (j<2^64))
noncomputable def cDiv(_ j:Int):Bool:=decide (0<j)&&decide (j<1073741824)
noncomputable def cMod(_ j:Int):Bool:=decide (0<j)
noncomputable def cPow(i j:Int):Bool:=decide (0<=j)&&decide (j<=1000000)&&decide (i.natAbs<2^64)
noncomputable abbrev Wq:D->D->Option R:=zAd Df λi j=>.int (i-j)
noncomputable abbrev zA7:D->D->Option R:=zAd zBq λi j=>.int (i*j)
noncomputable abbrev oDiv:D->D->Option R:=zAd cDiv λi j=>.int (i/j)
noncomputable abbrev oMod:D->D->Option R:=zAd cMod λi j=>.int (i%j)
noncomputable abbrev oPow:D->D->Option R:=zAd cPow λi j=>.int (i^j.toNat)
noncomputable abbrev oLt:D->D->Option R:=zAd Df λi j=>.bl (decide (i<j))
noncomputable abbrev oGt:D->D->Option R:=zAd Df λi j=>.bl (decide (j<i))
noncomputable abbrev oGe:D->D->Option R:=zAd Df λi j=>.bl (decide (j<=i))
noncomputable def Xo:D->D->Option R
 | .int i,.int j=>↥(.int (i+j))
 | .lst xs,.lst ys=>if xs.length+ys.length<=1000000 then some (.fr MY)else none
 | .tup [],.tup ys=>↥aca
 | .tup (x::xs),.tup ys=>if (x::xs).length+ys.length<=1000000 then ↥(.tup (OD++ys))else none
 | _,_=>none
theorem q6w{n:Nat}(h:n<=1000000):n<=sizeLine:=by rw[vh];omega
noncomputable def rCat0(K:zC):R2:=λx y H Q=>∃a b ys,x=.ref a/\y=.ref b/\SqT K H a []/\SqT K H b ys/\Q Bi H
theorem qiC:OpR X KF (rCat0 X.K):=by
 intro pins s σ H x y v u Q I rx ry h;obtain⟨a,b,ys,rfl,rfl,ha,hb,q⟩:=h;cases rx;cases ry;obtain⟨its,r1,p1,_⟩:=I.tuple ha;obtain⟨its2,r2,p2,_⟩:=I.tuple hb;have e0:its=[]:=r1.nil_iff.mpr rfl;subst e0;obtain⟨⟨cls,dd,data,sl⟩,ho,hc,n,hd⟩:=id p1;obtain⟨⟨cls2,dd2,data2,sl2⟩,ho2,hc2,n2,hd2⟩:=id p2;simp only at hc hd hc2 hd2;subst hc hd hc2 hd2;exact PySem.concat_meets Os MT PySem.noFill_tuple_add PySem.seq_tuple_add PySem.F.slot_tuple_add PySem.F.entry_tuple_add AB
  (PyProof.Rows.tuple_addW0 a b _ its2.toArray n n2 dd dd2 sl sl2 (by simp)) ⟨ho,ho2,⟨Bi,H,I,rfl,q⟩⟩
noncomputable def zAf(K:zC):R2:=λx y H Q=>rI0 (λi j=>.int (i+j)) x y H Q\/rCat x y H Q\/rCatT K x y H Q\/rCat0 K x y H Q
theorem qf9:OpR X KF (zAf X.K):=qkI.or (qjD.or (qiK.or qiC))
theorem qiE{K:zC}:OpV K (zAf K) Xo:=by
 intro G H x y d v u Q s e hx hy k;cases x with
 | int i=>
  cases y with
  | int j=>
   cases hx.int;cases hy.int;cases e;exact .inl TX
  | _=>cases e
 | lst xs=>
  cases y with
  | lst ys=>
   unfold Xo at e
   dsimp only at e
   by_cases z:xs.length+ys.length<=1000000
   ·rw[gR]at e
    cases e;obtain⟨a,vs,rfl,h1,h2⟩:=hx.lst s;obtain⟨b,us,rfl,h3,h4⟩:=hy.lst s;refine .inr (.inl ⟨a,b,vs,us,rfl,rfl,h1,h3,q6w (by rw[<- h2.len,<- h4.len];exact z),AZ⟩);exact k _ G _ V0 ⟨p,_,rfl,hp,s.free hp,qf,h2.app h4⟩
   ·rw[gE]at e;cases e
  | _=>cases e
 | tup xs=>
  cases y with
  | tup ys=>
   obtain⟨a,vs,rfl,h1,h2⟩:=hx.tup;obtain⟨b,us,rfl,h3,h4⟩:=hy.tup;cases xs with
   | nil=>
    cases e;have ev:vs=[]:=yp h2.len.symm;subst ev;exact .inr (.inr (.inr ⟨a,b,us,rfl,rfl,CT,SqT.of M8,k _ G H dy ⟨b,us,rfl,h3,h4⟩⟩))
   | cons x0 xs=>
    unfold Xo at e
    dsimp only at e
    by_cases z:(x0::xs).length+ys.length<=1000000
    ·rw[gR]at e
     cases e;refine .inr (.inr (.inl ⟨a,b,vs,us,rfl,rfl,CT,SqT.of M8,λw=>?_,q6w (by rw[<- h2.len,<- h4.len];exact z),λw=>?_,λ_ p hp=>?_⟩))
     ·have:=h2.len
      rw[w]at this;cases this
     ·have:=h4.len
      rw[w]at this;have ey:ys=[]:=yp this;subst ey;rw[zn]at k;exact k _ G H dy ⟨a,vs,rfl,h1,h2⟩
     ·have x2:=Ext.lay s hp (.tup (vs++us))
      exact k _ _ _ x2 ⟨p,_,rfl,qf,(h2.app h4).mono x2.gg⟩
    ·rw[gE]at e;cases e
  | _=>cases xs <;> cases e
 | _=>cases e
theorem qJ(ha:dL)(hb:fT):XE X (.BinOp a .Add b pos) (Yn Xo f g):=q2H qf9 qiE ha hb
theorem q09(ha:dL)(hb:fT):XE X (.BinOp a .Sub b pos) (Yn Wq f g):=q2H qkh mL ha hb
theorem mulOk{i j:Int}(h:zBq i j=true):CMul i j:=by
 unfold zBq at h;rw[Bool.or_eq_true,zu,zu,decide_eq_true_iff,decide_eq_true_iff,decide_eq_true_iff,decide_eq_true_iff]at h;exact h
theorem divOk{i j:Int}(h:cDiv i j=true):CDiv i j:=by
 unfold cDiv at h;rw[zu,decide_eq_true_iff,decide_eq_true_iff]at h;exact h
theorem powOk{i j:Int}(h:cPow i j=true):CPow i j:=by
 unfold cPow at h;rw[zu,zu,decide_eq_true_iff,decide_eq_true_iff,decide_eq_true_iff]at h;exact⟨h.1.1,h.1.2,h.2⟩
theorem qaE(ha:dL)(hb:fT):XE X ET (Yn zA7 f g):=q2H qkC (q4o (λ_ _ h=>mulOk h) λ_ _ _=>rfl) ha hb
theorem q0K(ha:dL)(hb:fT):XE X (.BinOp a .FloorDiv b pos) (Yn oDiv f g):=q2H qhX (q4o (λ_ _ h=>divOk h) λ_ _ _=>rfl) ha hb
theorem qT(ha:dL)(hb:fT):XE X (.BinOp a .Mod b pos) (Yn oMod f g):=q2H qjq (q4o (λ_ _ h=>of_decide_eq_true h) λ_ _ _=>rfl) ha hb
theorem qjz(ha:dL)(hb:fT):XE X (.BinOp a .Pow b pos) (Yn oPow f g):=q2H qjn (q4o (λ_ _ h=>powOk h) λ_ _ _=>rfl) ha hb
noncomputable def oNeg:D->Option R
 | .int i=>↥(.int (-i))
 | _=>none
noncomputable def Wz(f:FD):FE:=λω=>(f ω).bind oNeg
theorem q0i(ha:dL):XE X (.UnaryOp .USub a pos) (Wz f):=by
 obtain⟨t,h1,h2⟩:=ha;refine⟨_,qkT qkl h1,λG0 H0 G ω σ H d Q ow e k=>?_⟩;obtain⟨x,q,e⟩:=bnd e;refine h2 G0 H0 G ω σ H x _ ow q λv G1 H1 x1 y1=>?_;cases x with
 | int i=>cases e;cases y1.int;exact⟨i,rfl,LT⟩
 | _=>cases e
theorem qdk(ha:dL)(hb:fT):XE X NZ (Yn oLt f g):=q5m qhE mL ha hb E5
theorem qgI(ha:dL)(hb:fT):XE X MO (Yn oGe f g):=q5m qgW mL ha hb E5
theorem q7a(ha:dL)(hb:fT):XT X NZ (tOf (Yn oLt f g)):=q2J qhE mL ha hb E5
theorem qhk(ha:dL)(hb:fT):XT X (.Compare a [.Gt] [b] pos) (tOf (Yn oGt f g)):=q2J qkR mL ha hb E5
theorem ql6(ha:dL)(hb:fT):XT X MO (tOf (Yn oGe f g)):=q2J qgW mL ha hb E5
end
mutual
noncomputable def D.py:D->PyData
 | .non=>.none
 | .bl b=>.bool b
 | .int i=>.int i
 | .str x=>.str x
 | .lst xs=>.list (D.pys xs)
 | .tup xs=>.tuple (D.pys xs)
 | .scr ns=>.list Tr
 | .exc _=>.dict []
 | .dic _ _=>.dict []
noncomputable def D.pys:List D->List PyData
 | []=>[]
 | d::ds=>d.py::D.pys ds
end
section
variable{X:Cx}{pins:List (vC×Obj)}{σ:St}{H:Hp}{s:vF}
theorem Wg{h:ve}:∀{ns:ac}{us:bC},Yw cF us->∃as,ReadsAll h us Tr as
 | [],_,r=>by cases r;exact⟨_,.nil⟩
 | n::ns,_,r=>by
  rw[zL]at r;cases r with
  | cons r1 r2=>
   obtain⟨t,rfl⟩:=r1;obtain⟨as,q⟩:=Wg (h:=h) r2;exact⟨_,.cons (.int n t) q⟩
mutual
theorem X9(I:aj):∀{d:D}{v:V}{u:vB},d.py.canLay0=true->Rep X.K H d v->RelV v u->∃as,Reads s.heap u d.py as
 | .non,_,_,_,h,r=>by cases (show _=V.non from h);cases r;exact⟨_,.none⟩
 | .bl b,_,_,_,h,r=>by cases (show _=V.bl b from h);cases r;exact⟨_,.bool b⟩
 | .int i,_,_,_,h,r=>by cases (show _=V.int i from h);obtain⟨t,rfl⟩:=r;exact⟨_,Bs⟩
 | .str x,_,_,_,h,r=>by cases (show _=V.str x from h);obtain⟨t,rfl⟩:=r;exact⟨_,acd⟩
 | .lst ds,_,_,hc,⟨a,vs,rfl,h2,h3⟩,r=>by
  cases r;obtain⟨its,n,rv,e,_⟩:=I.lst h2;obtain⟨as,q⟩:=WV I (show PyData.canLayAll0 p8=true from hc) h3 rv;exact⟨_,.list e rfl rfl ⇑q⟩
 | .tup ds,_,_,hc,⟨a,vs,rfl,h2,h3⟩,r=>by
  cases r;obtain⟨its,rv,⟨o,e,c,n,dd⟩,_⟩:=I.tuple (SqT.of h2);obtain⟨as,q⟩:=WV I (show PyData.canLayAll0 p8=true from hc) h3 rv;exact⟨_,.tuple e c dd ⇑q⟩
 | .exc _,_,_,hc,_,_=>by cases hc
 | .dic _ _,_,_,hc,_,_=>by cases hc
 | .scr ns,_,_,_,⟨a,rfl,h2⟩,r=>by
  cases r;obtain⟨its,rv,pl,_⟩:=I.list h2;obtain⟨o,e,c,n,dd⟩:=pl.isList;obtain⟨as,q⟩:=Wg (h:=s.heap) rv;exact⟨_,.list e c dd ⇑q⟩
theorem WV(I:aj):∀{ds:aM}{vs:br}{us:bC},PyData.canLayAll0 p8=true->Yr X.K H ds vs->Yw vs us->∃as,ReadsAll s.heap us p8 as
 | [],_,_,_,h,r=>by cases (show _=[]from h);cases r;exact⟨_,.nil⟩
 | d::ds,_,_,hc,⟨v,vr,h1,h2,h3⟩,r=>by
  have hc':=ZS.mp (show (d.py.canLay0&&PyData.canLayAll0 p8)=true from hc);subst h1;cases r with
  | cons r1 r2=>
   obtain⟨as,q1⟩:=X9 I hc'.1 h2 r1;obtain⟨bs,q2⟩:=WV I hc'.2 h3 r2;exact⟨_,.cons q1 q2⟩
end
end
noncomputable def shp(d:D):Bool:=SeqAt.shaped d.py
noncomputable def eqD(x y:D):Bool:=PyData.eqv x.py y.py
noncomputable def rEqD(K:zC)(neg:Bool):R2:=λx y H Q=>∃d e,Rep K H d x/\Rep K H e y/\shp d=true/\shp e=true/\Q (.bl (if neg then !eqD d e else eqD d e)) H
noncomputable def oEq(neg:Bool):D->D->Option R:=λx y=>if shp x&&shp y then ↥(.bl (if neg then !eqD x y else eqD x y))else none
section
variable{X:Cx}{a b:vP}{pos:Pos}{f g:FD}
theorem zBT(hu:ie):OpR X (uG .Eq) (rEqD X.K false):=by
 intro pins s σ H x y v u Q I rx ry h;obtain⟨d,e,h1,h2,h3,h4,q⟩:=h;obtain⟨as,ra⟩:=X9 I MF h1 rx;obtain⟨bs,rb⟩:=X9 I ME h2 ry;exact SeqAt.compareEq_shaped ra rb h3 h4 hu AF
theorem zBb(hu:ie):OpR X (uG .NotEq) (rEqD X.K true):=by
 intro pins s σ H x y v u Q I rx ry h;obtain⟨d,e,h1,h2,h3,h4,q⟩:=h;obtain⟨as,ra⟩:=X9 I MF h1 rx;obtain⟨bs,rb⟩:=X9 I ME h2 ry;exact SeqAt.compareNe_shaped ra rb h3 h4 hu AF
theorem zAP{K:zC}{neg:Bool}:OpV K (rEqD K neg) (oEq neg):=by
 intro G H x y d v u Q s e hx hy k;unfold oEq at e
 by_cases z:(shp x&&shp y)=true
 ·rw[gR]at e
  cases e;rw[zu]at z;exact⟨x,y,OK,hy.rep s,z.1,z.2,kL⟩
 ·rw[gE]at e;cases e
theorem W5(hu:ie)(ha:dL)(hb:fT):XE X N0 (Yn da f g):=q5m (zBT hu) zAP ha hb E5
theorem xe_ne(hu:ie)(ha:dL)(hb:fT):XE X LF (Yn fL f g):=q5m (zBb hu) zAP ha hb E5
theorem X4(hu:ie)(ha:dL)(hb:fT):XT X N0 (tOf (Yn da f g)):=q2J (zBT hu) zAP ha hb E5
theorem Xq(hu:ie)(ha:dL)(hb:fT):XT X LF (tOf (Yn fL f g)):=q2J (zBb hu) zAP ha hb E5
noncomputable def rIs(neg:Bool):R2:=λx y H Q=>(y=.non/\Q (.bl (if neg then !decide RN else decide RN)) H)\/∃a b,x=.bl a/\y=.bl b/\Q (.bl (if neg then ! UL else a==b)) H
theorem op_is:OpR X (uG .Is) (rIs false):=by
 intro pins s σ H x y v u Q I rx ry h;rcases h with⟨rfl,q⟩|⟨a,b,rfl,rfl,q⟩
 ·exact qkp pins s σ H x .non v u Q I rx ry ⟨rfl,q⟩
 ·cases rx
  cases ry;exact PyProof.Rows.is_bool AF
theorem zBL:OpR X (uG .IsNot) (rIs true):=by
 intro pins s σ H x y v u Q I rx ry h;rcases h with⟨rfl,q⟩|⟨a,b,rfl,rfl,q⟩
 ·exact qia pins s σ H x .non v u Q I rx ry ⟨rfl,q⟩
 ·cases rx
  cases ry;exact PyProof.Rows.isnot_bool AF
noncomputable def isN:D->Bool
 | .non=>true
 | _=>false
noncomputable def oIs(neg:Bool):D->D->Option R
 | x,.non=>↥(.bl (if neg then !isN x else isN x))
 | .bl i,.bl j=>↥(.bl (if neg then !(i==j)else i==j))
 | _,_=>none
theorem isN_of{K:zC}{H:Hp}{d:D}{v:V}(h:U3):decide (v=.non)=isN d:=by
 cases d with
 | non=>cases (show v=V.non from h);rfl
 | bl b=>cases (show v=V.bl b from h);rfl
 | int b=>cases (show v=V.int b from h);rfl
 | str b=>cases (show v=V.str b from h);rfl
 | lst _=>obtain⟨a,_,rfl,_⟩:=h;rfl
 | tup _=>obtain⟨a,_,rfl,_⟩:=h;rfl
 | scr _=>obtain⟨a,rfl,_⟩:=h;rfl
 | exc _=>obtain⟨a,_,rfl,_⟩:=h;rfl
 | dic _ _=>obtain⟨a,_,rfl,_⟩:=h;rfl
theorem zBY{K:zC}{neg:Bool}:OpV K (rIs neg) (oIs neg):=by
 intro G H x y d v u Q s e hx hy k;cases y with
 | non=>
  cases hy.non;refine .inl ⟨rfl,?_⟩;rw[isN_of OK];cases x <;> (cases e;exact k _ G H dy rfl)
 | bl j=>
  cases x with
  | bl i=>
   cases hx.bl;cases hy.bl;cases e;exact .inr TX
  | _=>cases e
 | _=>cases x <;> cases e
theorem xt_is(ha:dL)(hb:fT):XT X (.Compare a [.Is] [b] pos) (tOf (Yn (oIs false) f g)):=q2J op_is zBY ha hb E5
theorem zBJ(ha:dL)(hb:fT):XT X (.Compare a [.IsNot] [b] pos) (tOf (Yn (oIs true) f g)):=q2J zBL zBY ha hb E5
noncomputable def Xm:D->Bool
 | .non=>true
 | .bl _=>true
 | .int _=>true
 | .str _=>true
 | _=>false
noncomputable def D.v:D->V
 | .bl b=>.bl b
 | .int i=>.int i
 | .str x=>.str x
 | _=>.non
theorem Wl{K:zC}{H:Hp}{d:D}{v:V}(h:U3)(f:Xm d=true):v=d.v/\Wa v=true:=by
 cases d with
 | non=>cases (show v=V.non from h);exact bQ
 | bl b=>cases (show v=V.bl b from h);exact bQ
 | int b=>cases (show v=V.int b from h);exact bQ
 | str b=>cases (show v=V.str b from h);exact bQ
 | _=>cases f
theorem WU{K:zC}{H:Hp}:∀{ds:aM}{vs:br},Yr K H ds vs->ds.all Xm=true->vs=ds.map D.v/\vs.all Wa=true
 | [],_,h,_=>by cases (show _=[]from h);exact bQ
 | d::ds,_,⟨v,r,h1,h2,h3⟩,f=>by
  rw[xV,zu]at f;obtain⟨e1,e2⟩:=Wl h2 f.1;obtain⟨e3,e4⟩:=WU h3 f.2;subst h1;refine⟨by rw[zL,<- e1,<- e3],by rw[xV,e2,e4];rfl⟩
noncomputable def inD(x:D)(ds:aM):Bool:=inV x.v (ds.map D.v)
noncomputable def oIn(neg:Bool):D->D->Option R
 | x,.lst ys=>if Xm x&&ys.all Xm then ↥(.bl (if neg then !inD x ys else inD x ys))else none
 | x,.tup ys=>if Xm x&&ys.all Xm then ↥(.bl (if neg then !inD x ys else inD x ys))else none
 | _,_=>none
theorem zBP{K:zC}{neg:Bool}:OpV K (rIn K neg) (oIn neg):=by
 intro G H x y d v u Q s e hx hy k;cases y with
 | lst ys=>
  unfold oIn at e
  dsimp only at e
  by_cases z:VU=true
  ·rw[gR]at e
   cases e;rw[zu]at z;obtain⟨p,vs,rfl,h1,h2⟩:=hy.lst s;obtain⟨e1,e2⟩:=Wl OK z.1;obtain⟨e3,e4⟩:=WU h2 z.2;refine⟨p,vs,rfl,.inl Fx,e2,e4,?_⟩;rw[e1,e3];exact k _ G H dy rfl
  ·rw[gE]at e;cases e
 | tup ys=>
  unfold oIn at e
  dsimp only at e
  by_cases z:VU=true
  ·rw[gR]at e
   cases e;rw[zu]at z;obtain⟨p,vs,rfl,h1,h2⟩:=hy.tup;obtain⟨e1,e2⟩:=Wl OK z.1;obtain⟨e3,e4⟩:=WU h2 z.2;refine⟨p,vs,rfl,.inr CT,e2,e4,?_⟩;rw[e1,e3];exact k _ G H dy rfl
  ·rw[gE]at e;cases e
 | _=>cases x <;> cases e
theorem xe_in(ha:dL)(hb:fT)(hm:uD .In b=false:=by with_unfolding_all rfl):XE X (.Compare a [.In] [b] pos) (Yn (oIn false) f g):=q5m qeS zBP ha hb hm
theorem zAH(ha:dL)(hb:fT)(hm:uD .NotIn b=false:=by with_unfolding_all rfl):XT X (.Compare a [.NotIn] [b] pos) (tOf (Yn UA f g)):=q2J qai zBP ha hb hm
noncomputable def oIx:D->D->Option R
 | .lst ds,.int i=>(atI ds i).map R.sh
 | .tup ds,.int i=>(atI ds i).map R.sh
 | .scr ns,.int i=>(atI ns i).map λn=>.sh aY
 | _,_=>none
theorem zAQ{K:zC}{H:Hp}{ds:aM}{vs:br}{i:Int}{d:D}(h:Ck)(e:atI ds i=some d):∃v,atI vs i=some v/\Rep K H d v:=by
 unfold atI at e ⊢;rw[<- h.len];cases q:ixN ds.length i with
 | none=>rw[q]at e;cases e
 | some j=>
  rw[q]at e;obtain⟨v,e1,e2⟩:=h.get e;exact⟨v,e1,e2⟩
theorem zBI{ns:ac}{i n:Int}(e:atI ns i=some n):atI cF i=some aY:=by
 unfold atI at e ⊢;rw[zB];cases q:ixN ns.length i with
 | none=>rw[q]at e;cases e
 | some j=>
  rw[q]at e;have e':ns[j]?=some n:=e;show (ns.map V.int)[j]?=_;rw[zX,e'];rfl
theorem opv_ix{K:zC}:OpV K (rIx K) oIx:=by
 intro G H x y d v u Q s e hx hy k;cases y with
 | int i=>
  cases hy.int;cases x with
  | lst ds=>
   obtain⟨d',q,e'⟩:=mpd e;subst e';obtain⟨p,vs,rfl,h1,h2⟩:=hx.lst s;obtain⟨w,e1,e2⟩:=zAQ h2 q;exact .inl ⟨p,vs,i,w,rfl,rfl,Fx,e1,k _ G H dy e2⟩
  | tup ds=>
   obtain⟨d',q,e'⟩:=mpd e;subst e';obtain⟨p,vs,rfl,h1,h2⟩:=hx.tup;obtain⟨w,e1,e2⟩:=zAQ h2 q;exact .inr (.inl ⟨p,vs,i,w,rfl,rfl,CT,e1,k _ G H dy e2⟩)
  | scr ns=>
   obtain⟨n,q,e'⟩:=mpd e;subst e';obtain⟨p,rfl,h1⟩:=hx.scr;exact .inl ⟨p,_,i,aY,rfl,rfl,s.seq h1,zBI q,kL⟩
  | _=>cases e
 | _=>cases x <;> cases e
theorem Yj(ha:dL)(hb:fT)(hs:zAD b:=by exact λ_ _=>rfl):XE X GC (Yn oIx f g):=qle qk7 opv_ix ha hb hs
noncomputable abbrev FO:=WSt->Option fA
def SimO(K:zC)(t:TO)(f:FO):Prop:=∀G0 H0 G ω σ H o(Q:Gy),Own K G0 H0 G ω σ H->f ω=some o->(∀G' H',Ext G H G' H'->Q o H')->t σ H Q
def XO(X:Cx)(e:Fy)(f:FO):Prop:=∃t,PO X e t/\SimO X.K t f
noncomputable def pNo:FO:=λ_=>some none
noncomputable def pAt(f:FD):FO:=λω=>(f ω).bind λd=>match d with|.int i=>some Bm|_=>none
theorem XR:XO X none pNo:=⟨_,qj1,λG0 H0 G ω σ H o Q ow e k=>by cases e;exact k G H aaR⟩
theorem Y9(h:dL):XO X (some a) (pAt f):=by
 obtain⟨t,h1,h2⟩:=h;refine⟨_,qj8 h1,λG0 H0 G ω σ H o Q ow e k=>?_⟩;obtain⟨d,q,e⟩:=bnd e;refine h2 G0 H0 G ω σ H d _ ow q λv G1 H1 x1 y1=>?_;cases d with
 | int i=>cases e;cases y1.int;exact⟨i,rfl,k G1 H1 x1⟩
 | _=>cases e
noncomputable def cutD{α:Type}(xs:bJ)(lo hi:fA):List α:=(xs.drop pZ).take fB
theorem zAK{K:zC}{H:Hp}{ds:aM}{vs:br}(h:Ck)(lo hi:fA):Yr K H E1 (zAm vs lo hi):=by
 unfold cutD zAm;rw[h.len];exact(h.drop _).take _
theorem zBH(ns:ac)(lo hi:fA):zAm cF lo hi=(cutD ns lo hi).map V.int:=by
 unfold cutD zAm;rw[zB,wk,wm]
noncomputable def oSl:D->Option Int->Option Int->Option R
 | .lst ds,lo,hi=>some (.fr E1)
 | .scr ns,lo,hi=>some Jn
 | .tup ds,lo,hi=>if HT.sIx ds.length 0 lo=0/\HT.sIx ds.length ds.length hi=ds.length then ↥Fe else ↥(.tup E1)
 | _,_,_=>none
noncomputable def fSl(f:FD)(l h:FO):FE:=λω=>(f ω).bind λd=>(l ω).bind λlo=>(h ω).bind λhi=>oSl d lo hi
theorem Y5{lo hi:Fy}{l h:FO}{p2:Pos}(ha:dL)(hl:XO X lo l)(hh:XO X hi h):XE X (.Subscript a ER pos) (fSl f l h):=by
 obtain⟨t,h1,h2⟩:=ha;obtain⟨tl,h3,h4⟩:=hl;obtain⟨th,h5,h6⟩:=hh;refine⟨_,qg7 (qiP.or (qjr.or qfK)) h1 h3 h5,Kw⟩;obtain⟨d,q,e⟩:=bnd e;obtain⟨lo',q2,e⟩:=bnd e;obtain⟨hi',q3,e⟩:=bnd e;refine h2 G0 H0 G ω σ H d _ ow q λv G1 H1 x1 y1=>?_;refine h4 G0 H0 G1 ω σ H1 lo' _ Qf q2 λG2 H2 x2=>?_;refine h6 G0 H0 G2 ω σ H2 hi' _ ((ow.keep x1).keep x2) q3 λG3 H3 x3=>?_;have y3:=(y1.keep x2).keep x3;have x13:=(x1.trans x2).trans x3;cases d with
 | lst ds=>
  cases e;obtain⟨p,vs,rfl,h1,h2⟩:=y3.lst x3.gh;refine .inl ⟨p,vs,rfl,Fx,λn hn=>?_⟩;exact k _ G3 _ Jd ⟨n,_,rfl,x13.hh.free hn,x3.gh.free hn,qf,zAK h2 _ _⟩
 | scr ns=>
  cases e;obtain⟨p,rfl,h1⟩:=y3.scr;refine .inl ⟨p,_,rfl,x3.gh.seq h1,λn hn=>?_⟩;refine k _ G3 _ Jd ⟨n,_,rfl,x13.hh.free hn,x3.gh.free hn,qf,?_⟩;rw[zBH];exact Yr.ints _
 | tup ds=>
  unfold oSl at e
  dsimp only at e
  obtain⟨p,vs,rfl,h1,h2⟩:=y3.tup
  by_cases z:HT.sIx ds.length 0 lo'=0/\HT.sIx ds.length ds.length hi'=ds.length
  ·rw[gR]at e
   cases e;exact .inr (.inr ⟨p,vs,rfl,SqT.of acu,by rw[<- h2.len];exact z,k _ G3 H3 x13 ⟨p,vs,rfl,h1,h2⟩⟩)
  ·rw[gE]at e
   cases e;refine .inr (.inl ⟨p,vs,rfl,SqT.of acu,by rw[<- h2.len];exact z,λn hn=>?_⟩);have x4:=Ext.lay x3.gh hn (.tup (zAm vs lo' hi'));exact k _ _ _ (x13.trans x4) ⟨n,_,rfl,qf,(zAK h2 _ _).mono x4.gg⟩
 | _=>cases e
end
section
variable{X:Cx}{a b c:vP}{pos:Pos}{rest:List vP}{f g:FT}
noncomputable def Wn(f g:FT):FT:=λω=>(f ω).bind λc=>if c=true then g ω else some false
noncomputable def WM(f g:FT):FT:=λω=>(f ω).bind λc=>if c=true then some true else g ω
noncomputable def XQ(f:FT):FT:=λω=>(f ω).map (!·)
theorem qgh{t u:TT}(h:zAL X.K t f)(h':zAL X.K u g):zAL X.K (tAnd t u) (Wn f g):=by
 intro G0 H0 G ω σ H b Q o e k;obtain⟨c,q,e⟩:=bnd e;refine h G0 H0 G ω σ H c _ o q λG1 H1 x1=>?_;cases c with
 | true=>rw[lW]at e ⊢;exact h' G0 H0 G1 ω σ H1 b Q gY e λG2 H2 x2=>k G2 H2 eA
 | false=>cases e;exact k G1 H1 x1
theorem qiV{t u:TT}(h:zAL X.K t f)(h':zAL X.K u g):zAL X.K (tOr t u) (WM f g):=by
 intro G0 H0 G ω σ H b Q o e k;obtain⟨c,q,e⟩:=bnd e;refine h G0 H0 G ω σ H c _ o q λG1 H1 x1=>?_;cases c with
 | true=>cases e;exact k G1 H1 x1
 | false=>exact h' G0 H0 G1 ω σ H1 b Q gY e λG2 H2 x2=>k G2 H2 eA
theorem q6c(h:O2):XW X QJ f:=let ⟨t,h1,h2⟩:=h;⟨t,qhS h1,h2⟩
theorem q0J(h:O2):XW X Ru f:=let ⟨t,h1,h2⟩:=h;⟨t,qeF h1,h2⟩
theorem q4C(h:O2)(h':XW X mS g):XW X lJ (Wn f g):=let ⟨_,h1,h2⟩:=h;let ⟨_,h3,h4⟩:=h';⟨_,qkv h1 h3,qgh h2 h4⟩
theorem q06(h:O2)(h':XW X nA g):XW X lR (WM f g):=let ⟨_,h1,h2⟩:=h;let ⟨_,h3,h4⟩:=h';⟨_,qhC h1 h3,qiV h2 h4⟩
theorem XW.toT(h:XW X a f):XT X a f:=let ⟨t,h1,h2⟩:=h;⟨t,h1.pt,h2⟩
theorem qI(h:O2):XT X As (XQ f):=by
 obtain⟨t,h1,h2⟩:=h;refine⟨_,qka h1,Lf⟩;obtain⟨c,q,e⟩:=mpd e;subst e;exact h2 G0 H0 G ω σ H c _ o q k
noncomputable def truD:D->Option Bool
 | .non=>some false
 | .bl b=>some b
 | .int i=>some (i != 0)
 | .lst xs=>some (!xs.isEmpty)
 | .tup xs=>some (!xs.isEmpty)
 | _=>none
noncomputable def WB(f:FD):FT:=λω=>(f ω).bind truD
theorem q6m{α β:Type}{xs:bJ}{ys:List β}(h:xs.length=ys.length):xs.isEmpty=ys.isEmpty:=by
 cases xs <;> cases ys <;> first|rfl|cases h
theorem qE{f:FD}(h:dL)(he:∀whole,sQ a X.env whole=(do let v <- whole;sP a.pos;holding [v] Up):=by intro _;rfl):XT X a (WB f):=by
 obtain⟨t,h1,h2⟩:=h;refine⟨_,q4G h1 he,Lf⟩;obtain⟨d,q,e⟩:=bnd e;refine h2 G0 H0 G ω σ H d _ o q λv G1 H1 x1 y1=>⟨b,?_,k G1 H1 x1⟩;cases d with
 | non=>cases e;cases y1.non;rfl
 | bl c=>cases e;cases y1.bl;rfl
 | int i=>cases e;cases y1.int;rfl
 | lst xs=>
  cases e;obtain⟨p,vs,rfl,h1,h2⟩:=y1.lst x1.gh;exact .inl ⟨vs,Fx,by rw[q6m h2.len]⟩
 | tup xs=>
  cases e;obtain⟨p,vs,rfl,h1,h2⟩:=y1.tup;exact .inr (.inl ⟨vs,SqT.of (x1.gh _ _ h1),by rw[q6m h2.len]⟩)
 | _=>cases e
noncomputable def blOf:D->Option Bool
 | .bl b=>some b
 | _=>none
noncomputable def Wh(f g:FD):FD:=λω=>(f ω).bind λd=>(blOf d).bind λc=>if c=true then g ω else some i9
noncomputable def vOr(f g:FD):FD:=λω=>(f ω).bind λd=>(blOf d).bind λc=>if c=true then some bY else g ω
noncomputable def vNot(f:FD):FD:=λω=>(f ω).bind λd=>(blOf d).map λc=>.bl (!c)
noncomputable def zB3(c:FT)(f g:FE):FE:=λω=>(c ω).bind λk=>if k=true then f ω else g ω
variable{fa fb:FD}
theorem q0w{op}(h:Ri):XD X SX fa:=let ⟨t,h1,h2⟩:=h;⟨t,qjI h1,h2⟩
theorem q03(h:Ri)(h':XD X mS fb):XD X lJ (Wh fa fb):=by
 obtain⟨t,h1,h2⟩:=h;obtain⟨u,h3,h4⟩:=h';refine⟨_,qjN h1 h3,eK⟩;obtain⟨x,q,e⟩:=bnd e;obtain⟨c,q2,e2⟩:=bnd e;clear e;refine h2 G0 H0 G ω σ H x _ o q λv G1 H1 x1 y1=>?_;cases x with
 | bl z=>
  cases q2;cases (show v=V.bl c from y1);refine⟨c,rfl,?_⟩;cases c with
  | true=>rw[lW]at e2 ⊢;exact h4 G0 H0 G1 ω σ H1 d Q gY e2 λv G2 H2 x2 y2=>k v G2 H2 eA y2
  | false=>cases e2;exact k _ G1 H1 x1 rfl
 | _=>cases q2
theorem qlb(h:Ri)(h':XD X nA fb):XD X lR (vOr fa fb):=by
 obtain⟨t,h1,h2⟩:=h;obtain⟨u,h3,h4⟩:=h';refine⟨_,qkM h1 h3,eK⟩;obtain⟨x,q,e⟩:=bnd e;obtain⟨c,q2,e2⟩:=bnd e;clear e;refine h2 G0 H0 G ω σ H x _ o q λv G1 H1 x1 y1=>?_;cases x with
 | bl z=>
  cases q2;cases (show v=V.bl c from y1);refine⟨c,rfl,?_⟩;cases c with
  | true=>cases e2;exact k _ G1 H1 x1 rfl
  | false=>exact h4 G0 H0 G1 ω σ H1 d Q gY e2 λv G2 H2 x2 y2=>k v G2 H2 eA y2
 | _=>cases q2
theorem qdS(h:Ri):XD X As (vNot fa):=by
 obtain⟨t,h1,h2⟩:=h;refine⟨_,qki h1,eK⟩;obtain⟨x,q,e⟩:=bnd e;obtain⟨c,q2,e⟩:=mpd e;subst e;refine h2 G0 H0 G ω σ H x _ o q λv G1 H1 x1 y1=>?_;cases x with
 | bl z=>cases q2;cases (show v=V.bl c from y1);exact⟨c,rfl,LT⟩
 | _=>cases q2
theorem zBC.after{K:zC}{G H G1 H1 G2 H2:Hp}{r:R}{v:V}(x:Ext G H G1 H1)(y:zBC K H1 G2 H2 r v):zBC K H G2 H2 r v:=by
 cases r with
 | sh d=>exact y
 | fr ds=>obtain⟨l,vs,e1,e2,e3⟩:=y;exact⟨l,vs,e1,x.hh.free e2,e3⟩
 | vw ds=>exact y
theorem q7m{fc:FT}{f g:FE}(hc:XT X c fc)(ha:XE X a f)(hb:XE X b g):XE X Vj (zB3 fc f g):=by
 obtain⟨t,h1,h2⟩:=hc;obtain⟨u,h3,h4⟩:=ha;obtain⟨w,h5,h6⟩:=hb;refine⟨_,qg3 h1 h3 h5,dv⟩;obtain⟨z,q,e⟩:=bnd e;refine h2 G0 H0 G ω σ H z _ o q λG1 H1 x1=>?_;cases z with
 | true=>rw[lW]at e ⊢;exact h4 G0 H0 G1 ω σ H1 r Q gY e λv G2 H2 x2 y2=>k v G2 H2 eA OB
 | false=>exact h6 G0 H0 G1 ω σ H1 r Q gY e λv G2 H2 x2 y2=>k v G2 H2 eA OB
end
def WG(K:zC)(r:HS)(op:Mc):Prop:=∀G H ds vs d(Q:VK),Yx G H->op ds=some d->VwA K G H ds vs ->
 (∀w G' H',Ext G H G' H'->zBC K H G' H' d w->Q w H')->r vs H Q
noncomputable def XZ(op:Mc)(g:FA):FE:=λω=>(g ω).bind op
section
variable{X:Cx}{e:vP}{es:List vP}{x:Str}{p pos:Pos}{r:List V->Hp->VK->Prop}{op:List D->Option R}{g:FA}{id T:String}
theorem q6d{t:TA}(hd:U2)(h:SimVA X.K t g):zB6 X.K abn abP:=by
 intro G0 H0 G ω σ H d Q o e k;obtain⟨ds,q,e⟩:=bnd e;refine h G0 H0 G ω σ H ds _ o q λvs G1 H1 x1 y1=>?_;exact hd G1 H1 ds vs d Q x1.gh e y1 λw G2 H2 x2 y2=>k w G2 H2 eA OB
theorem qu(hc:Xu X kh r)(hd:U2)(hg:rT)(hm:Bo)(hv:vf x=some kh)(ha:XVA X jA g)(hn:lA:= by decide)(hdb:aG:=by decide)(he:aI:=by rfl)(hpl:(vZ pos iF).any (·.1)=false:=by rfl):XE X bZ abP:=by
 obtain⟨t,h1,h2⟩:=ha;exact⟨_,q3v hc hg hm hv h1 hn hdb he hpl,q6d hd h2⟩
theorem qlg(hc:Xu X B8 r)(hd:U2)(hg:rT)(hm:Bo)(hv:vf x=some B8)(ha:XVA X jA g)(hn:lA:= by decide)(hdb:aG:=by decide)(he:aI:=by rfl)(hpl:(vZ pos iF).any (·.1)=false:=by rfl):XE X bZ abP:=by
 obtain⟨t,h1,h2⟩:=ha;exact⟨_,q8D hc hg hm hv h1 hn hdb he hpl,q6d hd h2⟩
theorem VwA.one{K:zC}{G H:Hp}{d:D}{vs:br}(h:VwA K G H [d] vs):∃v,vs=[v]/\Vw K G H d v:=by
 obtain⟨v,r,h1,h2,h3⟩:=h;cases (show r=[]from h3);exact⟨v,h1,h2⟩
theorem VwA.two{K:zC}{G H:Hp}{d e:D}{vs:br}(h:VwA K G H [d,e] vs):∃v u,vs=[v,u]/\Vw K G H d v/\Vw K G H e u:=by
 obtain⟨v,r,h1,h2,h3⟩:=h;obtain⟨u,rfl,h4⟩:=VwA.one h3;exact V9
noncomputable def WK:List D->Option R
 | [.lst ds]=>↥Em
 | [.tup ds]=>↥Em
 | [.scr ns]=>↥aaX
 | _=>none
theorem qU{K:zC}:WG K (λxs H Q=>∃p ys,xs=OX/\L7/\Q FF H) WK:=by
 intro G H ds vs d Q s e hv k
 match ds,e with
 | [.lst ds],e=>
  cases e;obtain⟨v,rfl,h⟩:=hv.one;obtain⟨p,us,rfl,h1,h2⟩:=h.lst s;exact⟨p,us,rfl,.inl Fx,k _ G H dy (by show V.int _=V.int _;rw[h2.len])⟩
 | [.tup ds],e=>
  cases e;obtain⟨v,rfl,h⟩:=hv.one;obtain⟨p,us,rfl,h1,h2⟩:=h.tup;exact⟨p,us,rfl,.inr CT,k _ G H dy (by show V.int _=V.int _;rw[h2.len])⟩
 | [.scr ns],e=>
  cases e;obtain⟨v,rfl,h⟩:=hv.one;obtain⟨p,rfl,h1⟩:=h.scr;exact⟨p,_,rfl,.inl (s.seq h1),k _ G H dy (by show V.int _=V.int _;rw[zB])⟩
noncomputable def zBo:List D->Option R
 | [.int i]=>↥(.int (if i<0 then -i else i))
 | _=>none
theorem q9U{K:zC}:WG K (λxs H Q=>∃i,xs=[lI]/\Q (.int (if i<0 then -i else i)) H) zBo:=by
 intro G H ds vs d Q s e hv k
 match ds,e with
 | [.int i],e=>
  cases e;obtain⟨v,rfl,h⟩:=hv.one;cases h.int;exact⟨i,rfl,kL⟩
noncomputable def zBt:List D->Option R
 | [.lst ds]=>some Et
 | [.tup ds]=>some Et
 | _=>none
theorem qj5{K:zC}:WG K (λxs H Q=>∃p ys,xs=OX/\L7/\∀l,H l=none->Q c9 Qa) zBt:=by
 intro G H ds vs d Q s e hv k
 match ds,e with
 | [.lst ds],e=>
  cases e;obtain⟨v,rfl,h⟩:=hv.one;obtain⟨p,us,rfl,h1,h2⟩:=h.lst s;exact⟨p,us,rfl,.inl Fx,pT⟩
 | [.tup ds],e=>
  cases e;obtain⟨v,rfl,h⟩:=hv.one;obtain⟨p,us,rfl,h1,h2⟩:=h.tup;exact⟨p,us,rfl,.inr CT,pT⟩
noncomputable def allB:List D->Option Bool
 | []=>some true
 | .bl b::r=>(allB r).map λc=>b&&c
 | _=>none
noncomputable def zAx:List D->Option R
 | [.lst ds]=>(allB ds).map λb=>.sh GW
 | _=>none
noncomputable def zB5:List D->Option Int
 | []=>some 0
 | .int i::r=>(zB5 r).map λc=>i+c
 | _=>none
noncomputable def zBd:List D->Option R
 | [.lst ds]=>(zB5 ds).map λb=>.sh iz
 | _=>none
end
def rAll:List V->Hp->VK->Prop:=λxs H Q=>∃(p:vC) (bs:Rl),xs=OX/\H p=some (.lst (bs.map V.bl))/\Q (.bl (bs.all id)) H
def rSum:List V->Hp->VK->Prop:=λxs H Q=>∃(p:vC) (ns:ac),xs=OX/\H p=some Ca/\Q (.int ns.sum) H
section
variable{X:Cx}
theorem qbX:∀{bs:Rl}{us:bC},Yw (bs.map V.bl) us->us=bs.map Value.bool
 | [],_,r=>by cases r;rfl
 | b::bs,_,r=>by
  rw[zL]at r;cases r with
  | cons r1 r2=>cases r1;rw[qbX r2];rfl
theorem qf0{bs:Rl}:(zY bs.length).all RG=bs.all id:=by
 induction bs with
 | nil=>rfl
 | cons b r ih=>
  rw[zK,w8,xV,wR,xV];have e:((λi=>(b::r).getD i false) ∘ Nat.succ)=λi=>r.getD i false:=by funext i;rfl
  rw[e,ih];rfl
theorem q1G(hc:b0):Xu X aa3 rAll:=by
 intro pins s σ H xs us Q I r h;obtain⟨p,bs,rfl,hp,q⟩:=h;obtain⟨u,rfl,rx⟩:=vals1 r;cases rx;obtain⟨its,n,rv,e,hz⟩:=I.lst hp;have ei:=qbX rv;have hlt:p<s.heap.objs.size:=zS e;refine call_all_walk Ka;refine⟨s.heap.objs.size,_,_,its.toArray.size,_,_,RG,rfl,Walks.list (by first|exact I.ok.hd hc|(show X.A.handled=none;exact I.ok.hd hc)) _ p MV its.toArray,Mn,λi v s' Q' E' hv hq=>?_,λh' tk hk=>?_⟩
 ·have hv':its[i]?=some v:=by simpa using hv
  rw[ei,zX]at hv';cases eb:bs[i]? with
  | none=>rw[eb]at hv';cases hv'
  | some b=>
   rw[eb]at hv';cases hv';have:bs.getD i false=b:=by rw[zT,eb];rfl
   have hq':Q' b s':=by rw[<- this];exact hq
   exact uF hq'
 ·have hl:its.toArray.size=bs.length:=by rw[zN,ei,zB]
  rw[hl,qf0];exact⟨.bl _,H,I.kept (λb o z=>hk b o (λhm=>by
   have:b=s.heap.objs.size:=by simpa using hm
   subst this;exact vN (zS z) Li) (zF _ z)),rfl,q⟩
theorem qbE:∀{ds:aM}{b:Bool},allB ds=some b->∃bs:List Bool,ds=bs.map D.bl/\bs.all id=b
 | [],_,e=>by cases e;exact aco
 | .bl c::r,b,e=>by
  obtain⟨k,q,e⟩:=mpd e;obtain⟨bs,h1,h2⟩:=qbE q;exact⟨c::bs,by rw[h1];rfl,by rw[xV,h2];exact e⟩
 | .non::_,_,e=>by cases e
 | .int _::_,_,e=>by cases e
 | .str _::_,_,e=>by cases e
 | .lst _::_,_,e=>by cases e
 | .tup _::_,_,e=>by cases e
 | .scr _::_,_,e=>by cases e
 | .exc _::_,_,e=>by cases e
 | .dic _ _::_,_,e=>by cases e
theorem qbw:∀{ds:aM}{b:Int},zB5 ds=some b->∃bs:List Int,ds=bs.map D.int/\bs.sum=b
 | [],_,e=>by cases e;exact aco
 | .int c::r,b,e=>by
  obtain⟨k,q,e⟩:=mpd e;obtain⟨bs,h1,h2⟩:=qbw q;exact⟨c::bs,by rw[h1];rfl,by rw[zk,h2];exact e⟩
 | .non::_,_,e=>by cases e
 | .bl _::_,_,e=>by cases e
 | .str _::_,_,e=>by cases e
 | .lst _::_,_,e=>by cases e
 | .tup _::_,_,e=>by cases e
 | .scr _::_,_,e=>by cases e
 | .exc _::_,_,e=>by cases e
 | .dic _ _::_,_,e=>by cases e
theorem qbc{K:zC}{H:Hp}:∀{bs:Rl}{vs:br},Yr K H (bs.map D.bl) vs->vs=bs.map V.bl
 | [],_,h=>h
 | n::r,_,⟨v,vs,h1,h2,h3⟩=>by
  have:=qbc h3;have e:v=.bl n:=h2;rw[h1,this,e];rfl
theorem q4A{K:zC}:WG K rAll zAx:=by
 intro G H ds vs d Q s e hv k
 match ds,e with
 | [.lst ds],e=>
  obtain⟨b,q,e⟩:=mpd e;subst e;obtain⟨bs,rfl,rfl⟩:=qbE q;obtain⟨v,rfl,h⟩:=hv.one;obtain⟨p,us,rfl,h1,h2⟩:=h.lst s;exact⟨p,bs,rfl,by rw[h1,qbc h2],kL⟩
theorem q7s:∀(ns:ac)(k:Nat),k<=ns.length->preSum jj k=(ns.take k).sum
 | _,0,_=>rfl
 | ns,k+1,h=>by
  have e:ns.take (k+1)=ns.take k++[ns.getD k 0]:=by
   rw[Zx,zD ∅,zT,zD ∅];rfl
  show preSum jj k+ns.getD k 0=_;rw[q7s ns k ∅,e,yH];simp
theorem q2I(hc:b0):Xu X aa0 rSum:=by
 intro pins s σ H xs us Q I r h;obtain⟨p,ns,rfl,hp,q⟩:=h;obtain⟨u,rfl,rx⟩:=vals1 r;cases rx;obtain⟨its,n,rv,e,hz⟩:=I.lst hp;have ia:=q20 rv;have hlen:its.length=ns.length:=by rw[<- rv.length,zB]
 have hlt:p<s.heap.objs.size:=zS e;refine call_sum_walkAnyS Ka;refine⟨s.heap.objs.size,_,_,_,its.toArray.size,_,_,jj,rfl,(Walks.list (by first|exact I.ok.hd hc|(show X.A.handled=none;exact I.ok.hd hc)) _ p MV its.toArray).toS,Mn,mJ,λi v hv=>PyProof.Rows.IntsAre.int_at ia i v ⇑hv,λs' t' hm=>?_⟩
 ·show b<(s.heap.push _).objs.size
  rw[yc];rcases zI.mp hb with rfl|hb
  ·exact yW _
  ·rw[zV.mp hb];exact yS hlt
 ·rw[Mb]
  have es:preSum jj its.toArray.size=ns.sum:=by
   rw[zN,hlen,q7s ns _ cP,wH]
  rw[es];exact⟨.int _,H,I.kept (λb o z=>hm.heap b o (λhmm=>by
   have:b=s.heap.objs.size:=by simpa using hmm
   subst this;exact vN (zS z) Li) (zF _ z)),bK,q⟩
theorem q5g{K:zC}:WG K rSum zBd:=by
 intro G H ds vs d Q s e hv k
 match ds,e with
 | [.lst ds],e=>
  obtain⟨b,q,e⟩:=mpd e;subst e;obtain⟨bs,rfl,rfl⟩:=qbw q;obtain⟨v,rfl,h⟩:=hv.one;obtain⟨p,us,rfl,h1,h2⟩:=h.lst s;exact⟨p,bs,rfl,by rw[h1,h2.of_ints],kL⟩
end
inductive Ty where
 | non|bl|int|str|lst|tup|dic
noncomputable def Ty.n:Ty->String
 | .non => "NoneType"
 | .bl => "bool"
 | .int => "int"
 | .str => "str"
 | .lst => "list"
 | .tup => "tuple"
 | .dic => "dict"
noncomputable def tyD:D->Ty
 | .non=>.non
 | .bl _=>.bl
 | .int _=>.int
 | .str _=>.str
 | .lst _=>.lst
 | .tup _=>.tup
 | .scr _=>.lst
 | .exc _=>.non
 | .dic _ _=>.non
noncomputable def zAa:Ty->Ty->Bool
 | .non,.non=>true
 | .bl,.bl=>true
 | .bl,.int=>true
 | .int,.int=>true
 | .str,.str=>true
 | .lst,.lst=>true
 | .tup,.tup=>true
 | _,_=>false
noncomputable def W4(c:Ty)(f:FD):FE:=λω=>(f ω).bind λd=>match d with
 | .scr _=>none
 | .exc _=>none
 | .dic _ _=>none
 | d=>↥FH
def IsT(K:zC)(c:Ty):Prop:=∀t:Ty,t≠.dic->ZR K (.type t.n) (.type c.n)=some (zAa t c)
def rIsi(K:zC):List V->Hp->VK->Prop:=λxs H Q=>∃x c T b,xs=[x,.ty c]/\TyOf K H x B8/\ZR K B8 (.type c)=some b/\Q GW H
section
variable{X:Cx}{a:vP}{f:FD}
theorem qg9:Xu X PN (rIsi X.K):=by
 intro pins s σ H xs us Q I r h;obtain⟨x,c,T,b,rfl,ty,e,q⟩:=h;obtain⟨u1,u2,rfl,r2,r3⟩:=vals2 r;cases (show u2=Value.type c from r3);exact qfv I r2 ty e λtk=>⟨GW,H,I.tok tk,rfl,q⟩
theorem qj3{K:zC}{G H:Hp}{d:D}{v:V}(h:K1)(s:Bc)(n:∀ns,d≠.scr ns)(n':∀c,d≠.exc c)(n'':∀ks ds,d≠.dic ks ds):TyOf K H v (.type (tyD d).n):=by
 cases d with
 | non=>cases h.non;exact .non
 | bl b=>cases h.bl;exact .bl b
 | int i=>cases h.int;exact .int i
 | str x=>cases h.str;exact .str x
 | lst ds=>obtain⟨p,us,rfl,h1,_⟩:=h.lst s;exact .lst h1
 | tup ds=>obtain⟨p,us,rfl,h1,_⟩:=h.tup;exact .tup jf
 | scr ns=>exact vN rfl (n ns)
 | exc c=>exact vN rfl (n' c)
 | dic ks ds=>exact vN rfl (n'' ks ds)
theorem qkd(d:D):tyD d≠.dic:=by cases d <;> exact λz=>nomatch z
theorem q0p{c:Ty}{x:Str}{p q pos:Pos}(ha:dL)(hk:IsT X.K c)(hg:Gl X "isinstance")(hm:X.mg "isinstance" = none)(hgc:rT)(hmc:Bo)(hvc:vf x=some (.type c.n))(hnx:lA:= by decide)(hdx:aG:=by decide)(he:vK [a,Ig] X.env=bR::vK [Ig] X.env:=by rfl)(he2:vK [Ig] X.env=(false,eval Ig X.env)::vK [] X.env:=by rfl)(hpl:(vZ pos (vK [Ig] X.env)).any (·.1)=false:=by rfl):
  XE X (.Call (.Name "isinstance" p) [a,Ig] [] pos) (W4 c f):=by
 obtain⟨t,h1,h2⟩:=ha;refine⟨_,q3v qg9 hg hm PyProof.Rows.boot_isinstance (qB h1 (qB (qiw hgc hmc hvc (v:=.ty c.n) rfl hnx hdx) qC he2) he) (by decide) (by decide) he hpl,dv⟩;obtain⟨d,q,e⟩:=bnd e;refine h2 G0 H0 G ω σ H d _ o q λv G1 H1 x1 y1=>?_;have n:∀ns,d≠.scr ns:=λns z=>by subst z;cases e
 have n':∀c,d≠.exc c:=λns z=>by subst z;cases e
 have n'':∀ks ds,d≠.dic ks ds:=λks ds z=>by subst z;cases e
 have e':r=.sh FH:=by
  cases d <;> first|(cases e;rfl)|cases e
 subst e';exact⟨v,c.n,(tyD d).n,FP,rfl,qj3 y1 x1.gh n n' n'',hk _ (qkd d),LT⟩
end
inductive Out where
 | nx|bk|ct|rt (r:O)
noncomputable abbrev FS:=WSt->Option eG
def Post(K:zC)(H0 G':Hp)(E:Ends):Out->St->Hp->Prop
 | .nx,σ,H=>E.nx σ H
 | .bk,σ,H=>E.bk σ H
 | .ct,σ,H=>E.ct σ H
 | .rt r,_,H=>∀v,zBC K H0 G' H r.r v->E.rt v H
def SimS(K:zC)(t:TS)(f:FS):Prop:=∀G0 H0 G ω σ H out ω'(E:Ends),Own K G0 H0 G ω σ H->f ω=some KK ->
 (∀G' σ' H',Own K G0 H0 G' ω' σ' H'->Yx G G'->Post K H0.hp G' E out σ' H')->t E σ H
def XS(X:Cx)(st:vm)(f:FS):Prop:=∃t,PS X st t/\SimS X.K t f
def XSs(X:Cx)(st:Ej)(f:FS):Prop:=∃t,PSs X st t/\SimS X.K t f
noncomputable def Xl:FS:=λω=>some Es
noncomputable def Yu(f g:FS):FS:=λω=>(f ω).bind λp=>match p.1 with
 | .nx=>g p.2
 | o=>some (o,p.2)
section
variable{X:Cx}{st:vm}{rest:List vm}{f g:FS}
theorem qq:XSs X [] Xl:=⟨_,qiH,λG0 H0 G ω σ H out ω' E o e k=>by cases e;exact k G σ H o io⟩
theorem qc(h:XS X st f):XSs X [st] f:=let ⟨t,h1,h2⟩:=h;⟨t,q0V h1,h2⟩
theorem qb(h:XS X st f)(h':XSs X rest g):XSs X (st::rest) (Yu f g):=by
 obtain⟨t,h1,h2⟩:=h;obtain⟨u,h3,h4⟩:=h';refine⟨_,qO h1 h3,cp⟩;obtain⟨⟨o1,ω1⟩,q,e⟩:=bnd e;refine h2 G0 H0 G ω σ H o1 ω1 _ o q λG1 σ1 H1 w1 g1=>?_;cases o1 with
 | nx=>exact h4 G0 H0 G1 ω1 σ1 H1 out ω' E w1 e λG2 σ2 H2 w2 g2=>k G2 σ2 H2 w2 OM
 | bk=>cases e;exact k G1 σ1 H1 w1 g1
 | ct=>cases e;exact k G1 σ1 H1 w1 g1
 | rt r=>cases e;exact k G1 σ1 H1 w1 g1
end
section
variable{K:zC}{G0:Hp}{H0:Fr}{G:Hp}{ω:WSt}{σ:St}{H:Hp}
theorem qe{α:Type}{l:bJ}{i j:Nat}{x y:α}(h:(l.set i x)[j]?=some y):(i=j/\i<l.length/\y=x)\/(i≠j/\l[j]?=some y):=by
 rw[List.getElem?_set]at h
 by_cases e:i=j
 ·rw[vH e]at h
  by_cases z:i<l.length
  ·rw[gR]at h;exact .inl ⟨e,z,(zr h).symm⟩
  ·rw[gE]at h;cases h
 ·rw[vJ e]at h;exact .inr ⟨e,h⟩
theorem q27{α:Type}{l:bJ}{i:Nat}{x:α}(h:i<l.length):(l.set i x)[i]?=some x:=ye h
theorem Xp.set{i:Nat}{w:bS}{v:AK}(o:lF)(hw:∀ds,w≠some kb)(hv:∀ds,w=some GR->∀(j:Nat)es,ω[j]?=some fm->v≠some (.ref (H0.pin j))):Xp K H0 G (ω.set i w) (σ.set i v) H:=by
 intro j ds hj;rcases qe hj with⟨rfl,hl,z⟩|⟨ne,z⟩
 ·exact vN z.symm (hw ds)
 ·obtain⟨vs,h1,h2,h3,h4,h5,h6,h7⟩:=o j ds z
  refine⟨vs,by rw[Iy];exact h1,h2,h3,h4,h5,λk es hk=>?_,λk es hk sk=>?_⟩
  ·rcases qe hk with⟨rfl,hl',z'⟩|⟨ne',z'⟩
   ·exact vN z'.symm (hw es)
   ·exact h6 k es z'
  ·rcases qe hk with⟨rfl,hl',z'⟩|⟨ne',z'⟩
   ·rcases qe sk with⟨_,_,e⟩|⟨ne2,_⟩
    ·exact hv es z'.symm j ds z e.symm
    ·exact ne2 rfl
   ·rw[Mt]at sk;exact h7 k es z' sk
theorem Xp.setW{i:Nat}{w:bS}(o:lF)(hw:∀ds,w≠some kb)(ho:∀ds,w≠some GR):Xp K H0 G (ω.set i w) σ H:=by
 intro j ds hj;rcases qe hj with⟨rfl,hl,z⟩|⟨ne,z⟩
 ·exact vN z.symm (hw ds)
 ·obtain⟨vs,h1,h2,h3,h4,h5,h6,h7⟩:=o j ds z
  refine Ce
  ·rcases qe hk with⟨rfl,hl',z'⟩|⟨ne',z'⟩
   ·exact vN z'.symm (hw es)
   ·exact h6 k es z'
  ·rcases qe hk with⟨rfl,hl',z'⟩|⟨ne',z'⟩
   ·exact vN z'.symm (ho es)
   ·exact h7 k es z'
theorem Xp.upd{p:vC}{ob:HO}(o:lF)(hp:∀(j:Nat)es,ω[j]?=some fm->H0.pin j≠p):Xp K H0 G ω σ (upd H p ob):=by
 intro j ds hj;obtain⟨vs,h1,h2,h3⟩:=o j ds hj;exact⟨vs,h1,by rw[qd (hp j ds hj)];exact h2,h3⟩
theorem Xp.grow{p:vC}{ob:HO}(o:lF)(g:Vb)(hp:∀(j:Nat)es,ω[j]?=some fm->H0.pin j≠p):Xp K H0 (L2.upd G p ob) ω σ H:=by
 intro j ds hj;obtain⟨vs,h1,h2,h3,h4,h5,h6⟩:=o j ds hj;exact⟨vs,h1,h2,by rw[qd (hp j ds hj)];exact h3,h4,h5.mono (Xj g _),h6⟩
theorem Xp.ne_ow{i:Nat}{ds:aM}{l:vC}(o:lF)(hi:ω[i]?=some dj)(hσ:σ[i]?=some l7):∀(j:Nat)es,ω[j]?=some fm->H0.pin j≠l:=λj es hj y=>by
 obtain⟨_,_,_,_,_,_,_,h7⟩:=o j es hj;exact h7 i ds hi (by rw[y];exact hσ)
theorem Xp.ne_ob{l:vC}(o:lF)(h:∀vs,H l≠some fV):∀(j:Nat)es,ω[j]?=some fm->H0.pin j≠l:=λj es hj y=>by
 obtain⟨vs,_,h2,_⟩:=o j es hj;exact h vs (by rw[<- y];exact h2)
theorem Xp.setL{i:Nat}{ds es:aM}(o:lF)(hi:ω[i]?=some dj):Xp K H0 G (ω.set i h9) σ H:=by
 intro j ds' hj;rcases qe hj with⟨rfl,hl,z⟩|⟨ne,z⟩
 ·cases z
 ·obtain⟨vs,h1,h2,h3,h4,h5,h6,h7⟩:=o j ds' z
  refine Ce
  ·rcases qe hk with⟨rfl,hl',z'⟩|⟨ne',z'⟩
   ·cases z'
   ·exact h6 k es z'
  ·rcases qe hk with⟨rfl,hl',z'⟩|⟨ne',z'⟩
   ·exact h7 i ds hi
   ·exact h7 k es z'
theorem Own.od_set{i:Nat}{w:bS}{v:AK}(o:bV)(h:∀ks ds,w≠some LD):∀(j:Nat)ks ds,(ω.set i w)[j]?=some kC->∃p vs,(σ.set i v)[j]?=some fP/\H p=some jZ/\G p=none/\H0 p=none/\ks.length=ds.length/\Yr K G ds vs /\
  ∀(k:Nat)ks' es,(ω.set i w)[k]?=some Hh->(σ.set i v)[k]?=some fP->j=k:=by
 intro j ks ds hj;rcases qe hj with⟨rfl,hl,z⟩|⟨ne,z⟩
 ·exact vN z.symm (h ks ds)
 ·obtain⟨p,vs,h1,h2,h3,h4,h5,h6,h7⟩:=o.od j ks ds z
  refine⟨p,vs,by rw[Iy];exact h1,h2,h3,h4,h5,h6,λk ks' es hk sk=>?_⟩;rcases qe hk with⟨rfl,hl',z'⟩|⟨ne',z'⟩
  ·exact vN z'.symm (h ks' es)
  ·rw[Mt]at sk
   exact h7 k ks' es z' sk
theorem Own.setSh{i:Nat}{d:D}{v:V}(o:bV)(h:Rep K G d v):Own K G0 H0 G nw Da H:=by
 refine⟨o.ext,by rw[yR,yR,o.len],oW,DP,λj k ds es l hj hk sj sk=>?_,o.od_set (λ_ _ z=>by cases z),o.pw.set (λ_ z=>by cases z) (λ_ z=>by cases z)⟩
 ·rcases qe hj with⟨rfl,hl,z⟩|⟨ne,z⟩
  ·cases z;exact⟨v,q27 (by rw[<- o.len];exact hl),h⟩
  ·obtain⟨u,h1,h2⟩:=o.sh j e z
   exact⟨u,by rw[Iy];exact h1,h2⟩
 ·rcases qe hj with⟨rfl,hl,z⟩|⟨ne,z⟩
  ·cases z
  ·obtain⟨l,vs,h1,h2⟩:=o.ow j ds z
   exact⟨l,vs,by rw[Iy];exact h1,h2⟩
 ·rcases qe hj with⟨rfl,hl,z⟩|⟨ne,z⟩
  ·cases z
  ·rcases qe hk with⟨rfl,hl',z'⟩|⟨ne',z'⟩
   ·cases z'
   ·rw[Iy]at sj
    rw[Mt]at sk;exact o.nd j k ds es l z z' sj sk
theorem Own.setOw{i:Nat}{ds:aM}{l:vC}{vs:br}(o:bV)(h1:H l=some fV)(h2:G l=none)(h3:H0 l=none)(h4:Ak)(h5:∀(j:Nat)es,ω[j]?=some h9->σ[j]?≠some l7)(h6:∀(j:Nat)es,ω[j]?=some fm->H0.pin j≠l):Own K G0 H0 G P0 (σ.set i l7) H:=by
 refine⟨o.ext,by rw[yR,yR,o.len],oW,P5,Mr,o.od_set (λ_ _ z=>by cases z),o.pw.set (λ_ z=>by cases z) (λ_ _ j es hj y=>h6 j es hj (by cases y;rfl))⟩
 ·rcases qe hj with⟨rfl,hl,z⟩|⟨ne,z⟩
  ·cases z
  ·obtain⟨u,q1,q2⟩:=o.sh j e z
   exact⟨u,by rw[Iy];exact q1,q2⟩
 ·rcases qe hj with⟨rfl,hl,z⟩|⟨ne,z⟩
  ·cases z;exact⟨l,vs,q27 (by rw[<- o.len];exact hl),h1,h2,h3,h4⟩
  ·obtain⟨m,us,q1,q2⟩:=o.ow j es z
   exact⟨m,us,by rw[Iy];exact q1,q2⟩
 ·rcases qe hj with⟨e1,hl,z⟩|⟨ne,z⟩
  ·rcases qe hk with⟨e2,hl',z'⟩|⟨ne',z'⟩
   ·exact e1.symm.trans e2
   ·rw[Mt]at sk
    subst e1;rw[q27 (by rw[<- o.len];exact hl)]at sj;cases sj;exact vN sk (h5 k fs z')
  ·rcases qe hk with⟨e2,hl',z'⟩|⟨ne',z'⟩
   ·rw[Iy]at sj
    subst e2;rw[q27 (by rw[<- o.len];exact hl')]at sk;cases sk;exact vN sj (h5 j es z)
   ·rw[Iy]at sj
    rw[Mt]at sk;exact o.nd j k es fs m z z' sj sk
theorem Own.mut{i:Nat}{ds es:aM}{l:vC}{vs us:br}(o:bV)(hi:ω[i]?=some dj)(hσ:σ[i]?=some l7)(h1:H l=some fV)(h2:G l=none)(h3:H0 l=none)(h4:KZ):
  Own K G0 H0 G (ω.set i h9) σ (upd H l Id):=by
 have ho:i<ω.length:=(zc.mp hi).1;refine⟨AM,by rw[yR,o.len],oW,A8,jD,Ew,(o.pw.upd (o.pw.ne_ow hi hσ)).setL hi⟩
 ·rcases qe hj with⟨rfl,hl,z⟩|⟨ne,z⟩
  ·cases z
  ·exact o.sh j e z
 ·rcases qe hj with⟨rfl,hl,z⟩|⟨ne,z⟩
  ·cases z;exact⟨l,us,hσ,qf,h2,h3,h4⟩
  ·obtain⟨m,ws,q1,q2,q3,q4,q5⟩:=o.ow j fs z
   have hm:m≠l:=λy=>ne (o.nd i j ds fs l hi z hσ (by rw[<- y];exact q1));exact⟨m,ws,q1,by rw[Lo];exact q2,q3,q4,q5⟩
 ·rcases qe hj with⟨e1,hl,z⟩|⟨ne,z⟩
  ·rcases qe hk with⟨e2,hl',z'⟩|⟨ne',z'⟩
   ·exact e1.symm.trans e2
   ·subst e1;exact o.nd i k ds gs m hi z' sj sk
  ·rcases qe hk with⟨e2,hl',z'⟩|⟨ne',z'⟩
   ·subst e2;exact o.nd j i fs ds m z hi sj sk
   ·exact o.nd j k fs gs m z z' sj sk
 ·rcases qe hj with⟨e1,hl,z⟩|⟨ne,z⟩
  ·cases z
  ·obtain⟨p,ws,q1,q2,q3,q4,q5,q6,q7⟩:=o.od j ks fs z
   have hp:p≠l:=λy=>by rw[y,h1]at q2;cases q2
   refine⟨p,ws,q1,by rw[qd hp];exact q2,q3,q4,q5,q6,λk ks' es hk sk=>?_⟩;rcases qe hk with⟨e2,hl',z'⟩|⟨ne',z'⟩
   ·cases z'
   ·exact q7 k ks' es z' sk
theorem Own.mutP{i:Nat}{ds es:aM}{us:br}(o:bV)(hi:ω[i]?=some BT)(h4:KZ):
  Own K G0 H0 G (ω.set i fm) σ (L2.upd H (H0.pin i) Id):=by
 obtain⟨vs,p1,p2,p3,p4,p5,p6,p7⟩:=o.pw i ds hi;refine⟨⟨o.ext.gg,Yv o.ext.gh p3 _,Yv o.ext.hh p4 _,o.ext.new⟩,by rw[yR,o.len],oW,A8,jD,Ew,A8⟩
 ·rcases qe hj with⟨rfl,hl,z⟩|⟨ne,z⟩
  ·cases z
  ·exact o.sh j e z
 ·rcases qe hj with⟨rfl,hl,z⟩|⟨ne,z⟩
  ·cases z
  ·obtain⟨m,ws,q1,q2,q3,q4,q5⟩:=o.ow j fs z
   have hm:m≠H0.pin i:=λy=>p7 j fs z (by rw[<- y];exact q1);exact⟨m,ws,q1,by rw[Lo];exact q2,q3,q4,q5⟩
 ·rcases qe hj with⟨e1,hl,z⟩|⟨ne,z⟩
  ·cases z
  ·rcases qe hk with⟨e2,hl',z'⟩|⟨ne',z'⟩
   ·cases z'
   ·exact o.nd j k fs gs m z z' sj sk
 ·rcases qe hj with⟨e1,hl,z⟩|⟨ne,z⟩
  ·cases z
  ·obtain⟨p,ws,q1,q2,q3,q4,q5,q6,q7⟩:=o.od j ks fs z
   have hp:p≠H0.pin i:=λy=>by rw[y,p2]at q2;cases q2
   refine⟨p,ws,q1,by rw[qd hp];exact q2,q3,q4,q5,q6,λk ks' es hk sk=>?_⟩;rcases qe hk with⟨e2,hl',z'⟩|⟨ne',z'⟩
   ·cases z'
   ·exact q7 k ks' es z' sk
 ·rcases qe hj with⟨rfl,hl,z⟩|⟨ne,z⟩
  ·cases z
   refine⟨us,p1,qf,p3,p4,h4,λk es hk y=>?_,P4⟩
   ·rcases qe hk with⟨e2,hl',z'⟩|⟨ne',z'⟩
    ·exact e2.symm
    ·exact p6 k es z' y
   ·rcases qe hk with⟨e2,hl',z'⟩|⟨ne',z'⟩
    ·cases z'
    ·exact p7 k es z'
  ·obtain⟨ws,q1,q2,q3,q4,q5,q6,q7⟩:=o.pw j fs z
   have hp:H0.pin j≠H0.pin i:=λy=>ne (p6 j fs z y).symm;refine⟨ws,q1,by rw[qd hp];exact q2,q3,q4,q5,λk es hk y=>?_,λk es hk=>?_⟩
   ·rcases qe hk with⟨e2,hl',z'⟩|⟨ne',z'⟩
    ·subst e2;exact vN y (Ne.symm hp)
    ·exact q6 k es z' y
   ·rcases qe hk with⟨e2,hl',z'⟩|⟨ne',z'⟩
    ·cases z'
    ·exact q7 k es z'
theorem Own.setOd{i:Nat}{ks:ac}{ds:aM}{p:vC}{vs:br}(o:bV)(h1:H p=some jZ)(h2:Vb)(h3:H0 p=none)(h4:ks.length=ds.length)(h5:Ak)(h6:∀(j:Nat)ks' es,ω[j]?=some Hh->σ[j]?≠some fP):Own K G0 H0 G (ω.set i kC) (σ.set i fP) H:=by
 refine⟨o.ext,by rw[yR,yR,o.len],oW,P5,Mr,abc,o.pw.set (λ_ z=>by cases z) (λ_ z=>by cases z)⟩
 ·rcases qe hj with⟨rfl,hl,z⟩|⟨ne,z⟩
  ·cases z
  ·obtain⟨u,q1,q2⟩:=o.sh j e z
   exact⟨u,by rw[Iy];exact q1,q2⟩
 ·rcases qe hj with⟨rfl,hl,z⟩|⟨ne,z⟩
  ·cases z
  ·obtain⟨m,us,q1,q2⟩:=o.ow j es z
   exact⟨m,us,by rw[Iy];exact q1,q2⟩
 ·rcases qe hj with⟨e1,hl,z⟩|⟨ne,z⟩
  ·cases z
  ·rcases qe hk with⟨e2,hl',z'⟩|⟨ne',z'⟩
   ·cases z'
   ·rw[Iy]at sj
    rw[Mt]at sk;exact o.nd j k es fs m z z' sj sk
 ·rcases qe hj with⟨rfl,hl,z⟩|⟨ne,z⟩
  ·cases z
   refine⟨p,vs,q27 (by rw[<- o.len];exact hl),h1,h2,h3,h4,h5,λk ks'' fs hk sk=>?_⟩;rcases qe hk with⟨e2,hl',z'⟩|⟨ne',z'⟩
   ·exact e2
   ·rw[Mt]at sk
    exact vN sk (h6 k ks'' fs z')
  ·obtain⟨p',vs',q1,q2,q3,q4,q5,q6,q7⟩:=o.od j ks' es z
   refine⟨p',vs',by rw[Iy];exact q1,q2,q3,q4,q5,q6,λk ks'' fs hk sk=>?_⟩;rcases qe hk with⟨e2,hl',z'⟩|⟨ne',z'⟩
   ·subst e2
    rw[q27 (by rw[<- o.len];exact hl')]at sk;cases sk;exact vN q1 (h6 j ks' es z)
   ·rw[Mt]at sk
    exact q7 k ks'' fs z' sk
theorem Own.mutD{i:Nat}{ks ks2:ac}{ds es:aM}{p:vC}{vs us:br}(o:bV)(hi:ω[i]?=some kC)(hσ:σ[i]?=some fP)(h1:H p=some jZ)(h2:Vb)(h3:H0 p=none)(h4:ks2.length=es.length)(h5:KZ):
  Own K G0 H0 G (ω.set i (some (.od ks2 es))) σ (upd H p (.dK (kvsOf ks2 us))):=by
 have ho:i<ω.length:=(zc.mp hi).1;refine⟨AM,by rw[yR,o.len],oW,A8,jD,λj ks' fs hj=>?_,(o.pw.upd (o.pw.ne_ob λvs z=>by rw[h1]at z;cases z)).setW (λ_ z=>by cases z) (λ_ z=>by cases z)⟩
 ·rcases qe hj with⟨rfl,hl,z⟩|⟨ne,z⟩
  ·cases z
  ·exact o.sh j e z
 ·rcases qe hj with⟨rfl,hl,z⟩|⟨ne,z⟩
  ·cases z
  ·obtain⟨m,ws,q1,q2,q3,q4,q5⟩:=o.ow j fs z
   have hm:m≠p:=λy=>by rw[y,h1]at q2;cases q2
   exact⟨m,ws,q1,by rw[Lo];exact q2,q3,q4,q5⟩
 ·rcases qe hj with⟨e1,hl,z⟩|⟨ne,z⟩
  ·cases z
  ·rcases qe hk with⟨e2,hl',z'⟩|⟨ne',z'⟩
   ·cases z'
   ·exact o.nd j k fs gs m z z' sj sk
 ·obtain⟨p0,vs0,r1,r2,r3,r4,r5,r6,r7⟩:=o.od i ks ds hi
  rw[hσ]at r1;cases r1;rcases qe hj with⟨rfl,hl,z⟩|⟨ne,z⟩
  ·cases z
   refine⟨p,us,hσ,qf,h2,h3,h4,h5,λk ks'' gs hk sk=>?_⟩;rcases qe hk with⟨e2,hl',z'⟩|⟨ne',z'⟩
   ·exact e2
   ·exact r7 k ks'' gs z' sk
  ·obtain⟨q,ws,q1,q2,q3,q4,q5,q6,q7⟩:=o.od j ks' fs z
   have hp:q≠p:=λy=>ne (r7 j ks' fs z (by rw[<- y];exact q1));refine⟨q,ws,q1,by rw[qd hp];exact q2,q3,q4,q5,q6,λk ks'' gs hk sk=>?_⟩;rcases qe hk with⟨e2,hl',z'⟩|⟨ne',z'⟩
   ·subst e2
    rw[hσ]at sk;cases sk;exact vN rfl hp
   ·exact q7 k ks'' gs z' sk
noncomputable def share(i:Nat)(ω:WSt):WSt:=match ω[i]? with
 | some (some (.ow ds))=>ω.set i ↥gK
 | some (some (.od ks ds))=>ω.set i ↥EQ
 | _=>ω
theorem Own.share(i:Nat)(o:bV):(∃G',Yx G G'/\Own K G0 H0 G' Qd σ H)\/∃p kvs,σ[i]?=some fP/\H p=some cX/\∀ob,∃G',Yx G G'/\Own K G0 H0 G' Qd σ EA:=by
 unfold Hk.share;cases q:ω[i]? with
 | none=>exact .inl Kq
 | some w=>
  cases w with
  | none=>exact .inl Kq
  | some w=>
   cases w with
   | sh d=>exact .inl Kq
   | pw ds=>exact .inl Kq
   | ow ds=>
    obtain⟨l,vs,q1,q2,q3,q4,q5⟩:=o.ow i ds q;have s1:Yx G (upd G l fV):=Xj q3 _;have ho:i<ω.length:=(zc.mp q).1;refine .inl ⟨upd G l fV,s1,⟨aby,Le,o.ext.hh,DR⟩,by rw[yR,o.len],oW,A8,jD,Ew,(o.pw.grow q3 (o.pw.ne_ow q q1)).setW (λ_ z=>by cases z) (λ_ z=>by cases z)⟩
    ·by_cases hb:b=l
     ·subst hb;rw[qf]at z;rw[q2];exact z
     ·rw[qd hb]at z;exact o.ext.gh b u z
    ·rw[qd (λhb=>z2 (by rw[hb];exact q4))];exact o.ext.new b z1 z2
    ·rcases qe hj with⟨rfl,hl,z⟩|⟨ne,z⟩
     ·cases z;exact⟨_,q1,l,vs,rfl,qf,q5.mono s1⟩
     ·obtain⟨u,r1,r2⟩:=o.sh j e z
      exact S7
    ·rcases qe hj with⟨rfl,hl,z⟩|⟨ne,z⟩
     ·cases z
     ·obtain⟨m,ws,r1,r2,r3,r4,r5⟩:=o.ow j fs z
      have hm:m≠l:=λy=>ne (o.nd i j ds fs l q z q1 (by rw[<- y];exact r1));exact⟨m,ws,r1,r2,by rw[Lo];exact r3,r4,r5.mono s1⟩
    ·rcases qe hj with⟨e1,hl,z⟩|⟨ne,z⟩
     ·cases z
     ·rcases qe hk with⟨e2,hl',z'⟩|⟨ne',z'⟩
      ·cases z'
      ·exact o.nd j k fs gs m z z' sj sk
    ·rcases qe hj with⟨e1,hl,z⟩|⟨ne,z⟩
     ·cases z
     ·obtain⟨m,ws,r1,r2,r3,r4,r5,r6,r7⟩:=o.od j ks fs z
      have hm:m≠l:=λy=>by rw[y,q2]at r2;cases r2
      refine⟨m,ws,r1,r2,by rw[Lo];exact r3,r4,r5,r6.mono s1,λk ks' es hk sk=>?_⟩;rcases qe hk with⟨e2,hl',z'⟩|⟨ne',z'⟩
      ·cases z'
      ·exact r7 k ks' es z' sk
   | od ks0 ds=>
    obtain⟨l,vs,q1,q2,q3,q4,q6,q5,q7⟩:=o.od i ks0 ds q;refine .inr ⟨l,_,q1,q2,λob=>?_⟩;have s1:Yx G Gi:=Xj q3 _;have ho:i<ω.length:=(zc.mp q).1;refine⟨Gi,s1,⟨aby,W1 o.ext.gh _,Yv o.ext.hh q4 _,DR⟩,by rw[yR,o.len],oW,A8,jD,Ew,((o.pw.upd (o.pw.ne_ob λvs z=>by rw[q2]at z;cases z)).grow q3 (o.pw.ne_ob λvs z=>by rw[q2]at z;cases z)).setW (λ_ z=>by cases z) (λ_ z=>by cases z)⟩
    ·rw[qd (λhb=>z2 (by rw[hb];exact q4))];exact o.ext.new b z1 z2
    ·rcases qe hj with⟨rfl,hl,z⟩|⟨ne,z⟩
     ·cases z;exact⟨_,q1,l,vs,rfl,⟨ob,qf⟩,q6,q5.mono s1⟩
     ·obtain⟨u,r1,r2⟩:=o.sh j e z
      exact S7
    ·rcases qe hj with⟨rfl,hl,z⟩|⟨ne,z⟩
     ·cases z
     ·obtain⟨m,ws,r1,r2,r3,r4,r5⟩:=o.ow j fs z
      have hm:m≠l:=λy=>by rw[y,q2]at r2;cases r2
      exact⟨m,ws,r1,by rw[Lo];exact r2,by rw[Lo];exact r3,r4,r5.mono s1⟩
    ·rcases qe hj with⟨e1,hl,z⟩|⟨ne,z⟩
     ·cases z
     ·rcases qe hk with⟨e2,hl',z'⟩|⟨ne',z'⟩
      ·cases z'
      ·exact o.nd j k fs gs m z z' sj sk
    ·rcases qe hj with⟨e1,hl,z⟩|⟨ne,z⟩
     ·cases z
     ·obtain⟨m,ws,r1,r2,r3,r4,r5,r6,r7⟩:=o.od j ks fs z
      have hm:m≠l:=λy=>ne (q7 j ks fs z (by rw[<- y];exact r1));refine⟨m,ws,r1,by rw[Lo];exact r2,by rw[Lo];exact r3,r4,r5,r6.mono s1,λk ks' es hk sk=>?_⟩;rcases qe hk with⟨e2,hl',z'⟩|⟨ne',z'⟩
      ·cases z'
      ·exact r7 k ks' es z' sk
end
theorem Inv.freeze{X:Cx}{pins:aC}{σ:St}{H:Hp}{s:vF}{p:vC}{kvs:fH}(I:aj)(hp:H p=some cX):∃ob,Inv X pins σ EA s:=by
 have ok:=I.hok p _ hp;obtain⟨_,_,_,_,ob,_,_,e,_⟩:=id ok;have stay:∀b u,Y2 X.prog X.w H s.heap b u->Y2 X.prog X.w EA s.heap b u:=λb u x=>
  x.stay Ox (λc q=>by rw[qd (λz=>by rw[z,hp]at q;cases q)];exact q) λc xs q=>by rw[qd (λz=>by rw[z,hp]at q;cases q)];exact q
 refine⟨ob,I.step (H':=upd H p jw) (h':=s.heap) (g':=s.gens) (d':=s.drawn) (t':=s.toks) (ch:=[]) (λ_ z=>nomatch z) (λ_ _ _ _ _ e _=>e) (λ_ o _ _ _ e _=>⟨o.slots,e⟩) (λb o _ _ n=>by rw[qd (λz=>by rw[z,hp]at n;cases n)];exact n) (λ_ o _ e=>Iq)
  (λb xs q=>by rw[qd (λz=>by rw[z,hp]at q;cases q)];exact q) (λb o u q=>by rw[qd (λz=>by rw[z,hp]at q;cases q)];exact q) (λb ps q=>⟨#[],by rw[qd (λz=>by rw[z,hp]at q;cases q),q];simp⟩) (λ_ hm=>hm) (λb u q=>?_) I.bare⟩
 by_cases z:b=p
 ·subst z
  rw[qf]at q;cases q;exact⟨e,stay _ _ ok⟩
 ·rw[qd z]at q
  exact stay b u (I.hok b u q)
theorem q7v{X:Cx}{sts:Ej}{t:TS}(i:Nat)(h:PSs X sts t):PSs X sts (λD σ H=>∃p kvs,σ[i]?=some fP/\H p=some cX/\∀ob,t D σ EA):=by
 intro pins s σ H D I q;obtain⟨p,kvs,_,hp,q⟩:=q;obtain⟨ob,I'⟩:=Inv.freeze I hp;exact h pins s σ _ D I' (q ob)
noncomputable def Xf(i:Nat)(f:FS):FS:=λω=>f Qd
theorem q0b{X:Cx}{sts:Ej}{f:FS}(i:Nat)(h:XSs X sts f):XSs X sts (Xf i f):=by
 obtain⟨t,h1,h2⟩:=h;refine⟨λD σ H=>t D σ H\/∃p kvs,σ[i]?=some fP/\H p=some cX/\∀ob,t D σ EA,λpins s σ H D I q=>?_,λG0 H0 G ω σ H out ω' E o e k=>?_⟩
 ·rcases q with q|q
  ·exact h1 pins s σ H D I q
  ·exact q7v i h1 pins s σ H D I q
 ·rcases o.share i with⟨G1,g1,o1⟩|⟨p,kvs,z1,z2,z3⟩
  ·exact .inl (h2 G0 H0 G1 _ σ H out ω' E o1 e λG2 σ2 H2 w2 g2=>k G2 σ2 H2 w2 OM)
  ·refine .inr ⟨p,kvs,z1,z2,λob=>?_⟩
   obtain⟨G1,g1,o1⟩:=z3 ob;exact h2 G0 H0 G1 _ σ _ out ω' E o1 e λG2 σ2 H2 w2 g2=>k G2 σ2 H2 w2 OM
noncomputable def setR(i:Nat)(r:R)(ω:WSt):Option WSt:=match r with
 | .sh d=>some nw
 | .fr ds=>some P0
 | .vw _=>none
noncomputable def XC(i:Nat)(f:FE):FS:=λω=>(f ω).bind λr=>(setR i r ω).map λw=>Kn
section
variable{X:Cx}{e:vP}{f:FE}{pos pos':Pos}
theorem qbO{i:Nat}{t:TE}(h:zB6 X.K t f):SimS X.K (zAM t (Xy i)) (XC i f):=by
 intro G0 H0 G ω σ H out ω' E o e k;obtain⟨r,q,e⟩:=bnd e;obtain⟨w,q2,e⟩:=mpd e;cases e;refine h G0 H0 G ω σ H r _ o q λv G1 H1 x1 y1=>?_;have o1:=o.keep x1;show E.nx Da H1;cases r with
 | sh d=>cases q2;exact k G1 _ H1 (o1.setSh y1) x1.gg
 | fr ds=>
  cases q2;obtain⟨l,vs,rfl,e2,e3,e4,e5⟩:=y1;refine k G1 _ H1 (o1.setOw e4 e3 aaD e5 (λj es hj z=>?_) λj es hj y=>?_) x1.gg
  ·obtain⟨m,us,q1,q2,_⟩:=o.ow j es hj
   rw[q1]at z;cases z;rw[e2]at q2;cases q2
  ·obtain⟨us,_,q2,_⟩:=o.pw j es hj
   rw[y,e2]at q2;cases q2
 | vw ds=>cases q2
theorem qp{i:Nat}{x:Str}(hN:X.N.Nodup)(hi:X.N[i]?=some x)(hx:iN)(he:XE X e f)(hs:nC:=by rfl)(hf:bf:=by first|exact .inl rfl|exact .inr rfl|assumption):
  XS X GD (XC i f):=let ⟨_,h1,h2⟩:=he;⟨_,Tp,qbO h2⟩
noncomputable abbrev FG:=D->WSt->Option WSt
def SimG(K:zC)(g:TG)(fg:FG):Prop:=∀G0 H0 G ω σ H d v ω'(Q:Bp),Own K G0 H0 G ω σ H->fg d ω=some ω'->Rep K G d v->(∀σ',Own K G0 H0 G ω' σ' H->Q σ' H)->g v σ H Q
def XG(X:Cx)(tg:vP)(fg:FG):Prop:=∃g,PG X tg g/\SimG X.K g fg
noncomputable def gN(i:Nat):FG:=λd ω=>some nw
theorem qh{i:Nat}{x:Str}(hN:X.N.Nodup)(hi:X.N[i]?=some x)(hx:iN)(hf:bf:=by first|exact .inl rfl|exact .inr rfl|assumption):XG X jr UJ :=
 ⟨_,q4l hN hi hx hf,λG0 H0 G ω σ H d v ω' Q o e h k=>by cases e;exact k _ (o.setSh h)⟩
def SimGs(K:zC)(g:TGs)(fg:di):Prop:=∀G0 H0 G ω σ H ds vs ω'(Q:Bp),Own K G0 H0 G ω σ H->fg ds ω=some ω'->Yr K G ds vs->(∀σ',Own K G0 H0 G ω' σ' H->Q σ' H)->g vs σ H Q
def XGs(X:Cx)(tg:iI)(fg:di):Prop:=∃g,PGs X tg g/\SimGs X.K g fg
noncomputable def Xa:List D->WSt->Option WSt
 | [],ω=>some ω
 | _,_=>none
noncomputable def Ys(f:FG)(g:di):List D->WSt->Option WSt
 | d::ds,ω=>(f d ω).bind λw=>g ds w
 | [],_=>none
theorem q16:XGs X [] Xa:=⟨_,qbp,λG0 H0 G ω σ H ds vs ω' Q o e h k=>by
 cases ds with
 | nil=>cases e;cases (show vs=[]from h);exact⟨rfl,k σ o⟩
 | cons d r=>cases e⟩
theorem qx{es:iI}{fg:FG}{gs:di}(h:XG X e fg)(h':U0)(hs:(uB jA X.env).map (·.2)=assign e X.env::(uB es X.env).map (·.2):=by rfl):XGs X jA (Ys fg gs):=by
 obtain⟨g,h1,h2⟩:=h;obtain⟨u,h3,h4⟩:=h';refine⟨_,q6Z h1 h3 hs,λG0 H0 G ω σ H ds vs ω' Q o e h k=>?_⟩;cases ds with
 | nil=>cases e
 | cons d r=>
  obtain⟨w1,q,e1⟩:=bnd e;obtain⟨v,vr,rfl,r1,r2⟩:=h;exact⟨v,vr,rfl,h2 G0 H0 G ω σ H d v w1 _ o q r1 λσ1 o1=>h4 G0 H0 G w1 σ1 H r vr ω' Q o1 e1 r2 k⟩
noncomputable def gT(n:Nat)(g:di):FG:=λd ω=>match d with
 | .tup ds=>if ds.length=n then g ds ω else none
 | _=>none
theorem q1N{es:iI}{k n:Nat}{gs:di}(hc:b0)(h:U0)(hn:Ad:=by rfl)(hst:(uB es X.env).findIdx? (·.1)=none:=by rfl):XG X CW (gT n gs):=by
 obtain⟨g,h1,h2⟩:=h;refine⟨_,qdI hc h1 hn hst,GG⟩;unfold gT at e;cases d with
 | tup ds=>
  dsimp only at e
  obtain⟨a,vs,rfl,r1,r2⟩:=h
  by_cases z:ds.length=n
  ·rw[gR]at e
   exact⟨a,vs,rfl,SqT.of (o.gh _ _ r1),by rw[<- r2.len];exact z,h2 G0 H0 G ω σ H ds vs ω' Q o e r2 k⟩
  ·rw[gE]at e;cases e
 | _=>cases e
noncomputable def sAsg(f:FD)(g:FG):FS:=λω=>(f ω).bind λd=>(g d ω).map λw=>Kn
theorem q9Z{tg:vP}{fd:FD}{fg:FG}(he:Rh)(hg:XG X tg fg)(hs:Jg:=by rfl)(hw:Pq:=by rfl)(h1:(uB [tg] X.env).map (·.2)=abL:=by rfl):XS X SY (sAsg fd fg):=by
 obtain⟨t,p1,p2⟩:=he;obtain⟨g,p3,p4⟩:=hg;refine⟨_,qeZ p1 p3 hs hw h1,cp⟩;obtain⟨d,q,e⟩:=bnd e;obtain⟨w,q2,e⟩:=mpd e;cases e;refine p2 G0 H0 G ω σ H d _ o q λv G1 H1 x1 y1=>?_;exact p4 G0 H0 G1 ω σ H1 d v _ _ gY q2 y1 λσ1 o1=>k G1 σ1 H1 o1 x1.gg
end
noncomputable def sIf(c:FT)(f g:FS):FS:=λω=>(c ω).bind λb=>if b=true then f ω else g ω
noncomputable def Y4(f:FE):FS:=λω=>(f ω).bind λr=>match r with
 | .sh d=>some oM
 | .fr ds=>some nG
 | .vw _=>none
noncomputable def We(i:Nat):FS:=λω=>match ω[i]? with
 | some ↥d=>some oM
 | some (some (.ow ds))=>some nG
 | _=>none
noncomputable def sNo:FS:=λ_=>none
noncomputable def zAZ(f:FE):FS:=λω=>(f ω).map λ_=>Es
section
variable{X:Cx}{c e:vP}{a b:List vm}{st:vm}{pos:Pos}{fc:FT}{f g:FS}{fe:FE}
theorem qy(hc:XT X c fc)(ha:XSs X a f)(hb:XSs X b g):XS X acj (sIf fc f g):=by
 obtain⟨t,h1,h2⟩:=hc;obtain⟨u,h3,h4⟩:=ha;obtain⟨w,h5,h6⟩:=hb;refine⟨_,qgR h1 h3 h5,cp⟩;obtain⟨z,q,e⟩:=bnd e;refine h2 G0 H0 G ω σ H z _ o q λG1 H1 x1=>?_;cases z with
 | true=>rw[lW]at e ⊢;exact h4 G0 H0 G1 ω σ H1 out ω' E gY e λG2 σ2 H2 o2 g2=>k G2 σ2 H2 o2 aap
 | false=>exact h6 G0 H0 G1 ω σ H1 out ω' E gY e λG2 σ2 H2 o2 g2=>k G2 σ2 H2 o2 aap
theorem qg(he:XE X e fe):XS X ES (Y4 fe):=by
 obtain⟨t,h1,h2⟩:=he;refine⟨_,q5I h1,cp⟩;obtain⟨r,q,e⟩:=bnd e;refine h2 G0 H0 G ω σ H r _ o q λv G1 H1 x1 y1=>?_;cases r with
 | sh d=>cases e;exact k G1 σ H1 gY x1.gg v y1
 | fr ds=>
  cases e;obtain⟨l,vs,e1,e2,e3⟩:=y1;exact k G1 σ H1 gY x1.gg v ⟨l,vs,e1,aaD,e3⟩
 | vw ds=>cases e
theorem q2b{i:Nat}(he:PE X e Lx):XS X ES (We i):=by
 refine⟨_,q5I he,cp⟩;unfold We at e;cases q:ω[i]? with
 | none=>rw[q]at e;cases e
 | some w=>
  rw[q]at e;cases w with
  | none=>cases e
  | some w=>
   cases w with
   | sh d=>
    cases e;obtain⟨v,q1,q2⟩:=o.sh i d q;exact⟨v,q1,k G σ H o io v q2⟩
   | ow ds=>
    cases e;obtain⟨l,vs,q1,q2,q3,q4,q5⟩:=o.ow i ds q;exact⟨_,q1,k G σ H o io _ ⟨l,vs,rfl,q4,q3,q2,q5⟩⟩
   | od ks ds=>cases e
   | pw ds=>cases e
theorem q9d:XS X st sNo:=⟨_,qg0,λG0 H0 G ω σ H out ω' E o e k=>by cases e⟩
theorem q6a(he:XE X e fe)(hs:Jf:=by rfl):XS X (.Expr e pos) (zAZ fe):=by
 obtain⟨t,h1,h2⟩:=he;refine⟨_,q1l h1 hs,cp⟩;obtain⟨r,q,e⟩:=mpd e;cases e;exact h2 G0 H0 G ω σ H r _ o q λv G1 H1 x1 y1=>k G1 σ H1 gY x1.gg
noncomputable def zBQ(i:Nat)(f:FD):FS:=λω=>(f ω).bind λd=>match ω[i]? with
 | some (some (.ow ds))=>if ds.length<1000000 then some oC else none
 | _=>none
theorem q4q{i:Nat}{o e:vP}{fd:FD}{apos cpos:Pos}(ho:kw)(he:Rh)(hbase:uE o "append" X.env mj=eval o X.env:=by rfl)(hfew:((vZ cpos g7).all (λx=>!x.1)&&(v7 cpos m6).all jL
   && decide (([e]:List vP).length+([]:List uI).length+(if ([]:List uI).isEmpty then 0 else 1)<30))=true:=by rfl)
  (hline:gH=true:=by rfl) (hs:vK [e] X.env=b8::vK [] X.env:=by rfl) (hplain:(vZ cpos bP).any (·.1)=false:=by rfl)
  (hsw:v6 CJ none pos.line X.env=pure false:=by rfl) :
  XS X (.Expr CJ pos) (zBQ i fd):=by
 obtain⟨t,h1,h2⟩:=he;refine⟨_,q1l (q38 PySem.F.plainAttrs_list PySem.F.slot_list_append PySem.F.type_list_append q18 ho OI hbase hfew hline hs hplain) hsw,jE⟩;obtain⟨d,q,e⟩:=bnd e;cases q2:ω[i]? with
 | none=>rw[q2]at e;cases e
 | some w=>
  rw[q2]at e;cases w with
  | none=>cases e
  | some w=>
   cases w with
   | sh d=>cases e
   | od ks ds=>cases e
   | pw ds=>cases e
   | ow ds=>
    dsimp only at e
    by_cases z:ds.length<1000000
    ·rw[gR]at e
     cases e;obtain⟨l,vs,r1,r2,r3,r4,r5⟩:=ow.ow i ds q2;refine lU;have o1:=ow.keep x1;have hz:vs.length<sizeLine:=by rw[<- r5.len,vh];omega
     refine⟨l,vs,v,rfl,rfl,Bl,hz,?_⟩;exact k G1 σ _ (o1.mut q2 r1 Bl (x1.new l r3 (by rw[r2];exact λz=>by cases z)) r4 ((r5.mono x1.gg).app (Yr.cons y1 Yr.nil))) x1.gg
    ·rw[gE]at e;cases e
end
end Hk
namespace PySem
open AutoSeq1 MeetsSeq MeetsSeq2 MeetsSeq3
theorem extTup(l b:vC)(xs ys:fj)(n m:Nat)(dd:IT)(sl:Vf)(h1:¬(!xs.isEmpty&&Builtin.List.listTooLong (xs.size+ys.size))=true)(h2:xs.size<=sizeLine)(h3:xs.size+ys.size<=sizeLine+1):
  Meets (Builtin.«list.extend» ⟨[c9,Bi],[]⟩) (λ_ R s=>s.heap.get? l=some { cls:=.type "list", data:=.seq xs n }/\s.heap.get? b=some { cls:=.type "tuple", dict:=dd,data:=.seq ys m,slots:=sl } /\
   R (.ok (.ret Value.none)) { s with heap:=s.heap.update l (Obj.mapSeq λz=>z++ys),toks:=s.toks }) :=
 .of_wp λprog w A R s h=>by
  obtain⟨hp,g,d,tk,os⟩:=s;obtain⟨e1,e2,q⟩:=h;have p1:=idx_int;have p2:=sub_tuple_tuple;have p3:=sub_list_list;have p4:=sub_tuple_list;have p5:=sub_list_tuple;have fit:(xs++ys).size<=sizeLine+1:=by rw[Array.size_append];exact h3
  wp_walk using (uA e1 rfl (hz:=h2) (_hz':=fit)),wpAny_loadPart' e1,wpAny_loadPart' e2
  exact⟨_,rfl,q⟩
end PySem
namespace Hk
open PySem L2
section
variable{X:Cx}{pos:Pos}
def rExtA:V->List V->Hp->VK->Prop:=λx vs H Q=>zA2 x vs H Q\/∃l b xs zs,x=.ref l/\vs=[Bi]/\H l=some dY/\H b=some (.tup zs)/\xs.length+zs.length<=sizeLine/\Q .non (upd H l Mj)
theorem qiT:MtR X "list.extend" rExtA:=by
 intro pins s σ H x vs v us Q I rx rv h;rcases h with h|h
 ·exact qfj pins s σ H x vs v us Q I rx rv h
 obtain⟨l,b,xs,zs,rfl,rfl,hH,hB,hz,q⟩:=h;cases rx;obtain⟨u,rfl,ru⟩:=rv.one;cases ru;obtain⟨z,its,n,r,hl,e⟩:=I.lstM hH;obtain⟨its2,r2,⟨o2,e2,c2,n2,d2⟩,z2⟩:=I.tuple (SqT.of hB);have hl2:=r2.length;obtain⟨cls,dd,dt,sl⟩:=o2;cases c2;cases d2;have hsz:its.toArray.size+its2.toArray.size<=sizeLine:=by rw[zN,zN];omega
 have hlong:¬(!its.toArray.isEmpty&&Builtin.List.listTooLong Hv)=true:=by
  rw[Ww hsz,wW];exact yL
 refine uf F.slot_list_extend gC F.entry_list_extend NS
  (extTup l b its.toArray its2.toArray n n2 dd sl hlong (by rw[zN];omega) ∅) ⟨e,e2,?_⟩
 refine⟨.non,_,I.lset (its':=its++its2) hH e (by simp) OH ?_,rfl,q⟩;rw[zE];omega
noncomputable def itemsOf:D->Option aM
 | .lst ds=>some ds
 | .tup ds=>some ds
 | _=>none
noncomputable def sExt(i:Nat)(f:FD):FS:=λω=>(f ω).bind λd=>(itemsOf d).bind λes=>match ω[i]? with
 | some (some (.ow ds))=>if ds.length+es.length<=1000000 then some Ic else none
 | _=>none
theorem q9M{i:Nat}{o e:vP}{fd:FD}{apos cpos:Pos}(ho:kw)(he:Rh)(hbase:uE o "extend" X.env mj=eval o X.env:=by rfl)(hfew:((vZ cpos g7).all (λx=>!x.1)&&(v7 cpos m6).all jL
   && decide (([e]:List vP).length+([]:List uI).length+(if ([]:List uI).isEmpty then 0 else 1)<30))=true:=by rfl)
  (hline:gH=true:=by rfl) (hs:vK [e] X.env=b8::vK [] X.env:=by rfl) (hplain:(vZ cpos bP).any (·.1)=false:=by rfl)
  (hsw:v6 CI none pos.line X.env=pure false:=by rfl) :
  XS X (.Expr CI pos) (sExt i fd):=by
 obtain⟨t,h1,h2⟩:=he;refine⟨_,q1l (q38 PySem.F.plainAttrs_list PySem.F.slot_list_extend PySem.F.type_list_extend qiT ho OI hbase hfew hline hs hplain) hsw,jE⟩;obtain⟨d,q,e⟩:=bnd e;obtain⟨es,q3,e⟩:=bnd e;cases q2:ω[i]? with
 | none=>rw[q2]at e;cases e
 | some w=>
  rw[q2]at e;cases w with
  | none=>cases e
  | some w=>
   cases w with
   | sh d=>cases e
   | od ks ds=>cases e
   | pw ds=>cases e
   | ow ds=>
    dsimp only at e
    by_cases z:ds.length+es.length<=1000000
    ·rw[gR]at e
     cases e;obtain⟨l,vs,r1,r2,r3,r4,r5⟩:=ow.ow i ds q2;refine lU;have o1:=ow.keep x1;have fin:∀us:List V,Yr X.K G1 es us->vs.length+us.length<=sizeLine/\Post X.K H0 G1 E .nx σ (upd H1 l (.lst (vs++us))):=λus hu=>
      ⟨by rw[<- r5.len,<- hu.len];exact q6w z,k G1 σ _ (o1.mut q2 r1 Bl (x1.new l r3 (by rw[r2];exact λz=>by cases z)) r4 ((r5.mono x1.gg).app hu)) x1.gg⟩
     cases d with
     | lst ds'=>
      cases q3;obtain⟨b,us,rfl,r6,r7⟩:=y1;obtain⟨f1,f2⟩:=fin us r7;exact .inl Bk
     | tup ds'=>
      cases q3;obtain⟨b,us,rfl,r6,r7⟩:=y1;obtain⟨f1,f2⟩:=fin us r7;exact .inr Bk
     | _=>cases q3
    ·rw[gE]at e;cases e
end
structure IterOf (K:zC) (J:It) (G:Hp) (ds:List D):Prop where
 go:∀H i,Yx G H->i<ds.length->J.go i H
 yld:∀G2 H i x H' d,Yx G G2->Yx G2 H->ds[i]?=some d->J.yld i H x H'->∃G3,Ext G2 H G3 H'/\Rep K G3 d x
 stop:∀H,Yx G H->J.stop ds.length H
noncomputable abbrev FI:=WSt->Option aM
def SimI(K:zC)(wi:TI)(f:FI):Prop:=∀G0 H0 G ω σ H ds(R:EO),Own K G0 H0 G ω σ H->f ω=some ds->(∀J G' H',Ext G H G' H'->IterOf K J G' ds->R J H')->wi σ H R
def XI(X:Cx)(tg iter:vP)(f:FI):Prop:=∃wi,PI X tg iter wi/\SimI X.K wi f
section
variable{X:Cx}{tg e:vP}
theorem qgw{K:zC}{G:Hp}{a:vC}{ds:aM}{vs:br}(h1:Vc)(h2:Ak):IterOf K ab3 G ds:=by
 refine⟨Hb,iX,λH s=>⟨vs,SqL.of jf,by rw[h2.len];exact zQ _⟩⟩
 ·have:i<vs.length:=by rw[<- h2.len];exact hi
  exact⟨vs,vs[i],L6,zD this⟩
 ·obtain⟨e,y⟩:=hy
  obtain⟨v,q1,q2⟩:=h2.get hd;have:=y vs Sz;rw[q1]at this;cases this;subst e;exact Lc
theorem qfX{K:zC}{G:Hp}{a:vC}{ds:aM}{vs:br}(h1:G a=some PJ)(h2:Ak):IterOf K ab2 G ds:=by
 refine⟨Hb,iX,λH s=>⟨vs,SqT.of jf,by rw[h2.len];exact zQ _⟩⟩
 ·have:i<vs.length:=by rw[<- h2.len];exact hi
  exact⟨vs,vs[i],CT,zD this⟩
 ·obtain⟨e,y⟩:=hy
  obtain⟨v,q1,q2⟩:=h2.get hd;have:=y vs (SqT.of AQ);rw[q1]at this;cases this;subst e;exact Lc
noncomputable def Xi(f:FD):FI:=λω=>(f ω).bind itemsOf
theorem qt{f:FD}(h:LA):XI X tg e (Xi f):=by
 obtain⟨t,h1,h2⟩:=h;refine⟨λσ H R=>iList X.K t σ H R\/iTup X.K t σ H R,λpins s σ H R I q=>?_,iJ⟩
 ·rcases q with q|q
  ·exact q7I h1 pins s σ H R I q
  ·exact qjP h1 pins s σ H R I q
 ·obtain⟨d,q,e⟩:=bnd e
  cases d with
  | lst es=>
   cases e;refine .inl (h2 G0 H0 G ω σ H _ _ o q λv G1 H1 x1 ⟨a,vs,e1,e2,e3⟩=>⟨a,e1,⟨vs,SqL.of acv⟩,k _ G1 H1 x1 (qgw e2 e3)⟩)
  | tup es=>
   cases e;refine .inr (h2 G0 H0 G ω σ H _ _ o q λv G1 H1 x1 ⟨a,vs,e1,e2,e3⟩=>⟨a,e1,⟨vs,SqT.of acv⟩,k _ G1 H1 x1 (qfX e2 e3)⟩)
  | _=>cases e
noncomputable def upTo(lo:Int)(n:Nat):List D:=(zY n).map λ(i:Nat)=>D.int (lo+jd)
theorem qay{K:zC}{G:Hp}(lo:Int)(n:Nat):IterOf K (Itr lo n) G (upTo lo n):=by
 have hl:(upTo lo n).length=n:=by unfold upTo;rw[zB,zh]
 refine⟨λH i s hi=>by rw[hl]at hi;exact hi,λG2 H i x H' d s0 s1 hd hy=>?_,λH s=>by rw[hl];exact zQ _⟩;obtain⟨e,y⟩:=hy;subst e;refine⟨G2,Vd,?_⟩;unfold upTo at hd;rw[zX]at hd;have hi:i<n:=by
  rcases yD i n with z|z
  ·exact z
  ·rw[zx (by rw[zh];exact z)]at hd;cases hd
 rw[yn hi]at hd;cases hd;exact y
noncomputable def iRg1(g:FA):FI:=λω=>(g ω).bind λds=>match ds with
 | [.int j]=>if -(2^62)<=j/\j<2^62 then some aat else none
 | _=>none
noncomputable def iRg2(g:FA):FI:=λω=>(g ω).bind λds=>match ds with
 | [.int i,.int j]=>if (-(2^62)<=i/\i<2^62)/\-(2^62)<=j/\j<2^62 then some RX else none
 | _=>none
theorem q8a{a:vP}{g:FA}{p pos:Pos}(hg:Co)(hm:ma)(ha:XVA X [a] g)(hs:DG:=by rfl):XI X tg Rt (iRg1 g):=by
 obtain⟨t,h1,h2⟩:=ha;refine⟨_,qeh hg hm h1 hs,iJ⟩;obtain⟨vs,q,e⟩:=bnd e;refine h2 G0 H0 G ω σ H vs _ o q λus G1 H1 x1 y1=>?_
 match vs,e with
 | [.int j],e=>
  dsimp only at e
  by_cases z:-(2^62)<=j/\j<2^62
  ·rw[gR]at e
   cases e;obtain⟨v,rfl,y2⟩:=y1.one;cases y2.int;exact⟨j,rfl,z.1,z.2,Se⟩
  ·rw[gE]at e;cases e
theorem qeN{a b:vP}{g:FA}{p pos:Pos}(hg:Co)(hm:ma)(ha:XVA X rG g)(hs:BE:=by rfl)(hs2:DF:=by rfl):XI X tg SW (iRg2 g):=by
 obtain⟨t,h1,h2⟩:=ha;refine⟨_,qdK hg hm h1 hs hs2,iJ⟩;obtain⟨vs,q,e⟩:=bnd e;refine h2 G0 H0 G ω σ H vs _ o q λus G1 H1 x1 y1=>?_
 match vs,e with
 | [.int i,.int j],e=>
  dsimp only at e
  by_cases z:(-(2^62)<=i/\i<2^62)/\-(2^62)<=j/\j<2^62
  ·rw[gR]at e
   cases e;obtain⟨v,u,rfl,y2,y3⟩:=y1.two;cases y2.int;cases y3.int;exact⟨i,j,rfl,⟨z.1.1,z.1.2,z.2.1,z.2.2⟩,Se⟩
  ·rw[gE]at e;cases e
end
noncomputable def W9(g:FG)(b:FS):List D->FS
 | [],ω=>some Es
 | d::ds,ω=>(g d ω).bind λw=>(b w).bind λp=>match p.1 with
  | .nx=>W9 g b ds p.2
  | .ct=>W9 g b ds p.2
  | .bk=>some (.nx,p.2)
  | .rt r=>some (.rt r,p.2)
noncomputable def Wb(fi:FI)(g:FG)(b:FS):FS:=λω=>(fi ω).bind λds=>W9 g b ds ω
section
variable{X:Cx}{tg iter:vP}{body:List vm}{pos:Pos}{fi:FI}{fg:FG}{fb:FS}
theorem q02(hp:lC)(hc:b0)(hi:NL)(hg:XG X tg fg)(hb:XSs X body fb)(hs:∀x,uC iter X.env x=pure x:=by intro _;rfl):XS X NY (Wb fi fg fb):=by
 obtain⟨wi,h1,h2⟩:=hi;obtain⟨g,h3,h4⟩:=hg;obtain⟨tb,h5,h6⟩:=hb;refine⟨_,q7n hp hc h1 h3 h5 hs,cp⟩;obtain⟨ds,q,e⟩:=bnd e;refine h2 G0 H0 G ω σ H ds _ o q λJ G1 H1 x1 it=>?_;refine⟨λi m σ2 H2=>∃G2 ω2,Own X.K G0 H0 G2 ω2 σ2 H2/\Yx G1 G2/\W9 fg fb (ds.drop i) ω2=some KK/\i<=ds.length/\m=ds.length-i,⟨_,G1,ω,gY,io,e,Cf,rfl⟩,?_⟩;rintro i m σ2 H2 ⟨G2,ω2,o2,s2,f2,hi2,rfl⟩
 by_cases hlt:i<ds.length
 ·refine .inr ⟨it.go H2 i aay hlt,λσ3 H3=>∃G3 ω3,Own X.K G0 H0 G3 ω3 σ3 H3/\Yx G1 G3/\W9 fg fb (ds.drop (i+1)) ω3=some KK,λσ3 H3 ⟨G3,ω3,a1,a2,a3⟩=>⟨ds.length-(i+1),∅,G3,ω3,a1,a2,a3,hlt,rfl⟩,λx H3 hy=>?_⟩
  have hd:ds[i]?=some ds[i]:=zD hlt;obtain⟨G4,x4,rx⟩:=it.yld G2 H2 i x H3 ds[i] s2 o2.gh hd hy;have o2:=o2.keep x4;have s2:=s2.trans x4.gg;rw[xf hlt]at f2;obtain⟨w,q1,f2⟩:=bnd f2;obtain⟨⟨o3,ω3⟩,q2,f2⟩:=bnd f2;refine h4 G0 H0 G4 ω2 σ2 H3 ds[i] x w _ o2 q1 rx λσ4 o4=>?_;refine h6 G0 H0 G4 w σ4 H3 o3 ω3 _ o4 q2 λG5 σ5 H5 o5 s5=>?_;cases o3 with
  | nx=>exact Tc
  | ct=>exact Tc
  | bk=>cases f2;exact k G5 σ5 H5 o5 aaq
  | rt r=>cases f2;exact k G5 σ5 H5 o5 aaq
 ·have ei:i=ds.length:=∅
  subst ei;rw[wu]at f2;cases f2;exact .inl ⟨it.stop H2 aay,k G2 σ2 H2 o2 (x1.gg.trans s2)⟩
end
noncomputable def Xn(g:FG)(c:FT)(f:FD):List D->WSt->Option aM
 | [],_=>some []
 | d::ds,ω=>(g d ω).bind λw=>(c w).bind λb=>if b=true then (f w).bind λx=>(Xn g c f ds w).map λr=>x::r else Xn g c f ds w
noncomputable def WJ:Option bS->Option W
 | some ↥d=>↥d
 | _=>none
noncomputable def inW(M:Nat)(frees:cH)(ω:WSt):WSt:=zv M none++frees.map λj=>WJ ω[j]?
noncomputable def XB(M:Nat)(frees:cH)(fi:FI)(g:FG)(c:FT)(f:FD):FE:=λω=>(fi ω).bind λds=>if ds.length<=1000000 then (Xn g c f ds EG).map R.fr else none
def XTs(X:Cx)(ifs:iI)(f:FT):Prop:=∃t,PTs X ifs t/\zAL X.K t f
noncomputable def Y7:FT:=λ_=>some true
theorem qD{X:Cx}:XTs X [] Y7:=⟨_,qjf,λG0 H0 G ω σ H b Q o e k=>by cases e;exact k G H k5⟩
theorem q4u{X:Cx}{c:vP}{f:FT}(h:XT X c f):XTs X [c] f:=let ⟨t,h1,h2⟩:=h;⟨t,qi0 h1,h2⟩
section
variable{X:Cx}{N:List Str}{M:Nat}{frees:List Nat}{scope:uu}{tg iter elt:vP}{ifs:List vP}{pos:Pos}{fi:FI}{fg:FG}{fc:FT}{fe:FD}
def X3(ω:WSt):Prop:=∀(i:Nat)w,ω[i]?=some (some w)->∃d,w=.sh d
theorem X3.ow{ω:WSt}(h:Px)(i:Nat)(ds:aM):ω[i]?≠some dj:=λz=>by obtain⟨d,e⟩:=h i _ z;cases e
theorem X3.od{ω:WSt}(h:Px)(i:Nat)(ks:ac)(ds:aM):ω[i]?≠some kC:=λz=>by obtain⟨d,e⟩:=h i _ z;cases e
theorem X3.pw{ω:WSt}(h:Px)(i:Nat)(ds:aM):ω[i]?≠some BT:=λz=>by obtain⟨d,e⟩:=h i _ z;cases e
theorem qaz{wi:TI}{g:TG}{tc:TT}{te:TE}(h2:SimI X.K wi fi)(h4:SimG X.K g fg)(h6:zAL X.K tc fc)(h8:zA1 X.K te fe)(hg:∀d ω ω',X3 ω->fg d ω=some ω'->X3 ω'):zB6 X.K Dg Du:=by
 intro G0 H0 G ω σ H r Q o e k;obtain⟨ds,q,e⟩:=bnd e
 by_cases hz:ds.length<=1000000
 ·rw[vH hz]at e
  obtain⟨rs,q2,e⟩:=mpd e;subst e;refine h2 G0 H0 G ω σ H ds _ o q λJ G1 H1 x1 it=>?_;intro A hA;have ow0:X3 EG:=by
   intro i es z;unfold inW at z;rcases yD i M with y|y
   ·rw[RI,yi,KC]at z;cases z
   ·rw[RJ,yT,zX]at z
    cases e1:frees[i-M]? with
    | none=>rw[e1]at z;cases z
    | some j=>
     rw[e1]at z;have z':WJ ω[j]?=some es:=zr z;generalize ω[j]?=u at z';unfold WJ at z'
     split at z'
     ·cases z';exact bK
     ·cases z'
  have own0:∀G2 H2,Yx G1 G2->Yx G2 H2->Own X.K G2 (fr H2) G2 EG DU H2:=λG2 H2 s1 s2=>by
   have o1:=o.keep x1;refine⟨Ext.refl s2,by unfold inW zA8;simp,λi d hi=>?_,λi ds' hi=>vN hi acI,λi j ds' es l hi=>vN hi acI,λi ks ds' hi=>vN hi (ow0.od i ks ds'),Xp.no ow0.pw⟩;unfold inW at hi;unfold zA8;rcases yD i M with y|y
   ·rw[RI,yi,KC]at hi;cases hi
   ·rw[RJ,yT,zX]at hi ⊢
    cases e1:frees[i-M]? with
    | none=>rw[e1]at hi;cases hi
    | some j=>
     rw[e1]at hi;have hi':WJ ω[j]?=↥d:=zr hi;cases e2:ω[j]? with
     | none=>rw[e2]at hi';cases hi'
     | some w=>
      rw[e2]at hi';cases w with
      | none=>cases hi'
      | some w=>
       cases w with
       | ow _=>cases hi'
       | od _ _=>cases hi'
       | pw _=>cases hi'
       | sh d'=>
        cases hi';obtain⟨v,q3,q4⟩:=o1.sh j _ e2;exact⟨v,by rw[xE,q3];rfl,q4.mono s1⟩
  refine⟨λi m σ2 H2=>∃G2 ω2 accd accv,Own X.K G2 (fr H2) G2 ω2 σ2 H2/\X3 ω2/\Ext G1 H1 G2 H2/\G2 A=none/\H2 A=some LE/\Yr X.K G2 accd accv/\accd.length<=i/\i<=ds.length/\m=ds.length-i /\
   ∃rest,Xn fg fc fe (ds.drop i) ω2=some rest/\accd++rest=rs,⟨_,G1,EG,[],[],own0 _ _ io (Yv x1.gh (x1.gh.free hA) _),ow0,Ext.hide x1.gh hA _,x1.gh.free hA,qf,Yr.nil,cP,Cf,rfl,rs,q2,rfl⟩,?_⟩
  rintro i m σ2 H2 ⟨G2,ω2,accd,accv,o2,no2,x2,gA,hA2,ra,la,li,rfl,rest,cd,er⟩
  by_cases hlt:i<ds.length
  ·refine .inr ⟨it.go H2 i Ti hlt,λx H3 hy=>?_⟩
   have hd:ds[i]?=some ds[i]:=zD hlt;obtain⟨G4,x4,rx⟩:=it.yld G2 H2 i x H3 ds[i] x2.gg x2.gh hd hy;have o2':=o2.keep x4;have o2:Own X.K G4 VO G4 ω2 σ2 H3:=⟨Ext.refl x4.gh,o2'.len,o2'.sh,λi ds' hi=>vN hi acM,λi j ds' es l hi=>vN hi acM,λi ks ds' hi=>vN hi (no2.od i ks ds'),Xp.no no2.pw⟩;have gA:G4 A=none:=x4.new A gA (by rw[hA2];exact λz=>by cases z);have hA2:H3 A=some LE:=x4.hh _ _ hA2;have x2:=x2.trans x4;have ra:=ra.mono x4.gg;rw[xf hlt]at cd;obtain⟨w,q1,cd⟩:=bnd cd;obtain⟨b,q3,cd⟩:=bnd cd;have now:=hg _ _ _ no2 q1;refine h4 G4 VO G4 ω2 σ2 H3 ds[i] x w _ o2 q1 rx λσ4 o4=>?_;refine h6 G4 VO G4 w σ4 H3 b _ o4 q3 λG5 H5 x5=>?_;have o5:=o4.keep x5;have gA5:G5 A=none:=x5.new A gA (by rw[hA2];exact λz=>by cases z);have hA5:H5 A=some LE:=x5.hh _ _ hA2;cases b with
   | false=>
    rw[vJ yL];rw[vJ yL]at cd;have o6:Own X.K G5 (fr H5) G5 w σ4 H5:=⟨Ext.refl x5.gh,o5.len,o5.sh,Ua,N1,G8,Xp.no now.pw⟩;exact⟨ds.length-(i+1),∅,G5,w,accd,accv,o6,now,x2.trans x5,gA5,hA5,ra.mono x5.gg,∅,hlt,rfl,rest,cd,er⟩
   | true=>
    rw[lW]at cd ⊢;obtain⟨d,q4,cd⟩:=bnd cd;obtain⟨rest',q5,cd⟩:=mpd cd;subst cd;refine h8 G4 VO G5 w σ4 H5 d _ o5 q4 λv G6 H6 x6 y6=>?_;have gA6:G6 A=none:=x6.new A gA5 (by rw[hA5];exact λz=>by cases z);have hA6:H6 A=some LE:=x6.hh _ _ hA5;have x26:=(x2.trans x5).trans x6;have raa:=ra.mono (x5.gg.trans x6.gg);have hl:accv.length<sizeLine:=by rw[<- raa.len,vh];omega
    refine⟨accv,hA6,hl,ds.length-(i+1),∅,G6,w,accd++[d],accv++[v],?_,now,⟨x26.gg,Yv x26.gh gA6 _,Yv x26.hh hA _,x26.new⟩,gA6,qf,raa.app (Yr.cons y6 Yr.nil),by rw[zE,zq];omega,hlt,rfl,rest',q5,by rw[yB];exact er⟩;have o6:=o5.keep x6;exact⟨Ext.refl (Yv x6.gh gA6 _),o6.len,o6.sh,Ua,N1,G8,Xp.no now.pw⟩
  ·have ei:i=ds.length:=∅
   subst ei;rw[wu]at cd;cases cd;rw[zn]at er;subst er;refine .inl ⟨it.stop H2 Ti,k _ G2 H2 eA ⟨A,accv,rfl,x1.hh.free hA,gA,hA2,ra⟩⟩
 ·rw[vJ hz]at e;cases e
theorem qfI{ω:WSt}{i:Nat}{d:D}(h:Px):X3 nw:=by
 intro j ds z;rcases qe z with⟨_,_,y⟩|⟨_,y⟩
 ·cases y;exact Mo
 ·exact h j ds y
def Tame(fg:FG):Prop:=∀d ω ω',X3 ω->fg d ω=some ω'->X3 ω'
def zA9(gs:di):Prop:=∀ds ω ω',X3 ω->gs ds ω=some ω'->X3 ω'
theorem qv(i:Nat):Tame UJ:=λd ω ω' h e=>by cases e;exact qfI h
theorem q2z:zA9 Xa:=λds ω ω' h e=>by
 cases ds with
 | nil=>cases e;exact h
 | cons _ _=>cases e
theorem qZ{fg:FG}{gs:di}(h:Tame fg)(h':zA9 gs):zA9 (Ys fg gs):=λds ω ω' n e=>by
 cases ds with
 | nil=>cases e
 | cons d r=>obtain⟨w,q,e⟩:=bnd e;exact h' _ _ _ (h _ _ _ n q) e
theorem q5c{n:Nat}{gs:di}(h:zA9 gs):Tame (gT n gs):=λd ω ω' no e=>by
 unfold gT at e;cases d with
 | tup ds=>
  dsimp only at e
  by_cases z:ds.length=n
  ·rw[gR]at e;exact h _ _ _ no e
  ·rw[gE]at e;cases e
 | _=>cases e
noncomputable def canD(K:zC)(f:FD):TE:=λσ H Q=>∃G0 H0 G ω d,Own K G0 H0 G ω σ H/\f ω=some d/\∀v G' H',Ext G H G' H'->Rep K G' d v->Q v H'
noncomputable def canT(K:zC)(f:FT):TT:=λσ H Q=>∃G0 H0 G ω b,Own K G0 H0 G ω σ H/\f ω=some b/\∀G' H',Ext G H G' H'->Q b H'
noncomputable def canG(K:zC)(f:FG):TG:=λv σ H Q=>∃G0 H0 G ω d ω',Own K G0 H0 G ω σ H/\f d ω=some ω'/\Rep K G d v/\∀σ',Own K G0 H0 G ω' σ' H->Q σ' H
theorem XD.can{X:Cx}{e:vP}{f:FD}(h:LA):PE X e (canD X.K f):=λpins s σ H Q I ⟨G0,H0,G,ω,d,o,e,k⟩=>let ⟨_,h1,h2⟩:=h;h1 pins s σ H Q I KQ
theorem XTs.can{X:Cx}{e:iI}{f:FT}(h:XTs X e f):PTs X e (canT X.K f):=λpins s σ H Q I ⟨G0,H0,G,ω,d,o,e,k⟩=>let ⟨_,h1,h2⟩:=h;h1 pins s σ H Q I KQ
theorem XG.can{X:Cx}{e:vP}{f:FG}(h:XG X e f):PG X e (canG X.K f):=λpins s σ H v u Q I r ⟨G0,H0,G,ω,d,ω',o,e,y,k⟩=>let ⟨_,h1,h2⟩:=h;h1 pins s σ H v u Q I r (h2 G0 H0 G ω σ H d v ω' Q o e y k)
theorem qaa{K:zC}{f:FD}:zA1 K (canD K f) f:=λG0 H0 G ω σ H d Q o e k=>PZ
theorem q9K{K:zC}{f:FT}:zAL K (canT K f) f:=λG0 H0 G ω σ H d Q o e k=>PZ
theorem qax{K:zC}{f:FG}:SimG K (canG K f) f:=λG0 H0 G ω σ H d v ω' Q o e y k=>⟨G0,H0,G,ω,d,ω',o,e,y,k⟩
theorem qN(hc:b0)(B:jW)(hi:NL)(ht:Tame fg)(hb:∀C s H fp,XG aT tg fg/\XTs aT ifs fc/\XD aT elt fe)(hs:∀x,uC iter X.env x=pure x:=by intro _;rfl):XE X bD Du:=by
 obtain⟨wi,h1,h2⟩:=hi;have b4:∀C s H fp,PG aT tg (canG X.K fg)/\PTs aT ifs (canT X.K fc)/\PE aT elt (canD X.K fe):=λC s H fp=>pC;exact⟨_,qiW hc B h1 b4 hs,Q2⟩
theorem q1k{i:Nat}{x:Str}{pos' spos:Pos}(hc:b0)(hN:X.N.Nodup)(hi':X.N[i]?=some x)(hx:HH)(B:jW)(hi:NL)(ht:Tame fg)(hb:∀C s H fp,XG aT tg fg/\XTs aT ifs fc/\XD aT elt fe)(hsw:FQ:=by rfl)(hs:∀x,uC iter X.env x=pure x:=by intro _;rfl):XS X QK (XC i Du):=by
 obtain⟨wi,h1,h2⟩:=hi;have b4:∀C s H fp,PG aT tg (canG X.K fg)/\PTs aT ifs (canT X.K fc)/\PE aT elt (canD X.K fe):=λC s H fp=>pC;exact⟨_,qiR hc hN hi' hx B h1 b4 hsw hs,qbO Q2⟩
def Wp(X:Cx)(scope:uu):List Str->List Nat->Prop
 | [],[]=>True
 | x::xs,j::js=>(X.N[j]?=some x/\Be/\scope.names.lookup x=some .free)/\Wp X scope xs js
 | _,_=>False
theorem q72{X:Cx}{scope:uu}:∀{xs:dM}{js:cH},Wp X scope xs js->∀(k:Nat)(x:Str),xs[k]?=some x->∃j,js[k]?=some j/\X.N[j]?=some x/\Be/\scope.names.lookup x=some .free
 | [],_,_,_,_,e=>by simp at e
 | _::_,[],h,_,_,_=>h.elim
 | y::ys,i::is,⟨h1,h2⟩,0,x,e=>by
  have:y=x:=by simpa using e
  subst this;exact⟨i,rfl,h1⟩
 | y::ys,i::is,⟨h1,h2⟩,k+1,x,e=>by
  obtain⟨j,q⟩:=q72 h2 k x ⇑e;exact⟨j,by simpa using q.1,q.2⟩
theorem q6k{X:Cx}{scope:uu}:∀{xs:dM}{js:cH},Wp X scope xs js->xs.length=js.length
 | [],[],_=>rfl
 | [],_::_,h=>h.elim
 | _::_,[],h=>h.elim
 | _::ys,_::is,⟨_,h2⟩=>by rw[zK,zK,q6k h2]
theorem blk{X:Cx}{scope:uu}(own free:dM)(frees:cH)(h1:scope.kind=.function)(h2:∀y∈scope.names,y.2≠.cell)(h3:∀y∈scope.names,y.2=.local->scope.names.lookup y.1=some .local)(h4:(scope.names.all λp=>p.2 != .free || (X.env.cells.lookup p.1).isSome)=true)(h5:Wp X scope free frees):BlkOk X (own++free) own.length frees scope:=by
 refine⟨h1,h2,h3,λp hp hf=>?_,λk x e=>?_,by rw[zE,q6k h5]⟩
 ·have:=ym.mp h4 p hp
  rw[hf]at this;simpa using this
 ·rw[zZ (Nat.le_add_right _ _),wq]at e
  exact q72 h5 k x e
end
noncomputable def entry(n:Nat)(ds:aM):WSt:=ds.map (λd=>↥d)++zv (n-ds.length) none
noncomputable def mir(n:Nat)(body:FS)(ds:aM):Option O:=match body Qt with
 | some (.rt r,_)=>some r
 | some (.nx,_)=>some IV
 | _=>none
theorem qd0{K:zC}{H:Hp}{N:dM}{ds:aM}{vs:br}(h:Ck)(i:Nat)(d:D)(e:(entry N.length ds)[i]?=some ↥d):∃v,(L2.start N vs)[i]?=some oy/\Rep K H d v:=by
 unfold entry at e;unfold L2.start;have hl:=h.len;rcases yD i ds.length with y|y
 ·rw[RI,zX]at e
  have e1:ds[i]?=some d:=by
   cases q:ds[i]? with
   | none=>rw[q]at e;cases e
   | some d'=>rw[q]at e;cases e;rfl
  obtain⟨v,q1,q2⟩:=h.get e1;refine⟨v,?_,q2⟩;rw[zd ⇑((∅:i<vs.length)),zX,q1];rfl
 ·rw[RJ,yi]at e
  split at e <;> cases e
theorem q35{n:Nat}{ds:aM}:X3 Qt:=by
 intro i es z;unfold entry at z;rcases yD i ds.length with y|y
 ·rw[RI,zX]at z
  cases q:ds[i]? with
  | none=>rw[q]at z;cases z
  | some d=>rw[q]at z;cases z;exact Mo
 ·rw[RJ,yi]at z
  split at z <;> cases z
theorem fnD{P:vS}{w:vX}{K:zC}{mg:bH}{base:ve}{x qual:Str}{st:vm}{f:vC}{fd:vL}{N ps:dM}{k:Nat}{body:FS}(F:Bg)(S:NR)(hb:∀(cdv:vB)(A:vc)(outer:Ap)(s:vF)(H:Hp)(E:XK),Room k pk->XSs (zAh CX0 P w K mg base N qual Dt f cdv A outer s H E).nox Qz body):
  FnOk P w K mg base CX0 (k+1) f fd ps (spD K ps.length (mir N.length body)):=by
 refine F.ok S BQ j6
 ·obtain⟨G,ds,r,_,h2,_,h4,_⟩:=h
  rw[<- h4.len];exact h2
 ·obtain⟨G,ds,r,h1,h2,h3,h4,h5⟩:=h
  obtain⟨t,p1,p2⟩:=hb cdv A outer s H E hr;refine⟨t,p1,?_⟩;unfold mir at h1;have hl:=h4.len;have hpl:ps.length<=N.length:=by have:=vn yZ S.pre;rw[zo]at this;omega
  have o0:Own K G Cw G Tv Fa H:=by
   refine⟨Ext.refl h3,?_,λi d e=>qd0 h4 i d e,λi es e=>vN e (q35.ow i es),λi j es fs l e=>vN e (q35.ow i es),λi ks es e=>vN e (q35.od i ks es),Xp.no q35.pw⟩;unfold entry L2.start;simp only[zE,zB,yT];omega
  cases q:body Tv with
  | none=>rw[q]at h1;cases h1
  | some p=>
   obtain⟨out,ω'⟩:=p;rw[q]at h1;refine p2 G Cw G _ _ H out ω' _ o0 q λG' σ' H' o' s'=>?_;cases out with
   | nx=>cases h1;exact h5 _ G' H' o'.ext rfl
   | bk=>cases h1
   | ct=>cases h1
   | rt r'=>cases h1;exact λv y=>h5 v G' H' o'.ext y
theorem qS:vf "len" = some aa2:=⋯
theorem q4D:vf "all" = some aa3:=⋯
theorem q5h:vf "sum" = some aa0:=⋯
theorem q9R:vf "min" = some La:=⋯
theorem qjo:vf "max" = some aa1:=⋯
theorem q9L:vf "abs" = some aa4:=⋯
theorem q3M:vf "sorted" = some j0:=⋯
theorem qdu:vf "int" = some (.type "int"):=⋯
theorem qbs:vf "bool" = some (.type "bool"):=⋯
theorem q1m:vf "list" = some B9:=⋯
theorem q2l:vf "tuple" = some (.type "tuple"):=⋯
theorem qjk:vf "set" = some oB:=⋯
theorem qkn:vf "zip" = some Pd:=⋯
noncomputable def zBv(o:Ma)(g:FS):Option eG:=o.bind λp=>match p.1 with
 | .nx=>g p.2
 | o=>some (o,p.2)
noncomputable def setS(i:Nat)(ω:WSt)(o:LB):Option eG:=o.bind λr=>(setR i r ω).map λw=>Kn
noncomputable def ifS(c:HP)(f g:FS)(ω:WSt):Option eG:=c.bind λb=>if b=true then f ω else g ω
noncomputable def retS(ω:WSt)(o:LB):Option eG:=o.bind λr=>match r with
 | .sh d=>some oM
 | .fr ds=>some nG
 | .vw _=>none
noncomputable def retV(ω:WSt)(o:mI):Option eG:=match o with
 | some ↥d=>some oM
 | some (some (.ow ds))=>some nG
 | _=>none
noncomputable def appS(i:Nat)(ω:WSt)(o:fh)(l:mI):Option eG:=o.bind λd=>match l with
 | some (some (.ow ds))=>if ds.length<1000000 then some oC else none
 | _=>none
noncomputable def extS(i:Nat)(ω:WSt)(o:fh)(l:mI):Option eG:=o.bind λd=>(itemsOf d).bind λes=>match l with
 | some (some (.ow ds))=>if ds.length+es.length<=1000000 then some Ic else none
 | _=>none
noncomputable def shrS(i:Nat)(ω:WSt)(o:mI):WSt:=match o with
 | some (some (.ow ds))=>ω.set i ↥gK
 | some (some (.od ks ds))=>ω.set i ↥EQ
 | _=>ω
noncomputable def forS(o:lH)(g:FG)(b:FS)(ω:WSt):Option eG:=o.bind λds=>W9 g b ds ω
noncomputable def asgS(o:fh)(g:FG)(ω:WSt):Option eG:=o.bind λd=>(g d ω).map λw=>Kn
noncomputable def zBa(o:mI):Option R:=match o with
 | some ↥d=>↥d
 | some (some (.ow ds))=>some GQ
 | some (some (.pw ds))=>some GQ
 | _=>none
noncomputable def eD(o:fh):Option R:=o.map R.sh
noncomputable def dR(o:LB):Option D:=match o with
 | ↥d=>some d
 | some (.fr ds)=>some gK
 | _=>none
noncomputable def vR(o:LB):Option D:=o.map R.d
noncomputable def op2(op:mw)(x y:fh):Option R:=x.bind λx=>y.bind λy=>op x y
noncomputable def callR(m:bG)(o:lH):Option R:=o.bind λds=>(m ds).map O.r
noncomputable def consA(o:fh)(r:lH):Option aM:=o.bind λd=>r.map λds=>d::ds
noncomputable def bltR(op:Mc)(o:lH):Option R:=o.bind op
noncomputable def slR(o:fh)(l h:Option fA):Option R:=o.bind λd=>l.bind λlo=>h.bind λhi=>oSl d lo hi
noncomputable def atP(o:fh):Option fA:=o.bind λd=>match d with|.int i=>some Bm|_=>none
noncomputable def iteR(c:HP)(f g:FE)(ω:WSt):Option R:=c.bind λk=>if k=true then f ω else g ω
noncomputable def zBz(c:Ty)(o:fh):Option R:=o.bind λd=>match d with
 | .scr _=>none
 | .exc _=>none
 | .dic _ _=>none
 | d=>↥FH
noncomputable def tR(o:LB):Option Bool:=match o with
 | ↥(.bl k)=>some k
 | _=>none
noncomputable def andT(o:HP)(g:FT)(ω:WSt):Option Bool:=o.bind λc=>if c=true then g ω else some false
noncomputable def orT(o:HP)(g:FT)(ω:WSt):Option Bool:=o.bind λc=>if c=true then some true else g ω
noncomputable def notT(o:HP):Option Bool:=o.map (!·)
noncomputable def truT(o:fh):Option Bool:=o.bind truD
noncomputable def andV(o:fh)(g:FD)(ω:WSt):Option D:=o.bind λd=>(blOf d).bind λc=>if c=true then g ω else some i9
noncomputable def orV(o:fh)(g:FD)(ω:WSt):Option D:=o.bind λd=>(blOf d).bind λc=>if c=true then some bY else g ω
noncomputable def seqI(o:fh):Option aM:=o.bind itemsOf
noncomputable def rg1I(o:lH):Option aM:=o.bind λds=>match ds with
 | [.int j]=>if -(2^62)<=j/\j<2^62 then some aat else none
 | _=>none
noncomputable def rg2I(o:lH):Option aM:=o.bind λds=>match ds with
 | [.int i,.int j]=>if (-(2^62)<=i/\i<2^62)/\-(2^62)<=j/\j<2^62 then some RX else none
 | _=>none
noncomputable def compR(M:Nat)(fr:cH)(o:lH)(g:FG)(c:FT)(f:FD)(ω:WSt):Option R:=o.bind λds=>if ds.length<=1000000 then (Xn g c f ds (inW M fr ω)).map R.fr else none
noncomputable def outM(o:Ma):Option O:=match o with
 | some (.rt r,_)=>some r
 | some (.nx,_)=>some IV
 | _=>none
section
variable{f g:FS}{ω w:WSt}{i:Nat}{fe fe':FE}{fd fd':FD}{ft ft':FT}{r:O}{d d':D}{ds ds':List D}{a b:Int}{p q:Bool}{fa:FA}{fg:FG}{fi:FI}{n:Nat}
theorem qhN:mir n f ds=outM (f Qt):=rfl
theorem qcb:outM aax=some r:=rfl
theorem qcr:outM (some Kn)=some IV:=rfl
theorem q07:Yu f g ω=zBv (f ω) g:=rfl
theorem qbU:zBv (some Kn) g=g w:=rfl
theorem qbS:zBv aax g=some (.rt r,w):=rfl
theorem qhH:Xl ω=some Es:=rfl
theorem qhd:XC i fe ω=setS i ω Nq:=rfl
theorem qcf:setS i ω ↥d=some (.nx,nw):=rfl
theorem qc8:setS i ω Ps=some (.nx,P0):=rfl
theorem e_if:sIf ft f g ω=ifS Qo f g ω:=rfl
theorem qe2:ifS Gj f g ω=f ω:=rfl
theorem qfu:ifS (some false) f g ω=g ω:=rfl
theorem qgY:Y4 fe ω=retS ω Nq:=rfl
theorem qbB:retS ω ↥d=some oM:=rfl
theorem qbT:retS ω Ps=some nG:=rfl
theorem qed:We i ω=retV ω ω[i]?:=rfl
theorem qbb:retV ω BU=some nG:=rfl
theorem qhw:zBQ i fd ω=appS i ω nM ω[i]?:=rfl
theorem zBW(h:ds.length<1000000):appS i ω A6 BU=some oC:=vH h
theorem qgU:sExt i fd ω=extS i ω nM ω[i]?:=rfl
theorem qah(h:MA):extS i ω (some (.tup ds')) BU=some GT:=vH h
theorem q5C(h:MA):extS i ω (some (.lst ds')) BU=some GT:=vH h
theorem qbi:Xf i f ω=f (shrS i ω ω[i]?):=rfl
theorem qcD:shrS i ω BU=ω.set i ↥gK:=rfl
theorem qhi:Wb fi fg f ω=forS (fi ω) fg f ω:=rfl
theorem e_fs:forS He fg f ω=W9 fg f ds ω:=rfl
theorem qgK:sAsg fd fg ω=asgS nM fg ω:=rfl
theorem e_ag:asgS A6 fg ω=(fg d ω).map λw=>Kn:=rfl
theorem e_gn:gN i d ω=some nw:=rfl
theorem e_gt{gs}:gT n gs Fe ω=if ds.length=n then gs ds ω else none:=rfl
theorem e_gc{gs}:Ys fg gs (d::ds) ω=(fg d ω).bind λw=>gs ds w:=rfl
theorem e_g0:Xa [] ω=some ω:=rfl
theorem qgX:Yh i ω=zBa ω[i]?:=rfl
theorem qbH:zBa (some ↥d)=↥d:=rfl
theorem qbd:zBa BU=some GQ:=rfl
theorem e_c:fC d ω=some d:=rfl
theorem e_e:eOf fd ω=eD nM:=rfl
theorem e_ed:eD A6=↥d:=rfl
theorem e_d:dOf fe ω=dR Nq:=rfl
theorem qcC:dR ↥d=some d:=rfl
theorem qbl:dR Ps=some gK:=rfl
theorem e_v:vOf fe ω=vR Nq:=rfl
theorem qc4:vR ↥d=some d:=rfl
theorem qbq:vR Ps=some gK:=rfl
theorem qbz:vR (some GQ)=some gK:=rfl
theorem e_op{op}:Yn op fd fd' ω=op2 op nM (fd' ω):=rfl
theorem e_o2{op}:op2 op A6 (some d')=op d d':=rfl
theorem qeg{m}:Yp m fa ω=callR m Kh:=rfl
theorem e_cl{m}:callR m He=(m ds).map O.r:=rfl
theorem qbo:(O.sh d).r=.sh d:=rfl
theorem qbe:(O.fr ds).r=.fr ds:=rfl
theorem e_ac:Yf fd fa ω=consA nM Kh:=rfl
theorem e_ca:consA A6 He=some (d::ds):=rfl
theorem e_an:Yq ω=some []:=rfl
theorem qhe:WZ fa ω=(fa ω).map R.fr:=rfl
theorem qgO:zAW fa ω=(fa ω).map D.tup:=rfl
theorem qh6{op}:XZ op fa ω=bltR op Kh:=rfl
theorem e_bl{op}:bltR op He=op ds:=rfl
theorem qhm{l h:FO}:fSl fd l h ω=slR nM (l ω) (h ω):=rfl
theorem e_sl{lo hi:fA}:slR A6 (some lo) (some hi)=oSl d lo hi:=rfl
theorem e_po:pNo ω=some none:=rfl
theorem e_pa:pAt fd ω=atP nM:=rfl
theorem e_ap:atP (some cM)=some (some a):=rfl
theorem qgH:zB3 ft fe fe' ω=iteR Qo fe fe' ω:=rfl
theorem qdY:iteR Gj fe fe' ω=fe ω:=rfl
theorem qet:iteR (some false) fe fe' ω=fe' ω:=rfl
theorem qhf{c}:W4 c fd ω=zBz c nM:=rfl
theorem q8F{c}:zBz c (some cM)=↥(.bl (zAa .int c)):=rfl
theorem q9y{c}:zBz c Gk=↥(.bl (zAa .bl c)):=rfl
theorem q8P{c}:zBz c (some .non)=↥(.bl (zAa .non c)):=rfl
theorem q8m{c x}:zBz c (some Ip)=↥(.bl (zAa .str c)):=rfl
theorem q8J{c}:zBz c KH=↥(.bl (zAa .lst c)):=rfl
theorem q8w{c}:zBz c (some Fe)=↥(.bl (zAa .tup c)):=rfl
theorem e_t:tOf fe ω=tR Nq:=rfl
theorem e_tr:tR ↥(.bl p)=some p:=rfl
theorem qfm:Wn ft ft' ω=andT Qo ft' ω:=rfl
theorem e_ta:andT (some p) ft ω=if p=true then ft ω else some false:=rfl
theorem qhs:(if p=true then some q else some false)=some (p&&q):=by cases p <;> rfl
theorem qhK:WM ft ft' ω=orT Qo ft' ω:=rfl
theorem e_to:orT (some p) ft ω=if p=true then some true else ft ω:=rfl
theorem qha:(if p=true then some true else some q)=some (p || q):=by cases p <;> rfl
theorem qf8:XQ ft ω=notT Qo:=rfl
theorem e_tn:notT (some p)=some (!p):=rfl
theorem qdU:WB fd ω=truT nM:=rfl
theorem qcq:truT Gk=some p:=rfl
theorem qal:truT KH=some (!ds.isEmpty):=rfl
theorem qf2:Wh fd fd' ω=andV nM fd' ω:=rfl
theorem e_va:andV Gk fd ω=if p=true then fd ω else some i9:=rfl
theorem qgF:(if p=true then some (D.bl q)else some (D.bl false))=some (.bl (p&&q)):=by cases p <;> rfl
theorem qgE:vOr fd fd' ω=orV nM fd' ω:=rfl
theorem e_vo:orV Gk fd ω=if p=true then some bY else fd ω:=rfl
theorem qhF:(if p=true then some (D.bl true)else some (D.bl q))=some (.bl (p || q)):=by cases p <;> rfl
theorem qdz:Xi fd ω=seqI nM:=rfl
theorem qeI:seqI KH=some ds:=rfl
theorem qdB:seqI (some Fe)=some ds:=rfl
theorem qhp:iRg1 fa ω=rg1I Kh:=rfl
theorem qhD:iRg2 fa ω=rg2I Kh:=rfl
theorem ql3(h:-(2^62)<=a/\a<2^62):rg1I (some [cM])=some (upTo 0 a.toNat):=vH h
theorem qkJ(h:-(2^62)<=a/\a<2^62)(h':-(2^62)<=b/\b<2^62):rg2I (some [cM,iz])=some (upTo a (b-a).toNat):=vH ⟨h,h'⟩
theorem qeL{M fr}:XB M fr fi fg ft fd ω=compR M fr (fi ω) fg ft fd ω:=rfl
theorem WD{M fr}(h:aaG):compR M fr He fg ft fd ω=(Xn fg ft fd ds (inW M fr ω)).map R.fr:=vH h
theorem qhG:Wz fd ω=(fd ω).bind oNeg:=rfl
theorem e_ng:oNeg cM=↥(.int (-a)):=rfl
theorem qbx:WK [gK]=↥Em:=rfl
theorem qc6:WK [Fe]=↥Em:=rfl
theorem qc5{ns}:WK [ky]=↥aaX:=rfl
theorem qfn:oEq false cM iz=↥(.bl UL):=rfl
theorem qdG:oEq true cM iz=↥(.bl (! UL)):=rfl
theorem qbr:Wq cM iz=↥(.int (a-b)):=rfl
theorem qdV:oLt cM iz=↥(.bl (decide (a<b))):=rfl
theorem qev:oGt cM iz=↥(.bl (decide (b<a))):=rfl
theorem qds:oGe cM iz=↥(.bl (decide (b<=a))):=rfl
theorem qco:Xo cM iz=↥(.int (a+b)):=rfl
theorem qck:oIs true (.bl p) (.bl q)=↥(.bl (!(p==q))):=rfl
theorem qgP:oIs false d .non=↥(.bl (isN d)):=by cases d <;> rfl
theorem qhc:oIx gK cM=(atI ds a).map R.sh:=rfl
theorem qhM:oIx Fe cM=(atI ds a).map R.sh:=rfl
theorem qh2{ns:ac}:oIx ky cM=(atI ns a).map λn=>.sh aY:=rfl
theorem q0n{α:Type}{xs:bJ}{i:Int}(h0:0<=i)(h1:i<xs.length):atI xs i=some (xs[i.toNat]'∅):=by
 unfold atI ixN;rw[vH h0,Vy];show xs[i.toNat]?=_;rw[zD ∅]
theorem at0{α:Type}{x:α}{xs:bJ}:atI OD 0=some x:=by
 rw[q0n (by decide) (by rw[zK];omega)];rfl
theorem at1{α:Type}{x y:α}{xs:bJ}:atI (x::y::xs) 1=some y:=by
 rw[q0n (by decide) (by rw[zK,zK];omega)];rfl
theorem at2{α:Type}{x y z:α}{xs:bJ}:atI (x::y::z::xs) 2=some z:=by
 rw[q0n (by decide) (by rw[zK,zK,zK];omega)];rfl
theorem qin{i j:Int}(h0:0<j)(h1:j<1073741824):cDiv i j=true:=by unfold cDiv;rw[vO h0,vO h1];rfl
theorem qjb{i j:Int}(h0:0<j):cMod i j=true:=by unfold cMod;rw[vO h0]
theorem qfM{i j:Int}(h0:-(2^64)<j)(h1:j<2^64):zBq i j=true:=by unfold zBq;rw[vO h0,vO h1];simp
theorem qga{i j:Int}(h0:-(2^64)<i)(h1:i<2^64):zBq i j=true:=by unfold zBq;rw[vO h0,vO h1];simp
theorem q0s(h:0<b):oMod cM iz=↥(.int (a%b)):=vH (qjb h)
theorem qbg(h:0<b)(h':b<1073741824):oDiv cM iz=↥(.int (a/b)):=vH (qin h h')
theorem q6N(h:-(2^64)<b)(h':b<2^64):zA7 cM iz=↥QH:=vH (qfM h h')
theorem qgr(h:-(2^64)<a)(h':a<2^64):zA7 cM iz=↥QH:=vH (qga h h')
end
def W2(o:Ma)(P:rQ):Prop:=match o with
 | some (.nx,ω)=>P ω
 | some (.ct,ω)=>P ω
 | _=>False
theorem q7G{ω:WSt}{P:rQ}:W2 (some Es) P=P ω:=rfl
theorem qR{α:Type}{g:FG}{b:FS}(F:α->D)(xs:bJ)(I:List α->WSt->Prop)(turn:∀pre x post ω,xs=pre++x::post->I pre ω->∃w,g (F x) ω=some w/\W2 (b w) (I (pre++[x]))){ω:WSt}(h0:I [] ω):∃ω',W9 g b (xs.map F) ω=some K8/\I xs ω':=by
 have key:∀(post pre:bJ)(ω:WSt),xs=pre++post->I pre ω->∃ω',W9 g b (post.map F) ω=some K8/\I xs ω':=by
  intro post
  induction post with
  | nil=>intro pre ω e h;exact⟨ω,rfl,by rw[e,zn];exact h⟩
  | cons d post ih=>
   intro pre ω e h;obtain⟨w,h1,h2⟩:=turn pre d post ω e h;rw[zL,W9,h1,yX]
   match hb:b w,h2 with
   | some (.nx,ω2),h2=>exact ih (pre++[d]) ω2 (by rw[e,yB];rfl) h2
   | some (.ct,ω2),h2=>exact ih (pre++[d]) ω2 (by rw[e,yB];rfl) h2
 exact key xs [] ω rfl h0
theorem q8A{g:FG}{b:FS}(lo:Int)(n:Nat)(I:Nat->WSt->Prop)(turn:∀i ω,i<n->I i ω->∃w,g (.int (lo+i)) ω=some w/\W2 (b w) (I (i+1))){ω:WSt}(h0:I 0 ω):∃ω',W9 g b (Hk.upTo lo n) ω=some K8/\I n ω':=by
 unfold Hk.upTo;obtain⟨ω',e,h⟩:=qR (g:=g) (b:=b) (λ(i:Nat)=>D.int (lo+jd)) Jb (λpre ω=>I pre.length ω) (λpre x post ω e h=>by
  have hx:x=pre.length:=by
   have:=vn (λl=>l[pre.length]?) e;rw[zZ cP,wS]at this;rcases yD pre.length n with z|z
   ·rw[yn z]at this;simpa using this.symm
   ·rw[zx (by rw[zh];exact z)]at this;cases this
  have hlt:pre.length<n:=by
   have:=vn yZ e;rw[zh,zE,zK]at this;omega
  subst hx;obtain⟨w,h1,h2⟩:=turn pre.length ω hlt h;refine⟨w,h1,?_⟩;rw[zE];exact h2) h0
 rw[zh]at h;exact⟨ω',e,h⟩
theorem q8d{g:FG}{c:FT}{f:FD}(P:rQ)(q:D->Bool)(F:D->D):∀(ds:aM){ω:WSt},P ω ->
  (∀d∈ds,∀ω,P ω->∃w,g d ω=some w/\P w/\c w=some (q d)/\(q d=true->f w=some (F d)))->Xn g c f ds ω=some ((ds.filter q).map F)
 | [],_,_,_=>rfl
 | d::ds,ω,h,t=>by
  obtain⟨w,h1,h2,h3,h4⟩:=t d zG ω h;have ih:=q8d P q F ds h2 aal;rw[Xn,h1,yX,h3,yX];cases hq:q d with
  | true=>rw[lW,h4 hq,yX,ih,xt hq];rfl
  | false=>rw[vJ (by decide),ih,xu (by rw[hq];decide)]
theorem q8T{i:Nat}{f:FD}(F:D->D)(ds:aM){ω:WSt}(h:∀d∈ds,f nw=some (F d)):Xn UJ Y7 f ds ω=some (ds.map F):=by
 have:=q8d (g:=gN i) (c:=Y7) (f:=f) (λw=>∀x,w.set i x=ω.set i x) De F ds (ω:=ω) (λx=>rfl) λd hd w hw=>
  ⟨w.set i ↥d,rfl,λx=>by rw[List.set_set,hw],rfl,λ_=>by rw[hw];exact h d hd⟩
 rw[this,Iz]
theorem qhh{ds:aM}{lo hi:fA}:oSl gK lo hi=some (.fr E1):=rfl
theorem qkK{ns:ac}{lo hi:fA}:oSl ky lo hi=some Jn:=rfl
theorem q7J{xs ys:aM}(h:xs.length+ys.length<=1000000):Xo dY rC=some (.fr MY):=vH h
theorem q6C(a:Int):∀(ns:ac),inD cM fq=decide (a∈ns)
 | []=>rfl
 | n::r=>by
  have ih:=q6C a r;unfold inD inV at ih ⊢;rw[zL,zL,xk,ih];have e:eqV (D.int n).v (D.int a).v=decide (a=n):=by
   show (n==a)=_
   by_cases h:a=n
   ·subst h;simp
   ·rw[vQ h];simpa using λz=>h z.symm
  rw[e]
  by_cases h:a=n
  ·simp[h]
  ·by_cases h':a∈r <;> simp[h,h']
theorem qat{d:D}(h:abr):eqD d d=true:=SeqAt.eqv_refl d.py (SeqAt.canLay_of_shaped h)
theorem q54{d:D}(h:abr):oEq false d d=↥bY:=by
 unfold oEq;rw[h];show some (R.sh (D.bl (eqD d d)))=_;rw[qat h]
theorem q3q{d:D}(h:abr):oEq true d d=↥i9:=by
 unfold oEq;rw[h];show some (R.sh (D.bl (!eqD d d)))=_;rw[qat h];rfl
theorem qct{ds:aM}(n:Nat)(hn:n<64)(h:∀d∈ds,d.py.canLay0=true/\d.py.depth<=n):shp gK=true:=by
 unfold shp SeqAt.shaped;have:∀ds:List D,(∀d∈ds,d.py.canLay0=true/\d.py.depth<=n)->PyData.canLayAll0 p8=true/\PyData.depthAll p8<=n:=by
  intro ds
  induction ds with
  | nil=>intro _;exact⟨rfl,Cf⟩
  | cons d ds ih=>
   intro h;obtain⟨a,b⟩:=ih λe he=>h e Kz;obtain⟨a',b'⟩:=h d zG;refine⟨?_,?_⟩
   ·rw[D.pys,PyData.canLayAll0,a,a'];rfl
   ·rw[D.pys,PyData.depthAll];exact Nat.max_le.mpr ⟨b',b⟩
 obtain⟨a,b⟩:=this ds h;show (PyData.canLayAll0 p8&&decide (PyData.depthAll p8+1<=64))=true;rw[a,vO ∅];rfl
noncomputable def zAV(x:Int):List Int->List Int
 | []=>[x]
 | y::r=>if x<y then x::y::r else if x=y then y::r else y::zAV x r
noncomputable def Y6(ns:ac):List Int:=ns.foldr zAV []
theorem q6B{x y:Int}:∀{l:ac},y∈zAV x l↔y=x\/y∈l
 | []=>by simp[zAV]
 | z::r=>by
  unfold zAV
  split
  ·simp
  ·split
   ·rename_i h;subst h;simp
   ·simp only[zI,q6B (l:=r)]
    constructor
    ·rintro(h|h|h) <;> simp[h]
    ·rintro(h|h|h) <;> simp[h]
theorem q8I{x:Int}:∀{l:ac},l.Pairwise (· < ·)->(zAV x l).Pairwise (· < ·)
 | [],_=>by simp[zAV]
 | z::r,h=>by
  obtain⟨h1,h2⟩:=zm.mp h;unfold zAV
  split
  ·rename_i hx
   refine zm.mpr ⟨Iv,h⟩;rcases zI.mp hy with rfl|hy
   ·exact hx
   ·exact Int.lt_trans hx (h1 y hy)
  ·split
   ·exact h
   ·refine zm.mpr ⟨Iv,q8I h2⟩
    rcases q6B.mp hy with rfl|hy
    ·omega
    ·exact h1 y hy
theorem q3O{y:Int}:∀{ns:ac},y∈Y6 ns↔y∈ns
 | []=>by simp[Y6]
 | x::r=>by
  show y∈zAV x (Y6 r)↔_;rw[q6B,q3O (ns:=r),zI]
theorem q1i:∀{ns:ac},(Y6 ns).Pairwise (· < ·)
 | []=>xv
 | x::r=>q8I (q1i (ns:=r))
theorem qam{x:Int}:∀(l:ac),(zAV x l).length<=l.length+1
 | []=>by simp[zAV]
 | z::r=>by
  have:=qam (x:=x) r;unfold zAV
  split
  ·simp
  ·split
   ·simp
   ·rw[zK,zK];omega
theorem q3N:∀(l:ac),(Y6 l).length<=l.length
 | []=>zQ _
 | x::r=>by
  have h1:=qam (x:=x) (Y6 r);have h2:=q3N r;show (zAV x (Y6 r)).length<=_;rw[zK];omega
theorem qbR:∀{l m:ac},l.Pairwise (· < ·)->m.Pairwise (· < ·)->(∀x,x∈l↔x∈m)->l=m
 | [],[],_,_,_=>rfl
 | [],y::r,_,_,h=>vN adb (by simp)
 | x::r,[],_,_,h=>vN ((h x).mp zG) (by simp)
 | x::r,y::q,hl,hm,h=>by
  obtain⟨a1,a2⟩:=zm.mp hl;obtain⟨b1,b2⟩:=zm.mp hm;have e:x=y:=by
   rcases zI.mp ((h x).mp zG)with e|e
   ·exact e
   ·rcases zI.mp adb with f|f
    ·exact f.symm
    ·have:=b1 x e;have:=a1 y f;omega
  subst e;rw[qbR a2 b2 λz=>?_]
  constructor
  ·intro hz
   rcases zI.mp ((h z).mp (zH _ hz))with f|f
   ·have:=a1 z hz;omega
   ·exact f
  ·intro hz
   rcases zI.mp ((h z).mpr (zH _ hz))with f|f
   ·have:=b1 z hz;omega
   ·exact f
theorem qaI{l:ac}(h:l.Pairwise (· <= ·))(n:l.Nodup):l.Pairwise (· < ·):=by
 induction l with
 | nil=>exact xv
 | cons x r ih=>
  obtain⟨h1,h2⟩:=zm.mp h;obtain⟨n1,n2⟩:=yk.mp n;refine zm.mpr ⟨Iv,ih h2 n2⟩;have:=h1 y hy;have:x≠y:=λe=>n1 (e▸hy);omega
def setP(w:vX)(S:vC)(ns:ac):ve->Prop:=λh=>zBG h S Rf jj ns.length
def rSet(w:vX):List V->Hp->VK->Prop:=λxs H Q=>∃p ns,xs=OX/\H p=some Ca/\ns.length+1<4096/\∀S,H S=none->Q gF (upd H S SQ)
def fewS(ns:ac):Prop:=(Y6 ns).length<64/\ns.length<4000
noncomputable instance (ns:List Int):Decidable (fewS ns):=inferInstanceAs (Decidable (_/\_))
theorem qke{ns:ac}(h:R7):fewS ns:=⟨xm (q3N ns) h,∅⟩
def rSortS(w:vX):List V->Hp->VK->Prop:=λxs H Q=>∃S ns,xs=[gF]/\H S=some SQ/\fewS ns/\∀l,H l=none->Q c9 (upd H l (.lst Ii))
section
variable{X:Cx}
theorem qes{pins:aC}{σ:St}{H:Hp}{s:vF}(I:U7)(d:Drawn):L2.Inv X pins σ H { s with drawn:=d } :=
 ⟨I.ok,I.os,I.bare,I.base,I.loc,I.cell,I.free,I.freeC,I.pin,I.hok,I.len⟩
theorem qgv(hc:b0):Xu X oB (rSet X.w):=by
 intro pins s σ H xs us Q I r h;obtain⟨p,ns,rfl,hp,hz,q⟩:=h;obtain⟨u,rfl,rx⟩:=vals1 r;cases rx;obtain⟨its,n,rv,e,_⟩:=I.lst hp;have ia:=q20 rv;have hlen:its.length=ns.length:=by rw[<- rv.length,zB]
 refine qb1 (items:=its.toArray) (ns:=ns) fO l6 ⇑ia (by rw[zN,hlen];exact hz) λh' tk sv kp=>?_;have hsz:its.toArray.size=ns.length:=by rw[zN,hlen]
 rw[hsz]at sv;refine⟨aJ,_,I.laid (t':=tk) (λb o e=>kp b o DS e) cP (show Y2 X.prog X.w _ h' _ (.ext (setP X.w s.heap.objs.size ns))from ⟨sv,?_,λh1 h2 a1 a2=>a1.at a2⟩),rfl,q _ lZ⟩;obtain⟨_,⟨o,_,_,_,e,_⟩,_⟩:=sv;exact Iq
theorem qcH(hc:b0):Xu X j0 (rSortS X.w):=by
 intro pins s σ H xs us Q I r h;obtain⟨S,ns,rfl,hp,hz,q⟩:=h;obtain⟨u,rfl,rx⟩:=vals1 r;cases rx;obtain⟨⟨zs,SI,hl,hm⟩,_⟩:=I.hok S _ hp;obtain⟨o,es,ep,t,go,gx,gd,T,gl,gb,gg,gv,gn⟩:=id SI;have mz:∀x,x∈zs↔x∈Y6 ns:=λx=>by
  rw[hm,q3O]
  constructor
  ·rintro⟨i,hi,rfl⟩
   dsimp only
   rw[zT,zD hi];exact yC hi
  ·intro hx
   obtain⟨i,hi,e⟩:=z8.mp hx;exact⟨i,hi,by dsimp only;rw[zT,zD hi];exact e⟩
 have zl:=((wY gn ((q1i (ns:=ns)).imp λh=>∅)).mpr mz).length_eq;refine qcK fO SI (by rw[zl];exact hz.1) λD h' tk d vs ys n kp hD hg ia pm pw=>?_;have ey:ys=Y6 ns:=qbR (qaI pw (pm.nodup_iff.mpr gn)) q1i λx=>by rw[pm.mem_iff,mz]
 subst ey;have hvl:vs.length=(Y6 ns).length:=PyProof.Rows.IntsAre.length ia;have hsl:(Y6 ns).length<=sizeLine:=by
  have:=pm.length_eq;exact yJ (show (Y6 ns).length<=64 from ya hz.1) (by decide)
 have I2:=qes (I.laid (a:=D) (o:=.lst Ii) (t':=tk) kp hD (show Y2 X.prog X.w _ h' _ (.lst _)from ⟨by rw[zB];exact hsl,vs,n,q2D ia,hg⟩)) d;exact⟨Jl,_,I2,rfl,q _ (I.hok.fresh hD)⟩
noncomputable def intsOf:List D->Option ac
 | []=>some []
 | .int i::r=>(intsOf r).map λl=>i::l
 | _=>none
theorem q0N:∀{ds:aM}{ns:ac},intsOf ds=some ns->ds=ns.map D.int
 | [],_,e=>by cases e;rfl
 | .int c::r,b,e=>by
  obtain⟨k,q,e⟩:=mpd e;subst e;rw[q0N q];rfl
 | .non::_,_,e=>by cases e
 | .bl _::_,_,e=>by cases e
 | .str _::_,_,e=>by cases e
 | .lst _::_,_,e=>by cases e
 | .tup _::_,_,e=>by cases e
 | .scr _::_,_,e=>by cases e
 | .exc _::_,_,e=>by cases e
 | .dic _ _::_,_,e=>by cases e
theorem q0x:∀(ns:ac),intsOf fq=some ns
 | []=>rfl
 | n::r=>by show (intsOf (r.map D.int)).map _=_;rw[q0x r];rfl
noncomputable def zAN:D->Option R
 | .lst ds=>(intsOf ds).bind λns=>if fewS ns then some (.fr ((Y6 ns).map D.int))else none
 | _=>none
noncomputable def Wm(f:FD):FE:=λω=>(f ω).bind zAN
theorem qcZ{a:vP}{f:FD}{p1 p2 q1 q2:Pos}(hg1:Jk)(hm1:oz)(hg2:Gl X "set")(hm2:X.mg "set" = none)(ha:dL)(hc:b0:=by rfl)(he1:jS:=by rfl)(hpl1:(vZ q2 bP).any (·.1)=false:=by rfl)(he2:vK [rY] X.env=(false,eval rY X.env)::vK [] X.env:=by rfl)(hpl2:(vZ q1 bP).any (·.1)=false:=by rfl):
  XE X (.Call (.Name "sorted" p1) [rY] [] q1) (Wm f):=by
 obtain⟨t,h1,h2⟩:=ha;refine⟨_,q3v (qcH hc) hg1 hm1 q3M (qB (q8D (qgv hc) hg2 hm2 qjk (qB h1 qC he1) (by decide) (by decide) he1 hpl1) qC he2) (by decide) (by decide) he2 hpl2,dv⟩;obtain⟨d,q,e⟩:=bnd e;refine h2 G0 H0 G ω σ H d _ o q λv G1 H1 x1 y1=>?_;cases d with
 | lst ds=>
  obtain⟨ns,e1,e2⟩:=bnd (show (intsOf ds).bind _=some r from e);have hds:=q0N e1;subst hds
  by_cases hz:fewS ns
  ·rw[vH hz]at e2
   cases e2;obtain⟨p,vs,rfl,g1,g2⟩:=y1.lst x1.gh;have hv:=g2.of_ints;subst hv;refine⟨p,ns,rfl,g1,by have:=hz.2;omega,λS hS=>?_⟩;refine⟨S,ns,rfl,qf,hz,aaf⟩;have x2:=Ext.hide x1.gh hS (.ext (setP X.w S ns));have x3:=Ext.hide x2.gh hl (.lst Ii);exact k _ G1 _ DC ⟨l,_,rfl,(x1.trans x2).hh.free hl,x2.gh.free hl,qf,KY⟩
  ·rw[vJ hz]at e2;cases e2
 | _=>cases e
end
end Hk
namespace PySem.F
theorem noLenZip:uv Pd "__len__" = pure none:=by rw[uM,v3];kernel_rfl
theorem noHintZip:uv Pd "__length_hint__" = pure none:=by rw[uM,v3];kernel_rfl
end PySem.F
namespace Hk
open PySem PySem.Spec PyProof.Rows
section
variable{prog:vS}{w:vX}{A:vc}{E:vB->vF->Prop}{s:vF}
abbrev W6(h:ve)(z TI TO:vC)(f0 f1:vB):Prop:=h.get? z=some { cls:=.type "zip", dict:=none,data:=.fields #[f0,f1,.bool false,.ref TI,.ref TO],slots:=#[] }
theorem qfx{a:vC}{Q:Option Obj->vF->Prop}(h:Q (s.heap.get? a) s):vM ar A (loadIfAlive a) Q E s:=λ_ _ _=>h
theorem qbJ{z TI TO t:vC}{ot:Obj}{f1:vB}{Q:Ar}(hz:B4)(ht:Gm)(k:∀h' f1',W6 h' z TI TO (uT t) f1'->xN z s.heap h'->Q false { s with heap:=h' }):vM ar A (Builtin.SmallTypes.ownedTupleIsFree iZ) Q E s:=by
 unfold Builtin.SmallTypes.ownedTupleIsFree;refine vA (uS hz rfl (x:=uT t) rfl ?_);show vM _ _ (loadIfAlive ((t:Int)).toNat >>= _) _ _ _;rw[yK];refine vA (qfx ?_);rw[ht];show vM _ _ (field iZ 1 >>= _) _ _ _;refine vA (uS hz rfl (x:=f1) rfl ?_);refine vY fJ fJ
 ·refine vA (uH hz (by simp) λh1 e1 sb=>vG (k h1 nQ e1 sb))
 ·exact vG (k s.heap f1 hz (Zw z s.heap))
theorem qfh{z TI TO i1 i2 l1 l2 t:vC}{ot:Obj}{f1:vB}{k1 k2:Nat}{xs ys:fj}{x y:vB}{Q:iU}(D:km)(hz:B4)(ht:Gm)(hTI:KD)(h1:OG)(h2:OF)(hl1:VF)(hl2:VE)(hx:xs[k1]?=some x)(hy:ys[k2]?=some y)(hQ:∀h' f1',W6 h' z TI TO (uT t) f1'->h'.IsListIter i1 l1 (k1+1)->h'.IsListIter i2 l2 (k2+1)->um h' s.heap.objs.size x y ->
   (∀c o,c≠z->c≠i1->c≠i2->s.heap.get? c=some o->h'.get? c=some o)->Q (some aJ) { s with heap:=h' }) :
  vM ar A VB Q E s:=by
 have hT:s.TypeIs iZ "zip" := Oq;unfold uO;refine vA eN;show vM _ _ (field iZ 2 >>= _) _ _ _;refine vA Ik;show vM _ _ (field iZ 3 >>= _) _ _ _;refine vA Kb;refine vA abk;show vM _ _ (Builtin.SmallTypes.ownedTupleIsFree iZ >>= _) _ _ _;refine vA JF;simp only[yG,if_false];have a1:=h1.extBut sb1.extBut D.i1z;have a2:=h2.extBut sb1.extBut D.i2z;have b1:=hl1.extBut sb1.extBut D.l1z;have b2:=hl2.extBut sb1.extBut D.l2z;rw[<- Zk];simp only[ZI,YO];refine vA (vA JA);show vM _ _ (Builtin.SmallTypes.nextOf PL >>= _) _ _ _;refine vA IA;refine vG ?_;refine vA JA;show vM _ _ (Builtin.SmallTypes.nextOf K6 >>= _) _ _ _;refine vA (uo Ji Ls hy λh₃ c2 sb3=>vG ?_);refine vG fW;show vM _ _ (newTuple [x,y] >>= _) _ _ _;refine vA (tY ?_);have hsz:h₃.objs.size=s.heap.objs.size:=by rw[sb3.1,sb2.1,sb1.1]
 refine vG ⟨_,rfl,fW⟩
 dsimp only
 rw[hsz];refine hQ _ f1' ?_ ?_ ?_ ?_ ?_
 ·exact zF _ (sb3.extBut _ _ D.i2z.symm (sb2.extBut _ _ D.i1z.symm hz1))
 ·exact(c1.extBut sb3.extBut D.i12).at λo e=>zF _ e
 ·exact c2.at λo e=>zF _ e
 ·have:=zW h₃ (o:={ cls:=.type "tuple", data:=.seq [x,y].toArray }) rfl
  rw[hsz]at this;exact this
 ·exact λc o n1 n2 n3 e=>zF _ (sb3.extBut _ _ n3 EY)
theorem qgu{z TI TO i1 i2 l1 l2 t:vC}{ot:Obj}{f1:vB}{k1 k2:Nat}{xs ys:fj}{Q:iU}(hh:dH)(D:km)(hz:B4)(ht:Gm)(hTI:KD)(h1:OG)(h2:OF)(hl1:VF)(hl2:VE)(hend:xs[k1]?=none\/ys[k2]?=none)(hQ:∀h',(∀c o,c≠z->c≠i1->c≠i2->s.heap.get? c=some o->h'.get? c=some o)->Q none { s with heap:=h' }):
  vM ar A VB Q E s:=by
 have hT:s.TypeIs iZ "zip" := Oq;unfold uO;refine vA eN;show vM _ _ (field iZ 2 >>= _) _ _ _;refine vA Ik;show vM _ _ (field iZ 3 >>= _) _ _ _;refine vA Kb;refine vA abk;show vM _ _ (Builtin.SmallTypes.ownedTupleIsFree iZ >>= _) _ _ _;refine vA JF;simp only[yG,if_false];have a1:=h1.extBut sb1.extBut D.i1z;have a2:=h2.extBut sb1.extBut D.i2z;have b1:=hl1.extBut sb1.extBut D.l1z;have b2:=hl2.extBut sb1.extBut D.l2z;rw[<- Zk];simp only[ZI,YO];refine vA (vA JA);show vM _ _ (Builtin.SmallTypes.nextOf PL >>= _) _ _ _;cases hx:xs[k1]? with
 | none=>
  refine vA (tT hh a1 b1 hx λh₂ e sb2 he=>?_);obtain⟨o,ho,hc⟩:=he;refine vA (uR (T := "StopIteration") (b:=true) ⟨o,ho,hc⟩ tG ?_);exact vG (hQ _ λc o n1 n2 n3 e=>sb2 _ _ n2 Fp)
 | some x=>
  have hy:ys[k2]?=none:=by rcases hend with h|h;rw[hx]at h;cases h;exact h
  refine vA IA;refine vG ?_;refine vA JA;show vM _ _ (Builtin.SmallTypes.nextOf K6 >>= _) _ _ _;refine vA (tT hh Ji Ls hy λh₃ e sb3 he=>?_);obtain⟨o,ho,hc⟩:=he;refine vA (uR (T := "StopIteration") (b:=true) ⟨o,ho,hc⟩ tG ?_);exact vG (hQ _ λc o n1 n2 n3 e=>sb3 _ _ n3 EY)
structure ZSt (h0:ve) (S z TI TO i1 i2 l1 l2:vC) (xs ys:Array vB) (ts:List vC) (h:ve):Prop where
 zip:(ts=[]/\W6 h z TI TO .none (.bool false))\/∃t f1,t∈ts/\W6 h z TI TO (uT t) f1
 pTI:um h TI (.ref i1) (.ref i2)
 pTO:∃a b,um h TO a b
 it1:h.IsListIter i1 l1 ts.length
 it2:h.IsListIter i2 l2 ts.length
 hl1:h.IsList l1 xs
 hl2:h.IsList l2 ys
 tups:∀(j:Nat)t,ts[j]?=some t->∃x y,xs[j]?=some x/\ys[j]?=some y/\um h t x y
 old:∀t∈ts,t≠S/\t≠z/\t≠TO/\t≠i1/\t≠i2
 nd:ts.Nodup
 new:∀t∈ts,h0.objs.size<=t
 keep:∀b o,b≠S->h0.get? b=some o->h.get? b=some o
theorem qfS{h0:ve}{S z TI TO i1 i2 l1 l2:vC}{xs ys:fj}{ts:eJ}{Q:iU}(D:km)(hf:∀b∈[z,TO,i1,i2],h0.get? b=none)(hS:S∉AJ)(Z:EJ)(hSo:∃o,s.heap.get? S=some o)(hsz:LU)(hlt:ts.length<min xs.size ys.size)(k:∀h' t,ZSt h0 S z TI TO i1 i2 l1 l2 xs ys (ts++[t]) h'->(∀o,s.heap.get? S=some o->h'.get? S=some o)->s.heap.objs.size<=h'.objs.size->Q (some kN) { s with heap:=h' }):
  vM ar A VB Q E s:=by
 have hix:ts.length<xs.size:=z9 hlt (ZJ ..);have hiy:ts.length<ys.size:=z9 hlt (Z7 ..);obtain⟨a,b,hTO⟩:=Z.pTO;obtain⟨oS,hoS⟩:=hSo;have gx:=yE hix;have gy:=yE hiy;simp only[zI,zg,or_false,not_or]at hS;have nz:∀b o,h0.get? b=some o->b≠z/\b≠TO/\b≠i1/\b≠i2:=λb o e=>
  ⟨λq=>(by have:=hf z (by simp);rw[q,this]at e;cases e),λq=>(by have:=hf TO (by simp);rw[q,this]at e;cases e),λq=>(by have:=hf i1 (by simp);rw[q,this]at e;cases e),λq=>(by have:=hf i2 (by simp);rw[q,this]at e;cases e)⟩
 have fin:∀(h':ve)(f1:vB)(u:vC),u∈ts++[s.heap.objs.size]->W6 h' z TI TO (uT u) f1->(∃a b,um h' TO a b)->h'.IsListIter i1 l1 (ts.length+1)->h'.IsListIter i2 l2 (ts.length+1)->um h' s.heap.objs.size xs[ts.length] ys[ts.length] ->
   (∀c o,c≠z->c≠TO->c≠i1->c≠i2->s.heap.get? c=some o->h'.get? c=some o)->Q (some aJ) { s with heap:=h' }:=λh' f1 u hu g1 g2 g3 g4 g5 g6=>by
  refine k h' _ ⟨.inr ⟨u,f1,hu,g1⟩,g6 _ _ D.TIz D.TITO D.TIi1 D.TIi2 Z.pTI,g2,by rw[zE];exact g3,by rw[zE];exact g4,Z.hl1.at λo e=>g6 _ o D.l1z D.l1TO D.l1i1 D.l1i2 e,Z.hl2.at λo e=>g6 _ o D.l2z D.l2TO D.l2i1 D.l2i2 e,λj t ht=>?_,λt ht=>?_,?_,λt ht=>?_,λb o hb e=>?_⟩ (λo e=>?_) (ya (zS g5))
  ·rcases yD j ts.length with y|y
   ·rw[zd y]at ht
    obtain⟨p,q,r1,r2,r3⟩:=Z.tups j t ht;have ho:=Z.old t (zw ht);exact⟨p,q,r1,r2,g6 _ _ ho.2.1 ho.2.2.1 ho.2.2.2.1 ho.2.2.2.2 r3⟩
   ·rw[zZ y]at ht
    have hj:j=ts.length:=by
     rcases yD (j-ts.length) 1 with c|c
     ·omega
     ·rw[zx ⇑c]at ht;cases ht
    subst hj;rw[wS]at ht;cases ht;exact⟨_,_,gx,gy,g5⟩
  ·rcases zR.mp ht with ht|ht
   ·exact Z.old t ht
   ·rw[zV.mp ht]
    have lt:∀{c o},s.heap.get? c=some o->s.heap.objs.size≠c:=λe=>xb DS;refine⟨lt hoS,?_,lt hTO,?_,?_⟩
    ·rcases Z.zip with⟨_,e⟩|⟨_,_,_,e⟩ <;> exact lt e
    ·obtain⟨_,e,_⟩:=Z.it1;exact lt e
    ·obtain⟨_,e,_⟩:=Z.it2;exact lt e
  ·refine yd.mpr ⟨Z.nd,by simp,λa ha b hb=>?_⟩
   rw[zV.mp hb];intro e;obtain⟨j,hj,ej⟩:=z8.mp ha;obtain⟨_,_,_,_,et⟩:=Z.tups j a (by rw[Po,ej]);exact vN (zS et) (by rw[e];exact xI _)
  ·rcases zR.mp ht with ht|ht
   ·exact Z.new t ht
   ·rw[zV.mp ht];exact hsz
  ·obtain⟨n1,n2,n3,n4⟩:=nz b o e
   exact g6 b o n1 n2 n3 n4 JS
  ·exact g6 S o hS.1 hS.2.2.1 hS.2.2.2.1 hS.2.2.2.2.1 e
 rcases Z.zip with⟨_,hz⟩|⟨t,f1,ht,hz⟩
 ·exact tU D hz Z.pTI hTO Z.it1 Z.it2 Z.hl1 Z.hl2 gx gy λh' a1 a2 a3 a4 a5 a6 a7=>fin h' _ _ (by simp) a1 ⟨_,_,a2⟩ a3 a4 a5 a7
 ·obtain⟨j,hj,ej⟩:=z8.mp ht
  obtain⟨_,_,_,_,et⟩:=Z.tups j t (by rw[Po,ej]);refine qfh D hz et Z.pTI Z.it1 Z.it2 Z.hl1 Z.hl2 gx gy λh' f1' a1 a3 a4 a5 a7=>fin h' f1' t (zM _ ht) a1 ⟨a,b,?_⟩ a3 a4 a5 λc o n1 _ n3 n4 e=>a7 c o n1 n3 n4 e;exact a7 _ _ D.TOz D.TOi1 D.TOi2 hTO
theorem qis{h0:ve}{S z TI TO i1 i2 l1 l2:vC}{xs ys:fj}{ts:eJ}{Q:iU}(hh:dH)(D:km)(Z:EJ)(hlt:ts.length=min xs.size ys.size)(k:∀h',(∀c o,c≠z->c≠TO->c≠i1->c≠i2->s.heap.get? c=some o->h'.get? c=some o)->Q none { s with heap:=h' }):
  vM ar A VB Q E s:=by
 obtain⟨a,b,hTO⟩:=Z.pTO;have hend:xs[ts.length]?=none\/ys[ts.length]?=none:=by
  rcases Zy xs.size ys.size with h|h
  ·left;exact yf ∅
  ·right;exact yf ∅
 rcases Z.zip with⟨_,hz⟩|⟨t,f1,ht,hz⟩
 ·exact tf hh D hz Z.pTI hTO Z.it1 Z.it2 Z.hl1 Z.hl2 hend λh' g=>k h' g
 ·obtain⟨j,hj,ej⟩:=z8.mp ht
  obtain⟨_,_,_,_,et⟩:=Z.tups j t (by rw[Po,ej]);exact qgu hh D hz et Z.pTI Z.it1 Z.it2 Z.hl1 Z.hl2 hend λh' g=>k h' λc o n1 _ n3 n4 e=>g c o n1 n3 n4 e
end
end Hk
namespace Hk
open PySem PySem.Spec PySem.W PyProof.Rows
section
variable{prog:vS}{w:vX}{A:vc}{E:vB->vF->Prop}{R:tV->vF->Prop}{s:vF}
abbrev Wu(h:ve)(S:vC)(acc:fj)(c:Nat):Prop:=h.get? S=some { cls:=.type "list", dict:=none,data:=.seq acc c,slots:=#[] }
theorem q8x{h0 h h':ve}{S z TI TO i1 i2 l1 l2:vC}{xs ys:fj}{ts:eJ}(hS:S∉AJ)(Z:ZSt h0 S z TI TO i1 i2 l1 l2 xs ys ts h)(k:∀b o,b≠S->h.get? b=some o->h'.get? b=some o):
  ZSt h0 S z TI TO i1 i2 l1 l2 xs ys ts h':=by
 simp only[zI,zg,or_false,not_or]at hS;obtain⟨s1,s2,s3,s4,s5,s6,s7⟩:=hS;refine⟨?_,k _ _ (Ne.symm s2) Z.pTI,?_,Z.it1.at λo e=>k _ o (Ne.symm s4) e,Z.it2.at λo e=>k _ o (Ne.symm s5) e,Z.hl1.at λo e=>k _ o (Ne.symm s6) e,Z.hl2.at λo e=>k _ o (Ne.symm s7) e,λj t ht=>?_,Z.old,Z.nd,Z.new,λb o hb e=>k b o hb JS⟩
 ·rcases Z.zip with⟨e1,e2⟩|⟨t,f1,e1,e2⟩
  ·exact .inl ⟨e1,Ts⟩
  ·exact .inr ⟨t,f1,e1,Ts⟩
 ·obtain⟨a,b,e⟩:=Z.pTO
  exact⟨a,b,k _ _ (Ne.symm s3) e⟩
 ·obtain⟨x,y,a1,a2,a3⟩:=Z.tups j t ht
  exact⟨x,y,a1,a2,k _ _ (Z.old t (zw ht)).1 a3⟩
theorem qg8{h0:ve}{S z TI TO i1 i2 l1 l2:vC}{xs ys:fj}{res:vB}(hh:dH)(D:km)(hf:∀b∈[z,TO,i1,i2],h0.get? b=none)(hS:S∉AJ)(hn:Ba)(g0:Array sB)(d0:Drawn)(o0)(hR:∀(h':ve)(tk:Nat)(ts:eJ)(c:Nat),ts.length=min xs.size ys.size->ts.Nodup->(∀t∈ts,t≠S/\h0.objs.size<=t)->Wu h' S (ts.map Value.ref).toArray c->(∀b o,b≠S->h0.get? b=some o->h'.get? b=some o)->(∀(j:Nat)t,ts[j]?=some t->∃x y,xs[j]?=some x/\ys[j]?=some y/\um h' t x y)->R El ⟨h',g0,d0,tk,o0⟩):
  ∀(k:Nat)(h:ve)(tk:Nat)(ts:eJ)(c:Nat),min xs.size ys.size-ts.length=k->ts.length<=min xs.size ys.size->ZSt h0 S z TI TO i1 i2 l1 l2 xs ys ts h->Wu h S (ts.map Value.ref).toArray c->h0.objs.size<=h.objs.size ->
   uU ar A Cc R ⟨h,g0,d0,tk,o0⟩:=by
 have hS':=hS;simp only[zI,zg,or_false,not_or]at hS';have nz:∀b o,h0.get? b=some o->b≠z/\b≠TO/\b≠i1/\b≠i2:=λb o e=>
  ⟨λq=>(by have:=hf z (by simp);rw[q,this]at e;cases e),λq=>(by have:=hf TO (by simp);rw[q,this]at e;cases e),λq=>(by have:=hf i1 (by simp);rw[q,this]at e;cases e),λq=>(by have:=hf i2 (by simp);rw[q,this]at e;cases e)⟩
 intro k
 induction k with
 | zero=>
  intro h tk ts c hk hi Z hl hsz;have hin:ts.length=min xs.size ys.size:=∅
  refine v8 PySem.F.entry_extend_loop ?_;rw[Dy];show vM _ A.in1 (uO iZ >>= _) _ _ _;refine vA (qis (A:=A.in1) hh D Z hin λh' g=>?_);refine vG (hR h' tk ts c hin Z.nd (λt ht=>⟨(Z.old t ht).1,Z.new t ht⟩) (g _ _ hS'.1 hS'.2.2.1 hS'.2.2.2.1 hS'.2.2.2.2.1 hl) Kv λj t ht=>?_)
  ·obtain⟨n1,n2,n3,n4⟩:=nz b o e
   exact g b o n1 n2 n3 n4 JS
  ·obtain⟨x,y,a1,a2,a3⟩:=Z.tups j t ht
   have ho:=Z.old t (zw ht);exact⟨x,y,a1,a2,g _ _ ho.2.1 ho.2.2.1 ho.2.2.2.1 ho.2.2.2.2 a3⟩
 | succ k ih=>
  intro h tk ts c hk hi Z hl hsz;have hlt:ts.length<min xs.size ys.size:=∅
  refine v8 PySem.F.entry_extend_loop ?_;rw[Dy];show vM _ A.in1 (uO iZ >>= _) _ _ _;refine vA (qfS (A:=A.in1) D hf hS Z ⟨_,hl⟩ hsz hlt λh' t Z' hk' hsz'=>?_);have hl':=hk' _ hl;show vM _ A.in1 (ui S (·.push kN) >>= _) _ _ _;refine vA ?_;have sz:(ts.map Value.ref).toArray.size=ts.length:=by simp
  have e:=get?_update_seq hl' (·.push (Value.ref t));have e2:(ts.map Value.ref).toArray.push kN=((ts++[t]).map Value.ref).toArray:=by simp
  rw[e2]at e;refine uA hl' rfl (vG ⟨gG,ih _ _ (ts++[t]) _ (by rw[zE,zq];omega) (by rw[zE,zq];omega) (q8x hS Z' λb o hb e=>?_) e (by rw[xR];exact yJ hsz hsz')⟩)
   (by rw[sz];omega) (by show ((ts.map Value.ref).toArray.push kN).size<=sizeLine+1;rw[ZH,sz];omega)
  exact(ze _ _ fN).trans e
theorem qdb{h0:ve}{S z TI TO i1 i2 l1 l2:vC}{xs ys:fj}{res:vB}{c₀:Nat}(hh:dH)(D:km)(hf:∀b∈[z,TO,i1,i2],h0.get? b=none)(hS:S∉AJ)(hn:Ba)(Z:ZSt h0 S z TI TO i1 i2 l1 l2 xs ys [] s.heap)(hl:Wu s.heap S #[] c₀)(hsz:LU)(hR:∀(h':ve)(tk:Nat)(ts:eJ)(c:Nat),ts.length=min xs.size ys.size->ts.Nodup->(∀t∈ts,t≠S/\h0.objs.size<=t)->Wu h' S (ts.map Value.ref).toArray c->(∀b o,b≠S->h0.get? b=some o->h'.get? b=some o)->(∀(j:Nat)t,ts[j]?=some t->∃x y,xs[j]?=some x/\ys[j]?=some y/\um h' t x y)->R El { s with heap:=h',toks:=tk }):
  vM ar A.in1 (Builtin.List.listExtendWith gF iZ res)
   (λfin s'=>match fin with|.done f=>R V2 s'|.again c'=>c'.quiet=true/\uU ar A c' R s') Cs s:=by
 obtain⟨hp,g,d,tk,os⟩:=s;have hS':=hS;simp only[zI,zg,or_false,not_or]at hS';obtain⟨_,hz⟩|⟨t,_,ht,_⟩:=Z.zip
 rotate_left
 ·cases ht
 have hT:Shared.TypeIs ⟨hp,g,d,tk,os⟩ iZ "zip" := Oq;unfold Builtin.List.listExtendWith;refine vA (uc (T := "zip") hT ?_);have h1:Builtin.List.listSameRef gF iZ=false:=by simp[Builtin.List.listSameRef,hS'.1]
 have h2:(Value.type "zip" == Value.type "list")=false:=by decide
 have h3:(Value.type "zip" == Value.type "tuple")=false:=by decide
 simp only[h1,h2,h3,wL,yG,if_false];refine vA (tO hz ?_);refine vA Vx;unfold Builtin.List.listLengthHint;refine vA (uY hT PySem.F.noLenZip ?_);show vM _ A.in1 (specialOf (Value.ref z) JU >>= _) _ _ _;refine vA (uY hT PySem.F.noHintZip ?_);refine vG ?_;have key:∀(h:ve)(c₁:Nat),ZSt h0 S z TI TO i1 i2 l1 l2 xs ys [] h->Wu h S #[] c₁->h0.objs.size<=h.objs.size->uU ar A Cc R ⟨h,g,d,tk,os⟩ :=
  λh c₁ Z' hl' z'=>qg8 hh D hf hS hn g d os (λh' tk' ts c a1 a2 a3 a4 a5 a6=>hR h' tk' ts c a1 a2 a3 a4 a5 a6) _ h tk [] c₁ rfl (yA _) Z' hl' z'
 refine vY fJ (λ_=>vG ⟨gG,key _ c₀ Z hl hsz⟩);refine vA VA;refine vA ?_;show vM _ _ (ui S (·.push .none) >>= λ_=>ui S (·.pop)) _ _ _;refine vA (uA hl rfl ?_);have hS₂:=yx (Obj.mapSeq (·.push Value.none)) hl rfl;refine uA (hz:=by seq_fits) hS₂ rfl ?_;have hS₃:=yx (Obj.mapSeq (·.pop)) hS₂ rfl;refine vG ⟨gG,key _ _ (q8x hS Z λb o hb e=>?_) hS₃ (by rw[xR,xR];exact hsz)⟩;exact(ze _ _ fN).trans ((ze _ _ fN).trans e)
theorem qgj{l1 l2:vC}{xs ys:fj}{Q:aO}{s0:vF}(hh:dH)(hl1:s0.heap.IsList l1 xs)(hl2:s0.heap.IsList l2 ys)(hn:Ba)(hz:IsZip s.heap QX QZ QY .none)(hp1:um s.heap QZ (.ref s0.heap.objs.size) (.ref Q0))(hp2:um s.heap QY .none .none)(hi1:s.heap.IsListIter s0.heap.objs.size l1 0)(hi2:s.heap.IsListIter Q0 l2 0)(hs:s.heap.objs.size=s0.heap.objs.size+5)(hk:∀c o,s0.heap.get? c=some o->s.heap.get? c=some o)(hQ:∀(h':ve)(tk:Nat)(S:vC)(ts:eJ)(c:Nat),s0.heap.objs.size<=S->ts.length=min xs.size ys.size->ts.Nodup->(∀t∈ts,t≠S/\s0.heap.objs.size<=t)->Wu h' S (ts.map Value.ref).toArray c->(∀b o,s0.heap.get? b=some o->h'.get? b=some o) ->
   (∀(j:Nat)t,ts[j]?=some t->∃x y,xs[j]?=some x/\ys[j]?=some y/\um h' t x y)->Q gF { s with heap:=h',toks:=tk }) :
  vM ar A (call B9 [.ref QX]) Q E s:=by
 refine callType_codes (Q₁:=λobj s₁=>obj=.ref s.heap.objs.size/\s₁={ s with heap:=s.heap.push { cls:=.type "list", data:=.seq #[] } }) PySem.F.called_list MG PySem.F.entry_list_init
  (code_list_new _ bQ) λobj s₁ h₁=>?_
 obtain⟨rfl,rfl⟩:=h₁;have hS:(s.heap.push { cls:=.type "list", data:=.seq #[] }).get? s.heap.objs.size=some { cls:=.type "list", data:=.seq #[] }:=zW _ rfl;refine BO;generalize hn0:s0.heap.objs.size=n at *;have e1:l1<n:=by obtain⟨_,e,_⟩:=hl1;rw[<- hn0];exact zS e
 have e2:l2<n:=by obtain⟨_,e,_⟩:=hl2;rw[<- hn0];exact zS e
 generalize hS0:s.heap.objs.size=S at *;have D:u0 (n+4) (n+2) (n+3) n (n+1) l1 l2:=by
  constructor <;> (intro q;simp only[vC]at *;omega)
 have hSn:S∉[n+4,n+2,n+3,n,n+1,l1,l2]:=by
  simp only[zI,zg,or_false,not_or];refine⟨?_,?_,?_,?_,?_,?_,?_⟩ <;> (intro q;simp only[vC]at *;omega)
 have hf:∀b∈[n+4,n+3,n,n+1],s0.heap.get? b=none:=λb hb=>by
  cases q:s0.heap.get? b with
  | none=>rfl
  | some o=>
   have:=zS q;rw[hn0]at this;simp only[zI,zg,or_false]at hb;simp only[vC]at *;omega
 show vM _ _ (do let old <- Builtin.List.listItems (.ref S);Builtin.List.listUpdate gF (λ_=>#[]);letGo old.toList.reverse;Builtin.List.listExtendWith gF (.ref (n+4)) .none) _ _ _;refine vA ?_;unfold Builtin.List.listItems;refine vA acz;show vM _ _ (ui S (λ_=>#[]) >>= λ_=>letGo (#[]:Array vB).toList.reverse >>= λ_=>Builtin.List.listExtendWith gF (.ref (n+4)) .none) _ _ _;refine vA acB;have hS₂:=get?_update_seq hS (λ_=>(#[]:Array vB));have oth:∀b o,b≠S->s.heap.get? b=some o->((s.heap.push { cls:=.type "list", data:=.seq #[] }).update S (Obj.mapSeq (λ_=>(#[]:Array vB)))).get? b=some o :=
  λb o hb e=>(ze _ _ fN).trans FN
 refine vA Vz;have hSn':=hSn;simp only[zI,zg,or_false,not_or]at hSn';refine qdb (A:=A.in1) (h0:=s0.heap) hh D hf hSn hn ⟨.inl ⟨rfl,oth _ _ (Ne.symm hSn'.1) hz⟩,oth _ _ (Ne.symm hSn'.2.1) hp1,⟨_,_,oth _ _ (Ne.symm hSn'.2.2.1) hp2⟩,hi1.at λo e=>oth _ o (Ne.symm hSn'.2.2.2.1) e,hi2.at λo e=>oth _ o (Ne.symm hSn'.2.2.2.2.1) e,
  hl1.at λo e=>oth _ o (Ne.symm hSn'.2.2.2.2.2.1) (hk _ o e),hl2.at λo e=>oth _ o (Ne.symm hSn'.2.2.2.2.2.2) (hk _ o e),λj t ht=>(by simp at ht),λt ht=>(by simp at ht),xa,λt ht=>(by simp at ht),λb o hb e=>oth b o hb (hk b o e)⟩ hS₂ (by rw[xR,yc,hn0,hS0];simp only[vC]at *;omega) λh' tk ts c a1 a2 a3 a4 a5 a6=>?_
 rw[hn0]at a3;exact⟨rfl,hQ h' tk S ts c (by simp only[vC]at *;omega) a1 a2 a3 a4 (λb o e=>a5 b o (λq=>by
  have:=zS e;rw[hn0,q]at this;simp only[vC]at *;omega) e) a6⟩
end
end Hk
namespace Hk
open PySem L2
section
variable{X:Cx}{pins:List (vC×Obj)}{σ:St}{H H':Hp}{s:vF}
theorem qfJ{h':ve}{t':Nat}(I:U7)(k:∀b u,s.heap.get? b=some u->h'.get? b=some u)(hs:OZ)(hn:∀b,H b=none->H' b≠none->s.heap.objs.size<=b)(new:∀b u,H b=none->H' b=some u->Y2 X.prog X.w H' h' b u):L2.Inv X pins σ H' { s with heap:=h',toks:=t' }:=by
 refine I.un ⟨λb o q _ _ _=>k b o q,λb o q _ _ _=>⟨o.slots,k b o q⟩,λb o q n _=>?_,λb o q _=>⟨o,k b o q⟩,λb xs q=>hs _ _ q,λb o u q=>hs _ _ q,λb ps q=>⟨#[],by rw[hs _ _ q];simp⟩⟩ λb u e=>?_
 ·cases e:H' b with
  | none=>rfl
  | some u=>exact vN (zS q) (YN.mpr (hn b n (by rw[e];exact λz=>by cases z)))
 ·cases q:H b with
  | none=>exact new b u q e
  | some u'=>
   have:=hs _ _ q;rw[e]at this;cases this;exact(I.hok b u q).stay (λc v _ z=>k c v z) (λc z=>hs _ _ z) λc xs z=>hs _ _ z
noncomputable def zAe(H:Hp):List vC->List V->List V->Hp
 | t::ts,x::xs,y::ys=>upd (zAe H ts xs ys) t BN
 | _,_,_=>H
theorem q3n{b:vC}:∀{ts:eJ}{xs ys:br},b∉ts->zAe H ts xs ys b=H b
 | [],_,_,_=>rfl
 | _::_,[],_,_=>rfl
 | _::_,_::_,[],_=>rfl
 | t::ts,x::xs,y::ys,h=>by
  rw[zI,not_or]at h;show upd _ t _ b=_;rw[qd h.1];exact q3n h.2
theorem q7W:∀{ts:eJ}{xs ys:br}{j:Nat}{t:vC}{x y:V},ts.Nodup->ts[j]?=some t->xs[j]?=some x->ys[j]?=some y->zAe H ts xs ys t=some BN
 | [],_,_,_,_,_,_,_,h,_,_=>by simp at h
 | _::_,[],_,_,_,_,_,_,_,h,_=>by simp at h
 | _::_,_::_,[],_,_,_,_,_,_,_,h=>by simp at h
 | u::ts,a::xs,b::ys,0,t,x,y,n,h1,h2,h3=>by
  simp at h1 h2 h3;subst h1;subst h2;subst h3;exact qf
 | u::ts,a::xs,b::ys,j+1,t,x,y,n,h1,h2,h3=>by
  simp only[xD]at h1 h2 h3;obtain⟨n1,n2⟩:=yk.mp n;show upd _ u _ t=_;rw[qd (λe=>n1 (by rw[<- e];exact zw h1))];exact q7W n2 h1 h2 h3
def rLZ:List V->Hp->VK->Prop:=λvs H2 Q=>∃p q xs ys,vs=[bE,.ref q]/\H2 p=some dY/\H2 q=some rC /\
 ∀(S:vC)(ts:eJ),H2 S=none->(∀t∈ts,H2 t=none/\t≠S)->ts.Nodup->ts.length=min xs.length ys.length->Q gF (upd (zAe H2 ts xs ys) S kI)
theorem q6V:∀{xs:br}{us:bC},Yw xs us->∀{j:Nat}{u:vB},us[j]?=some u->∃x,xs[j]?=some x/\RelV x u
 | _,_,.nil,j,u,h=>by simp at h
 | _,_,.cons r1 r2,0,u,h=>by simp at h;subst h;exact Oo
 | _,_,.cons r1 r2,j+1,u,h=>by
  simp only[xD]at h ⊢;exact q6V r2 h
theorem q8O:∀(ts:eJ),Yw M6 aav
 | []=>.nil
 | t::r=>.cons rfl (q8O r)
theorem qcW{a b:vP}{t:TA}{p1 p2 q1 q2:Pos}(hg1:HX)(hm1:rA)(hg2:Pc)(hm2:DL)(ha:PA X rG t)(hc:b0)(he1:M4)(hpl1:(vZ q2 acx).any (·.1)=false)(he2:Dk)(hpl2:(vZ q1 bP).any (·.1)=false):
  PE X Rr (tCB rLZ t):=by
 intro pins s σ H Q I h;refine vp (q0m I hg1 hm1 q1m ?_ (by decide) (by decide));refine PyProof.Rows.callWith_type1 ?_ he2 hpl2;rw[he2];show vM _ _ mC _ _ s;refine Calls.spliced_cons ?_;refine vp (q0m I hg2 hm2 qkn ?_ (by decide) (by decide));refine PyProof.Rows.callWith_type1 (thn Cv λus s1 ⟨vs,H1,I1,r1,q1⟩=>?_) he1 hpl1
 ·obtain⟨p,q,xs,ys,rfl,hp,hq,k⟩:=q1
  obtain⟨u1,u2,rfl,e1,e2⟩:=vals2 r1;cases e1;cases e2;obtain⟨its1,n1,rv1,g1,z1⟩:=I1.lst hp;obtain⟨its2,n2,rv2,g2,z2⟩:=I1.lst hq;have il1:s1.heap.IsList p its1.toArray:=⟨_,g1,rfl,n1,rfl⟩;have il2:s1.heap.IsList q its2.toArray:=⟨_,g2,rfl,n2,rfl⟩;refine call_zip_2 il1 il2 λh' a1 a2 a3 a4 a5 a6 a7=>?_;refine Calls.spliced_nil ?_;have len1:its1.toArray.size=xs.length:=by rw[zN,rv1.length]
  have len2:its2.toArray.size=ys.length:=by rw[zN,rv2.length]
  refine qgj (s0:=s1) (I1.ok.hd hc) il1 il2 (by rw[len1];exact yJ (ZJ _ _) z1) a1 a2 a3 a4 a5 a6 a7 λh2 tk S ts c b1 b2 b3 b4 b5 b6 b7=>?_;rw[len1,len2]at b2;have fS:H1 S=none:=I1.hok.fresh b1;have ft:∀t∈ts,H1 t=none:=λt ht=>I1.hok.fresh (b4 t ht).2;have hsame:Yx H1 LO:=λb u e=>by
   have nS:b≠S:=λz=>by rw[z,fS]at e;cases e
   have nt:b∉ts:=λz=>by rw[ft b z]at e;cases e
   rw[qd nS,q3n nt];exact e
  have tup:∀(j:Nat)t,ts[j]?=some t->∃x y,xs[j]?=some x/\ys[j]?=some y/\zAe H1 ts xs ys t=some BN/\Y2 X.prog X.w LO h2 t BN:=λj t ht=>by
   obtain⟨x',y',c1,c2,c3⟩:=b7 j t ht;obtain⟨x,d1,d2⟩:=q6V rv1 (j:=j) (u:=x') ⇑c1;obtain⟨y,d3,d4⟩:=q6V rv2 (j:=j) (u:=y') ⇑c2;exact⟨x,y,d1,d3,q7W b3 ht d1 d3,⟨by show 2<=sizeLine;decide,[x',y'],.cons d2 (.cons d4 .nil),⟨_,c3,rfl,_,rfl⟩⟩⟩
  refine⟨gF,_,qfJ (s:=s1) (t':=tk) I1 b6 hsame (λb n1 n2=>?_) (λb u n1 n2=>?_),rfl,k S ts fS (λt ht=>⟨ft t ht,(b4 t ht).1⟩) b3 b2⟩
  ·by_cases e:b=S
   ·rw[e];exact b1
   ·by_cases e':b∈ts
    ·exact(b4 b e').2
    ·rw[qd e,q3n e']at n2;exact vN n1 n2
  ·by_cases e:b=S
   ·subst e
    rw[qf]at n2;cases n2;refine⟨?_,aav,c,q8O ts,b5⟩;rw[zB,b2];exact yJ (ZJ _ _) z1
   ·by_cases e':b∈ts
    ·obtain⟨j,hj,ej⟩:=z8.mp e'
     obtain⟨x,y,_,_,m1,m2⟩:=tup j b (by rw[Po,ej]);rw[qd e,m1]at n2;cases n2;exact m2
    ·rw[qd e,q3n e',n1]at n2;cases n2
noncomputable def pairD(x y:D):D:=.tup [x,y]
noncomputable def WN:List D->Option R
 | [.lst xs,.lst ys]=>some (.fr (w9 pairD xs ys))
 | _=>none
theorem q5i{K:zC}{G:Hp}:∀{ds:aM}{ts:eJ},ds.length=ts.length->(∀(j:Nat)d t,ds[j]?=some d->ts[j]?=some t->Rep K G d kN)->Yr K G ds M6
 | [],[],_,_=>rfl
 | [],_::_,h,_=>by simp at h
 | _::_,[],h,_=>by simp at h
 | d::ds,t::ts,h,f=>⟨kN,_,rfl,f 0 d t rfl rfl,q5i ⇑h λj e u h1 h2=>f (j+1) e u ⇑h1 ⇑h2⟩
theorem qcM{K:zC}:WG K rLZ WN:=by
 intro G H ds vs d Q s e hv k
 match ds,e with
 | [.lst xs,.lst ys],e=>
  cases e;obtain⟨v,u,rfl,h,h'⟩:=hv.two;obtain⟨p,us,rfl,h1,h2⟩:=h.lst s;obtain⟨q,ws,rfl,h3,h4⟩:=h'.lst s;refine⟨p,q,us,ws,rfl,h1,h3,λS ts hS ht nd hl=>?_⟩
  let G':Hp:=λb=>if b∈ts then zAe H ts us ws b else G b
  have hout:∀b,b∉ts->G' b=G b:=λb z=>vJ z;have hin:∀b,b∈ts->G' b=zAe H ts us ws b:=λb z=>vH z;have gg:Yx G G':=λb o z=>by
   have n:b∉ts:=λy=>by rw[s.free (ht b y).1]at z;cases z
   rw[hout b n];exact z
  have hh:Yx H Bw:=λb o z=>by
   have nS:b≠S:=λy=>by rw[y,hS]at z;cases z
   have n:b∉ts:=λy=>by rw[(ht b y).1]at z;cases z
   rw[qd nS,q3n n];exact z
  have gh:Yx G' Bw:=λb o z=>by
   by_cases y:b∈ts
   ·rw[hin b y]at z
    rw[qd (ht b y).2];exact z
   ·rw[UH]at z
    exact hh b o (s _ _ z)
  have x:Ext G H G' Bw:=⟨gg,gh,hh,λb z1 z2=>by
   have n:b∉ts:=λy=>z2 (ht b y).1;rw[hout b n];exact z1⟩
  have nS:S∉ts:=λy=>(ht S y).2 rfl;refine k _ G' _ x ⟨S,_,rfl,hS,by rw[hout S nS];exact s.free hS,qf,q5i ?_ λj d t e1 e2=>?_⟩
  ·rw[List.length_zipWith,hl,h2.len,h4.len]
  ·rw[List.getElem?_zipWith]at e1
   cases q1:xs[j]? with
   | none=>rw[q1]at e1;cases e1
   | some a=>
    cases q2:ys[j]? with
    | none=>rw[q1,q2]at e1;cases e1
    | some b=>
     rw[q1,q2]at e1;cases e1;obtain⟨va,y1,y2⟩:=h2.get q1;obtain⟨vb,y3,y4⟩:=h4.get q2;refine⟨t,[va,vb],rfl,?_,Yr.cons (y2.mono gg) (Yr.cons (y4.mono gg) Yr.nil)⟩;rw[hin t (zw e2)];exact q7W nd e2 y1 y3
theorem qd8{a b:vP}{g:FA}{p1 p2 q1 q2:Pos}(hg1:HX)(hm1:rA)(hg2:Pc)(hm2:DL)(ha:XVA X rG g)(hc:b0:=by rfl)(he1:M4:=by rfl)(hpl1:(vZ q2 acx).any (·.1)=false:=by rfl)(he2:Dk:=by rfl)(hpl2:(vZ q1 bP).any (·.1)=false:=by rfl):
  XE X Rr (XZ WN g):=by
 obtain⟨t,h1,h2⟩:=ha;exact⟨_,qcW hg1 hm1 hg2 hm2 h1 hc he1 hpl1 he2 hpl2,q6d qcM h2⟩
end
noncomputable def W8:List Int->Int
 | []=>0
 | [x]=>x
 | x::y::r=>if x<=W8 (y::r)then W8 (y::r)else x
noncomputable def X7:List Int->Int
 | []=>0
 | [x]=>x
 | x::y::r=>if X7 (y::r)<=x then X7 (y::r)else x
theorem q1I:∀{ns:ac},ns≠[]->W8 ns∈ns/\∀a∈ns,a<=W8 ns
 | [x],_=>⟨by simp[W8],λa h=>by simp at h;subst h;exact yh _⟩
 | x::y::r,_=>by
  obtain⟨h1,h2⟩:=q1I (ns:=y::r) (by simp);unfold W8
  split
  ·rename_i h
   refine acl;rcases zI.mp ha with rfl|ha
   ·exact h
   ·exact h2 a ha
  ·rename_i h
   refine⟨zG,A3⟩;rcases zI.mp ha with rfl|ha
   ·exact yh _
   ·have:=h2 a ha;omega
theorem q0Z:∀{ns:ac},ns≠[]->X7 ns∈ns/\∀a∈ns,X7 ns<=a
 | [x],_=>⟨by simp[X7],λa h=>by simp at h;subst h;exact yh _⟩
 | x::y::r,_=>by
  obtain⟨h1,h2⟩:=q0Z (ns:=y::r) (by simp);unfold X7
  split
  ·rename_i h
   refine acl;rcases zI.mp ha with rfl|ha
   ·exact h
   ·exact h2 a ha
  ·rename_i h
   refine⟨zG,A3⟩;rcases zI.mp ha with rfl|ha
   ·exact yh _
   ·have:=h2 a ha;omega
def rMax:List V->Hp->VK->Prop:=λxs H Q=>∃(p:vC) (ns:ac),xs=OX/\H p=some Ca/\ns≠[]/\Q NW H
def rMin:List V->Hp->VK->Prop:=λxs H Q=>∃(p:vC) (ns:ac),xs=OX/\H p=some Ca/\ns≠[]/\Q NV H
section
variable{X:Cx}
open PyProof.Rows PySem.Spec in
theorem qeH(hc:b0):Xu X aa1 rMax:=by
 intro pins s σ H xs us Q I r h;obtain⟨p,ns,rfl,hp,hne,q⟩:=h;obtain⟨u,rfl,rx⟩:=vals1 r;cases rx;obtain⟨its,n,rv,e,hz⟩:=I.lst hp;have hi:=q20 rv;obtain⟨ys,ey⟩:=hi.allInts.items;have hns:ns=ys.toList.map (·.1):=by rw[<- hi.numsOf,<- nums_intItems,<- ey]
 have hl:s.heap.IsList p its.toArray:=l6;rw[ey]at hl;have hsz:0<ys.size:=by
  have h3:=ZX.mpr hne;rw[hns,zB,zU]at h3;exact h3
 refine max_intList fO hl hsz λv h' tk hv hk=>?_;obtain⟨t,rfl⟩:=intItems_at hv;obtain⟨h1,h2⟩:=argBest_gt (numAt ys) Lg;have em:numAt ys (vt (λi j=>decide (numAt ys i>numAt ys j)) Lg)=W8 ns:=by
  obtain⟨m1,m2⟩:=q1I hne;apply YE
  ·apply m2
   rw[hns,sV];exact getD_mem (by rw[zB,zU];omega)
  ·rw[hns]at m1
   obtain⟨j,hj,ej⟩:=mem_getD m1;rw[zB,zU]at hj;rw[<- hns]at ej;rw[<- ej,hns,<- sV];exact h2 j ∅
 rw[em];exact GZ
open PyProof.Rows PySem.Spec in
theorem q8n(hc:b0):Xu X La rMin:=by
 intro pins s σ H xs us Q I r h;obtain⟨p,ns,rfl,hp,hne,q⟩:=h;obtain⟨u,rfl,rx⟩:=vals1 r;cases rx;obtain⟨its,n,rv,e,hz⟩:=I.lst hp;have hi:=q20 rv;obtain⟨ys,ey⟩:=hi.allInts.items;have hns:ns=ys.toList.map (·.1):=by rw[<- hi.numsOf,<- nums_intItems,<- ey]
 have hl:s.heap.IsList p its.toArray:=l6;rw[ey]at hl;have hsz:0<ys.size:=by
  have h3:=ZX.mpr hne;rw[hns,zB,zU]at h3;exact h3
 refine min_intList fO hl hsz λv h' tk hv hk=>?_;obtain⟨t,rfl⟩:=intItems_at hv;obtain⟨h1,h2⟩:=argBest_lt (numAt ys) Lg;have em:numAt ys (vt (λi j=>decide (numAt ys i<numAt ys j)) Lg)=X7 ns:=by
  obtain⟨m1,m2⟩:=q0Z hne;apply YE
  ·rw[hns]at m1
   obtain⟨j,hj,ej⟩:=mem_getD m1;rw[zB,zU]at hj;rw[<- hns]at ej;rw[<- ej,hns,<- sV];exact h2 j ∅
  ·apply m2
   rw[hns,sV];exact getD_mem (by rw[zB,zU];omega)
 rw[em];exact GZ
noncomputable def bMax:List D->Option R
 | [.lst ds]=>(intsOf ds).bind λns=>if ns=[]then none else ↥NW
 | _=>none
noncomputable def bMin:List D->Option R
 | [.lst ds]=>(intsOf ds).bind λns=>if ns=[]then none else ↥NV
 | _=>none
theorem qkD{K:zC}:WG K rMax bMax:=by
 intro G H ds vs d Q s e hv k
 match ds,e with
 | [.lst ds],e=>
  obtain⟨ns,e1,e2⟩:=bnd (show (intsOf ds).bind _=some d from e);have hds:=q0N e1;subst hds
  by_cases hz:ns=[]
  ·rw[vH hz]at e2;cases e2
  ·rw[vJ hz]at e2
   cases e2;obtain⟨v,rfl,h⟩:=hv.one;obtain⟨p,us,rfl,h1,h2⟩:=h.lst s;exact⟨p,ns,rfl,by rw[h1,h2.of_ints],hz,kL⟩
theorem qe4{K:zC}:WG K rMin bMin:=by
 intro G H ds vs d Q s e hv k
 match ds,e with
 | [.lst ds],e=>
  obtain⟨ns,e1,e2⟩:=bnd (show (intsOf ds).bind _=some d from e);have hds:=q0N e1;subst hds
  by_cases hz:ns=[]
  ·rw[vH hz]at e2;cases e2
  ·rw[vJ hz]at e2
   cases e2;obtain⟨v,rfl,h⟩:=hv.one;obtain⟨p,us,rfl,h1,h2⟩:=h.lst s;exact⟨p,ns,rfl,by rw[h1,h2.of_ints],hz,kL⟩
theorem qji{ns:ac}(h:ns≠[]):bMax [TL]=↥NW:=by
 show (intsOf fq).bind _=_;rw[q0x];exact vJ h
theorem qdP{ns:ac}(h:ns≠[]):bMin [TL]=↥NV:=by
 show (intsOf fq).bind _=_;rw[q0x];exact vJ h
end
noncomputable def whD(c:FT)(b:FS):Nat->FS
 | 0=>λ_=>none
 | n+1=>λω=>(c ω).bind λk=>if k=true then (b ω).bind (λp=>match p.1 with
   | .nx=>whD c b n p.2
   | .ct=>whD c b n p.2
   | .bk=>some (.nx,p.2)
   | .rt r=>some (.rt r,p.2))else some Es
noncomputable def sWh(n:Nat)(c:FT)(b:FS):FS:=whD c b n
section
variable{X:Cx}{c:vP}{body:List vm}{fc:FT}{fb:FS}{pos:Pos}{n:Nat}
theorem qeK{K:zC}{t:TT}{u:TS}(h2:zAL K t fc)(h4:SimS K u fb):SimS K (zAw t u) (sWh n fc fb):=by
 intro G0 H0 G ω σ H out ω' E o e k;refine⟨λm σ1 H1=>∃G1 ω1,Own K G0 H0 G1 ω1 σ1 H1/\Yx G G1/\whD fc fb m ω1=some KK,⟨n,G,ω,o,io,e⟩,λm σ1 H1 ⟨G1,ω1,o1,g1,e1⟩=>?_⟩;cases m with
 | zero=>cases e1
 | succ m=>
  obtain⟨b,q,e1⟩:=bnd e1;refine h2 G0 H0 G1 ω1 σ1 H1 b _ o1 q λG2 H2 x2=>?_;cases b with
  | false=>cases e1;exact k G2 σ1 H2 (o1.keep x2) (g1.trans x2.gg)
  | true=>
   rw[lW];rw[lW]at e1;obtain⟨⟨o3,ω3⟩,q3,e1⟩:=bnd e1;refine⟨λσ' H'=>∃G1 ω1,Own K G0 H0 G1 ω1 σ' H'/\Yx G G1/\whD fc fb m ω1=some KK,λσ' H' z=>⟨m,yW m,z⟩,?_⟩;refine h4 G0 H0 G2 ω1 σ1 H2 o3 ω3 _ (o1.keep x2) q3 λG4 σ4 H4 o4 g4=>?_;have gg:=(g1.trans x2.gg).trans g4;cases o3 with
   | nx=>exact Td
   | ct=>exact Td
   | bk=>cases e1;exact k G4 σ4 H4 o4 gg
   | rt r=>cases e1;exact k G4 σ4 H4 o4 gg
theorem qg6(hp:lC)(hc:XT X c fc)(hb:XSs X body fb):XS X QI (sWh n fc fb):=by
 obtain⟨t,h1,h2⟩:=hc;obtain⟨u,h3,h4⟩:=hb;exact⟨_,q9k hp h1 h3,qeK h2 h4⟩
end
section
variable{fc:FT}{fb:FS}
def stepW(I:rQ)(μ:WSt->Nat)(m:Nat)(J:rQ)(o:Ma):Prop:=match o with
 | some (.nx,w)=>I w/\μ w<m
 | some (.ct,w)=>I w/\μ w<m
 | some (.bk,w)=>J w
 | _=>False
theorem q9j(I:rQ)(μ:WSt->Nat)(J:rQ)(stop:∀ω,I ω->fc ω=some false->J ω)(turn:∀ω,I ω->∃k,fc ω=some k/\Gu):
  ∀(n:Nat)(ω:WSt),I ω->μ ω<n->∃ω',whD fc fb n ω=some K8/\J ω'
 | 0,_,_,z=>vN z Ug
 | n+1,ω,h,z=>by
  obtain⟨k,e,t⟩:=turn ω h;show ∃ω',((fc ω).bind _)=_/\_;rw[e];cases k with
  | false=>exact⟨ω,rfl,stop ω h e⟩
  | true=>
   have t:=t rfl;rw[show ∀(f:Bool->Option eG),(some true).bind f=f true from λ_=>rfl,vH rfl];cases q:fb ω with
   | none=>rw[q]at t;exact t.elim
   | some p=>
    rw[q]at t;obtain⟨o,w⟩:=p;cases o with
    | nx=>exact q9j I μ J stop turn n w t.1 (by have:=t.2;omega)
    | ct=>exact q9j I μ J stop turn n w t.1 (by have:=t.2;omega)
    | bk=>exact⟨w,rfl,t⟩
    | rt r=>exact t.elim
theorem qjK{n:Nat}(I:rQ)(μ:WSt->Nat)(J:rQ)(stop:∀ω,I ω->fc ω=some false->J ω)(turn:∀ω,I ω->∃k,fc ω=some k/\Gu){ω:WSt}(h:I ω)(z:μ ω<n):∃ω',sWh n fc fb ω=some K8/\J ω':=q9j I μ J stop turn n ω h z
end
section
variable{X:Cx}{pos:Pos}{o:vP}{apos cpos:Pos}{i:Nat}
end
noncomputable abbrev FM:=WSt->Option si
def SimM(K:zC)(t:TE)(f:FM):Prop:=∀G0 H0 G ω σ H d ω'(Q:VK),Own K G0 H0 G ω σ H->f ω=some Qu ->
 (∀v G' H',Own K G0 H0 G' ω' σ H'->Yx G G'->Rep K G' d v->Q v H')->t σ H Q
def XM(X:Cx)(e:vP)(f:FM):Prop:=∃t,PE X e t/\SimM X.K t f
section
variable{X:Cx}{pos:Pos}{o e:vP}{apos cpos pos':Pos}{i:Nat}{fd:FD}{f:FM}
noncomputable def zBB(i:Nat)(f:FM):FS:=λω=>(f ω).map λp=>rW
theorem qi1{x:Str}(hN:X.N.Nodup)(hi:X.N[i]?=some x)(hx:iN)(he:XM X e f)(hs:nC:=by rfl)(hf:bf:=by first|exact .inl rfl|exact .inr rfl|assumption):
  XS X GD (zBB i f):=by
 obtain⟨t,h1,h2⟩:=he;refine⟨_,Tp,cp⟩;unfold zBB at e;cases q:f ω with
 | none=>rw[q]at e;cases e
 | some p=>
  obtain⟨d,ω1⟩:=p;rw[q]at e;cases e;exact h2 G0 H0 G ω σ H d ω1 _ o q λv G1 H1 o1 g1 r1=>k G1 _ H1 (o1.setSh r1) g1
end
section
variable{X:Cx}{a b c:vP}{pos:Pos}{fa fb fc:FD}{op op':sJ}{p p':Int->Int->Bool}
end
noncomputable def zB2(x:Int):List Int->List Int
 | []=>[x]
 | y::r=>if x<=y then x::y::r else y::zB2 x r
noncomputable def Yz(ns:ac):List Int:=ns.foldr zB2 []
theorem q5K{x:Int}:∀{l:ac},(zB2 x l).Perm (x::l)
 | []=>.refl _
 | y::r=>by
  unfold zB2
  by_cases h:x<=y
  ·rw[vH h]
  ·rw[vJ h];exact(q5K.cons y).trans (.swap x y r)
theorem qF:∀{l:ac},(Yz l).Perm l
 | []=>.refl _
 | y::r=>q5K.trans ((qF (l:=r)).cons y)
theorem qbI{x:Int}:∀{l:ac},l.Pairwise (· <= ·)->(zB2 x l).Pairwise (· <= ·)
 | [],_=>wx _ _
 | y::r,h=>by
  obtain⟨h1,h2⟩:=zm.mp h;unfold zB2
  by_cases z:x<=y
  ·rw[gR]
   refine zm.mpr ⟨A3,h⟩;cases ha with
   | head=>exact z
   | tail _ ha=>exact ZA z (h1 a ha)
  ·rw[gE]
   refine zm.mpr ⟨A3,qbI h2⟩;cases (q5K.mem_iff.mp ha:a∈x::r)with
   | head=>omega
   | tail _ ha=>exact h1 a ha
theorem q1c:∀{l:ac},(Yz l).Pairwise (· <= ·)
 | []=>.nil
 | y::r=>qbI (q1c (l:=r))
theorem q1K:∀{l m:ac},l.Pairwise (· <= ·)->m.Pairwise (· <= ·)->l.Perm m->l=m
 | [],m,_,_,p=>(List.Perm.nil_eq p)
 | a::l,m,h,h',p=>by
  cases m with
  | nil=>exact vN p.length_eq (by simp)
  | cons b m=>
   obtain⟨h1,h2⟩:=zm.mp h;obtain⟨h3,h4⟩:=zm.mp h';have hab:a=b:=by
    have x1:a∈b::m:=p.mem_iff.mp (.head _);have x2:b∈a::l:=p.mem_iff.mpr (.head _);cases x1 with
    | head=>rfl
    | tail _ x1=>
     cases x2 with
     | head=>rfl
     | tail _ x2=>have:=h3 a x1;have:=h1 b x2;omega
   subst hab;rw[q1K h2 h4 p.cons_inv]
theorem q8k(l:ac):(Yz l).length=l.length:=qF.length_eq
theorem q9s{l m:ac}:Yz l=Yz m↔l.Perm m :=
 ⟨λh=>qF.symm.trans (h▸qF),λh=>q1K q1c q1c ((qF.trans h).trans qF.symm)⟩
def rSortL:List V->Hp->VK->Prop:=λxs H Q=>∃p ns,xs=OX/\H p=some Ca/\ns.length<64/\∀l,H l=none->Q c9 Tk
noncomputable def zBZ:D->Option R
 | .lst ds=>(intsOf ds).bind λns=>if ns.length<64 then some Od else none
 | _=>none
noncomputable def Wi(f:FD):FE:=λω=>(f ω).bind zBZ
section
variable{X:Cx}
theorem qd3:Xu X j0 rSortL:=by
 intro pins s σ H xs us Q I r h;obtain⟨p,ns,rfl,hp,hz,q⟩:=h;obtain⟨u,rfl,rx⟩:=vals1 r;cases rx;obtain⟨its,n,rv,e,_⟩:=I.lst hp;have hlen:its.length=ns.length:=by rw[<- rv.length,zB]
 refine PyProof.Rows.sorted_ints l6 (q20 rv) ∅ λout ns' a1 a2 a3=>?_;obtain⟨m,hm⟩:=PyProof.Rows.sortedAll_at s.heap its out;have en:ns'=Yz ns:=q1K a3 q1c UM;subst en;have hsl:(Yz ns).length<=sizeLine:=by rw[q8k];exact yJ (ya hz) (by decide)
 have I2:=I.laid (a:=s.heap.objs.size+1) (o:=.lst oU) (t':=s.toks) (λb o e=>PyProof.Rows.sortedAll_old e) QP
  (show Y2 X.prog X.w _ (PyProof.Rows.sortedAll s.heap its out) _ (.lst _)from ⟨by rw[zB];exact hsl,out.toList,m,q2D a1,by rw[xP];exact hm⟩)
 exact⟨PM,_,I2,rfl,q _ Gz⟩
theorem q5V{a:vP}{f:FD}{p q:Pos}(hg:Jk)(hm:oz)(ha:dL)(he:jS:=by rfl)(hpl:(vZ q bP).any (·.1)=false:=by rfl):XE X (.Call Cd [a] [] q) (Wi f):=by
 obtain⟨t,h1,h2⟩:=ha;refine⟨_,q3v qd3 hg hm q3M (qB h1 qC he) (by decide) (by decide) he hpl,dv⟩;obtain⟨d,z,e⟩:=bnd e;refine h2 G0 H0 G ω σ H d _ o z λv G1 H1 x1 y1=>?_;cases d with
 | lst ds=>
  obtain⟨ns,e1,e2⟩:=bnd (show (intsOf ds).bind _=some r from e);have hds:=q0N e1;subst hds
  by_cases hz:ns.length<64
  ·rw[vH hz]at e2
   cases e2;obtain⟨p,vs,rfl,g1,g2⟩:=y1.lst x1.gh;have hv:=g2.of_ints;subst hv;refine⟨p,ns,rfl,g1,hz,aaf⟩;have x2:=Ext.hide x1.gh hl (.lst oU);exact k _ G1 _ eA ⟨l,_,rfl,x1.hh.free hl,x1.gh.free hl,qf,KY⟩
  ·rw[vJ hz]at e2;cases e2
 | _=>cases e
end
end Hk
namespace Hk
open PySem PySem.Spec PyProof.Rows
theorem zBE:uv K5 "__len__" = pure none:=by rw[uM,v3];kernel_rfl
theorem zBx:uv K5 "__length_hint__" = pure (some (.builtin "list_reverseiterator.__length_hint__")):=by rw[uM,v3];kernel_rfl
section
variable{prog:vS}{w:vX}{A:vc}{E:vB->vF->Prop}{s:vF}
theorem qfC{r:vC}{Q:Ar}(hT:s.TypeIs (.ref r) "list_reverseiterator")(h:Q false s):vM ar A GA Q E s:=by
 unfold Builtin.List.listLengthHint;refine vA (uY hT zBE ?_);show vM _ A (specialOf (Value.ref r) JU >>= _) _ _ _;refine vA (uY hT zBx ?_);generalize hid:("list_reverseiterator.__length_hint__" : String)=id0
 wp_delta
 rw[show splitId id0=some ("list_reverseiterator", "__length_hint__")from by subst hid;decide +kernel];subst hid;refine vA (uR (T := "list_reverseiterator") (b:=true) hT (by rw[uk];kernel_rfl) ?_);refine vY (λhab=>vN hab (by decide)) fJ;refine vY fJ Tg;refine vY (λhab=>vN hab ⋯) fJ;exact vG h
theorem qd2{R:R3}{S I l:vC}{items:fj}{res:vB}{c₀:Nat}(hh:dH)(hn:Hw)(hSI:S≠I)(hSl:S≠l)(hne:l≠I)(hit:s.heap.IsRevIter I l (KN-1))(hl:Gn)(hS:Wu s.heap S #[] c₀)(hR:∀(h':ve)(tk:Nat)(c:Nat),(∀b o,b≠S->b≠I->s.heap.get? b=some o->h'.get? b=some o)->Wu h' S items.reverse c->R El { s with heap:=h',toks:=tk }):
  vM ar A.in1 (Builtin.List.listExtendWith gF DN res)
   (λfin s'=>match fin with|.done f=>R V2 s'|.again c'=>c'.quiet=true/\uU ar A c' R s') Cs s:=by
 have W:=Walks.listRev (prog:=prog) (w:=w) (A:=A.in1) hh I l hne items;have hT:=hit.typeIs;have hSf:S∉[I,l]:=by simp[hSI,hSl]
 unfold Builtin.List.listExtendWith;refine vA (uc (T := "list_reverseiterator") hT ?_);rw[show Builtin.List.listSameRef gF DN=false by simp[Builtin.List.listSameRef,hSI],show (Value.type "list_reverseiterator" == Value.type "list")=false by decide,show (Value.type "list_reverseiterator" == Value.type "tuple")=false by decide];refine vY (λhab=>vN hab (by decide)) fJ;refine vA (wpAny_pyIter_revIter hit ?_);refine vA (vU (qfC hT ?_));refine vY (λhab=>vN hab (by decide)) fJ;have st:0<=items.size/\s.heap.IsRevIter I l (KN-1-AY)/\s.heap.IsList l items:=⟨Cf,by simpa using hit,hl⟩;refine vG ⟨gG,tZ W.toS hn S hSf res items.size 0 _ #[] c₀ rfl (yA _) st hS ab4 λs' acc' c' hm hS' hacc=>?_⟩;rw[Mb];have e:acc'=items.reverse:=by
  apply Array.ext_getElem?;intro j;rcases yD j items.size with z|z
  ·have hz:j<acc'.size:=by rw[hacc.1];exact z
   have q:acc'[j]?=some acc'[j]:=yE hz;rw[q,Array.getElem?_reverse z];exact(hacc.2 j _ q).symm
  ·rw[yf (by rw[hacc.1];exact z),yf (by rw[Array.size_reverse];exact z)]
 subst e;exact hR s'.heap s'.toks c' (λb o b1 b2 e=>hm.heap b o (by simp[b1,b2]) e) hS'
theorem qgD{l:vC}{items:fj}{Q:aO}(hh:dH)(hn:Hw)(hl:Gn)(hQ:∀(h':ve)(tk:Nat)(S:vC)(c:Nat),s.heap.objs.size<=S->(∀b o,s.heap.get? b=some o->h'.get? b=some o)->Wu h' S items.reverse c->Q gF { s with heap:=h',toks:=tk }):
  vM ar A acU Q E { s with heap:=s.heap.push iR }:=by
 have hll:l<s.heap.objs.size:=by obtain⟨_,e,_⟩:=hl;exact zS e
 have gI:(s.heap.push iR).get? s.heap.objs.size=some iR:=zW _ rfl;have k1:∀b o,s.heap.get? b=some o->(s.heap.push iR).get? b=some o:=λb o e=>zF _ e;generalize hI:s.heap.objs.size=I at *;generalize hp:s.heap.push iR=h1 at *;have hI1:I<h1.objs.size:=zS gI;have hS:(h1.push { cls:=.type "list", data:=.seq #[] }).get? h1.objs.size=some { cls:=.type "list", data:=.seq #[] }:=zW _ rfl;refine callType_codes (s:={ s with heap:=h1 }) (Q₁:=λobj s₁=>obj=.ref h1.objs.size/\s₁={ s with heap:=h1.push { cls:=.type "list", data:=.seq #[] } }) PySem.F.called_list MG PySem.F.entry_list_init
  (code_list_new _ bQ) λobj s₁ z=>?_
 obtain⟨rfl,rfl⟩:=z;refine BO;generalize hS0:h1.objs.size=S at *;show vM _ _ (do let old <- Builtin.List.listItems (.ref S);Builtin.List.listUpdate gF (λ_=>#[]);letGo old.toList.reverse;Builtin.List.listExtendWith gF DN .none) _ _ _;apply vA;unfold Builtin.List.listItems;refine vA acz;show vM _ _ (ui S (λ_=>#[]) >>= λ_=>letGo (#[]:Array vB).toList.reverse >>= λ_=>Builtin.List.listExtendWith gF DN .none) _ _ _;refine vA acB;have hS2:=get?_update_seq hS (λ_=>(#[]:Array vB));have oth:∀b o,b≠S->h1.get? b=some o->((h1.push { cls:=.type "list", data:=.seq #[] }).update S (Obj.mapSeq (λ_=>(#[]:Array vB)))).get? b=some o :=
  λb o hb e=>(ze _ _ fN).trans FN
 refine vA Vz;have n1:S≠I:=by simp only[vC]at *;omega
 have n2:S≠l:=by simp only[vC]at *;omega
 have n3:l≠I:=by simp only[vC]at *;omega
 refine qd2 (A:=A.in1) (items:=items) (I:=I) (l:=l) hh hn n1 n2 n3 ⟨_,oth _ _ (Ne.symm n1) gI,rfl,rfl⟩ (hl.at λo e=>oth l o (Ne.symm n2) (k1 l o e)) hS2 λh' tk c kp e=>?_;refine⟨rfl,hQ h' tk S c (by simp only[vC]at *;omega) (λb o z=>?_) e⟩;have hb:b<I:=hI▸zS z;exact kp b o (by simp only[vC]at *;omega) (by simp only[vC]at *;omega) (oth b o (by simp only[vC]at *;omega) (k1 b o z))
end
open L2
def rLR:List V->Hp->VK->Prop:=λvs H Q=>∃p xs,vs=OX/\H p=some dY/\∀S,H S=none->Q gF (upd H S V4)
section
variable{X:Cx}
theorem qd6{a:vP}{t:TA}{p1 p2 q1 q2:Pos}(hg1:HX)(hm1:rA)(hg2:Gl X "reversed")(hm2:X.mg "reversed" = none)(ha:PA X [a] t)(hc:b0)(he1:jS)(hpl1:(vZ q2 bP).any (·.1)=false)(he2:vK [oD] X.env=(false,eval oD X.env)::vK [] X.env)(hpl2:(vZ q1 bP).any (·.1)=false):
  PE X (.Call rX [oD] [] q1) (tCB rLR t):=by
 intro pins s σ H Q I h;refine vp (q0m I hg1 hm1 q1m ?_ (by decide) (by decide));refine PyProof.Rows.callWith_type1 ?_ he2 hpl2;rw[he2];show vM _ _ mC _ _ s;refine Calls.spliced_cons ?_;refine vp (q0m I hg2 hm2 PyProof.Rows.boot_reversed ?_ (by decide) (by decide));refine PyProof.Rows.callWith_type1 (thn Cv λus s1 ⟨vs,H1,I1,r1,z1⟩=>?_) he1 hpl1;obtain⟨p,xs,rfl,hp,k⟩:=z1;obtain⟨u,rfl,e1⟩:=vals1 r1;cases e1;obtain⟨its,n,rv,g1,sz⟩:=I1.lst hp;have il:s1.heap.IsList p its.toArray:=⟨_,g1,rfl,n,rfl⟩;refine call_reversed_list il (Calls.spliced_nil ?_);refine qgD (I1.ok.hd hc) (by rw[zN,<- rv.length];exact sz) il λh2 tk S c b1 b2 b3=>?_;refine⟨gF,_,I1.laid (t':=tk) b2 b1 (show Y2 X.prog X.w _ h2 S V4 from ⟨by rw[xG];exact sz,its.reverse,c,rv.reverse,by rw[b3];simp⟩),rfl,k S (I1.hok.fresh b1)⟩
end
end Hk
namespace L2
open PySem PySem.Spec PyProof.Rows
theorem Inv.turnedL{X:Cx}{pins:aC}{σ:List AK}{H:Hp}{s:vF}{h':ve}{t':Nat}{fp:eJ}(I:aj)(k:∀b o,b∉fp->s.heap.get? b=some o->h'.get? b=some o)(hf:∀b∈fp,X1 X pins H b):
  Inv X pins σ H { s with heap:=h',toks:=t' }:=by
 have nit:∀b u,H b=some u->b∉fp:=λb u e z=>by have:=(hf b z).1;rw[e]at this;cases this
 refine I.step (g':=s.gens) (d':=s.drawn) (ch:=fp) mJ (λb o _ _ hc e _=>k b o hc e) (λb o _ _ hc e _=>⟨o.slots,k b o hc e⟩) aan
  (λb o hc e=>⟨o,k b o hc e⟩) (λ_ _ e=>e) acr (λb ps e=>⟨#[],by rw[e];simp⟩) (λm hm=>?_) (λb u e=>?_) I.bare
 ·obtain⟨f0,f1,f2,f3,f4,f5⟩:=hf b hb
  exact aa8
 ·obtain⟨o,es,ep,ho,r⟩:=hm
  exact⟨o,es,ep,k _ o (λz=>(hf _ z).2.1 rfl) ho,r⟩
 ·refine(I.hok b u e).stay Ow MU λ_ _ q=>q
  rcases hc with z|z
  ·rw[z];exact nit b u e
  ·exact nit c _ z
noncomputable def Itz(K:zC)(a b:vC):It :=
 ⟨λi H=>∃xs ys x y,SqL K H a xs/\SqL K H b ys/\xs[i]?=some x/\ys[i]?=some y,
  λi H x H'=>∃t x1 y1,H t=none/\x=.ref t/\H'=upd H t ac4/\∀xs ys,SqL K H a xs->SqL K H b ys->xs[i]?=some x1/\ys[i]?=some y1,
  λi H=>∃xs ys,SqL K H a xs/\SqL K H b ys/\(xs[i]?=none\/ys[i]?=none)⟩
theorem qgB{P:vS}{w:vX}{K:zC}{elts:iI}{kx}{tpos:Pos}(a b z TI TO i1 i2:vC)(D:u0 z TI TO i1 i2 a b):
  Turn P w K kJ SF [z,TI,TO,i1,i2] z (λi h=>IsZip h z TI TO .none/\um h TI PL K6/\(∃x y,um h TO x y)/\h.IsListIter i1 a i/\h.IsListIter i2 b i) where
 mem:=by simp
 obj:=λi h st c hc=>by
  obtain⟨s1,s2,⟨_,_,s3⟩,⟨o4,e4,c4,d4⟩,⟨o5,e5,c5,d5⟩⟩:=st;simp only[zI,zg,or_false]at hc;rcases hc with rfl|rfl|rfl|rfl|rfl
  ·exact⟨_,s1,λv y=>by cases (show Data.fields _=Data.cell v from y)⟩
  ·exact⟨_,s2,λv y=>by cases (show Data.seq _ _=Data.cell v from y)⟩
  ·exact⟨_,s3,λv y=>by cases (show Data.seq _ _=Data.cell v from y)⟩
  ·exact⟨_,e4,λv y=>by rw[d4]at y;cases y⟩
  ·exact⟨_,e5,λv y=>by rw[d5]at y;cases y⟩
 keep:=λi h h' st k=>by
  obtain⟨s1,s2,⟨x,y,s3⟩,s4,s5⟩:=st;exact⟨k _ (by simp) _ s1,k _ (by simp) _ s2,⟨x,y,k _ (by simp) _ s3⟩,s4.at λo e=>k _ (by simp) o e,s5.at λo e=>k _ (by simp) o e⟩
 item:=by
  intro X hP hw hK hc i pins s σ H E I hf st hg;subst hP hw hK;obtain⟨xs,ys,x,y,hq1,hq2,hx,hy⟩:=hg;obtain⟨its1,rv1,p1,hz1⟩:=I.list hq1;obtain⟨its2,rv2,p2,hz2⟩:=I.list hq2;obtain⟨u1,hu1,ru1⟩:=rv1.get hx;obtain⟨u2,hu2,ru2⟩:=rv2.get hy;obtain⟨s1,s2,⟨_,_,s3⟩,s4,s5⟩:=st;have ex:∀c∈[z,TI,TO,i1,i2],∃o,s.heap.get? c=some o:=λc hc=>by
   simp only[zI,zg,or_false]at hc;rcases hc with rfl|rfl|rfl|rfl|rfl
   ·exact⟨_,s1⟩
   ·exact⟨_,s2⟩
   ·exact⟨_,s3⟩
   ·obtain⟨o,e,_⟩:=s4;exact Iq
   ·obtain⟨o,e,_⟩:=s5;exact Iq
  have nt:∀c∈[z,TI,TO,i1,i2],c≠s.heap.objs.size:=λc hc=>by
   obtain⟨o,e⟩:=ex c hc;exact zt DS
  refine tU D s1 s2 s3 s4 s5 p1.isList p2.isList (x:=u1) (y:=u2) (by simpa using hu1) (by simpa using hu2) λh' a1 a2 a3 a4 a5 a6 hk=>?_;have hn:H s.heap.objs.size=none:=I.hok.fresh cP;have I1:Inv X pins σ jI { s with heap:=s.heap.push { cls:=.type "tuple", data:=.seq #[u1,u2] },toks:=s.toks } :=
   I.laid Vp cP (show Y2 X.prog X.w _ _ _ BN from ⟨by show 2<=sizeLine;decide,[u1,u2],.cons ru1 (.cons ru2 .nil),GY⟩)
  have hf':∀c∈[z,TI,TO,i1,i2],X1 X pins jI c:=λc hc=>by
   obtain⟨f0,f⟩:=hf c hc;exact⟨by rw[qd (nt c hc)];exact f0,f⟩
  have I2:Inv X pins σ jI { s with heap:=h',toks:=s.toks }:=I1.turnedL (λb o hb e=>by
   simp only[zI,zg,or_false,not_or]at hb
   by_cases q:b=s.heap.objs.size
   ·subst q
    rw[jH]at e;cases e;exact a5
   ·have e':s.heap.get? b=some o:=by
     rcases yD b s.heap.objs.size with l|l
     ·obtain⟨z1,z2⟩:=xn.mp e
      refine xn.mpr ⟨?_,z2⟩;rw[<- z1];show s.heap.objs[b]?=(s.heap.objs.push _)[b]?;rw[ZY,vJ q]
     ·have:=zS e
      rw[yc]at this;exact vN (by simp only[vC]at *;omega) q
    exact hk b o hb.1 hb.2.2.1 hb.2.2.2.1 hb.2.2.2.2 e') hf'
  refine⟨_,rfl,wpAny_letOwnedTupleGo_zip a1 λh2 b1 sb=>?_⟩;have I3:Inv X pins σ jI { s with heap:=h2,toks:=s.toks }:=I2.turnedL (λb o hb e=>(sb.2 b (λq=>hb (by simp[q]))).trans e) hf';refine⟨aJ,_,I3,rfl,⟨_,x,y,hn,rfl,rfl,λxs' ys' q1 q2=>⟨by rw[I.list_inj q1 hq1];exact hx,by rw[I.list_inj q2 hq2];exact hy⟩⟩,⟨b1,?_,⟨u1,u2,sb.extBut _ _ D.TOz a2⟩,a3.extBut sb.extBut D.i1z,a4.extBut sb.extBut D.i2z⟩,Ub⟩;exact sb.extBut _ _ D.TIz (hk _ _ D.TIz D.TITO D.TIi1 D.TIi2 s2)
 done:=by
  intro X hP hw hK hc i pins s σ H E I hf st hg;subst hP hw hK;obtain⟨xs,ys,hq1,hq2,hx⟩:=hg;obtain⟨its1,rv1,p1,hz1⟩:=I.list hq1;obtain⟨its2,rv2,p2,hz2⟩:=I.list hq2;obtain⟨s1,s2,⟨_,_,s3⟩,s4,s5⟩:=st;have l1:=rv1.length;have l2:=rv2.length;refine tf fO D s1 s2 s3 s4 s5 p1.isList p2.isList ?_ λh' hk=>BP
  ·rcases hx with hx|hx
   ·exact .inl (by rw[xh]at hx;simp;omega)
   ·exact .inr (by rw[xh]at hx;simp;omega)
  ·simp only[zI,zg,or_false,not_or]at hb
   exact hk b o hb.1 hb.2.2.1 hb.2.2.2.1 hb.2.2.2.2 e
 self:=λ_ _ _ _ _ st h=>tO st.1 h
noncomputable def iZip(K:zC)(ta:TA):TI:=λσ H R=>ta σ H λvs H1=>∃a b xs ys,vs=[dJ,Bi]/\SqL K H1 a xs/\SqL K H1 b ys/\R SF H1
theorem qjp{X:Cx}{a b:vP}{ta:TA}{p pos tpos:Pos}{elts:iI}{kx}(hg:Pc)(hm:DL)(ha:PA X rG ta)(hs:BE:=by rfl)(hs2:DF:=by rfl):
  PI X kJ Jp (iZip X.K ta):=by
 intro pins s σ H R I h;refine Call_ (q0m I hg hm PyProof.Rows.boot_zip (PyProof.Rows.callWith_type1 (thn fX λus s1 ⟨vs,H1,I1,r1,q1⟩=>?_) (by rw[hs,hs2]) (by rw[hs2];rfl)));obtain⟨l1,l2,xs,ys,e,hq1,hq2,q⟩:=q1;subst e;cases r1 with
 | cons r rr=>
  cases rr with
  | cons r' rr=>
   cases rr;cases r;cases r';obtain⟨its1,rv1,p1,hz1⟩:=I1.list hq1;obtain⟨its2,rv2,p2,hz2⟩:=I1.list hq2;have e1:l1<s1.heap.objs.size:=by obtain⟨_,_,e,_⟩:=p1;exact zS e
   have e2:l2<s1.heap.objs.size:=by obtain⟨_,_,e,_⟩:=p2;exact zS e
   refine call_zip_2 p1.isList p2.isList λh' a1 a2 a3 a4 a5 a6 hk=>?_;refine tO a1 ?_;have D:u0 Hi To Tn s1.heap.objs.size Bn l1 l2:=by
    generalize s1.heap.objs.size=n at *
    constructor <;> (intro q;simp only[vC]at *;omega)
   refine⟨Hi,[Hi,To,Tn,s1.heap.objs.size,Bn],_,_,H1,rfl,QE,qgB l1 l2 _ _ _ _ _ D,⟨a1,a2,⟨_,_,a3⟩,a4,a5⟩,λc hc=>?_,q⟩;have hle:s1.heap.objs.size<=c:=by
    simp only[zI,zg,or_false]at hc;simp only[vC]at *;omega
   have I2:=I1.kept (t':=s1.toks) hk;exact I1.fpOk hle Va
end L2
namespace Hk
open PySem L2
noncomputable def zAY:List D->List D->List D
 | a::as,b::bs=>.tup rG::zAY as bs
 | _,_=>[]
theorem q6r:∀(as bs:aM),(zAY as bs).length=min as.length bs.length
 | a::as,b::bs=>by show (zAY as bs).length+1=_;rw[q6r as bs,zK,zK];omega
 | [],bs=>by cases bs <;> simp[zAY]
 | a::as,[]=>by simp[zAY]
theorem q9x:∀(as bs:aM)(i:Nat)(d:D),(zAY as bs)[i]?=some d->∃a b,as[i]?=some a/\bs[i]?=some b/\d=.tup rG
 | a::as,b::bs,0,d,h=>by cases h;exact⟨a,b,rfl,rfl,rfl⟩
 | a::as,b::bs,i+1,d,h=>q9x as bs i d h
 | [],bs,i,d,h=>by cases bs <;> cases h
 | a::as,[],i,d,h=>by cases h
theorem qfQ{K:zC}{G:Hp}{a b:vC}{ds es:aM}{vs us:br}(h1:Vc)(h2:Ak)(h3:G b=some Id)(h4:KZ):IterOf K SF G (zAY ds es):=by
 have l1:=h2.len;have l2:=h4.len;refine⟨Hb,iX,λH s=>⟨vs,us,L6,SqL.of M8,?_⟩⟩
 ·rw[q6r]at hi
  exact⟨vs,us,vs[i]'∅,us[i]'∅,L6,SqL.of M8,zD _,zD _⟩
 ·obtain⟨t,x1,y1,ht,rfl,rfl,y⟩:=hy
  obtain⟨e1,e2⟩:=y vs us Sz (SqL.of (s1 _ _ (s0 _ _ h3)));obtain⟨p,q,f1,f2,rfl⟩:=q9x ds es i d hd;obtain⟨v,q1,q2⟩:=h2.get f1;obtain⟨u,q3,q4⟩:=h4.get f2;rw[e1]at q1;cases q1;rw[e2]at q3;cases q3;have x2:=Ext.lay s1 ht ac4;exact⟨_,x2,⟨t,_,rfl,qf,Yr.cons (q2.mono KI) (Yr.cons (q4.mono KI) Yr.nil)⟩⟩
 ·rw[q6r]
  rcases Zy ds.length es.length with h|h
  ·exact .inl Uc
  ·exact .inr Uc
noncomputable def iZp(g:FA):FI:=λω=>(g ω).bind λds=>match ds with
 | [.lst a,.lst b]=>some (zAY a b)
 | _=>none
theorem q9I{X:Cx}{a b:vP}{g:FA}{p pos tpos:Pos}{elts:iI}{kx}(hg:Pc)(hm:DL)(ha:XA X rG g)(hs:BE:=by rfl)(hs2:DF:=by rfl):
  XI X kJ Jp (iZp g):=by
 obtain⟨⟨t,h1,h2⟩,_⟩:=ha;refine⟨_,qjp hg hm h1 hs hs2,iJ⟩;obtain⟨vs,q,e⟩:=bnd e;refine h2 G0 H0 G ω σ H vs _ o q λus G1 H1 x1 y1=>?_
 match vs,e with
 | [.lst as,.lst bs],e=>
  cases e;obtain⟨v1,r1,rfl,z1,z2⟩:=y1;obtain⟨v2,r2,rfl,z3,z4⟩:=z2;cases (show r2=[]from z4);obtain⟨a1,ws1,rfl,f1,f2⟩:=z1;obtain⟨a2,ws2,rfl,f3,f4⟩:=z3;exact⟨a1,a2,ws1,ws2,rfl,TJ,SqL.of (x1.gh _ _ f3),k _ G1 H1 x1 (qfQ f1 f2 f3 f4)⟩
noncomputable def zAR(lo:Int)(n:Nat):List Int:=(zY n).map λ(i:Nat)=>lo+jd
theorem q6t(lo:Int)(n:Nat):(zAR lo n).length=n:=by unfold zAR;rw[zB,zh]
theorem qc2:∀(vs:br)(us:bC),vs.length=us.length->(∀(j:Nat)v u,vs[j]?=some v->us[j]?=some u->RelV v u)->Yw vs us
 | [],[],_,_=>.nil
 | [],_::_,h,_=>by simp at h
 | _::_,[],h,_=>by simp at h
 | v::vs,u::us,h,f=>.cons (f 0 v u rfl rfl) (qc2 vs us ⇑h λj a b e1 e2=>f (j+1) a b ⇑e1 ⇑e2)
def rLG(lo:List V->Option gJ):List V->Hp->VK->Prop:=λvs H Q=>∃i j:Int,lo vs=some (i,j)/\(-(2^62)<=i/\i<2^62)/\(-(2^62)<=j/\j<2^62)/\(j-i).toNat<=1000000/\∀S,H S=none->Q gF (upd H S oj)
noncomputable def lo1:List V->Option gJ
 | [.int j]=>some (0,j)
 | _=>none
section
open PySem.Spec PyProof.Rows
variable{X:Cx}
theorem qgs{pins:aC}{σ:L2.St}{H:Hp}{s:vF}{Q:VK}{E:aO}{lo hi:Int}{t u v:Tok}{tk:Nat}(I:aj)(hc:b0)(h1:-(2^62)<=lo/\lo<2^62)(h2:-(2^62)<=hi/\hi<2^62)(h3:(hi-lo).toNat<=1000000)(q:∀S,H S=none->Q gF (upd H S (.lst pQ))):
  vM ai X.A acU cV E { s with heap:=s.heap.push { cls:=.type "range", data:=.fields #[CF,CG,Fh] },toks:=tk }:=by
 refine call_list_range fO (IsRange.new ..) (small_one h1.1 h1.2 h2.1 h2.2) (n:=(hi-lo).toNat) (by rw[rangeSize_one];split <;> omega) ∅ λh' tk' acc c b1 b2 b3=>?_;have b1':∀b o,s.heap.get? b=some o->h'.get? b=some o:=λb o e=>b1 b o FN;have hle:s.heap.objs.size<=(s.heap.push { cls:=.type "range", data:=.fields #[CF,CG,Fh] }).objs.size:=by rw[yc];omega
 have hv:Yw pQ acc.toList:=by
  refine qc2 _ _ (by rw[zB,q6t,zU,b3.1]) λj x y e1 e2=>?_;obtain⟨t',rfl⟩:=b3.2 j y ⇑e2;have hj:j<(hi-lo).toNat:=by
   have:=(zc.mp e1).1;rw[zB,q6t]at this;exact this
  unfold zAR at e1;rw[zi,zX,yn hj]at e1;cases e1;exact⟨t',by simp⟩
 refine⟨PM,_,I.laid (t':=tk') b1' hle (show Y2 X.prog X.w _ h' _ (.lst pQ)from ⟨by rw[zB,q6t,vh];omega,acc.toList,c,hv,by rw[xP];exact b2⟩),rfl,q _ (I.hok.fresh hle)⟩
theorem qaU{a:vP}{t:TA}{p1 p2 q1 q2:Pos}(hg1:HX)(hm1:rA)(hg2:Co)(hm2:ma)(ha:PA X [a] t)(hc:b0)(he1:jS)(hpl1:(vZ q2 bP).any (·.1)=false)(he2:Dj)(hpl2:(vZ q1 bP).any (·.1)=false):
  PE X Rq (tCB (rLG lo1) t):=by
 intro pins s σ H Q I h;refine vp (q0m I hg1 hm1 q1m ?_ (by decide) (by decide));refine PyProof.Rows.callWith_type1 ?_ he2 hpl2;rw[he2];show vM _ _ mC _ _ s;refine Calls.spliced_cons ?_;refine vp (q0m I hg2 hm2 boot_range ?_ (by decide) (by decide));refine PyProof.Rows.callWith_type1 (thn Cv λus s1 ⟨vs,H1,I1,r1,z1⟩=>?_) he1 hpl1;obtain⟨i,j,e,b1,b2,b3,k⟩:=z1
 match vs,e,r1 with
 | [.int j'],e,r1=>
  cases e;obtain⟨u,rfl,e1⟩:=vals1 r1;obtain⟨t',rfl⟩:=e1;exact call_range_1 (Calls.spliced_nil (qgs I1 hc b1 b2 b3 k))
end
noncomputable def zA5(i j:Int):Option R:=if ((-(2^62)<=i/\i<2^62)/\-(2^62)<=j/\j<2^62)/\(j-i).toNat<=1000000 then some (.fr ((zAR i (j-i).toNat).map D.int))else none
noncomputable def zAE:List D->Option R
 | [.int j]=>zA5 0 j
 | _=>none
theorem qiN{K:zC}{G H:Hp}{i j:Int}{r:R}{Q:VK}(s:Bc)(e:zA5 i j=some r)(k:∀v G' H',Ext G H G' H'->zBC K H G' H' r v->Q v H'):
  (-(2^62)<=i/\i<2^62)/\(-(2^62)<=j/\j<2^62)/\(j-i).toNat<=1000000/\∀S,H S=none->Q gF (upd H S oj):=by
 unfold zA5 at e
 by_cases z:((-(2^62)<=i/\i<2^62)/\-(2^62)<=j/\j<2^62)/\(j-i).toNat<=1000000
 ·rw[gR]at e
  cases e;refine⟨z.1.1,z.1.2,z.2,λS hS=>?_⟩;have x2:=Ext.hide s hS oj;exact k _ G _ x2 ⟨S,_,rfl,hS,s.free hS,qf,KY⟩
 ·rw[gE]at e;cases e
theorem qiF{K:zC}:WG K (rLG lo1) zAE:=by
 intro G H ds vs d Q s e hv k
 match ds,e with
 | [.int j],e=>
  obtain⟨v,rfl,h⟩:=hv.one;cases h.int;obtain⟨a1,a2,a3,a4⟩:=qiN s e k;exact⟨0,j,rfl,a1,a2,a3,a4⟩
theorem q6j{X:Cx}{a:vP}{g:FA}{p1 p2 q1 q2:Pos}(hg1:HX)(hm1:rA)(hg2:Co)(hm2:ma)(ha:XVA X [a] g)(hc:b0:=by rfl)(he1:jS:=by rfl)(hpl1:(vZ q2 bP).any (·.1)=false:=by rfl)(he2:Dj:=by rfl)(hpl2:(vZ q1 bP).any (·.1)=false:=by rfl):
  XE X Rq (XZ zAE g):=by
 obtain⟨t,h1,h2⟩:=ha;exact⟨_,qaU hg1 hm1 hg2 hm2 h1 hc he1 hpl1 he2 hpl2,q6d qiF h2⟩
end Hk
namespace Hk
open PySem L2 PyProof.Rows
noncomputable def W7(k:Int):List Int->Option Nat
 | []=>none
 | a::r=>if a=k then some 0 else (W7 k r).map (·+1)
theorem q7D{k:Int}:∀{ns:ac}{its:bC},Yw cF its->PySem.W.kf_ints its=true/\YW k its=W7 k ns
 | [],its,h=>by cases h;exact bQ
 | a::r,its,h=>by
  cases h with
  | cons h1 h2=>
   obtain⟨t,rfl⟩:=h1;obtain⟨e1,e2⟩:=q7D (k:=k) h2;refine⟨e1,?_⟩;unfold YW W7;rw[e2]
   by_cases z:a=k
   ·have:isInt k abU=true:=by simp[isInt,z]
    rw[this,gR];rfl
   ·have:isInt k abU=false:=by simp[isInt,z]
    rw[this,gE];cases W7 k r <;> rfl
def rRem:V->List V->Hp->VK->Prop:=λx vs H Q=>∃l ns k j,x=.ref l/\vs=[kX]/\H l=some Ca/\W7 k ns=some j/\Q .non (upd H l (.lst ((ns.map V.int).eraseIdx j)))
theorem qkA{X:Cx}:MtM X "list.remove" rRem:=by
 intro pins s σ H x vs v us Q I rx rv h;obtain⟨l,ns,k,j,rfl,rfl,hH,hj,q⟩:=h;cases rx;obtain⟨u,rfl,ru⟩:=rv.one;obtain⟨t,rfl⟩:=ru;obtain⟨z,its,n,r,hl,e⟩:=I.lstM hH;obtain⟨e1,e2⟩:=q7D (k:=k) r;rw[hj]at e2;obtain⟨a,b,c⟩:=Zl e2;refine uf F.slot_list_remove gC F.entry_list_remove (F.args_list_remove_2 _ _)
  (MeetsSeq.list_remove l its.toArray n (.int k t) (isInt k) Pj j ⇑a ⇑b (λi hi hlt=>(by simpa using c i ⇑hi hlt)) (by rw[zN];omega)) Jr
 refine⟨.non,_,I.lset (its':=its.eraseIdx j) hH e ?_ (r.eraseIdx j) ?_,rfl,q⟩
 ·show its.toArray.eraseIdxIfInBounds j=(its.eraseIdx j).toArray
  rw[wE]
 ·have:=q8C cF j
  omega
section
variable{X:Cx}{pos:Pos}{o e:vP}{apos cpos:Pos}{i:Nat}{fd:FD}
theorem q8Q{α β:Type}(f:Th):∀(l:bJ)(j:Nat),(l.map f).eraseIdx j=(l.eraseIdx j).map f
 | [],_=>rfl
 | _::_,0=>rfl
 | a::l,j+1=>by simp[q8Q f l j]
end
end Hk
namespace Hk
open PySem L2
section
variable{X:Cx}{o c:vP}{body:List vm}{pos ipos npos:Pos}{i j:Nat}{fc:FT}{fb:FS}
end
noncomputable def dropW(o:LB)(ω:WSt):Option eG:=o.map λ_=>Es
noncomputable def zipI(o:lH):Option aM:=o.bind λds=>match ds with
 | [.lst a,.lst b]=>some (zAY a b)
 | _=>none
noncomputable def sortR(o:fh):Option R:=o.bind zBZ
section
variable{ω:WSt}{fe:FE}{fd:FD}{fa:FA}{r:R}{ds as bs:List D}{i j:Nat}{f:FS}{ft:FT}{m:List D->List D}
theorem qbv:zAZ fe ω=dropW Nq ω:=rfl
theorem e_wd:dropW (some r) ω=some Es:=rfl
theorem qer:iZp fa ω=zipI Kh:=rfl
theorem e_wz:zipI (some [.lst as,.lst bs])=some (zAY as bs):=rfl
theorem qby:Wi fd ω=sortR nM:=rfl
end
theorem q66{ns:ac}(h:R7):sortR (some TL)=some Od:=by
 show (intsOf fq).bind _=_;rw[q0x];exact vH h
theorem qc3{n:Int}(h:-(2^62)<=n/\n<=1000000):zAE [aY]=some (.fr ((zAR 0 n.toNat).map D.int)):=by
 show zA5 0 n=_;unfold zA5;rw[vH ⟨⟨⟨by decide,by decide⟩,h.1,∅⟩,∅⟩,Int.sub_zero]
end Hk
namespace L2
open PySem PySem.Spec PyProof.Rows
section
variable{κ:Type}[DecidableEq κ]
noncomputable def WX(kvs:iV)(k:κ):Option V:=(kvs.find? λkv=>decide R9).map (·.2)
noncomputable def putK(kvs:iV)(k:κ)(v:V):List (κ×V) :=
 if lD=true then kvs.map (λkv=>if kv.1=k then (kv.1,v)else kv)else kvs++[(k,v)]
theorem q4F{p:κ×V}{r:iV}{k:κ}(e:p.1=k):WX (p::r) k=some p.2:=by simp[WX,xU,e]
theorem q4H{p:κ×V}{r:iV}{k:κ}(e:¬p.1=k):WX (p::r) k=WX r k:=by simp[WX,xU,e]
theorem q6v(k:κ):∀kvs:List (κ×V),lD=(WX kvs k).isSome
 | []=>rfl
 | p::r=>by
  rw[xk]
  by_cases e:p.1=k
  ·simp only[q4F e,vO e,Zz,Option.isSome_some]
  ·rw[q4H e,vQ e,Zf];exact q6v k r
theorem q4i(kvs:iV)(k:κ)(v:V):(putK kvs k v).length<=kvs.length+1:=by
 unfold putK
 split
 ·rw[zB];omega
 ·rw[zE,zK,yu];omega
theorem qfH{kvs:iV}{k:κ}(v:V)(h:WX kvs k=none):putK kvs k v=kvs++[(k,v)]:=by
 unfold putK;rw[q6v,h];exact vJ (by decide)
theorem zAX.isSome_eq{o:AK}{u:Cm}(r:zAX o u):o.isSome=u.isSome:=by
 cases o with
 | none=>cases u with
  | none=>rfl
  | some _=>exact(show False from r).elim
 | some _=>cases u with
  | none=>exact(show False from r).elim
  | some _=>rfl
theorem zAX.getD{o:AK}{u:Cm}{d:V}{d':vB}(r:zAX o u)(rd:RelV d d'):RelV (o.getD d) (u.getD d'):=by
 cases o with
 | none=>cases u with
  | none=>exact rd
  | some _=>exact(show False from r).elim
 | some _=>cases u with
  | none=>exact(show False from r).elim
  | some _=>exact r
theorem KV.val{kvs:iV}{vs:pY}(r:CD)(k:κ):zAX NM (tz vs k):=by
 unfold KV at r
 induction r with
 | nil=>exact True.intro
 | @cons p q ps qs h t ih=>
  obtain⟨h1,h2⟩:=h
  by_cases e:p.1=k
  ·have e':q.1=k:=h1.symm.trans e
   have b:tz VG k=some q.2:=by simp[tz,xU,e']
   rw[q4F e,b];exact h2
  ·have e':¬q.1=k:=λz=>e JM
   have b:tz VG k=tz qs k:=by simp[tz,xU,e']
   rw[q4H e,b];exact ih
theorem KV.any{kvs:iV}{vs:pY}(r:CD)(k:κ):lD=vs.any λkv=>decide R9:=by
 unfold KV at r
 induction r with
 | nil=>rfl
 | cons h t ih=>rw[xk,xk,ih,h.1]
theorem KV.repl{kvs:iV}{vs:pY}(r:CD)(k:κ){y:V}{u:vB}(ry:Ao):
  KV (kvs.map λkv=>if kv.1=k then (kv.1,y)else kv) (vs.map λkv=>if kv.1=k then (kv.1,u)else kv):=by
 unfold KV at r ⊢
 induction r with
 | nil=>exact .nil
 | @cons p q ps qs h t ih=>
  rw[zL,zL];refine .cons ?_ ih;obtain⟨h1,h2⟩:=h
  by_cases e:p.1=k
  ·rw[vH e,Uk];exact⟨h1,ry⟩
  ·rw[vJ e,vJ (λz=>e JM)];exact TY
theorem KV.put{kvs:iV}{vs:pY}(r:CD)(k:κ){y:V}{u:vB}(ry:Ao):KV acG (stored vs k u):=by
 unfold putK stored;rw[r.any k]
 by_cases e:(vs.any λkv=>decide R9)=true
 ·rw[vH e,vH e];exact r.repl k ry
 ·rw[vJ e,vJ e];exact Paired.snoc r ⟨rfl,ry⟩
theorem KV.keys{kvs:iV}{vs:pY}(r:CD):kvs.map (·.1)=vs.map (·.1):=by
 unfold KV at r
 induction r with
 | nil=>rfl
 | cons h t ih=>rw[zL,zL,ih,h.1]
theorem KV.length{kvs:iV}{vs:pY}(r:CD):kvs.length=vs.length:=Paired.length r
end
theorem q4N{P:vS}{w:vX}{k:Key}{u:vB}(r:RelV UF u):(Yy P w).is k u=true:=by
 cases k with
 | inl i=>obtain⟨t,e⟩:=(show ∃t,u=Value.int i t from r);subst e;exact qaM P w i t
 | inr x=>obtain⟨t,e⟩:=(show ∃t,u=Value.str x t from r);subst e;exact qaJ P w x t
theorem q8y{P:vS}{w:vX}:∀{ks:O8}{us:bC},Yw Sb us->ItemsAre sf ks us
 | [],_,r=>by rw[yU]at r;cases r;exact .nil
 | k::ks,_,r=>by
  rw[zL]at r;cases r with
  | cons h t=>exact .cons (q4N h) (q8y t)
abbrev KT(H:Hp):List lL->List jo->Prop:=sI λp q=>p.1=q.1/\H q.2.1=some TK/\RelV p.2 q.2.2
theorem KT.val{H:Hp}{kvs:kM}{xs:SD}(r:MH)(k:O8):zAX NM ((sN xs k).map (·.2)):=by
 induction r with
 | nil=>exact True.intro
 | @cons p q ps qs h t ih=>
  obtain⟨h1,_,h2⟩:=h
  by_cases e:p.1=k
  ·have e':q.1=k:=h1.symm.trans e
   have b:sN VG k=some q.2:=by simp[sN,xU,e']
   rw[q4F e,b];exact h2
  ·have e':¬q.1=k:=λz=>e JM
   have b:sN VG k=sN qs k:=by simp[sN,xU,e']
   rw[q4H e,b];exact ih
theorem KT.repl{H:Hp}{kvs:kM}{xs:SD}(r:MH)(k:O8){y:V}{u:vB}(ry:Ao):
  KT H (kvs.map λkv=>if kv.1=k then (kv.1,y)else kv) (xs.map (putAt k u)):=by
 induction r with
 | nil=>exact .nil
 | @cons p q ps qs h t ih=>
  rw[zL,zL];refine .cons ?_ ih;obtain⟨h1,h2,h3⟩:=h;unfold putAt
  by_cases e:p.1=k
  ·rw[vH e,Uk];exact⟨h1,h2,ry⟩
  ·rw[vJ e,vJ (λz=>e JM)];exact⟨h1,h2,h3⟩
theorem KT.put{H:Hp}{kvs:kM}{xs:SD}(r:MH)(k:O8){b:vC}{y:V}{u:vB}(hb:H b=some JX)(ry:Ao):
  KT H acG (storedH xs k b u):=by
 have e:lD=(sN xs k).isSome:=by
  rw[q6v,(r.val k).isSome_eq,Z0]
 unfold putK storedH;rw[e]
 by_cases q:(sN xs k).isSome=true
 ·rw[vH q,vH q];exact r.repl k ry
 ·rw[vJ q,vJ q];exact Paired.snoc r ⟨rfl,hb,ry⟩
theorem KT.keeps{H H':Hp}{kvs:kM}{xs:SD}(r:MH)(ht:∀b ys,H b=some aca->H' b=some aca):KT H' kvs xs :=
 Paired.mapP r λ_ _ z=>MQ
section
variable{P:vS}{w:vX}{H:Hp}{h:ve}{a:vC}
theorem qhx{u:HO}(ok:jP)(e:Rd H a u):Y2 P w H h a u:=e.ok ok
theorem q4S{kvs:fH}(ok:jP)(e:Rd H a cX):kvs.length<=sizeLine/\Dp=false/\∃vs,KV kvs vs/\h.DictOf sf a vs :=
 show Y2 P w H h a cX from qhx ok e
theorem qcT{kvs:fH}(ok:jP)(e:MJ):kvs.length<=sizeLine/\Dp=false/\∃vs,KV kvs vs/\h.DictOf sf a vs:=q4S ok Vg
theorem q5l{ks:O8}(ok:jP)(e:H a=some (.tup Sb)):(tL sf).is h ks a:=by
 obtain⟨_,its,r,o,h1,h2,n,h3⟩:=(show Y2 P w H h a (.tup Sb)from ok a _ e);exact⟨o,its.toArray,n,h1,h2,h3,by simpa using q8y r⟩
theorem q67{kvs:kM}(ok:jP)(e:Rd H a Cb):kvs.length<=sizeLine/\Dp=false /\
  ∃xs,KT H kvs xs/\h.DictOfH (tL sf) a xs:=by
 obtain⟨z,y,xs,r,o,es,ep,h1,h2,h3,h4,h5⟩:=(show Y2 P w H h a Cb from qhx ok e);refine⟨z,y,xs,r,o,es,ep,h1,h2,h3,h4,λx hx=>?_,h5⟩;have all:∀{l:kM}{m:SD},KT H l m->∀x∈m,(tL sf).is h x.1 x.2.1:=by
  intro l m q
  induction q with
  | nil=>intro x hx;exact nomatch hx
  | @cons p q ps qs hq t ih=>
   intro x hx;rcases zI.mp hx with e|hx
   ·subst e
    exact q5l ok (by rw[<- hq.1];exact hq.2.1)
   ·exact ih x hx
 exact all r x hx
theorem ql0{kvs:kM}(ok:jP)(e:H a=some Cb):kvs.length<=sizeLine/\Dp=false /\
  ∃xs,KT H kvs xs/\h.DictOfH (tL sf) a xs:=q67 ok Vg
end
def W0(H:Hp)(a:vC)(y:V)(r:AK):Prop :=
 (∃kvs k,Rd H a cX/\y=kV k/\r=WX kvs k)\/∃kvs k b,Rd H a Cb/\y=.ref b/\H b=some JX/\r=WX kvs k
def zBs(H:Hp)(a:vC)(y v:V)(H':Hp):Prop :=
 (∃kvs k,H a=some cX/\y=kV k/\kvs.length<sizeLine/\H'=upd H a (.dK Nc)) \/
 ∃kvs k b,H a=some Cb/\y=.ref b/\H b=some JX/\kvs.length<sizeLine/\H'=upd H a (.dT Nc)
theorem W0.k{H:Hp}{a:vC}{kvs:fH}{k:Key}(e:MJ):W0 H a UF NM:=.inl ⟨kvs,k,Vg,rfl,rfl⟩
theorem zBs.k{H:Hp}{a:vC}{kvs:fH}{k:Key}{v:V}(e:MJ)(hl:VM):zBs H a UF v (upd H a (.dK Nc)):=.inl ⟨kvs,k,e,rfl,hl,rfl⟩
section
variable{X:Cx}{pins:List (vC×Obj)}{σ:St}{H:Hp}{s:vF}{a:vC}{y v:V}{u r:vB}{o:Option V}{A:vc}{E:vB->vF->Prop}
theorem Inv.big(I:aj):uL<s.heap.objs.size:=by
 have h:vT<s.heap.objs.size:=(I.mod.glob.keeps I.bk).lt;exact Zu (by decide) h
theorem qei{Q:aO}(hu:K4)(I:aj)(g:W0 H a y oy)(ry:Ao)(h:∀w' s',Inv X pins σ H s'->RelV v w'->Q w' s'):
  vM ai A (u8 dJ u) Q E s:=by
 rcases g with⟨kvs,k,e,ey,l⟩|⟨kvs,k,b,e,ey,eb,l⟩
 ·subst ey
  obtain⟨z,hd,vs,rel,dd⟩:=q4S I.hok e;obtain⟨w',hw,rw'⟩:=zAX.some_of (v:=v) (o:=tz vs k) (by rw[l];exact rel.val k);exact wpAny_getItem_of M9 dd.mapOf hw (h w' _ ka rw')
 ·subst ey
  cases (show u=Value.ref b from ry);obtain⟨z,hd,xs,rel,dd⟩:=q67 I.hok e;obtain⟨w',hw,rw'⟩:=zAX.some_of (v:=v) (o:=(sN xs k).map (·.2)) (by rw[l];exact rel.val k);obtain⟨p,hp,hp2⟩:=xy.mp hw;refine wpAny_getItem_heap (ug hu) Hl dd hp ?_;rw[hp2];exact h w' _ ka rw'
theorem qiD{Q:aO}(hu:K4)(I:aj)(g:abT)(ry:Ao)(h:∀s',Inv X pins σ H s'->Q (.bool (!o.isSome)) s'):
  vM ai A (uG .NotIn u dJ) Q E s:=by
 rcases g with⟨kvs,k,e,ey,l⟩|⟨kvs,k,b,e,ey,eb,l⟩
 ·subst ey
  obtain⟨z,hd,vs,rel,dd⟩:=q4S I.hok e;refine wpAny_notIn_of M9 hd dd.mapOf ?_;rw[<- (rel.val k).isSome_eq,<- l];exact h _ ka
 ·subst ey
  cases (show u=Value.ref b from ry);obtain⟨z,hd,xs,rel,dd⟩:=q67 I.hok e;refine wpAny_notIn_heap (ug hu) Hl hd dd ?_;have q:=(rel.val k).isSome_eq;rw[Z0]at q;rw[<- q,<- l];exact h _ ka
theorem q5T{h':ve}{t':Nat}{ob:HO}(I:aj)(mu:Mut (H a))(hs:xN a s.heap h')(he:∃q,h'.get? a=some q)(new:Y2 X.prog X.w (upd H a ob) h' a ob):
  Inv X pins σ (upd H a ob) { s with heap:=h',toks:=t' } :=
 I.write (x:=a) (e:=a) mu bT (λb q hb z=>(hs.2 b hb).trans z) he new
theorem q9A{P:vS}{w:vX}{H':Hp}{h':ve}{kvs:fH}{vs:HU}(z:kvs.length<=sizeLine)(hd:Dp=false)(rel:CD)(dd:h'.DictOf sf a vs):
  Y2 P w H' h' a cX:=⟨z,hd,vs,rel,dd⟩
theorem qfa{H':Hp}{Q:An}(hu:K4)(I:aj)(g:zBs H a y v H')(ry:Ao)(rv:RelV v r)(h:∀s',Inv X pins σ H' s'->Q () s'):
  vM ai A (setItem dJ u r) Q E s:=by
 rcases g with⟨kvs,k,e,ey,l,eH⟩|⟨kvs,k,b,e,ey,eb,l,eH⟩
 ·subst ey eH
  obtain⟨z,hd,vs,rel,dd⟩:=qcT I.hok e;have hz:vs.length<=sizeLine:=by rw[<- rel.length];exact z
  have hl:(putK kvs k v).length<=sizeLine:=by have:=q4i kvs k v;omega
  refine wpAny_setItem_pairs (hsz:=hz) M9 dd λh' dd' hs=>h _ ?_;have he:∃q,h'.get? a=some q:=let ⟨q,_,_,hq,_⟩:=dd';Oj
  exact q5T I (by rw[e];exact True.intro) hs he (q9A hl hd (rel.put k rv) dd')
 ·subst ey eH
  cases (show u=Value.ref b from ry);obtain⟨z,hd,xs,rel,dd⟩:=ql0 I.hok e;have hz:xs.length<=sizeLine:=by rw[<- Paired.length rel];exact z
  have hl:(putK kvs k v).length<=sizeLine:=by have:=q4i kvs k v;omega
  refine wpAny_setItem_heap (hsz:=hz) (ug hu) Hl dd λh' dd' hs=>h _ ?_;obtain⟨q,es,ep,hq,h2,h3,h4,_,h5⟩:=dd';refine q5T I (by rw[e];exact True.intro) hs Oj ⟨hl,hd,_,(rel.put k eb rv).keeps λc ys ec=>?_,q,es,ep,hq,h2,h3,h4,h5⟩;rw[qd (qld ec e (λz=>nomatch z))];exact ec
end
section
variable{X:Cx}{pins:List (vC×Obj)}{σ:St}{H:Hp}{s:vF}{a:vC}{kvs:List (Key×V)}{k:Key}{u:vB}{A:vc}{E:vB->vF->Prop}
end
def NoSl(i:vP):Prop:=∀ov iv,subscripted i false ov iv=operate [ov,iv] (u8 ov iv)
theorem qip{prog:vS}{w:vX}{A:vc}{E:aO}{s:vF}{env:Env}{value slice:vP}{pos:Pos}{T id:String}{Q:aO}(hl:uv B8 "__getitem__" = pure (some kh))(hs:NoSl slice)(h:vM ar A (eval value env) (λo s₁=>vM ar A (eval slice env) (λi s₂=>s₂.TypeIs o T/\vM ar A (u8 o i) Q E s₂) E s₁) E s):
  vM ar A (eval (.Subscript value slice pos) env) Q E s:=by
 refine Subscript_ (vo h (λo s₁ h₁=>vo h₁ (λi s₂ h₂=>?_) λ_ _ x=>x) λ_ _ x=>x);obtain⟨hT,h₂⟩:=h₂;unfold t6;refine vA ?_;rw[getitemInPython_of_ne hT.not_modules];refine vA (uY hT hl ?_);have fin:vM ar A (subscripted slice false o i) (λr s₃=>vM ar A (letTemporaryGo value o r >>= λ_=>pure r) Q E s₃) E s₂:=by
  rw[hs o i];exact wpAny_operating (vo h₂ (λr s₃ h₃=>vA (wpAny_letTemporaryGo (vG h₃))) λ_ _ x=>x)
 first
  | exact vG (vA fin)
  | exact vA (vG (vA fin))
  | exact vA fin
theorem qaY{X:Cx}{pins:aC}{σ:St}{H:Hp}{s:vF}{a:vC}{y:V}{o:AK}(I:aj)(g:abT):s.TypeIs dJ "dict" := by
 rcases g with⟨kvs,k,e,_,_⟩|⟨kvs,k,b,e,_,_,_⟩
 ·obtain⟨_,_,vs,_,dd⟩:=q4S I.hok e
  exact dd.typeIs
 ·obtain⟨_,_,xs,_,dd⟩:=q67 I.hok e
  exact dd.typeIs
noncomputable def zBw(td ty:TE):TE:=λσ H Q=>td σ H λx H1=>ty σ H1 λy H2=>∃a v,x=.ref a/\W0 H2 a y oy/\Q v H2
noncomputable def tDIn(ty td:TE):TE:=λσ H Q=>ty σ H λy H1=>td σ H1 λx H2=>∃a o,x=.ref a/\W0 H2 a y o/\Q (.bl o.isSome) H2
noncomputable def zAq(ty td:TE):TE:=λσ H Q=>ty σ H λy H1=>td σ H1 λx H2=>∃a o,x=.ref a/\W0 H2 a y o/\Q (.bl (!o.isSome)) H2
noncomputable def sDPut(td ty tv:TE):TS:=λD σ H=>tv σ H λv H1=>td σ H1 λx H2=>ty σ H2 λy H3=>∃a H4,x=.ref a/\zBs H3 a y v H4/\D.nx σ H4
section
variable{X:Cx}{o i e value:vP}{pos pos' tpos:Pos}{td ty tv:TE}
theorem q62(hu:HJ)(ho:L9)(hi:PE X i ty)(hs:NoSl i):PE X GB (zBw td ty):=by
 intro pins s σ H Q I h;refine qip PySem.F.slot_dict_getitem.lookup hs (thn j9 λu s1 ⟨x,H1,I1,rx,q1⟩=>thn Nm λiv s2 ⟨y,H2,I2,ry,a,v,ex,g,q2⟩=>?_);subst ex;obtain rfl:u=Value.ref a:=rx;exact⟨qaY I2 g,qei hu I2 g ry λw' s3 I3 rw'=>⟨v,H2,I3,rw',q2⟩⟩
theorem qdN(hu:HJ)(hi:PE X i ty)(ho:L9):PC X .NotIn i o (zAq ty td):=by
 intro pins s σ H Q I h;refine thn EI λiv s1 ⟨y,H1,I1,ry,q1⟩=>thn Nl λu s2 ⟨x,H2,I2,rx,a,ov,ex,g,q2⟩=>?_;subst ex;obtain rfl:u=Value.ref a:=rx;exact qiD hu I2 g ry λs3 I3=>⟨.bl (!ov.isSome),H2,I3,rfl,q2⟩
theorem qbZ(hu:HJ)(ho:L9)(hi:PE X i ty)(hv:PE X value tv)(hs:v6 value (some TN) pos.line X.env=pure false):
  PS X (.Assign [TN] value pos) (sDPut td ty tv):=by
 intro pins s σ H D I h;refine wpAny_Assign_Subscript (thn (hv pins s σ H _ I h) λr s1 ⟨v,H1,I1,rv,q1⟩=>thn Nl λu s2 ⟨x,H2,I2,rx,q2⟩=>thn (hi pins s2 σ H2 _ I2 q2) λiv s3 ⟨y,H3,I3,ry,a,H4,ex,g,q3⟩=>?_) hs;subst ex;obtain rfl:u=Value.ref a:=rx;exact qfa hu I3 g ry rv λs4 I4=>⟨σ,H4,I4,q3⟩
end
theorem qaj{P:vS}{w:vX}{H:Hp}(h:ve)(hb:uL<h.objs.size):Y2 P w H (h.push { cls:=.type "dict", data:=.dict #[] }) h.objs.size Ko :=
 ⟨Cf,beq_eq_false_iff_ne.mpr (Ne.symm (zt hb)),[],.nil,Heap.DictOf.new h⟩
noncomputable def tDNewK:TE:=λ_ H Q=>∀p,H p=none->Q bE mK
section
variable{X:Cx}{pos:Pos}
theorem q6y:PE X (.Dict [] [] pos) tDNewK:=λpins s σ H Q I h=>
 wpAny_Dict_empty ⟨aJ,_,I.laid (a:=s.heap.objs.size) (o:=.dK []) (t':=s.toks) Jv cP Us,rfl,h _ lZ⟩
end
def zAi:List (TE×TE)->St->Hp->Rm->Prop
 | [],_,H,Q=>Q [] H
 | (tk,tv)::r,σ,H,Q=>tk σ H λx H1=>tv σ H1 λy H2=>zAi r σ H2 λps H3=>Q ((x,y)::ps) H3
abbrev VV:List (V×V)->List (vB×vB)->Prop:=sI λp q=>RelV p.1 q.1/\RelV p.2 q.2
def PPs(X:Cx)(pos:Pos)(keys:List Fy)(values:iI)(trs:Jj):Prop :=
 ∀(pins:aC)(s:vF)(σ:St)(H:Hp)(Q:Rm),Inv X pins σ H s->zAi trs σ H Q ->
  vM ai X.A (evalPairs (pairTrees keys values X.env pos)) (λvs s'=>∃ps H',Inv X pins σ H' s'/\VV ps vs/\Q ps H') X.xe s
theorem qiq{X:Cx}{pos:Pos}:PPs X pos [] [] []:=λpins s σ H Q I h=>pairTrees_nil_walk Iu
theorem qg1{X:Cx}{pos:Pos}{k v:vP}{ks:List Fy}{vs:iI}{tk tv:TE}{trs:Jj}(hk:PE X k tk)(hv:PE X v tv)(hr:PPs X pos ks vs trs):
  PPs X pos (some k::ks) (v::vs) ((tk,tv)::trs):=λpins s σ H Q I h=>
 pairTrees_cons_walk (thn (hk pins s σ H _ I h) λu s1 ⟨x,H1,I1,rx,q1⟩=>thn (hv pins s1 σ H1 _ I1 q1) λw2 s2 ⟨y,H2,I2,ry,q2⟩=>
  thn (hr pins s2 σ H2 _ I2 q2) λws s3 ⟨ps,H3,I3,rel,q3⟩=>⟨(x,y)::ps,H3,I3,.cons ⟨rx,ry⟩ rel,q3⟩)
noncomputable def Wj(kvs more:fH):List SE:=more.foldl (λacc kv=>putK acc kv.1 kv.2) kvs
theorem KV.merge:∀{more:fH}{rs:HU}{kvs:fH}{vs:HU},KV more rs->KV kvs vs->KV (Wj kvs more) (merged vs rs):=by
 intro more rs kvs vs r;unfold KV at r
 induction r generalizing kvs vs with
 | nil=>intro q;exact q
 | @cons p q ps qs h t ih=>
  intro r0;have e:KV IE (stored vs q.1 q.2):=by
   have:=r0.put p.1 h.2;rw[<- h.1];exact this
  exact ih e
theorem q58:∀(more kvs:fH),(Wj kvs more).length<=kvs.length+more.length
 | [],kvs=>by show kvs.length<=kvs.length+0;omega
 | p::r,kvs=>by
  have h1:=q58 r IE;have h2:=q4i kvs p.1 p.2;show (Wj IE r).length<=_;rw[zK];omega
theorem q7k{P:vS}{w:vX}:∀{kvs:fH}{ws:List (vB×vB)},VV (kvs.map λkv=>acP) ws->∃rs,Carries sf ws rs/\KV kvs rs
 | [],_,r=>by rw[yU]at r;cases r;exact⟨[],True.intro,.nil⟩
 | p::kvs,_,r=>by
  rw[zL]at r;cases r with
  | @cons a b as bs h t=>
   obtain⟨rs,c,q⟩:=q7k (P:=P) (w:=w) t;obtain⟨b1,b2⟩:=b;exact⟨(p.1,b2)::rs,⟨q4N h.1,rfl,c⟩,.cons ⟨rfl,h.2⟩ q⟩
noncomputable def tDisp(trs:Jj):TE:=λσ H Q=>∀p,H p=none->zAi trs σ mK λps H2=>H2 p=some Ko/\∃kvs:List SE,ps=kvs.map (λkv=>acP)/\kvs.length<=15/\Q bE (upd H2 p (.dK (Wj [] kvs)))
theorem qir{X:Cx}{pos:Pos}{keys:List Fy}{values:iI}{trs:Jj}(h:PPs X pos keys values trs)(hall:keys.all (·.isSome)=true)(hl:keys.length=values.length)(h0:keys≠[])(h15:keys.length<=15):PE X (.Dict keys values pos) (tDisp trs):=by
 intro pins s σ H Q I q;have hn:=I.hok.fresh (zQ s.heap.objs.size);have I1:=I.laid (a:=s.heap.objs.size) (o:=.dK []) (h':=s.heap.push { cls:=.type "dict", data:=.dict #[] }) (t':=s.toks) Jv cP Us;refine wpAny_Dict_walk (knd:=Yy X.prog X.w) hall hl h0 h15 (thn (h pins _ σ _ _ I1 (q _ hn)) λws s2 ⟨ps,H2,I2,rel,e,kvs,ep,lk,q2⟩=>?_);subst ep;obtain⟨rs,c,rk⟩:=q7k (P:=X.prog) (w:=X.w) rel;obtain⟨z,hd,vs0,r0,dd⟩:=qcT I2.hok e;cases r0;refine⟨rs,c,dd,λh' dd' hs=>⟨aJ,_,?_,rfl,q2⟩⟩;have hz:(Wj [] kvs).length<=sizeLine:=by
  have h1:=q58 kvs [];rw[yu]at h1;rw[vh];omega
 have he:∃q,h'.get? s.heap.objs.size=some q:=let ⟨q,_,_,hq,_⟩:=dd';Oj
 exact q5T I2 (by rw[e];exact True.intro) hs he (q9A hz hd (rk.merge .nil) dd')
structure M1 (X:Cx) (o:vP) (m:Str) (apos:Pos) (e:vP) (cpos:Pos):Prop where
 base:uE o m X.env (eval o X.env)=eval o X.env
 few:((vZ cpos (vK [e] X.env)).all (λx=>!x.1)&&(v7 cpos (vg [] X.env)).all (λx=>x.1.isSome)
  && decide (([e]:List vP).length+([]:List uI).length+(if ([]:List uI).isEmpty then 0 else 1)<30))=true
 line:(apos.endLine==cpos.line)=true
 trees:vZ cpos (vK [e] X.env)=[(false,eval e X.env)]
structure M2 (X:Cx) (o:vP) (m:Str) (apos:Pos) (e f:vP) (cpos:Pos):Prop where
 base:uE o m X.env (eval o X.env)=eval o X.env
 few:((vZ cpos (vK [e,f] X.env)).all (λx=>!x.1)&&(v7 cpos (vg [] X.env)).all (λx=>x.1.isSome)
  && decide (([e,f]:List vP).length+([]:List uI).length+(if ([]:List uI).isEmpty then 0 else 1)<30))=true
 line:(apos.endLine==cpos.line)=true
 trees:vZ cpos (vK [e,f] X.env)=[(false,eval e X.env),(false,eval f X.env)]
def IsD(H:Hp)(a:vC):Prop:=(∃kvs,Rd H a cX)\/∃kvs,Rd H a Cb
theorem qdt{X:Cx}{pins:aC}{σ:St}{H:Hp}{s:vF}{a:vC}(I:aj)(d:IsD H a):
  s.TypeIs dJ "dict" /\ (∀b,Value.ref a=.ref b->∃ob,s.heap.get? b=some ob/\ob.dict=none)/\Dp=false:=by
 rcases d with⟨kvs,e⟩|⟨kvs,e⟩
 ·obtain⟨_,hd,vs,_,dd⟩:=q4S I.hok e
  refine MS;cases q;obtain⟨ob,_,_,h1,h2,_⟩:=dd;exact aab
 ·obtain⟨_,hd,xs,_,dd⟩:=q67 I.hok e
  refine MS;cases q;obtain⟨ob,_,_,h1,h2,_⟩:=dd;exact aab
section
variable{X:Cx}{pins:List (vC×Obj)}{σ:St}{H:Hp}{s:vF}{a:vC}{y d:V}{u r:vB}{o:Option V}{A:vc}{E:vB->vF->Prop}
theorem qkG{Q:aO}(hu:K4)(I:aj)(g:abT)(ry:Ao)(rd:RelV d r)(h:∀w' s',Inv X pins σ H s'->RelV (o.getD d) w'->Q w' s'):
  vM ai A (call (.builtin "dict.get") [dJ,u,r]) Q E s:=by
 rcases g with⟨kvs,k,e,ey,l⟩|⟨kvs,k,b,e,ey,eb,l⟩
 ·subst ey
  obtain⟨z,hd,vs,rel,dd⟩:=q4S I.hok e;refine sH PySem.F.slot_dict_get dd.typeIs PySem.F.entry_dict_get Kl (meets_dict_get_default pJ a M9 hd r) ⟨_,dd.mapOf,h _ _ ka ?_⟩;rw[l];exact(rel.val k).getD rd
 ·subst ey
  cases (show u=Value.ref b from ry);obtain⟨z,hd,xs,rel,dd⟩:=q67 I.hok e;refine sH PySem.F.slot_dict_get dd.typeIs PySem.F.entry_dict_get Kl (meetsH_dict_get_default (tL pJ) a b hd r) ⟨ug hu,k,xs,Hl,dd,h _ _ ka ?_⟩;rw[l];exact(rel.val k).getD rd
end
noncomputable def zA3(td ty tx:TE):TE:=λσ H Q=>td σ H λx H1=>∃a,x=.ref a/\IsD H1 a/\ty σ H1 λy H2=>tx σ H2 λz H3=>∃o,W0 H3 a y o/\Q (o.getD z) H3
section
variable{X:Cx}{o e f:vP}{apos cpos:Pos}{td ty tx:TE}
theorem q9h(hu:HJ)(ho:L9)(he:PE X e ty)(hf:PE X f tx)(m:M2 X o "get" apos e f cpos):PE X (.Call (.Attribute o "get" apos) [e,f] [] cpos) (zA3 td ty tx):=by
 intro pins s σ H Q I h;refine wpAny_Call_method m.base m.few m.line PySem.F.plainAttrs_dict PySem.F.slot_dict_get PySem.F.type_dict_get (thn j9 λu s1 ⟨x,H1,I1,rx,a,ex,d,q1⟩=>?_);subst ex;obtain rfl:u=Value.ref a:=rx;obtain⟨t1,t2,_⟩:=qdt I1 d;refine⟨t1,t2,?_⟩;rw[m.trees];refine Calls.callWith_builtin rfl (Calls.evalArgs_plain (Calls.spliced_cons (thn No λiv s2 ⟨y,H2,I2,ry,q2⟩=>
  Calls.spliced_cons (thn Nn λfv s3 ⟨z,H3,I3,rz,ov,g,q3⟩=>Calls.spliced_nil ?_))))
 exact qkG hu I3 g ry rz λw' s4 I4 rw'=>⟨_,H3,I4,rw',q3⟩
end
section
variable{X:Cx}{pins:List (vC×Obj)}{σ:St}{H:Hp}{s:vF}{a:vC}{kvs:List (Key×V)}{A:vc}{E:vB->vF->Prop}
end
section
variable{X:Cx}{pins:List (vC×Obj)}{σ:St}{H:Hp}{s:vF}{a:vC}{y:V}{u:vB}{A:vc}{E:vB->vF->Prop}
end
end L2
namespace Hk
open PySem L2
noncomputable def Y0{α:Type}:List Int->List α->Int->Option α
 | k'::ks,x::xs,k=>if k'=k then some x else Y0 ks xs k
 | _,_,_=>none
noncomputable def repA{α:Type}:List Int->List α->Int->α->List α
 | k'::ks,x::xs,k,y=>(if k'=k then y else x)::repA ks xs k y
 | _,xs,_,_=>xs
noncomputable def WF(ks:ac)(k:Int):List Int:=if k∈ks then ks else ks++[k]
noncomputable def putA{α:Type}(ks:ac)(xs:bJ)(k:Int)(y:α):List α:=if k∈ks then repA ks xs k y else xs++[y]
theorem q9o{α:Type}:∀(ks:ac)(xs:bJ)(k:Int)(y:α),(repA ks xs k y).length=xs.length
 | [],xs,_,_=>rfl
 | _::_,[],_,_=>rfl
 | k'::ks,x::xs,k,y=>by show (repA ks xs k y).length+1=xs.length+1;rw[q9o ks xs k y]
theorem qi8{α:Type}{ks:ac}{xs:bJ}(k:Int)(y:α)(h:ks.length=xs.length):(WF ks k).length=(putA ks xs k y).length:=by
 unfold WF putA
 by_cases z:k∈ks
 ·rw[gR,gR,q9o];exact h
 ·rw[gE,gE,zE,zE,h];rfl
theorem q0A:∀{ks:ac}{vs:br},ks.length=vs.length->∀k,WX Io Cl=Y0 ks vs k
 | [],[],_,k=>rfl
 | [],_::_,h,_=>by simp at h
 | _::_,[],h,_=>by simp at h
 | k'::ks,v::vs,h,k=>by
  show WX ((abW,v)::kvsOf ks vs) Cl=if k'=k then some v else Y0 ks vs k
  by_cases z:k'=k
  ·rw[gR,q4F (p:=(lX,v)) (by rw[z])]
  ·rw[gE,q4H (p:=(lX,v)) Db]
   exact q0A ⇑h k
theorem q2A:∀{ks:ac}{vs:br},ks.length=vs.length->(kvsOf ks vs).length=ks.length
 | [],[],_=>rfl
 | [],_::_,h=>by simp at h
 | _::_,[],h=>by simp at h
 | k'::ks,v::vs,h=>by show (kvsOf ks vs).length+1=_;rw[q2A ⇑h];rfl
theorem q79:∀{ks:ac}{vs:br},ks.length=vs.length->(kvsOf ks vs).map (·.1)=ks.map IR
 | [],[],_=>rfl
 | [],_::_,h=>by simp at h
 | _::_,[],h=>by simp at h
 | k'::ks,v::vs,h=>by show lX::(kvsOf ks vs).map (·.1)=_;rw[q79 ⇑h];rfl
theorem q8E:∀{ks:ac}{vs:br},ks.length=vs.length->∀k,(kvsOf ks vs).any (λkv=>decide (kv.1=mX))=decide (k∈ks)
 | [],[],_,_=>rfl
 | [],_::_,h,_=>by simp at h
 | _::_,[],h,_=>by simp at h
 | k'::ks,v::vs,h,k=>by
  show (decide acO || (kvsOf ks vs).any _)=_;rw[q8E ⇑h k];have e:decide acO=decide (k'=k):=by
   by_cases z:k'=k
   ·rw[z];simp
   ·rw[vQ z,vQ Db]
  rw[e];simp only[zI]
  by_cases z:k'=k
  ·simp[z]
  ·have:¬k=k':=λy=>z y.symm
   simp[z,this]
theorem q8K:∀{ks:ac}{vs:br},ks.length=vs.length->∀(k:Int)(v:V),(kvsOf ks vs).map (λkv=>if kv.1=mX then (kv.1,v)else kv)=kvsOf ks aaA
 | [],[],_,_,_=>rfl
 | [],_::_,h,_,_=>by simp at h
 | _::_,[],h,_,_=>by simp at h
 | k'::ks,u::vs,h,k,v=>by
  show (if lX=Sum.inl k then (lX,v)else (abW,u))::(kvsOf ks vs).map _=(abW,if k'=k then v else u)::kvsOf ks aaA;rw[q8K ⇑h k v]
  by_cases z:k'=k
  ·rw[vH (by rw[z]),gR]
  ·rw[vJ Db,gE]
theorem q7o:∀{ks:ac}{vs:br},ks.length=vs.length->∀(k:Int)(v:V),kvsOf ks vs++[(Cl,v)]=kvsOf Hs (vs++[v])
 | [],[],_,_,_=>rfl
 | [],_::_,h,_,_=>by simp at h
 | _::_,[],h,_,_=>by simp at h
 | k'::ks,u::vs,h,k,v=>by show _::(kvsOf ks vs++[(Cl,v)])=_;rw[q7o ⇑h k v];rfl
theorem q5e{ks:ac}{vs:br}(h:VN)(k:Int)(v:V):putK Io Cl v=kvsOf (WF ks k) (putA ks vs k v):=by
 unfold putK WF putA;rw[q8E h]
 by_cases z:k∈ks
 ·rw[vH (vO z),gR,gR];exact q8K h k v
 ·rw[vJ (by rw[vQ z];decide),gE,gE];exact q7o h k v
section
variable{K:zC}{G:Hp}
theorem Yr.val:∀{ks:ac}{ds:aM}{vs:br}{k:Int}{d:D},Yr K G ds vs->Y0 ks ds k=some d->∃v,Y0 ks vs k=some v/\Rep K G d v
 | [],_,_,_,_,_,e=>by cases e
 | _::_,[],_,_,_,_,e=>by cases e
 | k'::ks,d'::ds,_,k,d,⟨v,r,h1,h2,h3⟩,e=>by
  subst h1;have e:(if k'=k then some d' else Y0 ks ds k)=some d:=e;show ∃u,(if k'=k then some v else Y0 ks r k)=some u/\_
  by_cases z:k'=k
  ·rw[gR]at e ⊢;cases e;exact⟨v,rfl,h2⟩
  ·rw[gE]at e ⊢;exact Yr.val h3 e
theorem Yr.isVal:∀{ks:ac}{ds:aM}{vs:br}(k:Int),Yr K G ds vs->(Y0 ks vs k).isSome=(Y0 ks ds k).isSome
 | [],_,_,_,_=>rfl
 | _::_,[],_,_,h=>by cases (show _=[]from h);rfl
 | k'::ks,d'::ds,_,k,⟨v,r,h1,h2,h3⟩=>by
  subst h1;show (if k'=k then some v else Y0 ks r k).isSome=(if k'=k then some d' else Y0 ks ds k).isSome
  by_cases z:k'=k
  ·rw[gR,gR];rfl
  ·rw[gE,gE];exact Yr.isVal k h3
theorem Yr.repA:∀{ks:ac}{ds:aM}{vs:br}(k:Int){d:D}{v:V},Yr K G ds vs->Rep K G d v->Yr K G (Hk.repA ks ds k d) (Hk.repA ks vs k v)
 | [],_,_,_,_,_,h,_=>h
 | _::_,[],_,_,_,_,h,_=>by cases (show _=[]from h);rfl
 | k'::ks,d'::ds,_,k,d,v,⟨u,r,h1,h2,h3⟩,hv=>by
  subst h1;refine⟨_,_,rfl,?_,Yr.repA k h3 hv⟩
  by_cases z:k'=k
  ·rw[gR,gR];exact hv
  ·rw[gE,gE];exact h2
theorem Yr.putA{ks:ac}{ds:aM}{vs:br}(k:Int){d:D}{v:V}(h:Ak)(hv:Rep K G d v):Yr K G (Hk.putA ks ds k d) (Hk.putA ks vs k v):=by
 unfold Hk.putA
 by_cases z:k∈ks
 ·rw[gR,gR];exact h.repA k hv
 ·rw[gE,gE];exact h.app (Yr.cons hv Yr.nil)
end
noncomputable def Wd:Option bS->Option B6
 | some (some (.od ks ds))=>some Hr
 | some ↥(.dic ks ds)=>some Hr
 | _=>none
theorem qcd{H H':Hp}{p:vC}{u:HO}(e:OZ)(h:Rd H p u):Rd H' p u:=by
 rcases h with h|⟨o,h⟩
 ·exact .inl Tw
 ·exact .inr ⟨o,Tw⟩
theorem qba{H:Hp}{a:vC}{kvs:fH}{k:Key}(e:Rd H a cX):W0 H a UF NM:=.inl ⟨kvs,k,e,rfl,rfl⟩
theorem Own.dic{K:zC}{G0:Hp}{H0:Fr}{G:Hp}{ω:WSt}{σ:St}{H:Hp}{i:Nat}{ks:ac}{ds:aM}(o:bV)(h:Wd ω[i]?=some Hr):
  ∃p vs,σ[i]?=some fP/\Rd H p jZ/\ks.length=ds.length/\Yr K G ds vs:=by
 unfold Wd at h
 split at h
 ·rename_i q
  cases h;obtain⟨p,vs,h1,h2,_,_,h5,h6,_⟩:=o.od i _ _ q;exact⟨p,vs,h1,.inl h2,h5,h6⟩
 ·rename_i q
  cases h;obtain⟨v,h1,p,vs,rfl,⟨ob,h2⟩,h3,h4⟩:=o.sh i _ q;exact⟨p,vs,h1,.inr ⟨ob,o.gh _ _ h2⟩,h3,h4⟩
 ·cases h
section
variable{X:Cx}{o k e:vP}{pos pos' dpos:Pos}{i:Nat}{fk fv:FD}
theorem hu1(hu:ie):X.A.units+1<ue:=∅
noncomputable def zA4(i:Nat):FS:=λω=>some V3
theorem q7F{x:Str}(hN:X.N.Nodup)(hi:X.N[i]?=some x)(hx:iN)(hs:v6 Vk Pr pos.line X.env=pure false:=by rfl)(hf:bf:=by first|exact .inl rfl|exact .inr rfl|assumption):
  XS X (.Assign [eu] Vk pos) (zA4 i):=by
 refine⟨_,q0k hN hi hx q6y hs hf,jE⟩;cases e;intro p hp;have o1:=ow.keep (Ext.hide ow.gh hp Ko);refine k G _ _ (o1.setOd (ks:=[]) (ds:=[]) (vs:=[]) qf abw (ow.ext.hh.free hp) rfl Yr.nil λj ks' es hj z=>?_) io;obtain⟨q,us,h1,h2,_⟩:=ow.od j ks' es hj;rw[h1]at z;cases z;rw[hp]at h2;cases h2
noncomputable def zAS(i:Nat)(fk fv:FD):FS:=λω=>(fv ω).bind λd=>(fk ω).bind λc=>match c,ω[i]? with
 | .int k,some (some (.od ks ds))=>if ks.length<1000000 then some jQ else none
 | _,_=>none
theorem q5X(hu:ie)(ho:kw)(hk:L4)(hv:XD X e fv)(hs:v6 e (some iA) pos.line X.env=pure false:=by rfl):XS X SZ (zAS i fk fv):=by
 obtain⟨tk,h1,h2⟩:=hk;obtain⟨tv,h3,h4⟩:=hv;refine⟨_,qbZ (hu1 hu) ho h1 h3 hs,nR⟩;obtain⟨d,q1,e⟩:=bnd e;obtain⟨c,q2,e⟩:=bnd e;refine h4 G0 H0 G ω σ H d _ ow q1 λv G1 H1 x1 y1=>?_;cases c with
 | int k=>
  split at e
  ·rename_i _ _ _ k' ks ds ek q3
   cases ek
   by_cases z:ks.length<1000000
   ·rw[gR]at e
    cases e;have o1:=ow.keep x1;obtain⟨p,vs,r1,r2,r3,r4,r5,r6,r7⟩:=o1.od i ks ds q3;refine⟨bE,r1,h2 G0 H0 G1 ω σ H1 _ _ o1 q2 λu G2 H2 x2 y2=>?_⟩;cases (show u=.int k from y2);have o2:=o1.keep x2;have hl:ks.length=vs.length:=by rw[r5];exact r6.len
    refine⟨p,_,rfl,zBs.k (k:=Sum.inl k) Hc (by rw[q2A hl,vh];omega),?_⟩;rw[q5e hl];exact kk G2 σ _ (o2.mutD q3 r1 Hc (x2.new p r3 (by rw[r2];exact λz=>by cases z)) r4 (qi8 k d r5) ((r6.mono x2.gg).putA k BS)) oO
   ·rw[gE]at e;cases e
  ·cases e
 | _=>cases e
noncomputable def zAB(i:Nat)(fk:FD):FE:=λω=>(Wd ω[i]?).bind λp=>(fk ω).bind λc=>match c with
 | .int k=>(Y0 p.1 p.2 k).map R.sh
 | _=>none
theorem q4B(hu:ie)(ho:kw)(hk:L4)(hs:NoSl k:=by intro _ _;rfl):XE X (.Subscript o k pos) (zAB i fk):=by
 obtain⟨tk,h1,h2⟩:=hk;refine⟨_,q62 (hu1 hu) ho h1 hs,J6⟩;obtain⟨⟨ks,ds⟩,q1,e⟩:=bnd e;obtain⟨c,q2,e⟩:=bnd e;obtain⟨p,vs,r1,r2,r3,r4⟩:=ow.dic q1;refine⟨bE,r1,h2 G0 H0 G ω σ H c _ ow q2 λu G1 H1 x1 y1=>?_⟩;cases c with
 | int k=>
  cases (show u=.int k from y1);obtain⟨d,q3,e⟩:=mpd e;subst e;obtain⟨v,z1,z2⟩:=r4.val q3;have hl:ks.length=vs.length:=by rw[r3];exact r4.len
  have g:=qba (k:=mX) acF;rw[q0A hl,z1]at g;exact⟨p,v,rfl,g,kk v G1 H1 x1 (z2.mono x1.gg)⟩
 | _=>cases e
noncomputable def zAs(neg:Bool)(i:Nat)(fk:FD):FT:=λω=>(fk ω).bind λc=>(Wd ω[i]?).bind λp=>match c with
 | .int k=>some (if neg then !(Y0 p.1 p.2 k).isSome else (Y0 p.1 p.2 k).isSome)
 | _=>none
theorem qj6{tk:TE}{neg:Bool}(h2:zA1 X.K tk fk):zAL X.K (tB (if neg then zAq tk Lx else L2.tDIn tk Lx)) (zAs neg i fk):=by
 intro G0 H0 G ω σ H b Q ow e kk;obtain⟨c,q2,e⟩:=bnd e;obtain⟨⟨ks,ds⟩,q1,e⟩:=bnd e;cases c with
 | int k=>
  have fin:∀(u:V)G1 H1,Ext G H G1 H1->u=.int k->∃p vs,σ[i]?=some fP/\W0 H1 p u (Y0 ks vs k)/\(Y0 ks vs k).isSome=(Y0 ks ds k).isSome:=λu G1 H1 x1 hu=>by
   subst hu;obtain⟨p,vs,r1,r2,r3,r4⟩:=ow.dic q1;have hl:ks.length=vs.length:=by rw[r3];exact r4.len
   have g:=qba (k:=mX) acF;rw[q0A hl]at g;exact⟨p,vs,r1,g,Yr.isVal k r4⟩
  cases neg with
  | true=>
   refine h2 G0 H0 G ω σ H _ _ ow q2 λu G1 H1 x1 y1=>?_;obtain⟨p,vs,r1,g,hs⟩:=fin u G1 H1 x1 y1;refine LI;cases e;rw[hs];exact kk G1 H1 x1
  | false=>
   refine h2 G0 H0 G ω σ H _ _ ow q2 λu G1 H1 x1 y1=>?_;obtain⟨p,vs,r1,g,hs⟩:=fin u G1 H1 x1 y1;refine LI;cases e;rw[hs];exact kk G1 H1 x1
 | _=>cases e
theorem q8H(hu:ie)(hk:L4)(ho:kw)(hb:uD .NotIn o=false:=by rfl):XT X (.Compare k [.NotIn] [o] pos) (zAs true i fk):=by
 obtain⟨tk,h1,h2⟩:=hk;exact⟨_,qkE (qdN (hu1 hu) h1 ho) hb,qj6 (neg:=true) h2⟩
end
section
variable{X:Cx}{o k e:vP}{pos pos' dpos:Pos}{i:Nat}{fk fv:FD}
noncomputable def zA6(i:Nat)(fk fv:FD):FS:=λω=>(fk ω).bind λc=>(fv ω).bind λd=>match c with
 | .int k=>some px
 | _=>none
theorem qfF{x:Str}(hN:X.N.Nodup)(hi:X.N[i]?=some x)(hx:iN)(hk:L4)(hv:XD X e fv)(hs:v6 Rp Pr pos.line X.env=pure false:=by rfl)(hf:bf:=by first|exact .inl rfl|exact .inr rfl|assumption):
  XS X (.Assign [eu] Rp pos) (zA6 i fk fv):=by
 obtain⟨tk,h1,h2⟩:=hk;obtain⟨tv,h3,h4⟩:=hv;refine⟨_,q0k hN hi hx (qir (qg1 h1 h3 qiq) rfl rfl (by simp) (by show 1<=15;decide)) hs hf,nR⟩;obtain⟨c,q1,e⟩:=bnd e;obtain⟨d,q2,e⟩:=bnd e;cases c with
 | int k=>
  cases e;intro p hp;have x0:=Ext.hide ow.gh hp Ko;have o1:=ow.keep x0;refine h2 G0 H0 G ω σ _ _ _ o1 q1 λu G1 H1 x1 y1=>?_;cases (show u=.int k from y1);have o2:=o1.keep x1;refine h4 G0 H0 G1 ω σ H1 d _ o2 q2 λv G2 H2 x2 y2=>?_;have o3:=o2.keep x2;have hp2:H2 p=some Ko:=x2.hh _ _ (x1.hh _ _ qf);have gp1:G1 p=none:=x1.new p abw (by rw[qf];exact λz=>by cases z);have gp2:G2 p=none:=x2.new p gp1 (by rw[x1.hh _ _ qf];exact λz=>by cases z);have h0p:H0 p=none:=ow.ext.hh.free hp;refine⟨hp2,[(Cl,v)],rfl,by show 1<=15;decide,?_⟩;have em:Wj [] [(mX,v)]=kvsOf [k] [v]:=by
   show putK [] mX v=_;unfold putK;rw[vJ (by simp)];rfl
  rw[em];have ext4:Ext G0 H0.hp G2 JB:=⟨o3.ext.gg,Yv o3.ext.gh gp2 _,Yv o3.ext.hh h0p _,o3.ext.new⟩;have np:∀(j:Nat)ds',ω[j]?=some (some (.ow ds'))->∀l vs,σ[j]?=some l7->H2 l=some fV->l≠p:=λj ds' hj l vs _ h z=>by rw[z,hp2]at h;cases h
  have npd:∀(j:Nat)ks' es,ω[j]?=some Hh->σ[j]?≠some fP:=λj ks' es hj z=>by
   obtain⟨q,us,w1,w2,_⟩:=ow.od j ks' es hj;rw[w1]at z;cases z;rw[hp]at w2;cases w2
  have o4:Own X.K G0 H0 G2 ω σ JB:=by
   refine⟨ext4,o3.len,o3.sh,λj ds' hj=>?_,o3.nd,abc,o3.pw.upd (o3.pw.ne_ob λvs z=>by rw[hp2]at z;cases z)⟩
   ·obtain⟨l,vs,w1,w2,w3,w4,w5⟩:=o3.ow j ds' hj
    exact⟨l,vs,w1,by rw[qd (np j ds' hj l vs w1 w2)];exact w2,w3,w4,w5⟩
   ·obtain⟨q,us,w1,w2,w3,w4,w5,w6,w7⟩:=o3.od j ks' es hj
    have nq:q≠p:=λz=>npd j ks' es hj (by rw[<- z];exact w1);exact⟨q,us,w1,by rw[qd nq];exact w2,w3,w4,w5,w6,w7⟩
  exact kk G2 _ _ (o4.setOd (ks:=[k]) (ds:=[d]) (vs:=[v]) qf gp2 h0p rfl (Yr.cons y2 Yr.nil) npd) oO
 | _=>cases e
end
section
open PySem.Spec PyProof.Rows PySem.W
theorem qbF:∀(vs:bC)(ns:ac),vs.length=ns.length->(∀(j:Nat)v n,vs[j]?=some v->ns[j]?=some n->∃t,v=.int n t)->uJ vs ns
 | [],[],_,_=>.nil
 | [],_::_,h,_=>by simp at h
 | _::_,[],h,_=>by simp at h
 | v::vs,n::ns,h,f=>by
  obtain⟨t,rfl⟩:=f 0 v n rfl rfl;exact .cons _ _ (qbF vs ns ⇑h λj a b e1 e2=>f (j+1) a b ⇑e1 ⇑e2)
variable{prog:vS}{w:vX}{A:vc}{E:vB->vF->Prop}{s:vF}
theorem qaL{a:vC}{kvs:HU}{ns:ac}{Q:aO}(hh:dH)(lo:Dp=false)(dd:s.heap.DictOf (Yy prog w) a kvs)(hk:kvs.map (·.1)=ns.map IR)(h64:R7)(h:∀(h1 h':ve)(tk:Nat)(vs:bC)(ys:ac)(n:Nat),(∀b o,s.heap.get? b=some o->h1.get? b=some o)->(∀b o,h1.get? b=some o->h'.get? b=some o)->h'.get? h1.objs.size=some Dm->uJ vs ys->ys.Perm ns->ys.Pairwise (· <= ·)->Q (.ref h1.objs.size) { s with heap:=h',toks:=tk }):
  vM ar A acT Q E s:=by
 obtain⟨ep,hat⟩:=dd.dictAt;have hkl:kvs.length=ns.length:=by have:=vn yZ hk;simpa using this
 refine Calls.call_function_entry sM sF sG aaI ?_;unfold Builtin.«sorted»;refine vA (m:=checkCount "sorted" 1 1 _) fW;refine vA (kdu_collect (A:=A.in1) (kdl_dict (knd:=Yy prog w) (kvs:=kvs) (ep:=ep) lo) hh hat (by rw[hkl];exact yJ (ya h64) (by decide)) λh1 tk acc hk1 hacc=>?_);have y1:uJ acc.toList ns:=by
  refine qbF _ _ (by rw[zU,hacc.1,hkl]) λj v n e1 e2=>?_;obtain⟨k,x,hx,hi⟩:=hacc.2 j v (by rw[<- zj];exact e1);have e3:(kvs.map (·.1))[j]?=some k:=by rw[zX,hx];rfl
  rw[hk,zX,e2]at e3;cases e3;rcases qP (k:=pN) hi with⟨i,t,e4,rfl⟩|⟨x,t,e4,_⟩
  ·cases e4;exact Mm
  ·cases e4
 have hlen:acc.toList.length=ns.length:=IntsAre.length y1;refine vA (uz ?_ (yJ (by rw[hlen];exact ya h64) (by decide)));generalize acc.toList=vs at y1 hlen;have hoL:(h1.push fz).get? h1.objs.size=some fz:=zW _ rfl;refine vA (vU (vq slot_list_sort ⟨_,hoL,rfl⟩ entry_list_sort (list_sort_tree hoL y1 (by rw[hlen];exact h64) λout ns' a1 a2 a3=>db) UK));obtain⟨n,hn⟩:=sortedHeap_at (vs:=vs) (out:=out) hoL;refine vG ⟨_,rfl,h h1 _ tk out.toList ns' n hk1 (λb o e1=>?_) ?_ a1 a2 a3⟩
 ·rw[sortedHeap_old (zt Vq) (by rw[yc];exact yS Vq)]
  exact zF _ e1
 ·rw[xP];exact hn
end
def rSortD:List V->Hp->VK->Prop:=λxs H Q=>∃p kvs ns,xs=OX/\Rd H p cX/\kvs.map (·.1)=ns.map IR/\ns.length<64/\∀l,H l=none->Q c9 Tk
section
variable{X:Cx}{o:vP}{i:Nat}
theorem qdl(hc:b0):Xu X j0 rSortD:=by
 intro pins s σ H xs us Q I r h;obtain⟨p,kvs,ns,rfl,hp,hk,hz,q⟩:=h;obtain⟨u,rfl,rx⟩:=vals1 r;cases rx;obtain⟨_,lo,vs,rel,dd⟩:=q4S I.hok hp;refine qaL fO lo dd (by rw[<- rel.keys];exact hk) hz λh1 h' tk us ys n k1 k2 g1 a1 a2 a3=>?_;have en:ys=Yz ns:=q1K a3 q1c UM;subst en;have I1:Inv X pins σ H { s with heap:=h1,toks:=tk }:=I.kept k1;have hsl:(Yz ns).length<=sizeLine:=by rw[q8k];exact yJ (ya hz) (by decide)
 have I2:=I1.laid (a:=h1.objs.size) (o:=.lst oU) (t':=tk) (h':=h') k2 cP
  (show Y2 X.prog X.w _ h' _ (.lst _)from ⟨by rw[zB];exact hsl,us,n,q2D a1,g1⟩)
 exact⟨PM,_,I2,rfl,q _ rS⟩
noncomputable def zAv(i:Nat):FE:=λω=>(Wd ω[i]?).bind λp=>if p.1.length<64 then some NX else none
theorem qgg{p q:Pos}(hc:b0)(hg:Jk)(hm:oz)(ho:kw)(he:vK [o] X.env=(false,mj)::vK [] X.env:=by rfl)(hpl:(vZ q bP).any (·.1)=false:=by rfl):XE X (.Call Cd [o] [] q) (zAv i):=by
 refine⟨_,q3v (qdl hc) hg hm q3M (qB ho qC he) (by decide) (by decide) he hpl,Kw⟩;obtain⟨⟨ks,ds⟩,q1,e⟩:=bnd e;obtain⟨p,vs,r1,r2,r3,r4⟩:=ow.dic q1
 by_cases hz:ks.length<64
 ·have e:(if ks.length<64 then some (R.fr Ih)else none)=some r:=e
  rw[vH hz]at e;cases e;refine⟨bE,r1,p,_,ks,rfl,r2,q79 (by rw[r3];exact r4.len),hz,aaf⟩;have x2:=Ext.hide ow.gh hl (.lst ((Yz ks).map V.int));exact k _ G _ x2 ⟨l,_,rfl,hl,ow.gh.free hl,qf,KY⟩
 ·have e:(if ks.length<64 then some (R.fr Ih)else none)=some r:=e
  rw[vJ hz]at e;cases e
noncomputable def zBD(i:Nat):FM:=λω=>match ω[i]? with
 | some (some (.ow ds))=>(ds[Si]?).map λd=>GM
 | _=>none
theorem Yr.dropLast{K:zC}{H:Hp}{ds:aM}{vs:br}(h:Ck):Yr K H ds.dropLast vs.dropLast:=by
 rw[ZL,ZL,h.len];exact h.take _
theorem qiX{apos cpos:Pos}(ho:kw)(hbase:uE o "pop" X.env mj=eval o X.env:=by rfl)(hline:gH=true:=by rfl):
  XM X (.Call (.Attribute o "pop" apos) [] [] cpos) (zBD i):=by
 refine⟨_,qag PySem.F.plainAttrs_list PySem.F.slot_list_pop PySem.F.type_list_pop qar ho hbase hline,λG0 H0 G ω σ H d ω' Q ow e k=>?_⟩;unfold zBD at e
 split at e
 ·rename_i ds q2
  obtain⟨d1,hd,e⟩:=mpd e;cases e;obtain⟨l,vs,r1,r2,r3,r4,r5⟩:=ow.ow i ds q2;obtain⟨y,hy,ry⟩:=r5.get hd;refine⟨.ref l,r1,.inl Rz,l,vs,y,rfl,rfl,r2,by rw[<- r5.len];exact hy,k y G _ (ow.mut q2 r1 r2 r3 r4 r5.dropLast) io ry⟩
 ·cases e
end
noncomputable def WW:List Int->List ac->Int->Int->List ac
 | k::ks,x::xs,a,b=>if k=a then RO::xs else x::WW ks xs a b
 | _,xs,_,_=>xs
theorem q6X:∀(ks:ac)(xs:eS)(a b:Int),(WW ks xs a b).length=xs.length
 | [],_,_,_=>rfl
 | _::_,[],_,_=>rfl
 | k::ks,x::xs,a,b=>by
  unfold WW
  by_cases z:k=a
  ·rw[gR];rfl
  ·rw[gE,zK,zK,q6X ks xs a b]
structure Tab (G H0 H:Hp) (p:vC) (ks:List Int) (ls:List vC) (xss:List (List Int)):Prop where
 dict:H p=some (.dK (kvsOf ks (ls.map V.ref)))
 gp:G p=none
 hp:H0 p=none
 len:ks.length=ls.length
 len2:ls.length=xss.length
 lst:∀(j:Nat)l xs,ls[j]?=some l->xss[j]?=some xs->H l=some (.lst (xs.map V.int))
 gl:∀l∈ls,G l=none/\H0 l=none
 nd:ls.Nodup
theorem Tab.inn{G H0 H:Hp}{p:vC}{ks:ac}{ls:eJ}{xss:eS}(T:ef){l:vC}(h:l∈ls):∃xs:List Int,H l=some FC:=by
 obtain⟨j,hj,rfl⟩:=z8.mp h;have hj2:j<xss.length:=by rw[<- T.len2];exact hj
 exact⟨xss[j],T.lst j _ _ Po (zD hj2)⟩
theorem Tab.pl{G H0 H:Hp}{p:vC}{ks:ac}{ls:eJ}{xss:eS}(T:ef):p∉ls:=λh=>by
 obtain⟨xs,e⟩:=T.inn h;rw[T.dict]at e;cases e
theorem Tab.keep{G G' H0 H H':Hp}{p:vC}{ks:ac}{ls:eJ}{xss:eS}(T:ef)(x:Ek):Tab G' H0 H' p ks ls xss :=
 ⟨x.hh _ _ T.dict,x.new p T.gp (by rw[T.dict];exact λz=>by cases z),T.hp,T.len,T.len2,λj l xs h1 h2=>x.hh _ _ (T.lst j l xs h1 h2),λl h=>by
  obtain⟨xs,e⟩:=T.inn h;exact⟨x.new l (T.gl l h).1 (by rw[e];exact λz=>by cases z),(T.gl l h).2⟩,T.nd⟩
theorem qe5:∀{ks:ac}{ls:eJ}{a:Int},ks.length=ls.length->a∈ks->∃(j:Nat) (l:vC),ks[j]?=some a/\ls[j]?=some l/\Y0 ks eV a=some c9/\∀(xss:eS)(b:Int),xss.length=ls.length->∃xs,xss[j]?=some xs/\WW ks xss a b=xss.set j (xs++[b])
 | [],_,_,_,h=>by simp at h
 | _::_,[],_,h,_=>by simp at h
 | k::ks,l::ls,a,h,ha=>by
  by_cases z:k=a
  ·refine⟨0,l,by rw[z];rfl,rfl,vH z,λxss b hx=>?_⟩
   cases xss with
   | nil=>simp at hx
   | cons x xs=>exact⟨x,rfl,gR⟩
  ·have ha':a∈ks:=(zI.mp ha).resolve_left λe=>z e.symm
   obtain⟨j,l',e1,e2,e3,e4⟩:=qe5 (ks:=ks) (ls:=ls) ⇑h ha';refine⟨j+1,l',e1,e2,?_,λxss b hx=>?_⟩
   ·show (if k=a then _ else _)=_
    rw[gE];exact e3
   ·cases xss with
    | nil=>simp at hx
    | cons x xs=>
     obtain⟨y,h1,h2⟩:=e4 xs b ⇑hx;refine⟨y,h1,?_⟩;show (if k=a then _ else x::WW ks xs a b)=_;rw[gE,h2];rfl
theorem Tab.app{G H0 H:Hp}{p:vC}{ks:ac}{ls:eJ}{xss:eS}(T:ef){a:Int}(b:Int)(ha:a∈ks):
  ∃(l:vC) (xs:ac),l∈ls/\xs∈xss/\Y0 ks eV a=some c9/\W0 H p cM l7/\H l=some FC/\Tab G H0 (upd H l (.lst ((xs++[b]).map V.int))) p ks ls E7:=by
 obtain⟨j,l,e1,e2,e3,e4⟩:=qe5 T.len ha;obtain⟨xs,e5,e6⟩:=e4 xss b T.len2.symm;have hl:l∈ls:=zw e2;have hlp:p≠l:=λz=>T.pl (z▸hl);have g:=W0.k (k:=pO) T.dict;rw[q0A (by rw[zB];exact T.len),e3]at g;refine⟨l,xs,hl,zw e5,e3,g,aaN,?_⟩;rw[e6];refine⟨by rw[qd hlp];exact T.dict,T.gp,T.hp,T.len,by rw[yR];exact T.len2,λi m ys h1 h2=>?_,T.gl,T.nd⟩;rcases qe h2 with⟨rfl,_,rfl⟩|⟨ne,h3⟩
 ·rw[e2]at h1
  cases h1;exact qf
 ·have hm:m≠l:=λz=>by
   subst z;obtain⟨i1,i2⟩:=zc.mp h1;obtain⟨j1,j2⟩:=zc.mp e2;exact ne Jq
  rw[Lo];exact T.lst i m ys h1 h3
theorem Own.free{K:zC}{G0:Hp}{H0:Fr}{G:Hp}{ω:WSt}{σ:St}{H:Hp}{q:vC}{ob:HO}(o:bV)(no:Px)(hG:G q=none)(h0:H0 q=none):Own K G0 H0 G ω σ (upd H q ob) :=
 ⟨⟨o.ext.gg,Yv o.ext.gh hG _,Yv o.ext.hh h0 _,o.ext.new⟩,o.len,o.sh,Ku,o.nd,rL,UW⟩
theorem Tab.put{G H0 H:Hp}{p:vC}{ks:ac}{ls:eJ}{xss:eS}(T:ef){k:Int}{l:vC}(hk:k∉ks)(hl:H l=none)(sg:Bc)(s0:Yx H0 H)(hz:KM):
  ∃H4,zBs (upd H l jR) p kX c9 H4/\H4=upd (upd H l jR) p (.dK (kvsOf Hs Rx))/\Tab G H0 H4 p Hs (ls++[l]) RK:=by
 have hpl:p≠l:=λz=>by rw[<- z,T.dict]at hl;cases hl
 have hlen:ks.length=(ls.map V.ref).length:=by rw[zB];exact T.len
 have e:putK AS Cl c9=kvsOf Hs Rx:=by
  rw[q5e hlen];unfold WF putA;rw[vJ hk,vJ hk,zO];rfl
 have d:=zBs.k (H:=upd H l jR) (a:=p) (kvs:=kvsOf ks eV) (k:=mX) (v:=.ref l) (by rw[qd hpl];exact T.dict) (by rw[q2A hlen,vh];omega);rw[e]at d;refine⟨_,d,rfl,qf,T.gp,T.hp,by rw[zE,zE,T.len];rfl,by rw[zE,zE,T.len2];rfl,λj m xs h1 h2=>?_,λm hm=>?_,?_⟩
 ·rcases yD j ls.length with z|z
  ·rw[zd z]at h1
   rw[zd (by rw[<- T.len2];exact z)]at h2;have e1:=T.lst j m xs h1 h2;have n1:m≠p:=λy=>T.pl (y▸zw h1);have n2:m≠l:=λy=>by rw[y,hl]at e1;cases e1
   rw[qd n1,qd n2];exact e1
  ·rw[zZ z]at h1
   rw[zZ (by rw[<- T.len2];exact z),<- T.len2]at h2;cases hj:j-ls.length with
   | zero=>
    rw[hj]at h1 h2;cases h1;cases h2;rw[qd (Ne.symm hpl)];exact qf
   | succ n=>rw[hj]at h1;cases h1
 ·rcases zR.mp hm with h|h
  ·exact T.gl m h
  ·cases zV.mp h;exact⟨sg.free hl,s0.free hl⟩
 ·rw[yd]
  refine⟨T.nd,by simp,λa ha b hb z=>?_⟩;cases zV.mp hb;obtain⟨xs,e1⟩:=T.inn ha;rw[z,hl]at e1;cases e1
noncomputable def pairsOf:List D->Option ah
 | []=>some []
 | .tup [.int a,.int b]::r=>(pairsOf r).map λl=>(a,b)::l
 | _=>none
noncomputable def Ym(e:gJ):D:=.tup [GV,acg]
theorem q51:∀{ds:aM}{es:ah},pairsOf ds=some es->ds=es.map Ym
 | [],_,h=>by cases h;rfl
 | d::r,es,h=>by
  unfold pairsOf at h
  split at h
  ·rename_i e;cases e
  ·rename_i e
   cases e;obtain⟨l,h1,h2⟩:=mpd h;subst h2;rw[q51 h1];rfl
  ·cases h
theorem q40:∀es:List gJ,pairsOf Do=some es
 | []=>rfl
 | e::r=>by show (pairsOf (r.map Ym)).map _=_;rw[q40 r];rfl
noncomputable def X5(ks:ac)(xss:eS)(e:gJ):List ac:=WW ks (WW ks xss e.1 e.2) e.2 e.1
noncomputable def nbT(ts:ac)(es:ah):List ac:=es.foldl VY KG
noncomputable def nbM(a b:aM):Option D:=(intsOf a).bind λts=>(pairsOf b).bind λes=>if ts.Nodup/\(∀e∈es,e.1∈ts/\e.2∈ts)/\ts.length<=1000/\es.length<=1000 then some (.dic ts ((nbT ts es).map λxs=>.lst lV))else none
noncomputable def sNb:FS:=λω=>match ω with
 | [↥(.lst a),↥(.lst b),none,none,none]=>(nbM a b).map λd=>oM
 | _=>none
theorem zBh{a b:D}{x:fh}:X3 [↥a,↥b,none,none,x.map W.sh]:=by
 intro i w e
 match i,e with
 | 0,e=>cases e;exact bK
 | 1,e=>cases e;exact bK
 | 2,e=>cases e
 | 3,e=>cases e
 | 4,e=>
  cases x with
  | none=>cases e
  | some d=>cases e;exact Mo
 | i+5,e=>simp at e
theorem Own.other{K:zC}{G0:Hp}{H0:Fr}{G:Hp}{ω:WSt}{σ:St}{H:Hp}{i:Nat}{v:AK}(o:bV)(no:Px)(hi:∀w,ω[i]?≠some (some w)):Own K G0 H0 G ω (σ.set i v) H :=
 ⟨o.ext,by rw[yR];exact o.len,λj d h=>by
  obtain⟨u,h1,h2⟩:=o.sh j d h;exact⟨u,by rw[zP (λz=>hi _ (z▸h))];exact h1,h2⟩,λi ds h=>vN h BG,λi j ds es l h=>vN h BG,λi ks ds h=>vN h abz,Xp.no no.pw⟩
theorem q4r(n:Nat):∀(ks:ac)(xss:eS)(a b:Int),(∀x∈xss,x.length<=n)->∀x∈WW ks xss a b,x.length<=n+1
 | [],xss,_,_,h,x,hx=>we (h x hx)
 | _::_,[],_,_,h,x,hx=>by cases hx
 | k::ks,y::xss,a,b,h,x,hx=>by
  unfold WW at hx
  by_cases z:k=a
  ·rw[gR]at hx
   rcases zI.mp hx with rfl|hx
   ·have:=h y zG
    rw[zE,zq];omega
   ·exact we (h x iP)
  ·rw[gE]at hx
   rcases zI.mp hx with rfl|hx
   ·exact we (h _ zG)
   ·exact q4r n ks xss a b (λx h'=>h x (zH _ h')) x hx
theorem Tab.told{K:zC}{G0 G:Hp}{H0:Fr}{H:Hp}{ω:WSt}{σ:St}{p:vC}{ks:ac}{ls:eJ}{xss:eS}(T:ef)(o:bV)(no:Px)(ob:Obj):
  ∃G',Yx G G'/\Own K G0 H0 G' ω σ (upd H p IX)/\Rep K G' (.dic ks (xss.map λxs=>.lst lV)) bE:=by
 obtain⟨H',hH⟩:∃H':Hp,H'=upd H p IX:=bK;rw[<- hH];have hp':H' p=some IX:=by rw[hH];exact qf
 have hn':∀b,b≠p->H' b=H b:=λb h=>by rw[hH];exact qd h
 let G':Hp:=λb=>if b=p\/b∈ls then H' b else G b
 have hin:∀b,OW->G' b=H' b:=λb h=>vH h;have hout:∀b,¬OW->G' b=G b:=λb h=>vJ h;have gn:∀b,OW->G b=none/\H0 b=none:=λb h=>by
  rcases h with rfl|h
  ·exact⟨T.gp,T.hp⟩
  ·exact T.gl b h
 have gg:Yx G G':=λb u z=>by
  by_cases y:b=p\/b∈ls
  ·rw[(gn b y).1]at z;cases z
  ·rw[UH];exact z
 have gh:Yx G' H':=λb u z=>by
  by_cases y:b=p\/b∈ls
  ·rw[hin b y]at z;exact z
  ·rw[UH]at z;rw[hn' b λw=>y (.inl w)];exact o.gh b u z
 have hh:Yx H0.hp H':=λb u z=>by
  rw[hn' b λw=>by rw[w,T.hp]at z;cases z];exact o.ext.hh b u z
 refine⟨G',gg,⟨⟨o.ext.gg.trans gg,gh,hh,DR⟩,o.len,G9,Ku,o.nd,rL,UW⟩,p,ls.map V.ref,rfl,⟨ob,by rw[hin p bT];exact hp'⟩,by rw[zB,<- T.len2];exact T.len,?_⟩
 ·by_cases y:b=p\/b∈ls
  ·exact vN (gn b y).2 z2
  ·rw[UH];exact o.ext.new b z1 z2
 ·obtain⟨v,h1,h2⟩:=o.sh i d h
  exact⟨v,h1,h2.mono gg⟩
 ·refine q5i (by rw[zB];exact T.len2.symm) λj d t h1 h2=>?_
  rw[zX]at h1;cases q:xss[j]? with
  | none=>rw[q]at h1;cases h1
  | some xs=>
   rw[q]at h1;cases h1;have hl:=T.lst j t xs h2 q;exact⟨t,_,rfl,by rw[hin t (.inr (zw h2)),hn' t λw=>by rw[w,T.dict]at hl;cases hl];exact hl,Yr.ints xs⟩
theorem qdw{K:zC}{ta tb:TE}{g0 g1:FD}(k2:zA1 K ta g0)(k4:zA1 K tb g1){G0:Hp}{H0:Fr}{G:Hp}{ω:WSt}{σ:St}{H:Hp}{p:vC}{ks:ac}{ls:eJ}{xss:eS}{a b:Int}{Q:VK}(o:bV)(no:Px)(hσ:σ[2]?=some fP)(T:ef)(h0:g0 ω=some cM)(h1:g1 ω=some iz)(ha:a∈ks)(hz:∀xs∈xss,xs.length<1000000)(h:∀G' H',Own K G0 H0 G' ω σ H'->Yx G G'->Tab G' H0 H' p ks ls E7->Q .non H'):tBM K "list" Xx (zBw GN ta) (WY tb zAA) σ H Q:=by
 refine⟨bE,hσ,k2 G0 H0 G ω σ H _ _ o h0 λu G1 H1 x1 y1=>?_⟩;cases (show u=.int a from y1);have o1:=o.keep x1;have T1:=T.keep x1;obtain⟨l,xs,m1,m2,m3,m4,m5,_⟩:=T1.app b ha;refine⟨p,c9,rfl,m4,.inl ⟨rfl,_,SqL.of m5⟩,k4 G0 H0 G1 ω σ H1 _ _ o1 h1 λu G2 H2 x2 y2=>?_⟩;cases (show u=.int b from y2);have o2:=o1.keep x2;have T2:=T1.keep x2;obtain⟨l',xs',n1,n2,n3,n4,n5,n6⟩:=T2.app b ha;rw[m3]at n3;cases n3;refine⟨l,_,.int b,rfl,rfl,n5,by rw[zB,vh];have:=hz xs' n2;omega,?_⟩;rw[show xs'.map V.int++[V.int b]=(xs'++[b]).map V.int by rw[zO];rfl];exact h G2 _ EE oO n6
theorem qeQ{a b:vP}{p:Pos}{n:Str}{env:Env}(m:Sem vB):uE (.Subscript a b p) n env m=m:=rfl
section
variable{X:Cx}
theorem qkj{x2 x3 x4:Str}{o0 o1 o2 o3 o4 o4b e0 e1 e0b e1b e0':vP}{q1 q2 q3 q4 q5 q6 q7 q8 q9 q10 q11 q12 q13 q14 q15 a1 a2 c1 c2:Pos}{g0 g1:FD}(hu:ie)(hp:lC)(hc:b0)(hN:X.N.Nodup)(i2:X.N[2]?=some x2)(i3:X.N[3]?=some x3)(i4:X.N[4]?=some x4)(l2:aaP)(l3:aaO)(l4:Loc X.env.scope x4)(f2:BK)(f3:BJ)(f4:X.fn x4=true\/X.env.scope.names.lookup x4=some .local)(h0:PE X o0 (XU 0))(h1:PE X o1 UX)(h2:PE X o2 GN)(h2':PE X o4 GN)(h2b:PE X o4b GN)(h3:PE X o3 (XU 3))(h5:PE X e0' GN)(ha:XD X e0 g0)(hb:XD X e1 g1)(hab:XD X e0b g0)(hbb:XD X e1b g1)(hg0:∀(ω:WSt)e,ω[4]?=some Hg->g0 ω=some GV)(hg1:∀(ω:WSt)e,ω[4]?=some Hg->g1 ω=some acg)(s1:v6 En (some (.Name x2 q2)) q3.line X.env=pure false:=by rfl)(s2:v6 Jo (some TM) q6.line X.env=pure false:=by rfl)(n0:NoSl e0:=by intro _ _;rfl)(n1:NoSl e1b:=by intro _ _;rfl)(w1:((vZ c1 abj).all (λx=>!x.1)&&(v7 c1 m6).all jL&&decide (([e1]:List vP).length+([]:List uI).length+(if ([]:List uI).isEmpty then 0 else 1)<30))=true:=by rfl)(w2:((vZ c2 (vK [e0b] X.env)).all (λx=>!x.1)&&(v7 c2 m6).all jL&&decide (([e0b]:List vP).length+([]:List uI).length+(if ([]:List uI).isEmpty then 0 else 1)<30))=true:=by rfl)(z1:(a1.endLine==c1.line)=true:=by rfl)(z2:Pg:=by rfl)(t1:Dl:=by rfl)(t2:vK [e0b] X.env=(false,eval e0b X.env)::vK [] X.env:=by rfl)(p1:(vZ c1 bP).any (·.1)=false:=by rfl)(p2:(vZ c2 bP).any (·.1)=false:=by rfl)(v1:v6 rh none q9.line X.env=pure false:=by rfl)(v2:v6 pB none q10.line X.env=pure false:=by rfl)(y1:∀x,uC o0 X.env x=pure x:=by intro _;rfl)(y2:∀x,uC o1 X.env x=pure x:=by intro _;rfl):
  XSs X [.Assign [.Name x2 q2] En q3,.For (.Name x3 q11) o0 [.Assign [TM] Jo q6] [] q12,
   .For (.Name x4 q13) o1 [.Expr rh q9,.Expr pB q10] [] q14,.Return (some e0') q15] sNb:=by
 obtain⟨ta,k1,k2⟩:=ha;obtain⟨tb,k3,k4⟩:=hb;obtain⟨ta',k1',k2'⟩:=hab;obtain⟨tb',k3',k4'⟩:=hbb;have hu:=hu1 hu;refine⟨_,qO (q0k hN i2 l2 q6y s1 f2) (qO (q7n hp hc (q7I h0) VH (q0V (qbZ hu h2 h3 Na s2)) y1)
  (qO (q7n hp hc (q7I h1) (q4l hN i4 l4 f4) (qO (q1l (q38 PySem.F.plainAttrs_list PySem.F.slot_list_append PySem.F.type_list_append q18 (q62 hu h2' k1 n0) (qB k3 qC t1) (qeQ _) w1 z1 t1 p1) v1)
   (q0V (q1l (q38 PySem.F.plainAttrs_list PySem.F.slot_list_append PySem.F.type_list_append q18 (q62 hu h2b k3' n1) (qB k1' qC t2) (qeQ _) w2 z2 t2 p2) v2))) y2) (q7v 2 (q0V (q5I h5))))),λG0 H0 G ω σ H out ω' E ow e kk=>?_⟩
 unfold sNb at e
 split at e
 case h_2=>cases e
 case h_1 _ a b=>
 obtain⟨d,e2,e3⟩:=mpd e;clear e;cases e3;obtain⟨ts,e4,e5⟩:=bnd e2;obtain⟨es,e6,e7⟩:=bnd e5;clear e2 e5
 by_cases cond:ts.Nodup/\(∀e∈es,e.1∈ts/\e.2∈ts)/\ts.length<=1000/\es.length<=1000
 case neg=>rw[vJ cond]at e7;cases e7
 rw[vH cond]at e7;cases e7;obtain⟨cd1,cd2,cd3,cd4⟩:=cond;have ha':=q0N e4;have hb':=q51 e6;subst ha' hb';clear e4 e6;have no:X3 im:=zBh (x:=none);have hlen:σ.length=5:=ow.len.symm;obtain⟨v0,r0,A0,vs0,rfl,r1,r2⟩:=ow.sh 0 _ rfl;obtain⟨v1,r3,A1,vs1,rfl,r4,r5⟩:=ow.sh 1 _ rfl;have hvs0:=r2.of_ints;subst hvs0;intro p hpn;have o1:Own X.K G0 H0 G im (σ.set 2 fP) mK:=(ow.free no acJ Uy).other no λw z=>by cases z
 have T0:Tab G H0 mK p (ts.take 0) [] ((ts.take 0).map λ_=>[]):=⟨qf,acJ,Uy,rfl,rfl,λj l xs h=>(by simp at h),λl h=>(by cases h),xa⟩;refine⟨.ref A0,by rw[zP (by decide)];exact r0,A0,rfl,⟨_,SqL.of acL⟩,λn m σ2 H2=>∃ls,Own X.K G0 H0 G im σ2 H2/\σ2[2]?=some fP/\Tab G H0 H2 p (ts.take n) ls ((ts.take n).map λ_=>[])/\n<=ts.length/\m=ts.length-n,
  ⟨_,[],o1,ye (by rw[hlen];decide),T0,Cf,rfl⟩,?_⟩
 rintro n m σ2 H2 ⟨ls,o2,s22,T2,hn,rfl⟩
 by_cases hlt:n<ts.length
 ·have hq:=o2.gh _ _ r1
  refine .inr ⟨⟨_,.int ts[n],SqL.of hq,by rw[zX,J8];rfl⟩,λσ3 H3=>∃ls,Own X.K G0 H0 G im σ3 H3/\σ3[2]?=some fP/\Tab G H0 H3 p (ts.take (n+1)) ls ((ts.take (n+1)).map λ_=>[]),
   λσ3 H3 ⟨ls,b1,b2,b3⟩=>⟨ts.length-(n+1),∅,ls,b1,b2,b3,hlt,rfl⟩,λy H3 hy=>?_⟩
  obtain⟨rfl,hy⟩:=hy;have hy:=hy _ Oa;rw[zX,J8]at hy;cases hy;have hl2:σ2.length=5:=o2.len.symm;refine⟨by show 0<=sizeLine;exact yA _,λl hl=>?_⟩;refine⟨.ref p,by rw[zP (by decide)];exact s22,.int ts[n],ye (by rw[hl2];decide),?_⟩;have nk:ts[n]∉ts.take n:=λz=>by
   obtain⟨j,hj,ej⟩:=z8.mp z;rw[Zt]at ej;have hj':j<n:=by rw[zo]at hj;omega
   have:=(wG cd1).mp ej;omega
  obtain⟨H4,d1,d2,T4⟩:=T2.put nk hl o2.gh o2.ext.hh (by rw[zo];omega);refine⟨p,H4,rfl,d1,ls++[l],?_,by rw[zP (by decide)];exact s22,?_⟩
  ·subst d2
   exact((o2.free no (o2.gh.free hl) (o2.ext.hh.free hl)).free no T2.gp T2.hp).other no λw z=>by cases z
  ·rw[(wo hlt).symm,zO]
   exact T4
 ·have en:n=ts.length:=∅
  subst en;rw[wH]at T2;refine .inl ⟨⟨_,SqL.of (o2.gh _ _ r1),by rw[zB];exact zQ _⟩,?_⟩;obtain⟨v1',r3',A1',vs1',rfl,r4',r5'⟩:=o2.sh 1 _ rfl;have hl5:es.length=vs1'.length:=by have:=r5'.len;rw[zB]at this;exact this
  refine⟨.ref A1',r3',A1',rfl,⟨_,SqL.of (o2.gh _ _ r4')⟩,λn m σ3 H3=>∃G3 x4,Own X.K G0 H0 G3 nc σ3 H3/\Yx G G3/\σ3[2]?=some fP/\Tab G3 H0 H3 p ts ls ((es.take n).foldl VY KG) /\
   (∀xs∈(es.take n).foldl (X5 ts) (ts.map λ_=>[]),xs.length<=2*n)/\n<=es.length/\m=es.length-n,
   ⟨_,G,none,o2,Yx.refl _,s22,T2,λxs hx=>by obtain⟨_,_,rfl⟩:=za.mp hx;exact zQ _,yA _,rfl⟩,?_⟩
  rintro n m σ3 H3 ⟨G3,x4,o3,g3,s32,T3,b3,hn3,rfl⟩
  by_cases hlt3:n<es.length
  ·have hq3:=o3.gh _ _ (g3 _ _ r4')
   have hlv:n<vs1'.length:=by rw[<- hl5];exact hlt3
   refine .inr ⟨⟨_,vs1'[n],SqL.of hq3,zD hlv⟩,λσ4 H4=>∃G4 x4,Own X.K G0 H0 G4 nc σ4 H4/\Yx G G4/\σ4[2]?=some fP/\Tab G4 H0 H4 p ts ls ((es.take (n+1)).foldl VY KG) /\
    (∀xs∈(es.take (n+1)).foldl (X5 ts) (ts.map λ_=>[]),xs.length<=2*(n+1)),
    λσ4 H4 ⟨G4,x4,b1,b2,b4,b5,b6⟩=>⟨es.length-(n+1),∅,G4,x4,b1,b2,b4,b5,b6,hlt3,rfl⟩,λy H4 hy=>?_⟩
   obtain⟨rfl,hy⟩:=hy;have hy:=hy _ (SqL.of hq3);rw[zD hlv]at hy;cases hy;have hd:(es.map Ym)[n]?=some (Ym es[n]):=by rw[zX,zD hlt3];rfl
   obtain⟨v,hv1,hv2⟩:=r5'.get hd;rw[zD hlv]at hv1;cases hv1;have hl3:σ3.length=5:=o3.len.symm;have o4:Own X.K G0 H0 G3 [Hf,cj,none,none,↥(Ym es[n])] (σ3.set 4 (some vs1'[n])) H4:=o3.setSh (i:=4) (hv2.mono g3);have no4:X3 [Hf,cj,none,none,↥(Ym es[n])]:=zBh (x:=some (Ym es[n]));have s42:(σ3.set 4 (some vs1'[n]))[2]?=some fP:=by rw[zP (by decide)];exact s32
   obtain⟨in1,in2⟩:=cd2 es[n] (yC hlt3);refine qdw k2 k4 o4 no4 s42 T3 (hg0 _ es[n] rfl) (hg1 _ es[n] rfl) in1 (λxs hx=>by have:=b3 xs hx;omega) λG5 H5 o5 g5 T5=>?_;have b5:=q4r (2*n) ts _ es[n].1 es[n].2 b3;refine qdw k4' k2' o5 no4 s42 T5 (hg1 _ es[n] rfl) (hg0 _ es[n] rfl) in2 (λxs hx=>by have:=b5 xs hx;omega) λG6 H6 o6 g6 T6=>?_;have b6:=q4r (2*n+1) ts _ es[n].2 es[n].1 b5;have et:es.take (n+1)=es.take n++[es[n]]:=(wo hlt3).symm;refine⟨G6,some (Ym es[n]),o6,(g3.trans g5).trans g6,s42,?_,?_⟩
   ·rw[et,wf];exact T6
   ·rw[et,wf]
    intro xs hx;have:=b6 xs hx;omega
  ·have en3:n=es.length:=∅
   subst en3;rw[wH]at T3;refine .inl ⟨⟨_,SqL.of (o3.gh _ _ (g3 _ _ r4')),by rw[hl5];exact zQ _⟩,?_⟩;have no3:X3 nc:=zBh;refine⟨p,_,s32,T3.dict,λob=>?_⟩;obtain⟨G',g',o',rp⟩:=T3.told o3 no3 ob;generalize upd H3 p (.frz ob _)=H4 at o' ⊢;refine⟨bE,s32,?_⟩;have oF:Own X.K G0 H0 G' im σ3 H4:=by
    refine⟨o'.ext,o'.len,G9,Ku,λi j ds es l h=>vN h BG,rL,UW⟩
    match i,h with
    | 0,h=>exact o'.sh 0 d h
    | 1,h=>exact o'.sh 1 d h
    | 2,h=>cases h
    | 3,h=>cases h
    | 4,h=>cases h
    | i+5,h=>simp at h
   exact kk G' σ3 H4 oF (g3.trans g') bE rp
end
theorem qk4{ω:WSt}{e:gJ}(h:ω[4]?=some ↥(Ym e)):dOf NF ω=some GV:=by
 unfold dOf Yn vOf Yh fC;rw[h];rfl
theorem qk9{ω:WSt}{e:gJ}(h:ω[4]?=some ↥(Ym e)):dOf oo ω=some acg:=by
 unfold dOf Yn vOf Yh fC;rw[h];rfl
noncomputable def zBR(i:Nat)(ω:WSt)(c d:fh):Option eG:=c.bind λc=>d.bind λd=>match c with
 | .int k=>some px
 | _=>none
noncomputable def dsetS(i:Nat)(ω:WSt)(v c:fh)(w:mI):Option eG:=v.bind λd=>c.bind λc=>match c,w with
 | .int k,some (some (.od ks ds))=>if ks.length<1000000 then some jQ else none
 | _,_=>none
noncomputable def dgetR(o:Option B6)(c:fh):Option R:=o.bind λp=>c.bind λc=>match c with
 | .int k=>(Y0 p.1 p.2 k).map R.sh
 | _=>none
noncomputable def dhasT(neg:Bool)(c:fh)(o:Option B6):Option Bool:=c.bind λc=>o.bind λp=>match c with
 | .int k=>some (if neg then !(Y0 p.1 p.2 k).isSome else (Y0 p.1 p.2 k).isSome)
 | _=>none
noncomputable def zBX(o:Option B6):Option R:=o.bind λp=>if p.1.length<64 then some NX else none
noncomputable def pop0(i:Nat)(ω:WSt)(w:mI):Option si:=match w with
 | some (some (.ow ds))=>(ds[Si]?).map λd=>GM
 | _=>none
noncomputable def zBy(j i:Nat)(ω:WSt)(w:mI):Option eG:=(pop0 i ω w).map λp=>(.nx,p.2.set j aaw)
section
variable{ω:WSt}{fk fv:FD}{i j:Nat}{ks:List Int}{ds:List D}{k:Int}{d:D}{neg:Bool}
theorem qe1:zA4 i ω=some V3:=rfl
theorem qc9:zA6 i fk fv ω=zBR i ω Qp (fv ω):=rfl
theorem qgL:zBR i ω eQ A6=some px:=rfl
theorem qfp:zAS i fk fv ω=dsetS i ω (fv ω) Qp ω[i]?:=rfl
theorem qex:zAB i fk ω=dgetR (Wd ω[i]?) Qp:=rfl
theorem qh8:dgetR abq eQ=(Y0 ks ds k).map R.sh:=rfl
theorem qhu:Wd abp=some Hr:=rfl
theorem qgJ:Wd (some ↥EQ)=some Hr:=rfl
theorem qeo:zAs neg i fk ω=dhasT neg Qp (Wd ω[i]?):=rfl
theorem qh1:dhasT true eQ abq=some (!(Y0 ks ds k).isSome):=rfl
theorem qbD:zAv i ω=zBX (Wd ω[i]?):=rfl
theorem qci:zBB j (zBD i) ω=zBy j i ω ω[i]?:=rfl
theorem qhB:shrS i ω abp=ω.set i ↥EQ:=rfl
end
theorem q4s{i:Nat}{ω:WSt}{ks:ac}{ds:aM}{k:Int}{d:D}(h:KM):dsetS i ω A6 eQ abp=some jQ:=vH h
theorem qfy{ks:ac}{ds:aM}(h:ks.length<64):zBX abq=some (.fr Ih):=vH h
theorem qit{j i:Nat}{ω:WSt}{ds:aM}{d:D}:zBy j i ω (some Qc)=some (.nx,(ω.set i dj).set j ↥d):=by
 unfold zBy pop0;have e1:(ds++[d])[aa5]?=some d:=by
  rw[zE,zq,Zm,zZ cP,wS];rfl
 have e2:(ds++[d]).dropLast=ds:=by simp
 show Option.map _ (((ds++[d])[aa5]?).map _)=_;rw[e1,e2];rfl
section
variable{X:Cx}{o k e:vP}{pos pos':Pos}{i:Nat}{fk fv:FD}
noncomputable def zAz(i:Nat)(fk fv:FD):FS:=λω=>(fv ω).bind λd=>(fk ω).bind λc=>match c,ω[i]? with
 | .int k,some (some (.ow ds))=>(ixN ds.length k).map λj=>FB
 | _,_=>none
theorem Yr.set{K:zC}{H:Hp}:∀{ds:aM}{vs:br}(n:Nat){d:D}{v:V},Yr K H ds vs->Rep K H d v->Yr K H (ds.set n d) (vs.set n v)
 | [],_,_,_,_,h,_=>by cases (show _=_ from h);rfl
 | _::_,_,0,_,_,⟨v,r,h1,h2,h3⟩,hv=>by rw[h1];exact⟨_,_,rfl,hv,h3⟩
 | _::_,_,n+1,_,_,⟨v,r,h1,h2,h3⟩,hv=>by rw[h1];exact⟨v,_,rfl,h2,Yr.set n h3 hv⟩
theorem q7L(ho:kw)(hk:L4)(hv:XD X e fv)(hs:t4 [iA] e pos.line X.env=pure false:=by rfl)(hw:t5 [iA] e X.env=pure none:=by rfl)(h1':(uB [iA] X.env).map (·.2)=[assign iA X.env]:=by rfl)(ha:∀v,assign iA X.env v=(do
   let ov <- holding [v] (eval o X.env)
   let iv <- holding [v,ov] (eval k X.env)
   sP pos'
   holding Rb VC
   release Rb []):=by intro _;rfl):XS X SZ (zAz i fk fv):=by
 obtain⟨tk,h1,h2⟩:=hk;obtain⟨tv,h3,h4⟩:=hv;refine⟨_,qeZ h3 (qkm ho h1 qgm ha) hs hw h1',nR⟩;obtain⟨d,q1,e⟩:=bnd e;obtain⟨c,q2,e⟩:=bnd e;refine h4 G0 H0 G ω σ H d _ ow q1 λv G1 H1 x1 y1=>?_;cases c with
 | int m=>
  split at e
  ·rename_i _ _ _ m' ds ek q3
   cases ek;obtain⟨j,hj,e⟩:=mpd e;cases e;have o1:=ow.keep x1;obtain⟨l,vs,r1,r2,r3,r4,r5⟩:=o1.ow i ds q3;refine⟨c9,r1,h2 G0 H0 G1 ω σ H1 _ _ o1 q2 λu G2 H2 x2 y2=>?_⟩;cases (show u=.int m from y2);have o2:=o1.keep x2;refine⟨l,vs,m,j,rfl,rfl,x2.hh _ _ r2,by rw[<- r5.len];exact hj,?_⟩;exact kk G2 σ _ (o2.mut q3 r1 Hc (x2.new l r3 (by rw[r2];exact λz=>by cases z)) r4 ((r5.mono x2.gg).set j BS)) oO
  ·cases e
 | _=>cases e
end
section
variable{X:Cx}{e:vP}{pos pos':Pos}{i:Nat}{fe:FD}
end
section
open PySem.Spec PyProof.Rows
variable{X:Cx}
end
end Hk
namespace L2
open PySem PySem.Spec PyProof.Rows
end L2
namespace Hk
open PySem L2
noncomputable def lsetS(i:Nat)(ω:WSt)(v c:fh)(w:mI):Option eG:=v.bind λd=>c.bind λc=>match c,w with
 | .int k,some (some (.ow ds))=>(ixN ds.length k).map λj=>FB
 | _,_=>none
section
variable{ω:WSt}{fk fv:FD}{fa:FA}{i j:Nat}{ds:List D}{a b c:Int}{d:D}{g:Int->Int->Int}
theorem qeD:zAz i fk fv ω=lsetS i ω (fv ω) Qp ω[i]?:=rfl
end
theorem q7R{i:Nat}{ω:WSt}{ds:aM}{d:D}{k:Int}(h0:V1)(h1:k<ds.length):lsetS i ω A6 eQ BU=some (.nx,ω.set i (some (.ow (ds.set k.toNat d)))):=by
 show (ixN ds.length k).map _=_;have e:ixN ds.length k=some k.toNat:=by unfold ixN;rw[vH h0,Vy]
 rw[e];rfl
noncomputable def zBA(i j:Int):Bool:=decide (i.natAbs<2^200)&&decide (j.natAbs<2^200)
noncomputable abbrev zAt:D->D->Option R:=zAd zBA λi j=>.int (i*j)
theorem mulB{i j:Int}(h:zBA i j=true):sS i j:=by
 unfold zBA at h;rw[zu,decide_eq_true_iff,decide_eq_true_iff]at h;have h1:=PyProof.Rows.intBits_le h.1;have h2:=PyProof.Rows.intBits_le h.2;unfold sS;have:Builtin.Int.intTooBig ((Builtin.Int.intBits i:Int)+(Builtin.Int.intBits j:Int))=false:=by
  unfold Builtin.Int.intTooBig;refine vQ ?_;have:(400:Int)<=bitsLine:=by decide
  omega
 simp[this]
theorem qiJ{X:Cx}:OpR X Uo (rI (λi j=>sS i j) λi j=>.int (i*j)):=opI λ_ _ _ _ _ _ _ hc q=>PyProof.Rows.mul_int q hc
theorem qid{X:Cx}{a b:vP}{f g:FD}{pos:Pos}(ha:dL)(hb:fT):XE X ET (Yn zAt f g):=q2H qiJ (q4o (λ_ _ h=>mulB h) λ_ _ _=>rfl) ha hb
theorem qgt{a b:Int}(h:a.natAbs<2^200)(h':b.natAbs<2^200):zAt cM iz=↥QH:=vH (by unfold zBA;rw[vO h,vO h'];rfl)
end Hk
namespace L2
open PySem PySem.Spec PyProof.Rows
noncomputable def Ite(K:zC)(a:vC):It :=
 ⟨λi H=>∃xs x,SqL K H a xs/\xs[i]?=some x,
  λi H x H'=>∃t x1,H t=none/\x=.ref t/\H'=upd H t ac5/\∀xs,SqL K H a xs->xs[i]?=some x1,
  λi H=>∃xs,SqL K H a xs/\xs[i]?=none⟩
theorem qdR{P:vS}{w:vX}{K:zC}{elts:iI}{kx}{tpos:Pos}(a e it:vC)(hne:e≠it)(hae:a≠e)(hai:a≠it):
  Turn P w K kJ ab5 [e,it] e (λi h=>(∃old,IsEnum h e it jd old)/\h.IsListIter it a i) where
 mem:=by simp
 obj:=λi h st c hc=>by
  obtain⟨⟨old,s1⟩,⟨o4,e4,c4,d4⟩⟩:=st;simp only[zI,zg,or_false]at hc;rcases hc with rfl|rfl
  ·exact⟨_,s1,λv y=>by cases (show Data.fields _=Data.cell v from y)⟩
  ·exact⟨_,e4,λv y=>by rw[d4]at y;cases y⟩
 keep:=λi h h' st k=>by
  obtain⟨⟨old,s1⟩,s4⟩:=st;exact⟨⟨old,k _ (by simp) _ s1⟩,s4.at λo e=>k _ (by simp) o e⟩
 item:=by
  intro X hP hw hK hc i pins s σ H E I hf st hg;subst hP hw hK;obtain⟨xs,x,hq,hx⟩:=hg;obtain⟨its,rv,p,hz⟩:=I.list hq;obtain⟨u,hu,ru⟩:=rv.get hx;obtain⟨⟨old,s1⟩,s4⟩:=st;have ex:∀c∈[e,it],∃o,s.heap.get? c=some o:=λc hc=>by
   simp only[zI,zg,or_false]at hc;rcases hc with rfl|rfl
   ·exact⟨_,s1⟩
   ·obtain⟨o,e,_⟩:=s4;exact Iq
  have nt:∀c∈[e,it],c≠s.heap.objs.size:=λc hc=>by
   obtain⟨o,e⟩:=ex c hc;exact zt DS
  refine wpAny_pyNext_enum_item s1 s4 p.isList (x:=u) (by simpa using hu) hne λh' a1 a2 a3 a4 hk=>?_;have hn:H s.heap.objs.size=none:=I.hok.fresh cP;have I1:Inv X pins σ iC { s with heap:=s.heap.push { cls:=.type "tuple", data:=.seq #[.int i s.toks,u] },toks:=s.toks+1 } :=
   I.laid Vp cP (show Y2 X.prog X.w _ _ _ (.tup [lI,x])from ⟨by show 2<=sizeLine;decide,[.int i s.toks,u],.cons bK aci,GY⟩)
  have hf':∀c∈[e,it],X1 X pins iC c:=λc hc=>by
   obtain⟨f0,f⟩:=hf c hc;exact⟨by rw[qd (nt c hc)];exact f0,f⟩
  have I2:Inv X pins σ iC { s with heap:=h',toks:=s.toks+1 }:=I1.turnedL (λb o hb e=>by
   simp only[zI,zg,or_false,not_or]at hb
   by_cases q:b=s.heap.objs.size
   ·subst q
    rw[jH]at e;cases e;exact a3
   ·have e':s.heap.get? b=some o:=by
     rcases yD b s.heap.objs.size with l|l
     ·obtain⟨z1,z2⟩:=xn.mp e
      refine xn.mpr ⟨?_,z2⟩;rw[<- z1];show s.heap.objs[b]?=(s.heap.objs.push _)[b]?;rw[ZY,vJ q]
     ·have:=zS e
      rw[yc]at this;exact vN (by simp only[vC]at *;omega) q
    exact hk b o hb.1 hb.2 e') hf'
  refine⟨_,rfl,wpAny_letOwnedTupleGo_enum a1 λh2 b1 sb=>?_⟩;have I3:Inv X pins σ iC { s with heap:=h2,toks:=s.toks+1 }:=I2.turnedL (λb o hb e=>(sb.2 b (λq=>hb (by simp[q]))).trans e) hf';have hi:((i+1:Nat):Int)=jd+1:=by push_cast;rfl
  refine⟨aJ,_,I3,rfl,⟨_,x,hn,rfl,rfl,λxs' q1=>by rw[I.list_inj q1 hq];exact hx⟩,⟨⟨u,by rw[hi];exact b1⟩,a2.extBut sb.extBut (Ne.symm hne)⟩,Ub⟩
 done:=by
  intro X hP hw hK hc i pins s σ H E I hf st hg;subst hP hw hK;obtain⟨xs,hq,hx⟩:=hg;obtain⟨its,rv,p,hz⟩:=I.list hq;obtain⟨⟨old,s1⟩,s4⟩:=st;have l1:=rv.length;refine wpAny_pyNext_enum_end fO s1 s4 p.isList ?_ λh' hk=>BP
  ·rw[xh]at hx;simp;omega
  ·simp only[zI,zg,or_false,not_or]at hb
   exact hk b o hb.2 e
 self:=λ_ _ _ _ _ st h=>by
  obtain⟨⟨old,s1⟩,s4⟩:=st;exact wpAny_pyIter_enum s1 h
noncomputable def iEnum(K:zC)(ta:TA):TI:=λσ H R=>ta σ H λvs H1=>∃a xs,vs=[dJ]/\SqL K H1 a xs/\R ab5 H1
theorem qcs{X:Cx}{a:vP}{ta:TA}{p pos tpos:Pos}{elts:iI}{kx}(hg:Me)(hm:EL)(ha:PA X [a] ta)(hs:DG:=by rfl):
  PI X kJ FJ (iEnum X.K ta):=by
 intro pins s σ H R I h;refine Call_ (q0m I hg hm PyProof.Rows.boot_enumerate (PyProof.Rows.callWith_type1 (thn fX λus s1 ⟨vs,H1,I1,r1,q1⟩=>?_) hs rfl));obtain⟨l,xs,e,hq,q⟩:=q1;subst e;cases r1 with
 | cons r rr=>
  cases rr;cases r;obtain⟨its,rv,p1,hz⟩:=I1.list hq;have hlt:l<s1.heap.objs.size:=by obtain⟨_,_,e,_⟩:=p1;exact zS e
  refine call_enumerate_list p1.isList λh' a1 a2 a3 hk=>?_;refine wpAny_pyIter_enum a1 ?_;refine⟨Bn,[Bn,s1.heap.objs.size],_,_,H1,rfl,QE,qdR l _ _ (Nat.succ_ne_self _) (zt (yS hlt)) MV,⟨⟨_,a1⟩,a2⟩,λc hc=>?_,q⟩;have hle:s1.heap.objs.size<=c:=by
   simp only[zI,zg,or_false]at hc;simp only[vC]at *;omega
  exact I1.fpOk hle Va
end L2
namespace Hk
open PySem L2
noncomputable def WS:Nat->List D->List D
 | i,a::as=>.tup [lI,a]::WS (i+1) as
 | _,[]=>[]
theorem q5u:∀(i:Nat)(as:aM),(WS i as).length=as.length
 | i,a::as=>by show (WS (i+1) as).length+1=_;rw[q5u];rfl
 | i,[]=>rfl
theorem q8q:∀(k:Nat)(as:aM)(i:Nat)(d:D),(WS k as)[i]?=some d->∃a,as[i]?=some a/\d=.tup [.int ((k+i:Nat):Int),a]
 | k,a::as,0,d,h=>by cases h;exact⟨a,rfl,rfl⟩
 | k,a::as,i+1,d,h=>by
  obtain⟨b,h1,h2⟩:=q8q (k+1) as i d h;exact⟨b,h1,by rw[h2];congr 4;omega⟩
 | k,[],i,d,h=>by cases h
theorem qdH{K:zC}{G:Hp}{a:vC}{ds:aM}{vs:br}(h1:Vc)(h2:Ak):IterOf K ab5 G (WS 0 ds):=by
 have l1:=h2.len;refine⟨Hb,iX,λH s=>⟨vs,L6,?_⟩⟩
 ·rw[q5u]at hi
  exact⟨vs,vs[i]'∅,L6,zD _⟩
 ·obtain⟨t,x1,ht,rfl,rfl,y⟩:=hy
  have e1:=y vs Sz;obtain⟨p,f1,rfl⟩:=q8q 0 ds i d hd;obtain⟨v,q1,q2⟩:=h2.get f1;rw[e1]at q1;cases q1;have x2:=Ext.lay s1 ht ac5;exact⟨_,x2,⟨t,_,rfl,qf,Yr.cons (by show (.int i:V)=.int ack;rw[xz]) (Yr.cons (q2.mono KI) Yr.nil)⟩⟩
 ·rw[q5u];exact zx ∅
noncomputable def iEn(g:FA):FI:=λω=>(g ω).bind λds=>match ds with
 | [.lst a]=>some (WS 0 a)
 | _=>none
theorem qbY{X:Cx}{a:vP}{g:FA}{p pos tpos:Pos}{elts:iI}{kx}(hg:Me)(hm:EL)(ha:XA X [a] g)(hs:DG:=by rfl):
  XI X kJ FJ (iEn g):=by
 obtain⟨⟨t,h1,h2⟩,_⟩:=ha;refine⟨_,qcs hg hm h1 hs,iJ⟩;obtain⟨vs,q,e⟩:=bnd e;refine h2 G0 H0 G ω σ H vs _ o q λus G1 H1 x1 y1=>?_
 match vs,e with
 | [.lst as],e=>
  cases e;obtain⟨v1,r1,rfl,z1,z2⟩:=y1;cases (show r1=[]from z2);obtain⟨a1,ws1,rfl,f1,f2⟩:=z1;exact⟨a1,ws1,rfl,TJ,k _ G1 H1 x1 (qdH f1 f2)⟩
noncomputable def enI(o:lH):Option aM:=o.bind λds=>match ds with
 | [.lst a]=>some (WS 0 a)
 | _=>none
theorem qcV{fa:FA}{ω:WSt}:iEn fa ω=enI Kh:=rfl
theorem qcF{ds:aM}:enI (some [gK])=some (WS 0 ds):=rfl
section
open PyProof.Rows PySem.Spec
variable{prog:vS}{w:vX}{A:vc}{E:vB->vF->Prop}{s:vF}{l:vC}{xs:Array (Int×Tok)}
end
section
variable{X:Cx}
open PyProof.Rows PySem.Spec
end
end Hk
namespace Hk
open PySem PySem.Spec PyProof.Rows L2
section
variable{prog:vS}{w:vX}{A:vc}{E:vB->vF->Prop}{s:vF}
end
end Hk
namespace L2
open PySem PySem.Spec PyProof.Rows Hk
end L2
namespace Hk
open PySem L2
end Hk
namespace L2
open PySem PySem.Spec PyProof.Rows
noncomputable def Itk(a:vC)(ob:Obj)(kvs:fH):It :=
 ⟨λi H=>H a=some jw/\i<kvs.length,λi H x H'=>H'=H/\∃n v,kvs[i]?=some (abV,v)/\x=.int n,λi H=>H a=some jw/\kvs.length<=i⟩
theorem qdE{X:Cx}{pins:aC}{σ:St}{H:Hp}{s:vF}{a:vC}{ob:Obj}{kvs:fH}{es0:NT}{ep:Nat}(I:aj)(h:H a=some jw)(hd:Uz):
  Dp=false/\∃vs,KV kvs vs/\s.heap.DictAt pJ a vs ep:=by
 obtain⟨e,_,lo,vs,r,o,es,ep',e',c1,c2,c3⟩:=(show Y2 X.prog X.w H s.heap a jw from I.hok a _ h);refine⟨lo,vs,r,o,es,e',c1,?_,c3⟩;rw[e]at e';cases e';rw[hd]at c2;cases c2;exact hd
theorem qdM{P:vS}{w:vX}{K:zC}{tg:vP}{ob:Obj}{kvs:fH}{es0:NT}{ep:Nat}(a it:vC)(hne:a≠it)(hd:Uz)(hk:∀p∈kvs,∃n:Int,p.1=pN):
  Turn P w K tg ac2 [it] it (λi h=>h.IsKeyIter it a i kvs.length ep) where
 mem:=by simp
 obj:=λi h st b hb=>by
  have e:b=it:=by simpa using hb
  subst e;obtain⟨o,e,c,d⟩:=st;exact⟨o,e,λv z=>by rw[d]at z;cases z⟩
 keep:=λi h h' st k=>st.at λo e=>k it (by simp) o e
 item:=by
  intro X hP hw hK hc i pins s σ H E I hf st hg;subst hP hw hK;obtain⟨hq,hi⟩:=hg;obtain⟨lo,vs,r,hm⟩:=qdE I hq hd;have hl:kvs.length=vs.length:=by have:=vn yZ r.keys;simpa using this
  obtain⟨⟨k,v⟩,hx⟩:∃p,kvs[i]?=some p:=⟨kvs[i],zD hi⟩;obtain⟨n,rfl⟩:=hk _ (zw hx);obtain⟨⟨k',u⟩,hu⟩:∃p,vs[i]?=some p:=⟨vs[i]'∅,zD _⟩;have ek:k'=pN:=by
   have h1:(kvs.map (·.1))[i]?=some abV:=by rw[zX,hx];rfl
   rw[r.keys,zX,hu]at h1;exact zr h1
  subst ek;obtain⟨f0,f1,f2,f3,f4,f5⟩:=hf it (by simp);rw[hl]at st;refine wpAny_pyNext_dict_item st hm hu λkey h' hkey st' sb=>?_;have I1:Inv X pins σ H { s with heap:=h' }:=I.turned (t':=s.toks) rm f0 f1 f3 f4 f5;obtain⟨t,rfl⟩:∃t,key=.int n t:=by
   rcases qP (k:=pN) hkey with⟨i,t,e4,rfl⟩|⟨x,t,e4,_⟩
   ·cases e4;exact Mm
   ·cases e4
  obtain⟨o,e,c,d⟩:=id st';rw[<- hl]at st';exact⟨.int n t,rfl,q9c (s:={ s with heap:=h' }) e c d (by decide) ⟨aY,H,I1,Mm,⟨rfl,n,v,hx,rfl⟩,st',BC⟩⟩
 done:=by
  intro X hP hw hK hc i pins s σ H E I hf st hg;subst hP hw hK;obtain⟨hq,hi⟩:=hg;obtain⟨lo,vs,r,hm⟩:=qdE I hq hd;have hl:kvs.length=vs.length:=by have:=vn yZ r.keys;simpa using this
  obtain⟨f0,f1,f2,f3,f4,f5⟩:=hf it (by simp);rw[hl]at st;exact wpAny_pyNext_dict_end fO st hm Uc λh' eb=>df
 self:=λ_ _ _ _ _ st h=>wpAny_pyIter_keyiter st h
noncomputable def iKeys(tl:TE):TI:=λσ H R=>tl σ H λv H1=>∃a ob kvs,v=.ref a/\H1 a=some jw/\(∀p∈kvs,∃n:Int,p.1=pN)/\R ac2 H1
theorem qiI{X:Cx}{tg l:vP}{tl:TE}(hl:PE X l tl):PI X tg l (iKeys tl):=by
 intro pins s σ H R I h;refine thn EH λv s1 ⟨x,H1,I1,r1,q1⟩=>?_;obtain⟨a,ob,kvs,e,hq,hk,q⟩:=q1;subst e;cases r1;obtain⟨e0,_,lo,vs,r,o,es,ep,e',c1,c2,c3⟩:=(show Y2 X.prog X.w H1 s1.heap a jw from I1.hok a _ hq);have hob:ob.data=.dict es ep:=by rw[e0]at e';cases e';exact c2
 have hm:s1.heap.DictAt pJ a vs ep:=⟨o,es,e',c1,c2,c3⟩;have hlen:kvs.length=vs.length:=by have:=vn yZ r.keys;simpa using this
 have hlt:a<s1.heap.objs.size:=zS e0;refine wpAny_pyIter_dict lo hm ?_;refine⟨s1.heap.objs.size,IH,_,_,H1,rfl,I1.kept (t':=s1.toks) λb o e=>zF _ e,qdM a _ MV hob hk,⟨_,zW _ rfl,rfl,by rw[hlen];rfl⟩,mJ,q⟩;have e:b=s1.heap.objs.size:=by simpa using hb
 subst e;exact I1.fpOk cP rS
end L2
namespace Hk
open PySem L2
theorem q8M:∀{ks:ac}{vs:br}{i:Nat}{n:Int}{v:V},(kvsOf ks vs)[i]?=some (abV,v)->ks[i]?=some n
 | [],_,_,_,_,h=>by cases h
 | _::_,[],_,_,_,h=>by cases h
 | k::ks,v::vs,0,n,u,h=>by cases h;rfl
 | k::ks,v::vs,i+1,n,u,h=>q8M (ks:=ks) (vs:=vs) h
theorem q8h:∀{ks:ac}{vs:br},∀p∈kvsOf ks vs,∃n:Int,p.1=pN
 | [],_,_,h=>by cases h
 | _::_,[],_,h=>by cases h
 | k::ks,v::vs,p,h=>by
  rcases zI.mp h with rfl|h
  ·exact⟨k,rfl⟩
  ·exact q8h p h
theorem qf4{K:zC}{G:Hp}{a:vC}{ob:Obj}{ks:ac}{vs:br}(h1:G a=some (.frz ob jZ))(hl:VN):IterOf K (Itk a ob Io) G Nj:=by
 have l1:=q2A hl;refine⟨λH i s hi=>⟨s _ _ h1,by rw[zB]at hi;omega⟩,iX,λH s=>⟨s _ _ h1,by rw[zB];omega⟩⟩;obtain⟨e,n,v,q1,q2⟩:=hy;subst e q2;have:=q8M q1;rw[zX,this]at hd;cases hd;exact⟨G2,Vd,rfl⟩
noncomputable def zBN:Option bS->Option aM
 | some ↥(.dic ks _)=>some Nj
 | _=>none
noncomputable def iDk(i:Nat):FI:=λω=>zBN ω[i]?
theorem qi4{X:Cx}{tg o:vP}{i:Nat}(ho:kw):XI X tg o (iDk i):=by
 refine⟨_,qiI ho,λG0 H0 G ω σ H ds R ow e k=>?_⟩;unfold iDk zBN at e
 split at e
 ·rename_i ks ds' q
  cases e;obtain⟨v,h1,p,vs,rfl,⟨ob,h2⟩,h3,h4⟩:=ow.sh i _ q;exact⟨bE,h1,p,ob,_,rfl,ow.gh _ _ h2,q8h,k _ G H aaR (qf4 h2 (by rw[h3];exact h4.len))⟩
 ·cases e
end Hk
namespace L2
open PySem PySem.Spec PyProof.Rows
section
variable{X:Cx}{pins:List (vC×Obj)}{σ:St}{H:Hp}{s:vF}{a:vC}{A:vc}{E:vB->vF->Prop}{kvs:List (Key×V)}{k:Key}{u r:vB}{z:V}
theorem qfN{Q:aO}(I:aj)(e:MJ)(hz:VM)(ry:RelV UF u)(rz:RelV z r)(h1:∀v w' s',WX kvs k=some v->Inv X pins σ H s'->RelV v w'->Q w' s')(h2:WX kvs k=none->∀s',Inv X pins σ (upd H a SR) s'->Q r s'):
  vM ai A (call (.builtin "dict.setdefault") [dJ,u,r]) Q E s:=by
 obtain⟨zl,hd,vs,rel,dd⟩:=qcT I.hok e;have rv:=rel.val k;refine sH PySem.F.slot_dict_setdefault dd.typeIs PySem.F.entry_dict_setdefault (PySem.F.args_dict_setdefault_3 _ _ _) (kt_meets_setdefault pJ a M9 hd r)
  ⟨vs,dd,by rw[<- rel.length];exact zl,λv hv=>?_,λhn h' dd' hs=>?_⟩
 ·rw[hv]at rv
  cases q:WX kvs k with
  | none=>rw[q]at rv;exact rv.elim
  | some v0=>rw[q]at rv;exact h1 v0 v _ q ka rv
 ·rw[hn]at rv
  cases q:WX kvs k with
  | some v0=>rw[q]at rv;exact rv.elim
  | none=>
   refine h2 q _ ?_;have he:∃q,h'.get? a=some q:=let ⟨q,_,_,hq,_⟩:=dd';Oj
   have hl:(putK kvs k z).length<=sizeLine:=by rw[qfH z q,zE,zq];exact hz
   exact q5T I (by rw[e];exact True.intro) hs he (q9A hl hd (rel.put k rz) dd')
end
noncomputable def tDSd(td ty tx:TE):TE:=λσ H Q=>td σ H λx H1=>∃a,x=.ref a/\IsD H1 a/\ty σ H1 λy H2=>tx σ H2 λz H3=>∃kvs k,H3 a=some cX/\y=kV k/\kvs.length<sizeLine /\
 (∀v,WX kvs k=some v->Q v H3)/\(WX kvs k=none->Q z (upd H3 a SR))
theorem qjC{X:Cx}{o e f:vP}{apos cpos:Pos}{td ty tx:TE}(ho:L9)(he:PE X e ty)(hf:PE X f tx)(m:M2 X o "setdefault" apos e f cpos):PE X (.Call (.Attribute o "setdefault" apos) [e,f] [] cpos) (tDSd td ty tx):=by
 intro pins s σ H Q I h;refine wpAny_Call_method m.base m.few m.line PySem.F.plainAttrs_dict PySem.F.slot_dict_setdefault PySem.F.type_dict_setdefault (thn j9 λu s1 ⟨x,H1,I1,rx,a,ex,d,q1⟩=>?_);subst ex;obtain rfl:u=Value.ref a:=rx;obtain⟨t1,t2,_⟩:=qdt I1 d;refine⟨t1,t2,?_⟩;rw[m.trees];refine Calls.callWith_builtin rfl (Calls.evalArgs_plain (Calls.spliced_cons (thn No λiv s2 ⟨y,H2,I2,ry,q2⟩=>
  Calls.spliced_cons (thn Nn λfv s3 ⟨z,H3,I3,rz,kvs,k,ea,ey,hz,g1,g2⟩=>Calls.spliced_nil ?_))))
 subst ey;exact qfN I3 ea hz ry rz (λv w' s4 hv I4 rw'=>⟨v,H3,I4,rw',g1 v hv⟩) λhn s4 I4=>⟨z,_,I4,rz,g2 hn⟩
end L2
namespace Hk
open PySem L2
theorem q0U{α:Type}:∀{ks:ac}{xs:bJ}{k:Int},ks.length=xs.length->(Y0 ks xs k).isSome=decide (k∈ks)
 | [],[],k,_=>by simp[Y0]
 | [],_::_,_,h=>by simp at h
 | _::_,[],_,h=>by simp at h
 | k'::ks,x::xs,k,h=>by
  show (if k'=k then some x else Y0 ks xs k).isSome=_
  by_cases z:k'=k
  ·rw[gR,vO (by rw[z];exact zG)];rfl
  ·rw[gE,q0U ⇑h]
   have:(k∈k'::ks)↔k∈ks:=⟨λm=>(zI.mp m).resolve_left λe=>z e.symm,zH _⟩;rw[decide_eq_decide.mpr this]
theorem q88{α:Type}{v:α}:∀{ks:ac}{xs:bJ}{k:Int},ks.length=xs.length->k∉ks->Y0 Hs (xs++[v]) k=some v
 | [],[],k,_,_=>vH rfl
 | [],_::_,_,h,_=>by simp at h
 | _::_,[],_,h,_=>by simp at h
 | k'::ks,x::xs,k,h,hk=>by
  show (if k'=k then some x else Y0 Hs (xs++[v]) k)=some v;rw[vJ (λz=>hk (by rw[z];exact zG))];exact q88 ⇑h λm=>hk (zH _ m)
noncomputable def Xg(st:List Int×List ac)(n:Int)(a:Int):List Int×List ac :=
 if a∈st.1 then (st.1,WW st.1 st.2 a n)else (st.1++[a],WW (st.1++[a]) (st.2++[[]]) a n)
noncomputable def byS(as:ah):Nat->List Int×List ac
 | 0=>([],[])
 | n+1=>match as[n]? with
  | some a=>Xg Nu n a.1
  | none=>byS as n
noncomputable def spT(K:zC):Sp:=λvs H Q _=>∃(G:Hp) (as:ah),Yx G H/\Yr K G [a8] vs/\as.length<=9000 /\
 ∀G' p ls H',Ext G H G' H'->Tab G' H H' p (byS as as.length).1 ls (byS as as.length).2->Q bE H'
theorem qho(as:ah):∀n:Nat,(byS as n).1.length<=n/\∀xs∈(byS as n).2,xs.length<=n
 | 0=>⟨cP,λxs h=>by cases h⟩
 | n+1=>by
  obtain⟨h1,h2⟩:=qho as n;unfold byS;cases q:as[n]? with
  | none=>exact⟨by show (byS as n).1.length<=_;omega,λxs hx=>by have:=h2 xs hx;omega⟩
  | some a=>
   show (Xg Nu n a.1).1.length<=_/\∀xs∈(Xg (byS as n) n a.1).2,_;unfold Xg
   split
   ·exact⟨by show (byS as n).1.length<=_;omega,q4r n _ _ _ _ h2⟩
   ·refine⟨by show ((byS as n).1++[a.1]).length<=_;rw[zE,zq];omega,q4r n _ _ _ _ λxs hx=>?_⟩
    rcases zR.mp hx with y|y
    ·exact h2 xs y
    ·cases zV.mp y;exact yA _
section
variable{K:zC}{G0:Hp}{H0:Fr}{G:Hp}{ω:WSt}{σ:St}{H:Hp}
end
theorem noOw4{d0 d2 d3:fh}:X3 [d0.map W.sh,none,d2.map W.sh,d3.map W.sh]:=by
 intro i w h
 match i,h with
 | 0,h=>cases d0 <;> cases h;exact bK
 | 1,h=>cases h
 | 2,h=>cases d2 <;> cases h;exact bK
 | 3,h=>cases d3 <;> cases h;exact bK
 | i+4,h=>simp at h
section
variable{X:Cx}
theorem qhW{ta:TE}{g0:FD}(k2:zA1 X.K ta g0){G0:Hp}{H0:Fr}{G:Hp}{ω:WSt}{σ:St}{H:Hp}{p:vC}{ks:ac}{ls:eJ}{xss:eS}{a n:Int}{Q:VK}(o:Rk)(no:Px)(s1:σ[1]?=some fP)(s2:σ[2]?=some (some aY))(T:ef)(h0:g0 ω=some cM)(hk:KM)(hz:∀xs∈xss,xs.length<1000000)(h:∀G' H' ls',Own X.K G0 H0 G' ω σ H'->Yx G G'->Tab G' H0 H' p (Xg (ks,xss) n a).1 ls' (Xg (ks,xss) n a).2->Q .non H'):
  tBM X.K "list" Xx (tDSd UX ta KA) (WY GN zAA) σ H Q:=by
 have hlen:ks.length=(ls.map V.ref).length:=by rw[zB];exact T.len
 refine⟨bE,s1,p,rfl,.inl ⟨_,.inl T.dict⟩,k2 G0 H0 G ω σ H _ _ o h0 λu G1 H1 x1 y1=>?_⟩;cases (show u=.int a from y1);have o1:=o.keep x1;have T1:=T.keep x1;refine⟨by show 0<=sizeLine;exact yA _,λq hq=>?_⟩;have hpq:p≠q:=λz=>by rw[<- z,T1.dict]at hq;cases hq
 have x2:=Ext.hide o1.gh hq jR;have o2:=o1.keep x2;have T2:=T1.keep x2;have vv:WX AS pO=Y0 ks eV a:=q0A hlen a;refine⟨kvsOf ks eV,Sum.inl a,T2.dict,rfl,by rw[q2A hlen,vh];omega,λv hv=>?_,λhn=>?_⟩
 ·
  have ha:a∈ks:=by
   have:=q0U (ks:=ks) (xs:=ls.map V.ref) (k:=a) hlen;rw[vv]at hv;rw[hv]at this;exact of_decide_eq_true this.symm
  obtain⟨l,xs,n1,n2,n3,n4,n5,n6⟩:=T2.app n ha;rw[vv,n3]at hv;cases hv;refine⟨.inl ⟨rfl,_,SqL.of n5⟩,.int n,s2,l,_,.int n,rfl,rfl,n5,by rw[zB,vh];have:=hz xs n2;omega,?_⟩;rw[show xs.map V.int++[V.int n]=(xs++[n]).map V.int by rw[zO];rfl];refine h G1 _ ls EE x1.gg ?_;unfold Xg;rw[vH ha];exact n6
 ·have ha:a∉ks:=λha=>by
   have:=q0U (ks:=ks) (xs:=ls.map V.ref) (k:=a) hlen;rw[vv]at hn;rw[hn,vO ha]at this;cases this
  obtain⟨H4,_,e4,T4⟩:=T1.put (l:=q) ha hq o1.gh o1.ext.hh hk;have ep:putK AS (Sum.inl a) (.ref q)=kvsOf Pv Rw:=by
   rw[q5e hlen];unfold WF putA;rw[vJ ha,vJ ha,zO];rfl
  rw[ep,<- e4];have gp:=T1.gp;have gq:G1 q=none:=o1.gh.free hq;have h0q:H0 q=none:=o1.ext.hh.free hq;have o4:Own X.K G0 H0 G1 ω σ H4:=by rw[e4];exact o2.free no T1.gp T1.hp
  obtain⟨l,xs,n1,n2,n3,n4,n5,n6⟩:=T4.app n (a:=a) (by simp);have hq4:H4 q=some jR:=by rw[e4,qd (Ne.symm hpq)];exact qf
  have lq:l=q:=by
   have:Y0 Pv Rw a=some (.ref q):=by
    rw[zO];exact q88 hlen ha
   rw[this]at n3;cases n3;rfl
  subst lq;rw[hq4]at n5;have xe:xs=[]:=by
   cases xs with
   | nil=>rfl
   | cons y ys=>cases n5
  subst xe;refine⟨.inl ⟨rfl,_,SqL.of hq4⟩,.int n,s2,l,_,.int n,rfl,rfl,hq4,by show 0<sizeLine;rw[vh];omega,?_⟩;refine h G1 _ (ls++[l]) (o4.free no gq h0q) x1.gg ?_;unfold Xg;rw[vJ ha];exact n6
theorem qi5{x1 x2 x3:Str}{o0 o1 e0 e1 e2:vP}{q1 q2 q3 q4 q5 q6 q9 q12 q15 a1 a2 c1 c2 ep ec tp:Pos}{kx}{g0:FD}(hp:lC)(hc:b0)(hN:X.N.Nodup)(i1:X.N[1]?=some x1)(i2:X.N[2]?=some x2)(i3:X.N[3]?=some x3)(l1:Loc X.env.scope x1)(l2:aaP)(l3:aaO)(f1:X.fn x1=true\/X.env.scope.names.lookup x1=some .local)(f2:BK)(f3:BJ)(hge:Me)(hme:EL)(h0:PE X o0 (XU 0))(h1:PE X o1 UX)(h2:PE X e1 GN)(h3:PE X e2 UX)(ha:XD X e0 g0)(hg0:∀(ω:WSt)e,ω[3]?=some Hg->g0 ω=some GV)(hl:X.N.length=4)(m2:M2 X o1 "setdefault" a1 e0 Jo c1)(s1:v6 En (some (.Name x1 q2)) q3.line X.env=pure false)(sE:vK [o0] X.env=[(false,eval o0 X.env)])(ab:uE cu "append" X.env (eval cu X.env)=eval cu X.env)(w1:((vZ c2 abj).all (λx=>!x.1)&&(v7 c2 m6).all jL&&decide (([e1]:List vP).length+([]:List uI).length+(if ([]:List uI).isEmpty then 0 else 1)<30))=true)(z1:Pg)(t1:Dl)(p1:(vZ c2 bP).any (·.1)=false)(v1:v6 DB none q9.line X.env=pure false)(pg:∀t,PGs X Dr t->PG X V6 (gTup X.K 2 t))(y1:∀x,uC Fi X.env x=pure x){vs:br}{H:Hp}{Q:VK}{E:XK}(sp:spT X.K vs H Q E):
  ∃t,PSs X [.Assign [.Name x1 q2] En q3,.For V6 Fi [.Expr DB q9] [] q12,.Return (some e2) q15] t /\
   t { nx:=λ_ H'=>Q .non H',rt:=Q } (L2.start X.N vs) H:=by
 obtain⟨ta,k1,k2⟩:=ha;refine⟨_,qO (q0k hN i1 l1 q6y s1 f1) (qO (q7n hp hc (qcs hge hme (qB h0 qC sE) sE) (pg _ (q6Z (q4l hN i2 l2 f2) (q6Z VH qbp)))
  (q0V (q1l (q38 PySem.F.plainAttrs_list PySem.F.slot_list_append PySem.F.type_list_append q18 (qjC h1 k1 Na m2) (qB h2 qC t1) ab w1 z1 t1 p1) v1)) y1) (q0V (q5I h3))),?_⟩
 obtain⟨G,as,sg,rp,hlen,fin⟩:=sp;obtain⟨v0,rfl,A0,vs0,rfl,r1,r2⟩:=rp.one;have hl0:as.length=vs0.length:=by have:=r2.len;rw[zB]at this;exact this
 have hst:L2.start X.N [V.ref A0]=Lv:=by
  unfold L2.start;rw[hl];rfl
 rw[hst];intro p hp0;have no0:X3 II:=noOw4 (d0:=some a8) (d2:=none) (d3:=none);have o0:Own X.K G Cw G II Lv H:=by
  refine gc
  match i,h with
  | 0,h=>cases h;exact⟨_,rfl,A0,vs0,rfl,r1,r2⟩
  | 1,h=>cases h
  | 2,h=>cases h
  | 3,h=>cases h
  | i+4,h=>simp at h
 have o1:Own X.K G Cw G II [some (.ref A0),fP,none,none] mK:=(o0.free no0 (sg.free hp0) hp0).other (i:=1) no0 λw z=>by cases z
 have T0:Tab G H mK p (byS as 0).1 [] (byS as 0).2:=⟨qf,sg.free hp0,hp0,rfl,rfl,λj l xs h=>(by simp at h),λl h=>(by cases h),xa⟩;refine⟨.ref A0,rfl,A0,vs0,rfl,SqL.of acL,λi m σ' H'=>∃(G':Hp) (ls:eJ) (y2 y3:fh),Own X.K G Cw G' Ki σ' H'/\Yx G G'/\σ'[1]?=some fP/\Tab G' H H' p (byS as i).1 ls (byS as i).2/\i<=as.length/\m=as.length-i,
  ⟨_,G,[],none,none,o1,io,rfl,T0,Cf,rfl⟩,?_⟩
 rintro i m σ' H' ⟨G',ls,y2,y3,o2,g2,s12,T2,hi,rfl⟩;have hq:=o2.gh _ _ (g2 _ _ r1)
 by_cases hlt:i<as.length
 ·refine .inr ⟨⟨vs0,vs0[i]'∅,Oa,zD _⟩,λσ3 H3=>∃(G':Hp) (ls:eJ) (y2 y3:fh),Own X.K G Cw G' Ki σ3 H3/\Yx G G'/\σ3[1]?=some fP/\Tab G' H H3 p (byS as (i+1)).1 ls (byS as (i+1)).2,
   λσ3 H3 ⟨G3,ls3,z2,z3,b1,b2,b3,b4⟩=>⟨as.length-(i+1),∅,G3,ls3,z2,z3,b1,b2,b3,b4,hlt,rfl⟩,λx H3 hy=>?_⟩
  obtain⟨t,w1',ht,rfl,rfl,hy⟩:=hy;have hy:=hy _ Oa;have x3:=Ext.hide o2.gh ht acb;have o3:=o2.keep x3;have T3:=T2.keep x3;refine⟨t,_,rfl,SqT.of qf,rfl,lI,_,rfl,?_⟩;refine⟨w1',_,rfl,rfl,?_⟩;obtain⟨u,e1,e2⟩:=r2.get (i:=i) (d:=Ym as[i]) (by rw[zX,J8];rfl);rw[hy]at e1;cases e1;have o4:=(o3.setSh (i:=2) (d:=.int i) (v:=.int i) rfl).setSh (i:=3) (d:=Ym as[i]) (v:=w1') (e2.mono g2);have o4':Own X.K G Cw G' [Aj,none,(some (D.int i)).map W.sh,(some (Ym as[i])).map W.sh] ((σ'.set 2 (some lI)).set 3 (some w1')) (upd H' t acb):=o4;have hl4:σ'.length=4:=o2.len.symm;have bd:=qho as i;refine qhW k2 o4' (noOw4 (d0:=some a8) (d2:=some _) (d3:=some _)) (by rw[zP (by decide),zP (by decide)];exact s12) (by rw[zP (by decide)];exact ye (by rw[hl4];decide)) T3 (hg0 _ as[i] rfl) ∅ (λxs hx=>by have:=bd.2 xs hx;omega) λG5 H5 ls5 o5 g5 T5=>?_;have eb:byS as (i+1)=Xg (byS as i) i as[i].1:=by
   show (match as[i]? with|some a=>Xg (byS as i) i a.1|none=>byS as i)=_;rw[J8]
  refine⟨G5,ls5,_,_,o5,g2.trans g5,by rw[zP (by decide),zP (by decide)];exact s12,?_⟩;rw[eb];exact T5
 ·have en:i=as.length:=∅
  subst en;refine .inl ⟨⟨vs0,Oa,Uc⟩,bE,s12,fin G' p ls H' ?_ T2⟩;exact⟨g2,o2.ext.gh,o2.ext.hh,o2.ext.new⟩
end
noncomputable def X0:List Int->List ac->Int->List ac
 | k::ks,x::xs,a=>if k=a then x.dropLast::xs else x::X0 ks xs a
 | _,xs,_=>xs
noncomputable def Xk(ks:ac)(xss:eS)(h:Int):List Int:=(Y0 ks xss h).getD []
theorem q7V:∀{ks:ac}{ls:eJ}{a:Int},ks.length=ls.length->a∈ks->∃(j:Nat) (l:vC),ls[j]?=some l/\Y0 ks eV a=some c9/\∀(xss:eS),xss.length=ls.length->∃xs,xss[j]?=some xs/\Y0 ks xss a=some xs/\X0 ks xss a=xss.set j xs.dropLast
 | [],_,_,_,h=>by simp at h
 | _::_,[],_,h,_=>by simp at h
 | k::ks,l::ls,a,h,ha=>by
  by_cases z:k=a
  ·refine⟨0,l,rfl,gR,λxss hx=>?_⟩
   cases xss with
   | nil=>simp at hx
   | cons x xs=>exact⟨x,rfl,gR,gR⟩
  ·have ha':a∈ks:=(zI.mp ha).resolve_left λe=>z e.symm
   obtain⟨j,l',e2,e3,e4⟩:=q7V (ks:=ks) (ls:=ls) ⇑h ha';refine⟨j+1,l',e2,?_,λxss hx=>?_⟩
   ·show (if k=a then _ else _)=_
    rw[gE];exact e3
   ·cases xss with
    | nil=>simp at hx
    | cons x xs=>
     obtain⟨y,h1,h2,h3⟩:=e4 xs ⇑hx;refine⟨y,h1,?_,?_⟩
     ·show (if k=a then _ else _)=_
      rw[gE];exact h2
     ·show (if k=a then _ else x::X0 ks xs a)=_
      rw[gE,h3];rfl
theorem Tab.pop{G H0 H:Hp}{p:vC}{ks:ac}{ls:eJ}{xss:eS}(T:ef){a:Int}(ha:a∈ks):
  ∃(l:vC) (xs:ac),l∈ls/\Y0 ks xss a=some xs/\W0 H p cM l7/\H l=some FC/\Tab G H0 (upd H l (.lst (xs.dropLast.map V.int))) p ks ls (X0 ks xss a):=by
 obtain⟨j,l,e2,e3,e4⟩:=q7V T.len ha;obtain⟨xs,e5,e7,e6⟩:=e4 xss T.len2.symm;have hl:l∈ls:=zw e2;have hlp:p≠l:=λz=>T.pl (z▸hl);have g:=W0.k (k:=pO) T.dict;rw[q0A (by rw[zB];exact T.len),e3]at g;refine⟨l,xs,hl,e7,g,aaN,?_⟩;rw[e6];refine⟨by rw[qd hlp];exact T.dict,T.gp,T.hp,T.len,by rw[yR];exact T.len2,λi m ys h1 h2=>?_,T.gl,T.nd⟩;rcases qe h2 with⟨rfl,_,rfl⟩|⟨ne,h3⟩
 ·rw[e2]at h1
  cases h1;exact qf
 ·have hm:m≠l:=λz=>by
   subst z;obtain⟨i1,i2⟩:=zc.mp h1;obtain⟨j1,j2⟩:=zc.mp e2;exact ne Jq
  rw[Lo];exact T.lst i m ys h1 h3
theorem Tab.beside{G H0 H:Hp}{p q:vC}{ob:HO}{ks:ac}{ls:eJ}{xss:eS}(T:ef)(h1:q≠p)(h2:q∉ls):Tab G H0 (upd H q ob) p ks ls xss :=
 ⟨by rw[qd (Ne.symm h1)];exact T.dict,T.gp,T.hp,T.len,T.len2,λj l xs e1 e2=>by
  have hn:l≠q:=λz=>h2 (by rw[<- z];exact zw e1);rw[qd hn];exact T.lst j l xs e1 e2,T.gl,T.nd⟩
noncomputable def Xv(as:ah)(ks:ac):Nat->List ac->List Int->List Int->Int->Option ac
 | 0,_,_,_,_=>none
 | n+1,xss,T,B,h=>match (Xk ks xss h).getLast? with
  | some k=>if 0<=k/\k<as.length/\T.length<1000000 then Xv as ks n nj (T++[k]) B (as.getD k.toNat (0,0)).2 else none
  | none=>match T.getLast? with
   | some k=>if 0<=k/\k<as.length/\B.length<1000000 then Xv as ks n xss T.dropLast SJ (as.getD k.toNat (0,0)).1 else none
   | none=>some B.reverse
structure RfS (K:zC) (G0:Hp) (H0:Fr) (G:Hp) (s:Int) (as:List (Int×Int)) (p t b:vC) (ks:List Int) (ls:List vC) (xss:List (List Int)) (T B:List Int) (h:Int) (y:Option D) (σ:St) (H:Hp):Prop where
 o:Own K G0 H0 G [some (W.sh (.int s)),↥(.lst (as.map Ym)),none,none,none,↥(.int h),y.map W.sh] σ H
 s2:σ[2]?=some (some (.ref p))
 s3:σ[3]?=some (some (.ref t))
 s4:σ[4]?=some (some (.ref b))
 s5:σ[5]?=some (some (.int h))
 tab:Tab G H0 H p ks ls xss
 ht:H t=some (.lst (T.map V.int))
 gt:G t=none
 ht0:H0 t=none
 hb:H b=some (.lst (B.map V.int))
 gb:G b=none
 hb0:H0 b=none
 tb:t≠b
 tl:t∉ls
 bl:b∉ls
theorem noOw7{d0 d1 d5 d6:fh}:X3 [d0.map W.sh,d1.map W.sh,none,none,none,d5.map W.sh,d6.map W.sh]:=by
 intro i w h
 match i,h with
 | 0,h=>cases d0 <;> cases h;exact bK
 | 1,h=>cases d1 <;> cases h;exact bK
 | 2,h=>cases h
 | 3,h=>cases h
 | 4,h=>cases h
 | 5,h=>cases d5 <;> cases h;exact bK
 | 6,h=>cases d6 <;> cases h;exact bK
 | i+7,h=>simp at h
section
variable{K:zC}{G0:Hp}{H0:Fr}{G:Hp}{s:Int}{as:List (Int×Int)}{p t b:vC}{ks:List Int}{ls:List vC}{xss:List (List Int)}{T B:List Int}{h:Int}{y:Option D}{σ:St}{H:Hp}
theorem RfS.no(S:aK):X3 [some (W.sh rD),↥a8,none,none,none,↥dA,y.map W.sh] :=
 noOw7 (d0:=some rD) (d1:=some a8) (d5:=some dA) (d6:=y)
theorem RfS.keep{G' H':Hp}(S:aK)(x:Ek):RfS K G0 H0 G' s as p t b ks ls xss T B h y σ H' :=
 ⟨S.o.keep x,S.s2,S.s3,S.s4,S.s5,S.tab.keep x,x.hh _ _ S.ht,x.new t S.gt (by rw[S.ht];exact λz=>by cases z),S.ht0,x.hh _ _ S.hb,x.new b S.gb (by rw[S.hb];exact λz=>by cases z),S.hb0,S.tb,S.tl,S.bl⟩
theorem RfS.tp(S:aK):t≠p/\b≠p:=by
 have h1:=S.ht;have h2:=S.hb;have h3:=S.tab.dict;refine⟨Ou,Ou⟩
 ·rw[z,h3]at h1;cases h1
 ·rw[z,h3]at h2;cases h2
theorem RfS.setT{T':ac}(S:aK):RfS K G0 H0 G s as p t b ks ls xss T' B h y σ (upd H t (.lst (T'.map V.int))) :=
 ⟨S.o.free S.no S.gt S.ht0,S.s2,S.s3,S.s4,S.s5,S.tab.beside S.tp.1 S.tl,qf,S.gt,S.ht0,by rw[qd (Ne.symm S.tb)];exact S.hb,S.gb,S.hb0,S.tb,S.tl,S.bl⟩
theorem RfS.setB{B':ac}(S:aK):RfS K G0 H0 G s as p t b ks ls xss T B' h y σ (upd H b (.lst (B'.map V.int))) :=
 ⟨S.o.free S.no S.gb S.hb0,S.s2,S.s3,S.s4,S.s5,S.tab.beside S.tp.2 S.bl,by rw[qd S.tb];exact S.ht,S.gt,S.ht0,qf,S.gb,S.hb0,S.tb,S.tl,S.bl⟩
theorem RfS.len(S:aK):σ.length=7:=S.o.len.symm
theorem RfS.setN(S:aK)(k:Int):RfS K G0 H0 G s as p t b ks ls xss T B h eQ Ot H :=
 ⟨S.o.setSh (i:=6) (d:=.int k) (v:=.int k) rfl,by rw[zP (by decide)];exact S.s2,by rw[zP (by decide)];exact S.s3,by rw[zP (by decide)];exact S.s4,by rw[zP (by decide)];exact S.s5,S.tab,S.ht,S.gt,S.ht0,S.hb,S.gb,S.hb0,S.tb,S.tl,S.bl⟩
theorem RfS.setH(S:aK)(k:Int):RfS K G0 H0 G s as p t b ks ls xss T B k y (σ.set 5 eQ) H :=
 ⟨S.o.setSh (i:=5) (d:=.int k) (v:=.int k) rfl,by rw[zP (by decide)];exact S.s2,by rw[zP (by decide)];exact S.s3,by rw[zP (by decide)];exact S.s4,ye (by rw[S.len];decide),S.tab,S.ht,S.gt,S.ht0,S.hb,S.gb,S.hb0,S.tb,S.tl,S.bl⟩
theorem RfS.popW(S:aK){l:vC}{H':HO}(hl:l∈ls){xss':eS}(T':Tab G H0 (upd H l H') p ks ls xss'):RfS K G0 H0 G s as p t b ks ls xss' T B h y σ (upd H l H') :=
 have n1:t≠l:=λz=>S.tl (by rw[z];exact hl);have n2:b≠l:=λz=>S.bl (by rw[z];exact hl)
 ⟨S.o.free S.no (S.tab.gl l hl).1 (S.tab.gl l hl).2,S.s2,S.s3,S.s4,S.s5,T',by rw[qd n1];exact S.ht,S.gt,S.ht0,by rw[qd n2];exact S.hb,S.gb,S.hb0,S.tb,S.tl,S.bl⟩
theorem qdA(S:aK){Q:kr}(q:∀H',RfS K G0 H0 G s as p t b ks ls xss T B h y σ H'->Q (!(Xk ks xss h).isEmpty) H'):
  (zA3 GN (XU 5) KA) σ H λx H'=>∃k,TruV K x H' k/\Q k H':=by
 refine⟨.ref p,S.s2,p,rfl,.inl ⟨_,.inl S.tab.dict⟩,.int h,S.s5,by show 0<=sizeLine;exact yA _,λr hr=>?_⟩;have S1:=S.keep (Ext.hide S.o.gh hr jR);have hlen:ks.length=(ls.map V.ref).length:=by rw[zB];exact S.tab.len
 have g:=W0.k (k:=abX) S1.tab.dict;rw[q0A hlen]at g;refine⟨_,g,?_⟩
 by_cases hk:h∈ks
 ·obtain⟨l,xs,e1,e2,e3,e4,_⟩:=S1.tab.pop hk
  have ev:Y0 ks eV h=some c9:=by
   obtain⟨j,l',f2,f3,f4⟩:=q7V S.tab.len hk;obtain⟨xs',f5,f7,f6⟩:=f4 xss S.tab.len2.symm;have g2:=W0.k (k:=abX) S1.tab.dict;rw[q0A hlen,f3]at g2;rcases e3 with⟨kvs,k,d1,d2,d3⟩|⟨kvs,k,b,d1,d2,_⟩
   ·rcases d1 with d1|⟨ob,d1⟩
    ·rw[S1.tab.dict]at d1
     cases d1;cases k with
     | inl i=>cases d2;rw[q0A hlen]at d3;exact d3.symm
     | inr x=>cases d2
    ·rw[S1.tab.dict]at d1;cases d1
   ·cases d2
  rw[ev];refine⟨!xs.isEmpty,?_,?_⟩
  ·refine .inl ⟨_,SqL.of e4,?_⟩
   rw[List.isEmpty_map]
  ·have:Xk ks xss h=xs:=by unfold Xk;rw[e2];rfl
   rw[<- this];exact q _ S1
 ·have ev:Y0 ks eV h=none:=by
   have:=q0U (ks:=ks) (xs:=ls.map V.ref) (k:=h) hlen;rw[vQ hk]at this;cases z:Y0 ks eV h with
   | none=>rfl
   | some v=>rw[z]at this;cases this
  have ev2:Xk ks xss h=[]:=by
   have:=q0U (ks:=ks) (xs:=xss) (k:=h) (by rw[S.tab.len];exact S.tab.len2);rw[vQ hk]at this;unfold Xk;cases z:Y0 ks xss h with
   | none=>rfl
   | some v=>rw[z]at this;cases this
  rw[ev];refine⟨false,?_,by have:=q _ S1;rw[ev2]at this;exact this⟩;exact .inl ⟨_,SqL.of qf,rfl⟩
end
noncomputable def trT(K:zC)(t:TE):TT:=λσ H Q=>t σ H λx H'=>∃k,TruV K x H' k/\Q k H'
noncomputable def zBf:TE:=zA3 GN (XU 5) KA
noncomputable def zAn(K:zC)(td:TE):TS:=zAb (zAM (tBM0 K "list" rPop (zBw GN (XU 5))) (Xy 6)) (zAb Di EV)
noncomputable def zAg(K:zC)(td:TE):TS:=zAb (zAM (tBM0 K "list" rPop (XU 3)) (Xy 6)) (zAb Dh EV)
section
variable{K:zC}{G0:Hp}{H0:Fr}{G:Hp}{s:Int}{as:List (Int×Int)}{p t b:vC}{ks:List Int}{ls:List vC}{xss:List (List Int)}{T B:List Int}{h:Int}{y:Option D}{σ:St}{H:Hp}
theorem q8z{xs:ac}{k:Int}(e:xs.getLast?=some k):(xs.map V.int)[(xs.map V.int).length-1]?=some kX/\(xs.map V.int).dropLast=xs.dropLast.map V.int:=by
 rw[List.getLast?_eq_getElem?]at e;refine⟨by rw[zB,zX,e];rfl,by rw[List.map_dropLast]⟩
theorem RfS.s6(S:aK)(k:Int):(σ.set 6 eQ)[6]?=some eQ:=ye (by rw[S.len];decide)
theorem qix{td:TE}{f:FD}(hd:zA1 K td f)(hf:∀(ω:WSt)(k:Int),ω[1]?=some ↥a8->ω[6]?=some ↥kX->0<=k->k<as.length->f ω=some k7)(S:aK){k:Int}(e:(Xk ks xss h).getLast?=some k)(k0:V1)(k1:Hu)(hT:T.length<1000000){D0:Ends}(q:∀G' σ' H',RfS K G0 H0 G' s as p t b ks ls nj (T++[k]) B (as.getD k.toNat (0,0)).2 eQ σ' H'->D0.nx σ' H'):zAn K td D0 σ H:=by
 have hk:h∈ks:=by
  have:=q0U (ks:=ks) (xs:=xss) (k:=h) (by rw[S.tab.len];exact S.tab.len2);unfold Xk at e;cases z:Y0 ks xss h with
  | none=>rw[z]at e;cases e
  | some v=>rw[z]at this;exact of_decide_eq_true this.symm
 obtain⟨l,xs,e1,e2,e3,e4,e5⟩:=S.tab.pop hk;have ex:xs.getLast?=some k:=by unfold Xk at e;rw[e2]at e;exact e
 obtain⟨m1,m2⟩:=q8z ex;refine⟨bE,S.s2,dA,S.s5,p,c9,rfl,e3,.inl ⟨rfl,_,SqL.of e4⟩,l,_,kX,rfl,rfl,e4,m1,?_⟩;rw[m2];have S1:=(S.popW e1 e5).setN k;show zAb Di EV D0 Ot _;refine⟨.ref t,S1.s3,.inl ⟨rfl,_,SqL.of S1.ht⟩,.int k,S.s6 k,t,_,.int k,rfl,rfl,S1.ht,by rw[zB,vh];omega,?_⟩;rw[show T.map V.int++[V.int k]=(T++[k]).map V.int by rw[zO];rfl];have S2:=S1.setT (T':=T++[k]);show td _ _ _;refine hd G0 H0 G _ _ _ _ _ S2.o Qk λu G1 H1 x1 y1=>?_;cases (show u=.int _ from y1);exact q G1 _ H1 Ry
theorem qiY{td:TE}{f:FD}(hd:zA1 K td f)(hf:∀(ω:WSt)(k:Int),ω[1]?=some ↥a8->ω[6]?=some ↥kX->0<=k->k<as.length->f ω=some k8)(S:aK){k:Int}(e:T.getLast?=some k)(k0:V1)(k1:Hu)(hB:B.length<1000000){D0:Ends}(q:∀G' σ' H',RfS K G0 H0 G' s as p t b ks ls xss T.dropLast SJ (as.getD k.toNat (0,0)).1 eQ σ' H'->D0.nx σ' H'):zAg K td D0 σ H:=by
 obtain⟨m1,m2⟩:=q8z e;refine⟨kN,S.s3,.inl ⟨rfl,_,SqL.of S.ht⟩,t,_,kX,rfl,rfl,S.ht,m1,?_⟩;rw[m2];have S1:=(S.setT (T':=T.dropLast)).setN k;show zAb Dh EV D0 Ot _;refine⟨.ref b,S1.s4,.inl ⟨rfl,_,SqL.of S1.hb⟩,.int k,S.s6 k,b,_,.int k,rfl,rfl,S1.hb,by rw[zB,vh];omega,?_⟩;rw[show B.map V.int++[V.int k]=(B++[k]).map V.int by rw[zO];rfl];have S2:=S1.setB (B':=B++[k]);show td _ _ _;refine hd G0 H0 G _ _ _ _ _ S2.o Qk λu G1 H1 x1 y1=>?_;cases (show u=.int _ from y1);exact q G1 _ H1 Ry
end
noncomputable def tRF(K:zC)(E:XK)(td1 td0:TE):TS :=
 zAb (zAM (zBe (spT K) [] E (WY UX zAA)) (Xy 2)) (zAb (zAM KA (Xy 3)) (zAb (zAM KA (Xy 4)) (zAb (zAM (XU 0) (Xy 5))
  (zAb (zAw (tOr (trT K (XU 3)) R1) (tIfS R1 (zAn K td1) (zAg K td0))) (tRet (tCB rLR (WY (XU 4) zAA)))))))
noncomputable def Wk(s:Int)(as:ah):Option ac:=if as.length<=9000 then Xv as (byS as as.length).1 100000 (byS as as.length).2 [] [] s else none
noncomputable def mRF:List D->Option O
 | [.int s,.lst ds]=>(pairsOf ds).bind λas=>(Wk s as).map λrow=>.fr LQ
 | _=>none
theorem ql8{K:zC}{E E':XK}{td1 td0:TE}{f1 f0:FD}(h1:zA1 K td1 f1)(h0:zA1 K td0 f0)(hf1:∀(as:ah)(ω:WSt)(k:Int),ω[1]?=some ↥a8->ω[6]?=some ↥kX->0<=k->k<as.length->f1 ω=some k7)(hf0:∀(as:ah)(ω:WSt)(k:Int),ω[1]?=some ↥a8->ω[6]?=some ↥kX->0<=k->k<as.length->f0 ω=some k8){N:dM}(hN:N.length=7){vs:br}{H:Hp}{Q:VK}(sp:spD K 2 mRF vs H Q E'):tRF K E td1 td0 { nx:=λ_ H'=>Q .non H',rt:=Q } Fa H:=by
 obtain⟨G,ds,r,e,hl,sg,rp,fin⟩:=sp
 match ds,e with
 | [.int s,.lst ds],e=>
  obtain⟨as,ea,e⟩:=bnd e;obtain⟨row,er,e⟩:=mpd e;subst e;have hds:=q51 ea;subst hds;clear ea;unfold Wk at er
  by_cases hlen:as.length<=9000
  case neg=>rw[vJ hlen]at er;cases er
  rw[vH hlen]at er;obtain⟨v0,v1,rfl,r0,r1⟩:=rp.two;cases (show v0=.int s from r0);have hst:L2.start N [V.int s,v1]=Ft:=by
   unfold L2.start;rw[hN];rfl
  rw[hst];have no0:X3 DJ:=noOw7 (d0:=some rD) (d1:=some a8) (d5:=none) (d6:=none);have o0:Own K G Cw G DJ Ft H:=by
   refine gc
   match i,h with
   | 0,h=>cases h;exact⟨_,rfl,rfl⟩
   | 1,h=>cases h;exact Oo
   | 2,h=>cases h
   | 3,h=>cases h
   | 4,h=>cases h
   | 5,h=>cases h
   | 6,h=>cases h
   | i+7,h=>simp at h
  refine⟨v1,rfl,G,as,sg,Yr.cons r1 Yr.nil,hlen,λG1 p ls H1 x1 T1=>?_⟩;have o1:=(o0.keep x1).other (i:=2) (v:=some bE) no0 λw z=>by cases z
  refine⟨by show 0<=sizeLine;exact yA _,λt ht=>?_⟩;have x2:=Ext.hide o1.gh ht jR;have o2:=(o1.keep x2).other (i:=3) (v:=some kN) no0 λw z=>by cases z
  have T2:=T1.keep x2;refine⟨by show 0<=sizeLine;exact yA _,λb hb=>?_⟩;have x3:=Ext.hide o2.gh hb jR;have o3:=(o2.keep x3).other (i:=4) (v:=some Bi) no0 λw z=>by cases z
  have T3:=T2.keep x3;have tb:t≠b:=λz=>by rw[<- z,qf]at hb;cases hb
  have tl:t∉ls:=λz=>by
   obtain⟨xs,w⟩:=T1.inn z;rw[ht]at w;cases w
  have bl:b∉ls:=λz=>by
   obtain⟨xs,w⟩:=T2.inn z;rw[hb]at w;cases w
  have o4:=o3.setSh (i:=5) (d:=.int s) (v:=.int s) rfl;have S0:RfS K G Cw G1 s as p t b (byS as as.length).1 ls (byS as as.length).2 [] [] s none [some rD,some v1,fP,some kN,some Bi,some rD,none] (upd (upd H1 t jR) b jR) :=
   ⟨o4,rfl,rfl,rfl,rfl,T3,by rw[qd tb];exact qf,o1.gh.free ht,o1.ext.hh.free ht,qf,o2.gh.free hb,o2.ext.hh.free hb,tb,tl,bl⟩
  refine⟨rD,rfl,?_⟩;generalize (byS as as.length).1=ks at S0 er;generalize (byS as as.length).2=xss at S0 er;refine⟨λm σ' H'=>∃G' xss T B h y,RfS K G Cw G' s as p t b ks ls xss T B h y σ' H'/\Xv as ks m xss T B h=some row,⟨100000,G1,xss,[],[],s,none,S0,er⟩,?_⟩;rintro m σ' H' ⟨G',xss,T,B,h,y,S,run⟩;cases m with
  | zero=>cases run
  | succ n=>
   have body:∀Hx,RfS K G Cw G' s as p t b ks ls xss T B h y σ' Hx->(T≠[]\/Xk ks xss h≠[])->∀D0:Ends,∃NN:St->Hp->Prop,(∀σ2 H2,NN σ2 H2->∃m',m'<n+1/\∃G' xss T B h y,RfS K G Cw G' s as p t b ks ls xss T B h y σ2 H2/\Xv as ks m' xss T B h=some row)/\tIfS R1 (zAn K td1) (zAg K td0) { D0 with nx:=NN,ct:=NN,bk:=D0.nx } σ' Hx:=by
    intro Hx Sx hne D0;refine⟨λσ2 H2=>∃G' xss T B h y,RfS K G Cw G' s as p t b ks ls xss T B h y σ2 H2/\Xv as ks n xss T B h=some row,λσ2 H2 z=>⟨n,yW n,z⟩,?_⟩;refine qdA Sx λHy Sy=>?_;unfold Xv at run;cases eg:(Xk ks xss h).getLast? with
    | some k=>
     rw[eg]at run;have run:(if 0<=k/\k<as.length/\T.length<1000000 then Xv as ks n nj (T++[k]) B (as.getD k.toNat (0,0)).2 else none)=some row:=run;have hne:(Xk ks xss h).isEmpty=false:=by
      cases z:Xk ks xss h with
      | nil=>rw[z]at eg;cases eg
      | cons a r=>rfl
     rw[hne];show (if (!false)=true then _ else _);rw[vH (show (!false)=true from rfl)]
     by_cases c:0<=k/\k<as.length/\T.length<1000000
     ·rw[vH c]at run
      exact qix h1 (hf1 as) Sy eg c.1 c.2.1 c.2.2 λG2 σ2 H2 S2=>Pi
     ·rw[vJ c]at run;cases run
    | none=>
     rw[eg]at run;have hem:Xk ks xss h=[]:=xi.mp eg;rw[hem];show (if (!true)=true then _ else _);rw[vJ (by decide)];cases et:T.getLast? with
     | none=>exact vN (xi.mp et) (hne.resolve_right λz=>z hem)
     | some k=>
      have run:(match T.getLast? with
       | some k=>if 0<=k/\k<as.length/\B.length<1000000 then Xv as ks n xss T.dropLast SJ (as.getD k.toNat (0,0)).1 else none
       | none=>some B.reverse)=some row:=run
      rw[et]at run;have run:(if 0<=k/\k<as.length/\B.length<1000000 then Xv as ks n xss T.dropLast SJ (as.getD k.toNat (0,0)).1 else none)=some row:=run
      by_cases c:0<=k/\k<as.length/\B.length<1000000
      ·rw[vH c]at run
       exact qiY h0 (hf0 as) Sy et c.1 c.2.1 c.2.2 λG2 σ2 H2 S2=>Pi
      ·rw[vJ c]at run;cases run
   refine⟨kN,S.s3,!(T.map V.int).isEmpty,.inl ⟨_,SqL.of S.ht,rfl⟩,?_⟩;cases T with
   | cons a r=>
    show (if (!false)=true then _ else _);rw[vH (show (!false)=true from rfl)];show (if true=true then _ else _);rw[lW];exact body H' S (.inl (by simp)) _
   | nil=>
    show (if (!true)=true then _ else _);rw[vJ (by decide)];refine qdA S λHx Sx=>?_;cases eg:Xk ks xss h with
    | cons a r=>
     show (if (!false)=true then _ else _);rw[vH (show (!false)=true from rfl)];exact body Hx Sx (.inr (by rw[eg];simp)) _
    | nil=>
     show (if (!true)=true then _ else _);rw[vJ (by decide)];have rw0:row=B.reverse:=by
      unfold Xv at run;rw[eg]at run;have run:some B.reverse=some row:=run;exact(zr run).symm
     subst rw0;refine⟨Bi,Sx.s4,b,_,rfl,Sx.hb,λSa hS=>?_⟩;have x9:=Ext.hide Sx.o.gh hS (.lst (B.map V.int).reverse);have o9:=Sx.o.keep x9;refine fin (.ref Sa) G' _ o9.ext ⟨Sa,_,rfl,Sx.o.ext.hh.free hS,Sx.o.gh.free hS,qf,?_⟩;rw[<- Z9];exact Yr.ints _
theorem qkb{ω:WSt}{e:gJ}(h:ω[3]?=some ↥(Ym e)):dOf NE ω=some GV:=by
 unfold dOf Yn vOf Yh fC;rw[h];rfl
theorem q9e{as:ah}{k:Int}(k0:V1)(k1:Hu):atI Gv k=some (Ym (as.getD k.toNat (0,0))):=by
 rw[q0n k0 (by rw[zB];exact k1)];have hk:k.toNat<as.length:=∅
 rw[xJ,zT,zD hk];rfl
theorem qks{as:ah}{ω:WSt}{k:Int}(h1:ω[1]?=some ↥a8)(h6:ω[6]?=some ↥kX)(k0:V1)(k1:Hu):
  dOf acX ω=some k7:=by
 have e:=q9e (as:=as) k0 k1;show dR (op2 oIx (vR (op2 oIx (vR (zBa ω[1]?)) (vR (zBa ω[6]?)))) (some aV))=_;rw[h1,h6];show dR (op2 oIx M0 (some aV))=_;rw[e];rfl
theorem qjS{as:ah}{ω:WSt}{k:Int}(h1:ω[1]?=some ↥a8)(h6:ω[6]?=some ↥kX)(k0:V1)(k1:Hu):
  dOf acY ω=some k8:=by
 have e:=q9e (as:=as) k0 k1;show dR (op2 oIx (vR (op2 oIx (vR (zBa ω[1]?)) (vR (zBa ω[6]?)))) (some Oc))=_;rw[h1,h6];show dR (op2 oIx M0 (some Oc))=_;rw[e];rfl
theorem qjA{X:Cx}{e1 e0:vP}{E E':XK}{f1 f0:FD}(h1:XD X e1 f1)(h0:XD X e0 f0)(hf1:∀(as:ah)(ω:WSt)(k:Int),ω[1]?=some ↥a8->ω[6]?=some ↥kX->0<=k->k<as.length->f1 ω=some k7)(hf0:∀(as:ah)(ω:WSt)(k:Int),ω[1]?=some ↥a8->ω[6]?=some ↥kX->0<=k->k<as.length->f0 ω=some k8){N:dM}(hN:N.length=7){vs:br}{H:Hp}{Q:VK}(sp:spD X.K 2 mRF vs H Q E'){sts:Ej}(hb:∀{td1 td0:TE},PE X e1 td1->PE X e0 td0->PSs X sts (tRF X.K E td1 td0)):
  ∃t,PSs X sts t/\t { nx:=λ_ H'=>Q .non H',rt:=Q } Fa H:=by
 obtain⟨td1,p1,q1⟩:=h1;obtain⟨td0,p0,q0⟩:=h0;exact⟨_,hb p1 p0,ql8 q1 q0 hf1 hf0 hN sp⟩
abbrev Cal(P:vS)(w:vX)(K:zC)(mg:bH)(base:ve)(k:Nat)(f:vC)(d:vL)(x:Str)(ps:dM)(n:Nat)(m:bG):Prop :=
 FnOk P w K mg base CX0 k f d ps (spD K n m)/\mg x=some eZ/\xK K eZ=true/\Binds K d ps []
section
variable{X:Cx}{x:Str}{pos:Pos}
theorem xc{e:vP}{es:iI}{k k0:Nat}{f:vC}{fd:vL}{ps:dM}{m:bG}{p:Pos}{g:FA}(c:Cal X.prog X.w X.K X.mg X.base k f fd x ps (e::es).length m)(hr:Ei)(ha:XA X jA g)(hk:k<=k0:=by decide)(hg:rT:=by exact rfl)(hdb:aG:=by decide)(he:aI:=by rfl)(hpl:(vZ pos iF).any (·.1)=false:=by rfl):
  XE X bZ (Yp m g):=zBr c.1 JK hg c.2.1 c.2.2.1 c.2.2.2 zBm ha hdb he hpl
theorem vE(i:Nat)(hN:X.N[i]?=some x:=by rfl)(hv:Ab:=by first|exact Or.inl rfl|exact Or.inr ax|exact Or.inr EM)(hd:aG:=by decide)(hcd:iq:=by decide):XE X jr (Yh i):=zAu i Ho
theorem vV(i:Nat)(hN:X.N[i]?=some x:=by rfl)(hv:Ab:=by first|exact Or.inl rfl|exact Or.inr ax|exact Or.inr EM)(hd:aG:=by decide)(hcd:iq:=by decide):XV X jr (vOf (Yh i)):=XE.toV (zAu i Ho)
theorem vD(i:Nat)(hN:X.N[i]?=some x:=by rfl)(hv:Ab:=by first|exact Or.inl rfl|exact Or.inr ax|exact Or.inr EM)(hd:aG:=by decide)(hcd:iq:=by decide):XD X jr (dOf (Yh i)):=XE.toD (zAu i Ho)
end
def Fd(K:zC)(x:Str)(st:vm)(f:vC):Prop:=yQ K vT x=some (some eZ)/\∃fd,Fun K x x st f fd
section
variable{P:vS}{w:vX}{K:zC}{mg:Str->Option vB}{base h:ve}{x:Str}{st:vm}{f:vC}{fd:vL}
theorem ql7{oc:vB}{od an:IT}{osl:Vf}{kV doc pm cdv ct:vB}(a:yQ K vT x=some (some eZ))(l:K.lookup f=some ⟨oc,od,.func Aw,osl⟩)(c:wU K cdv x=true)(k:xK K eZ=true):Fd K x st f:=⟨a,_,qk3 l c k⟩
theorem qm(P:vS)(w:vX)(base:ve)(X:K.In h)(G:h.Ns vT mg){x:Str}{st:vm}{f:vC}{fd:vL}{k n:Nat}{ps:dM}{m:bG}(D:Fd K x st f)(F:Fun K x x st f fd)(o:FnOk P w K mg base CX0 k f fd ps (spD K n m))(b:∀(kV doc pm:vB)(an:IT)(cdv ct:vB)(us:bC),us.length=ps.length->bindArgs Aw Bj=pure Go):Cal P w K mg base k f fd x ps n m :=
 ⟨o,wM X G D.1,F.kp,F.binds b⟩
end
noncomputable def zBp(i:Nat)(f:FD):FS:=λω=>(f ω).bind λd=>match d,ω[i]? with
 | .int m,some (some (.pw ds))=>(intsOf ds).bind λns=>(W7 m ns).map λj=>jG
 | _,_=>none
section
variable{X:Cx}{o e k:vP}{pos pos' apos cpos:Pos}{i:Nat}{fd fk fv:FD}
theorem qhQ(ho:kw)(he:Rh)(hbase:uE o "remove" X.env mj=eval o X.env:=by rfl)(hfew:((vZ cpos g7).all (λx=>!x.1)&&(v7 cpos m6).all jL
   && decide (([e]:List vP).length+([]:List uI).length+(if ([]:List uI).isEmpty then 0 else 1)<30))=true:=by rfl)
  (hline:gH=true:=by rfl) (hs:vK [e] X.env=b8::vK [] X.env:=by rfl) (hplain:(vZ cpos bP).any (·.1)=false:=by rfl)
  (hsw:v6 CH none pos.line X.env=pure false:=by rfl) :
  XS X (.Expr CH pos) (zBp i fd):=by
 obtain⟨t,h1,h2⟩:=he;refine⟨_,q1l (q38 PySem.F.plainAttrs_list PySem.F.slot_list_remove PySem.F.type_list_remove qkA ho OI hbase hfew hline hs hplain) hsw,jE⟩;obtain⟨d,q,e⟩:=bnd e;cases d with
 | int m=>
  split at e
  ·rename_i m' ds ek q2
   cases ek;obtain⟨ns,e1,e2⟩:=bnd e;clear e;have hds:=q0N e1;subst hds;obtain⟨j,hj,e3⟩:=mpd e2;cases e3;obtain⟨vs,r1,r2,r3,r4,r5,r6⟩:=ow.pw i _ q2;have hv:=r5.of_ints;subst hv;refine⟨PM,r1,.inl ⟨rfl,_,SqL.of r2⟩,h2 G0 H0 G ω σ H _ _ ow q λv G1 H1 x1 y1=>?_⟩;cases (show v=.int m from y1);have o1:=ow.keep x1;refine⟨_,ns,m,j,rfl,rfl,Bl,hj,k G1 σ _ ?_ x1.gg⟩;rw[q8Q];exact o1.mutP q2 KY
  ·cases e
 | _=>cases e
end
structure ArgW (K:zC) (G H:Hp) (ws:List W) (vs:List V):Prop where
 len:ws.length=vs.length
 sh:∀(j:Nat)d,ws[j]?=↥d->∃v,vs[j]?=some v/\Rep K G d v
 pw:∀(j:Nat)ds,ws[j]?=some (.pw ds)->∃l us,vs[j]?=some (.ref l)/\H l=some (.lst us)/\G l=none/\Yr K G ds us
 no:∀(j:Nat)w,ws[j]?=some w->(∃d,w=.sh d)\/∃ds,w=.pw ds
structure ArgI (ω:WSt) (σ:St) (is:List (Option Nat)) (ws:List W) (vs:List V):Prop where
 pw:∀(j:Nat)ds,ws[j]?=some (.pw ds)->∃i l,is[j]?=some (some i)/\vs[j]?=some (.ref l)/\σ[i]?=some (some (.ref l))/\(ω[i]?=some (some (.ow ds))\/ω[i]?=some (some (.pw ds)))
 is:∀(j:Nat)i,is[j]?=some (some i)->∃ds,ws[j]?=some (.pw ds)
noncomputable abbrev FW:=WSt->Option BM
def SimWA(K:zC)(t:TA)(is:iO)(f:FW):Prop:=∀G0 H0 G ω σ H ws(Q:lY),Own K G0 H0 G ω σ H->f ω=some ws ->
 (∀vs G' H',Ext G H G' H'->ArgW K G' H' ws vs->ArgI ω σ is ws vs->Q vs H')->t σ H Q
def XWA(X:Cx)(es:iI)(is:iO)(f:FW):Prop:=(∃t,PA X es t/\SimWA X.K t is f)/\∀ω ws,f ω=some ws->ws.length=es.length
noncomputable def wNil:FW:=λ_=>some []
noncomputable def wSh(f:FD)(g:FW):FW:=λω=>(f ω).bind λd=>(g ω).map λws=>.sh d::ws
noncomputable def pwOf(w:mI):Option aM:=match w with
 | some (some (.ow ds))=>some ds
 | some (some (.pw ds))=>some ds
 | _=>none
noncomputable def wPw(i:Nat)(g:FW):FW:=λω=>(pwOf ω[i]?).bind λds=>(g ω).map λws=>.pw ds::ws
theorem qdT{w:mI}{ds:aM}(h:pwOf w=some ds):w=some dj\/w=some BT:=by
 unfold pwOf at h
 split at h
 ·cases h;exact .inl rfl
 ·cases h;exact .inr rfl
 ·cases h
section
variable{X:Cx}{e:vP}{es:List vP}{is:List (Option Nat)}{g:FW}
theorem qij:XWA X [] [] wNil:=⟨⟨_,qC,λG0 H0 G ω σ H ds Q o e k=>by
 cases e;exact k [] G H k5 ⟨rfl,λj d h=>by simp at h,λj d h=>by simp at h,λj w h=>by simp at h⟩ ⟨λj d h=>by simp at h,λj d h=>by simp at h⟩⟩,λω ds e=>by cases e;rfl⟩
theorem q7j{f:FD}(h:LA)(hr:XWA X es is g)(hs:aI:=by rfl):XWA X jA UC (wSh f g):=by
 obtain⟨t,h1,h2⟩:=h;obtain⟨⟨u,h3,h4⟩,h5⟩:=hr;refine⟨kc,P3⟩
 ·obtain⟨d,q,e⟩:=bnd e
  obtain⟨r,q2,e⟩:=mpd e;subst e;refine h2 G0 H0 G ω σ H d _ o q λv G1 H1 x1 y1=>?_;refine h4 G0 H0 G1 ω σ H1 r _ gY q2 λvs G2 H2 x2 a2 i2=>?_;refine k _ G2 H2 eA ⟨by rw[zK,zK,a2.len],λj d' hj=>?_,DP,λj w hj=>?_⟩ ⟨DP,λj i hj=>?_⟩
  ·cases j with
   | zero=>simp at hj;subst hj;exact⟨v,rfl,BS⟩
   | succ j=>exact a2.sh j d' ⇑hj
  ·cases j with
   | zero=>simp at hj
   | succ j=>exact a2.pw j ds ⇑hj
  ·cases j with
   | zero=>simp at hj;subst hj;exact .inl bK
   | succ j=>exact a2.no j w ⇑hj
  ·cases j with
   | zero=>simp at hj
   | succ j=>exact i2.pw j ds ⇑hj
  ·cases j with
   | zero=>simp at hj
   | succ j=>exact i2.is j i ⇑hj
 ·obtain⟨d,q,e⟩:=bnd e
  obtain⟨r,q2,e⟩:=mpd e;subst e;rw[zK,zK,abE]
theorem qky{i:Nat}(h:PE X e Lx)(hr:XWA X es is g)(hs:aI:=by rfl):XWA X jA (some i::is) (wPw i g):=by
 obtain⟨⟨u,h3,h4⟩,h5⟩:=hr;refine⟨⟨_,qB h h3 hs,Ky⟩,P3⟩
 ·obtain⟨d,q,e⟩:=bnd e
  obtain⟨r,q2,e⟩:=mpd e;subst e;have hw:=qdT q;obtain⟨l,us,r1,r2,r3,r4⟩:∃l us,σ[i]?=some l7/\H l=some Id/\G l=none/\Yr X.K G d us:=by
   rcases hw with hw|hw
   ·obtain⟨l,vs,z1,z2,z3,z4,z5⟩:=o.ow i d hw
    exact⟨l,vs,z1,z2,z3,z5⟩
   ·obtain⟨vs,z1,z2,z3,z4,z5,_⟩:=o.pw i d hw
    exact⟨_,vs,z1,z2,z3,z5⟩
  refine⟨c9,r1,?_⟩;refine h4 G0 H0 G ω σ H r _ o q2 λvs G2 H2 x2 a2 i2=>?_;refine k _ G2 H2 x2 ⟨by rw[zK,zK,a2.len],λj d' hj=>?_,DP,λj w hj=>?_⟩ ⟨DP,λj i' hj=>?_⟩
  ·cases j with
   | zero=>simp at hj
   | succ j=>exact a2.sh j d' ⇑hj
  ·cases j with
   | zero=>simp at hj;subst hj;exact⟨l,us,rfl,Hc,x2.new l r3 (by rw[r2];exact λz=>by cases z),r4.mono x2.gg⟩
   | succ j=>exact a2.pw j ds ⇑hj
  ·cases j with
   | zero=>simp at hj;subst hj;exact .inr bK
   | succ j=>exact a2.no j w ⇑hj
  ·cases j with
   | zero=>simp at hj;subst hj;exact⟨i,l,rfl,rfl,r1,hw⟩
   | succ j=>exact i2.pw j ds ⇑hj
  ·cases j with
   | zero=>exact Mo
   | succ j=>exact i2.is j i' ⇑hj
 ·obtain⟨d,q,e⟩:=bnd e
  obtain⟨r,q2,e⟩:=mpd e;subst e;rw[zK,zK,abE]
end
def Pn(ws:BM)(vs:br)(b:vC):Prop:=∃(j:Nat) (ds:aM),ws[j]?=some kb/\vs[j]?=some Bi
open Classical in
noncomputable def WI(P:Um)(H:Hp):Hp:=λb=>if P b then none else H b
theorem qbQ{P:Um}{H:Hp}{b:vC}(h:P b):WI P H b=none:=vH h
theorem q2m{P:Um}{H:Hp}{b:vC}(h:¬P b):WI P H b=H b:=vJ h
theorem qee{P:Um}{H:Hp}:Yx (WI P H) H:=λb u z=>by
 by_cases h:P b
 ·rw[qbQ h]at z;cases z
 ·rw[q2m h]at z;exact z
def NdW(ws:BM)(vs:br):Prop:=∀(j k:Nat)ds es l,ws[j]?=some kb->ws[k]?=some (.pw es)->vs[j]?=some c9->vs[k]?=some c9->j=k
noncomputable def spW(K:zC)(n:Nat)(m:mf):Sp:=λvs H Q _=>∃G ws d ω',m ws=some Qu/\ws.length=n/\Yx G H/\ArgW K G H ws vs/\NdW ws vs /\
 ∀v G' H',Ext G Bf G' H'->(∀(j:Nat)ds ds' l,ws[j]?=some kb->vs[j]?=some c9->ω'[j]?=some (some (.pw ds'))->∃us,H' l=some Id/\G' l=none/\Yr K G' ds' us)->Rep K G' d v->Q v H'
noncomputable def WA(n:Nat)(ws:BM):WSt:=ws.map some++zv (n-ws.length) none
noncomputable def mirW(n:Nat)(body:FS)(ws:BM):Option si:=match body (WA n ws)with
 | some (.rt (.sh d),ω')=>some Qu
 | some (.nx,ω')=>some (.non,ω')
 | _=>none
theorem q08{n:Nat}{ws:BM}{i:Nat}{w:W}(e:(WA n ws)[i]?=some (some w)):ws[i]?=some w:=by
 unfold WA at e;rcases yD i ws.length with y|y
 ·rw[RI,zX]at e
  cases q:ws[i]? with
  | none=>rw[q]at e;cases e
  | some d'=>rw[q]at e;cases e;rfl
 ·rw[RJ,yi]at e
  split at e <;> cases e
theorem q8g{N:dM}{vs:br}{i:Nat}{v:V}(h:vs[i]?=some v):(L2.start N vs)[i]?=some oy:=by
 unfold L2.start;have hl:i<vs.length:=(zc.mp h).1;rw[zd ⇑hl,zX,h];rfl
noncomputable def refOf(v:AK):vC:=match v with
 | some (.ref l)=>l
 | _=>0
theorem fnW{P:vS}{w:vX}{K:zC}{mg:bH}{base:ve}{x qual:Str}{st:vm}{f:vC}{fd:vL}{N ps:dM}{k:Nat}{body:FS}(F:Bg)(S:NR)(hb:∀(cdv:vB)(A:vc)(outer:Ap)(s:vF)(H:Hp)(E:XK),Room k pk->XSs (zAh CX0 P w K mg base N qual Dt f cdv A outer s H E).nox Qz body):
  FnOk P w K mg base CX0 (k+1) f fd ps (spW K ps.length (mirW N.length body)):=by
 refine F.ok S BQ j6
 ·obtain⟨G,ws,d,ω',_,h2,_,h4,_⟩:=h
  rw[<- h4.len];exact h2
 ·obtain⟨G,ws,d,ω',h1,h2,h3,h4,hnd,h5⟩:=h
  obtain⟨t,p1,p2⟩:=hb cdv A outer s H E hr;refine⟨t,p1,?_⟩;unfold mirW at h1;have hl:=h4.len;have hpl:ps.length<=N.length:=by have:=vn yZ S.pre;rw[zo]at this;omega
  have o0:Own K G ⟨Bf,λi=>refOf vs[i]?⟩ G aaM Fa H:=by
   refine⟨⟨io,h3,qee,λb z _=>z⟩,?_,λi d e=>?_,λi es e=>?_,λi j es fs l e=>?_,λi ks es e=>?_,λi ds e=>?_⟩
   ·unfold WA L2.start
    simp only[zE,zB,yT];omega
   ·obtain⟨v,e1,e2⟩:=h4.sh i d Lq
    exact⟨v,q8g e1,e2⟩
   ·rcases h4.no i _ Lq with⟨_,z⟩|⟨_,z⟩ <;> cases z
   ·rcases h4.no i _ Lq with⟨_,z⟩|⟨_,z⟩ <;> cases z
   ·rcases h4.no i _ Lq with⟨_,z⟩|⟨_,z⟩ <;> cases z
   ·obtain⟨l,us,e1,e2,e3,e4⟩:=h4.pw i ds Lq
    have er:(⟨Bf,λi=>refOf vs[i]?⟩:Fr).pin i=l:=by show refOf vs[i]?=l;rw[e1];rfl
    rw[er];refine⟨us,q8g e1,e2,e3,qbQ ⟨i,ds,Lq,e1⟩,e4,λj es hj y=>?_,P5⟩
    ·obtain⟨l',us',f1,_⟩:=h4.pw j es (q08 hj)
     have er':(⟨Bf,λi=>refOf vs[i]?⟩:Fr).pin j=l':=by show refOf vs[j]?=l';rw[f1];rfl
     rw[er']at y;exact hnd j i es ds l (q08 hj) Lq (by rw[<- y];exact f1) e1
    ·rcases h4.no j _ (q08 hj)with⟨_,z⟩|⟨_,z⟩ <;> cases z
  have fin:∀G' σ' H' v,Own K G ⟨Bf,λi=>refOf vs[i]?⟩ G' ω' σ' H'->Rep K G' d v->Q v H':=λG' σ' H' v o' y=>by
   refine h5 v G' H' o'.ext (λj ds ds' l a1 a2 a3=>?_) y;obtain⟨us,_,b2,b3,_,b5,_⟩:=o'.pw j ds' a3;have er:refOf vs[j]?=l:=by rw[a2];rfl
   refine⟨us,?_,?_,b5⟩
   ·rw[<- er];exact b2
   ·rw[<- er];exact b3
  cases q:body aaM with
  | none=>rw[q]at h1;cases h1
  | some p=>
   obtain⟨out,ω1⟩:=p;rw[q]at h1;refine p2 G _ G _ _ H out ω1 _ o0 q λG' σ' H' o' s'=>?_;cases out with
   | nx=>cases h1;exact fin G' σ' H' _ o' rfl
   | bk=>cases h1
   | ct=>cases h1
   | rt r'=>
    cases r' with
    | sh d'=>cases h1;exact λv y=>fin G' σ' H' v o' y
    | fr ds=>cases h1
noncomputable def zAF(c:lH)(w:bS):Option W:=match c,w with
 | some ds,some (.ow _)=>some GR
 | some ds,some (.pw _)=>some kb
 | _,w=>w
noncomputable def X8(I:Nat->Option aM)(ω:WSt):WSt:=ω.mapIdx λi w=>zAF (I i) w
theorem q0B{I:Nat->Option aM}{ω:WSt}{i:Nat}{w:bS}(h:(X8 I ω)[i]?=some w):∃u,ω[i]?=some u/\zAF (I i) u=w:=by
 unfold X8 at h;rw[List.getElem?_mapIdx]at h;exact mpd h
theorem q5D{w:bS}:zAF none w=w:=by unfold zAF;split <;> first|rfl|(rename_i h;cases h)
theorem qie{c:lH}{u:bS}{d:D}(h:zAF c u=↥d):u=↥d:=by
 unfold zAF at h;split at h <;> first|exact h|cases h
theorem qcw{c:lH}{u:bS}{ks:ac}{ds:aM}(h:zAF c u=some LD):u=some LD:=by
 unfold zAF at h;split at h <;> first|exact h|cases h
theorem q61{c:lH}{u:bS}{ds:aM}(h:zAF c u=some GR):(c=some ds/\∃es,u=some (.ow es))\/(c=none/\u=some GR):=by
 cases c with
 | none=>rw[q5D]at h;exact .inr ⟨rfl,h⟩
 | some es=>
  unfold zAF at h
  split at h
  ·rename_i hc;cases hc;cases h;exact .inl ⟨rfl,_,rfl⟩
  ·cases h
  ·rename_i z1 z2;subst h;exact vN rfl (z1 _ _ rfl)
theorem q86{c:lH}{u:bS}{ds:aM}(h:zAF c u=some kb):(c=some ds/\∃es,u=some (.pw es))\/(c=none/\u=some kb):=by
 cases c with
 | none=>rw[q5D]at h;exact .inr ⟨rfl,h⟩
 | some es=>
  unfold zAF at h
  split at h
  ·cases h
  ·rename_i hc;cases hc;cases h;exact .inl ⟨rfl,_,rfl⟩
  ·rename_i z1 z2;subst h;exact vN rfl (z2 _ _ rfl)
section
variable{K:zC}{G0:Hp}{F:Fr}{G G' H H':Hp}{ω:WSt}{σ:St}{I:Nat->Option (List D)}{P:vC->Prop}
theorem Own.at(o:HM){i:Nat}{es:aM}(h:ω[i]?=some h9\/ω[i]?=some fm):∃l vs,σ[i]?=some l7/\H l=some fV/\G l=none/\F.hp l=none:=by
 rcases h with h|h
 ·obtain⟨l,vs,z1,z2,z3,z4,z5⟩:=o.ow i es h
  exact⟨l,vs,z1,z2,z3,z4⟩
 ·obtain⟨vs,z1,z2,z3,z4,z5,_⟩:=o.pw i es h
  exact⟨_,vs,z1,z2,z3,z4⟩
theorem Own.apart(o:HM){i j:Nat}{es fs:aM}{l:vC}(h:ω[i]?=some h9\/ω[i]?=some fm)(h':ω[j]?=some (some (.ow fs))\/ω[j]?=some (some (.pw fs)))(s:σ[i]?=some l7)(s':σ[j]?=some l7):i=j:=by
 rcases h with h|h
 ·rcases h' with h'|h'
  ·exact o.nd i j es fs l h h' s s'
  ·obtain⟨vs,z1,z2,z3,z4,z5,z6,z7⟩:=o.pw j fs h'
   rw[s']at z1;cases z1;exact vN s (z7 i es h)
 ·rcases h' with h'|h'
  ·obtain⟨vs,z1,z2,z3,z4,z5,z6,z7⟩:=o.pw i es h
   rw[s]at z1;cases z1;exact vN s' (z7 j fs h')
  ·obtain⟨vs,z1,z2,z3,z4,z5,z6,z7⟩:=o.pw i es h
   obtain⟨vs',y1,_⟩:=o.pw j fs h';rw[s]at z1;rw[s']at y1;have e1:l=F.pin i:=by cases z1;rfl
   have e2:l=F.pin j:=by cases y1;rfl
   exact(z6 j fs h' (e2.symm.trans e1)).symm
theorem Own.back(o:HM)(hI:∀(i:Nat)ds,I i=some ds->∃es,ω[i]?=some h9\/ω[i]?=some fm)(hP:∀b,P b->∃i ds,I i=some ds/\σ[i]?=some (some Bi))(x:Ext G (WI P H) G' H')(hn:∀(i:Nat)ds l,I i=some ds->σ[i]?=some l7->∃us,H' l=some Id/\G' l=none/\Yr K G' ds us):Own K G0 F G' (X8 I ω) σ H':=by
 have nP:∀{i:Nat}{es:aM}{l:vC},I i=none->(ω[i]?=some h9\/ω[i]?=some fm)->σ[i]?=some l7->¬P l:=λ{i es l} h1 h2 h3 z=>by
  obtain⟨j,ds,a1,a2⟩:=hP l z;obtain⟨fs,a3⟩:=hI j ds a1;have:=o.apart h2 a3 h3 a2;subst this;rw[h1]at a1;cases a1
 have Pl:∀{b:vC},P b->∃vs,H b=some fV/\F.hp b=none:=λ{b} z=>by
  obtain⟨j,ds,a1,a2⟩:=hP b z;obtain⟨fs,a3⟩:=hI j ds a1;obtain⟨l,vs,b1,b2,b3,b4⟩:=o.at a3;rw[a2]at b1;cases b1;exact⟨vs,b2,b4⟩
 refine⟨⟨o.ext.gg.trans x.gg,x.gh,Le,DR⟩,?_,G9,RH,λi j ds es l h h' s s'=>?_,λi ks ds h=>?_,RH⟩
 ·refine x.hh b u ?_
  rw[q2m λp=>by obtain⟨_,_,e⟩:=Pl p;rw[e]at z;cases z];exact o.ext.hh b u z
 ·refine x.new b (o.ext.new b z1 z2) ?_
  rw[q2m λp=>z2 (Pl p).choose_spec.2];exact λe=>z2 (o.ext.hh.free e)
 ·unfold X8;rw[List.length_mapIdx,o.len]
 ·obtain⟨u,e1,e2⟩:=q0B h
  have:=qie e2;subst this;obtain⟨v,a1,a2⟩:=o.sh i d e1;exact⟨v,a1,a2.mono x.gg⟩
 ·obtain⟨u,e1,e2⟩:=q0B h
  rcases q61 e2 with⟨c1,es,rfl⟩|⟨c1,rfl⟩
  ·obtain⟨l,vs,a1,a2,a3,a4,a5⟩:=o.ow i es e1
   obtain⟨us,b1,b2,b3⟩:=hn i ds l c1 a1;exact⟨l,us,a1,b1,b2,a4,b3⟩
  ·obtain⟨l,vs,a1,a2,a3,a4,a5⟩:=o.ow i ds e1
   have np:=nP c1 (.inl e1) a1;have hl:WI P H l=some fV:=by rw[q2m np];exact a2
   exact⟨l,vs,a1,Uh,x.new l a3 (by rw[hl];exact λz=>by cases z),a4,a5.mono x.gg⟩
 ·obtain⟨u,e1,e2⟩:=q0B h
  obtain⟨u',e1',e2'⟩:=q0B h';have w:∃es,ω[i]?=some h9:=by rcases q61 e2 with⟨c1,es,rfl⟩|⟨c1,rfl⟩ <;> exact⟨_,e1⟩
  have w':∃es,ω[j]?=some h9:=by rcases q61 e2' with⟨c1,es,rfl⟩|⟨c1,rfl⟩ <;> exact⟨_,e1'⟩
  obtain⟨a,w⟩:=w;obtain⟨b,w'⟩:=w';exact o.nd i j a b l w w' s s'
 ·obtain⟨u,e1,e2⟩:=q0B h
  have:=qcw e2;subst this;obtain⟨p,vs,a1,a2,a3,a4,a5,a6,a7⟩:=o.od i ks ds e1;have np:¬P p:=λz=>by obtain⟨_,e,_⟩:=Pl z;rw[a2]at e;cases e
  have hl:WI P H p=some jZ:=by rw[q2m np];exact a2
  refine⟨p,vs,a1,Uh,x.new p a3 (by rw[hl];exact λz=>by cases z),a4,a5,a6.mono x.gg,λj ks' es h' s'=>?_⟩;obtain⟨u',e1',e2'⟩:=q0B h';have:=qcw e2';subst this;exact a7 j ks' es e1' s'
 ·obtain⟨u,e1,e2⟩:=q0B h
  obtain⟨es,w⟩:∃es,ω[i]?=some fm:=by rcases q86 e2 with⟨c1,es,rfl⟩|⟨c1,rfl⟩ <;> exact⟨_,e1⟩
  obtain⟨vs,a1,a2,a3,a4,a5,a6,a7⟩:=o.pw i es w;have uq:∀(j:Nat)es',(X8 I ω)[j]?=some (some (.pw es'))->F.pin j=F.pin i->j=i:=λj es' h' y=>by
   obtain⟨u',e1',e2'⟩:=q0B h';rcases q86 e2' with⟨c1,fs,rfl⟩|⟨c1,rfl⟩
   ·exact a6 j _ e1' y
   ·exact a6 j _ e1' y
  have ap:∀(j:Nat)es',(X8 I ω)[j]?=some (some (.ow es'))->σ[j]?≠some DZ:=λj es' h'=>by
   obtain⟨u',e1',e2'⟩:=q0B h';rcases q61 e2' with⟨c1,fs,rfl⟩|⟨c1,rfl⟩
   ·exact a7 j _ e1'
   ·exact a7 j _ e1'
  rcases q86 e2 with⟨c1,fs,rfl⟩|⟨c1,rfl⟩
  ·obtain⟨us,b1,b2,b3⟩:=hn i ds _ c1 a1
   exact⟨us,a1,b1,b2,a4,b3,uq,ap⟩
  ·rw[w]at e1
   cases e1;have np:=nP c1 (.inr w) a1;have hl:WI P H K2=some fV:=by rw[q2m np];exact a2
   exact⟨vs,a1,Uh,x.new _ a3 (by rw[hl];exact λz=>by cases z),a4,a5.mono x.gg,uq,ap⟩
end
noncomputable def XN:List JW->WSt->Nat->Option aM
 | some k::is,some (.pw ds)::r,i=>if i=k then some ds else XN is r i
 | _::is,_::r,i=>XN is r i
 | _,_,_=>none
noncomputable def Y8:List JW->WSt->Bool
 | some _::is,some (.pw _)::r=>Y8 is r
 | some _::_,_=>false
 | none::is,_::r=>Y8 is r
 | none::is,[]=>Y8 is []
 | [],_=>true
noncomputable def XH:List JW->Bool
 | some i::is=>!is.contains Bm&&XH is
 | none::is=>XH is
 | []=>true
theorem q0C:∀{is:iO}{ω:WSt}{i:Nat}{ds:aM},XN is ω i=some ds->∃j:Nat,is[j]?=some Bm/\ω[j]?=some BT
 | some k::is,some (.pw es)::r,i,ds,h=>by
  unfold XN at h
  by_cases z:i=k
  ·rw[gR]at h;cases h;subst z;exact⟨0,rfl,rfl⟩
  ·rw[gE]at h
   obtain⟨j,a,b⟩:=q0C h;exact⟨j+1,by simpa using a,by simpa using b⟩
 | some k::is,none::r,i,ds,h=>by
  obtain⟨j,a,b⟩:=q0C (is:=is) (ω:=r) (i:=i) (ds:=ds) (by unfold XN at h;exact h);exact⟨j+1,by simpa using a,by simpa using b⟩
 | some k::is,↥d::r,i,ds,h=>by
  obtain⟨j,a,b⟩:=q0C (is:=is) (ω:=r) (i:=i) (ds:=ds) (by unfold XN at h;exact h);exact⟨j+1,by simpa using a,by simpa using b⟩
 | some k::is,some (.ow d)::r,i,ds,h=>by
  obtain⟨j,a,b⟩:=q0C (is:=is) (ω:=r) (i:=i) (ds:=ds) (by unfold XN at h;exact h);exact⟨j+1,by simpa using a,by simpa using b⟩
 | some k::is,some (.od ks d)::r,i,ds,h=>by
  obtain⟨j,a,b⟩:=q0C (is:=is) (ω:=r) (i:=i) (ds:=ds) (by unfold XN at h;exact h);exact⟨j+1,by simpa using a,by simpa using b⟩
 | none::is,w::r,i,ds,h=>by
  obtain⟨j,a,b⟩:=q0C (is:=is) (ω:=r) (i:=i) (ds:=ds) (by unfold XN at h;exact h);exact⟨j+1,by simpa using a,by simpa using b⟩
 | [],_,_,_,h=>by unfold XN at h;cases h
 | some _::_,[],_,_,h=>by unfold XN at h;cases h
 | none::_,[],_,_,h=>by unfold XN at h;cases h
theorem q3Q:∀{is:iO}{ω:WSt},Y8 is ω=true->XH is=true->∀{j i:Nat},is[j]?=some Bm->∃ds,XN is ω i=some ds/\ω[j]?=some BT
 | some k::is,some (.pw es)::r,hb,hs,j,i,h=>by
  rw[XH,zu]at hs;rw[Y8]at hb;cases j with
  | zero=>
   have:k=i:=by simpa using h
   subst this;exact⟨es,by unfold XN;rw[lW],rfl⟩
  | succ j=>
   have h':is[j]?=some Bm:=by simpa using h
   obtain⟨ds,a,b⟩:=q3Q hb hs.2 h';refine⟨ds,?_,by simpa using b⟩;unfold XN;rw[vJ λz=>?_]
   ·exact a
   ·have:=hs.1
    rw[<- z]at this;have m:some i∈is:=zw h';simp[m]at this
 | none::is,w::r,hb,hs,j,i,h=>by
  rw[XH]at hs;rw[Y8]at hb;cases j with
  | zero=>simp at h
  | succ j=>
   obtain⟨ds,a,b⟩:=q3Q hb hs (j:=j) (i:=i) ⇑h;exact⟨ds,by unfold XN;exact a,by simpa using b⟩
 | none::is,[],hb,hs,j,i,h=>by
  rw[XH]at hs;rw[Y8]at hb;cases j with
  | zero=>simp at h
  | succ j=>
   obtain⟨ds,a,b⟩:=q3Q hb hs (j:=j) (i:=i) ⇑h;simp at b
 | [],_,_,_,j,i,h=>by simp at h
 | some _::_,[],hb,_,_,_,_=>by unfold Y8 at hb;cases hb
 | some _::_,none::_,hb,_,_,_,_=>by unfold Y8 at hb;cases hb
 | some _::_,↥_::_,hb,_,_,_,_=>by unfold Y8 at hb;cases hb
 | some _::_,some (.ow _)::_,hb,_,_,_,_=>by unfold Y8 at hb;cases hb
 | some _::_,some (.od _ _)::_,hb,_,_,_,_=>by unfold Y8 at hb;cases hb
theorem q6W:∀{is:iO},XH is=true->∀{j k i:Nat},is[j]?=some Bm->is[k]?=some Bm->j=k
 | [],_,j,k,i,h,_=>by simp at h
 | none::is,hs,0,k,i,h,h'=>by simp at h
 | none::is,hs,j+1,0,i,h,h'=>by simp at h'
 | none::is,hs,j+1,k+1,i,h,h'=>by
  rw[XH]at hs;rw[q6W hs (j:=j) (k:=k) (i:=i) ⇑h ⇑h']
 | some a::is,hs,0,0,i,h,h'=>rfl
 | some a::is,hs,0,k+1,i,h,h'=>by
  rw[XH,zu]at hs;have e:a=i:=by simpa using h
  have m:some i∈is:=zw (i:=k) ⇑h';have:=hs.1;rw[e]at this;simp[m]at this
 | some a::is,hs,j+1,0,i,h,h'=>by
  rw[XH,zu]at hs;have e:a=i:=by simpa using h'
  have m:some i∈is:=zw (i:=j) ⇑h;have:=hs.1;rw[e]at this;simp[m]at this
 | some a::is,hs,j+1,k+1,i,h,h'=>by
  rw[XH,zu]at hs;rw[q6W hs.2 (j:=j) (k:=k) (i:=i) ⇑h ⇑h']
noncomputable def zBO(is:iO)(m:mf)(g:FW)(ω:WSt):Option si:=(g ω).bind λws=>(m ws).bind λp=>if Y8 is p.2=true then some Eb else none
noncomputable def zBc(i:Nat)(is:iO)(m:mf)(g:FW):FS:=λω=>(zBO is m g ω).map λp=>rW
section
variable{X:Cx}{e:vP}{es:List vP}{is:List (Option Nat)}{g:FW}{m:List W->Option (D×WSt)}{k k0:Nat}{f:vC}{fd:vL}{ps:List Str}{x:Str}{p pos pos' spos:Pos}
abbrev CalW(P:vS)(w:vX)(K:zC)(mg:bH)(base:ve)(k:Nat)(f:vC)(d:vL)(x:Str)(ps:dM)(n:Nat)(m:mf):Prop :=
 FnOk P w K mg base CX0 k f d ps (spW K n m)/\mg x=some eZ/\xK K eZ=true/\Binds K d ps []
theorem qfg{E:XK}{n:Nat}{t:TA}(hs:XH is=true)(h2:SimWA X.K t is g)(h5:∀ω ws,g ω=some ws->ws.length=n){G0:Hp}{H0:Fr}{G:Hp}{ω:WSt}{σ:St}{H:Hp}{d:D}{ω':WSt}{Q:VK}(o:Rk)(ec:zBO is m g ω=some Qu)(kk:∀v G' H',Own X.K G0 H0 G' ω' σ H'->Yx G G'->Rep X.K G' d v->Q v H'):zBe (spW X.K n m) [] E t σ H Q:=by
 obtain⟨ws,q,ec⟩:=bnd ec;obtain⟨⟨d1,ω1⟩,q2,ec⟩:=bnd ec
 by_cases hb:Y8 is ω1=true
 case neg=>rw[Mu]at ec;cases ec
 rw[RT]at ec;cases ec;refine h2 G0 H0 G ω σ H ws _ o q λvs G1 H1 x1 a1 i1=>?_;have o1:=o.keep x1;refine⟨G1,ws,_,ω1,q2,h5 ω ws q,x1.gh,by rw[zn];exact a1,?_,λv G2 H2 x2 y2 y3=>kk v G2 H2 ?_ oO y3⟩
 ·rw[zn]
  intro j k ds es l hj hk vj vk;obtain⟨ij,lj,b1,b2,b3,b4⟩:=i1.pw j ds hj;obtain⟨ik,lk,c1,c2,c3,c4⟩:=i1.pw k es hk;rw[vj]at b2;cases b2;rw[vk]at c2;cases c2;have:=o.apart b4 c4 b3 c3;subst this;exact q6W hs b1 c1
 ·rw[zn]at x2 y2
  refine o1.back (P:=Pn ws vs) (λi ds hi=>?_) (λb ⟨j,ds,hj,hv⟩=>?_) x2 λi ds l hi hl=>?_
  ·obtain⟨j,b1,b2⟩:=q0C hi
   obtain⟨es,b3⟩:=i1.is j i b1;obtain⟨i',l,c1,c2,c3,c4⟩:=i1.pw j es b3;rw[b1]at c1;cases c1;exact⟨es,c4⟩
  ·obtain⟨i,l,c1,c2,c3,c4⟩:=i1.pw j ds hj
   rw[hv]at c2;cases c2;obtain⟨es,e1,e2⟩:=q3Q hb hs c1;exact⟨i,es,e1,c3⟩
  ·obtain⟨j,b1,b2⟩:=q0C hi
   obtain⟨es,b3⟩:=i1.is j i b1;obtain⟨i',l',c1,c2,c3,c4⟩:=i1.pw j es b3;rw[b1]at c1;cases c1;rw[hl]at c3;cases c3;exact y2 j es ds l b3 c2 b2
theorem qhU{i:Nat}{y:Str}(hN:X.N.Nodup)(hi:X.N[i]?=some y)(hx:Loc X.env.scope y)(c:CalW X.prog X.w X.K X.mg X.base k f fd x ps (e::es).length m)(hr:Ei)(ha:XWA X jA is g)(hs:XH is=true:=by rfl)(hk:k<=k0:=by decide)(hg:rT:=by exact rfl)(hdb:aG:=by decide)(he:aI:=by rfl)(hpl:(vZ pos iF).any (·.1)=false:=by rfl)(hsw:v6 bZ (some (.Name y pos')) spos.line X.env=pure false:=by rfl)(hf:X.fn y=true\/X.env.scope.names.lookup y=some .local:=by first|exact .inl rfl|exact .inr rfl|assumption):XS X (.Assign [.Name y pos'] bZ spos) (zBc i is m g):=by
 obtain⟨⟨t,h1,h2⟩,h5⟩:=ha;refine⟨_,q0k hN hi hx (q7Y c.1 JK hg c.2.1 c.2.2.1 c.2.2.2 .nil zBm h1 hdb he hpl) hsw hf,λG0 H0 G ω σ H out ω' E o ec kk=>?_⟩;obtain⟨⟨d,ω1⟩,q,ec⟩:=mpd ec;cases ec;exact qfg hs h2 h5 o q λv G' H' o' s' y'=>kk G' _ H' (o'.setSh y') s'
end
noncomputable def remP(i:Nat)(ω:WSt)(v:fh)(w:mI):Option eG:=v.bind λd=>match d,w with
 | .int m,some (some (.pw ds))=>(intsOf ds).bind λns=>(W7 m ns).map λj=>jG
 | _,_=>none
noncomputable def wshR(a:fh)(b:Option BM):Option BM:=a.bind λd=>b.map λws=>.sh d::ws
noncomputable def wpwR(a:mI)(b:Option BM):Option BM:=(pwOf a).bind λds=>b.map λws=>.pw ds::ws
noncomputable def cwR(is:iO)(m:mf)(ω:WSt)(a:Option BM):Option si:=a.bind λws=>(m ws).bind λp=>if Y8 is p.2=true then some Eb else none
noncomputable def cwB(is:iO)(ω:WSt)(a:Option si):Option si:=a.bind λp=>if Y8 is p.2=true then some Eb else none
noncomputable def setPw(i:Nat)(a:Option si):Option eG:=a.map λp=>rW
noncomputable def outW(a:Ma):Option si:=match a with
 | some (.rt (.sh d),ω')=>some Qu
 | some (.nx,ω')=>some (.non,ω')
 | _=>none
section
variable{i k:Nat}{ω r:WSt}{d:D}{ds es:List D}{fd fk fv:FD}{g:FW}{ws:List W}{is:List (Option Nat)}{m:List W->Option (D×WSt)}{w:Option W}{I:Nat->Option (List D)}{b:FS}{n:Nat}
theorem qea:zBp i fd ω=remP i ω nM ω[i]?:=rfl
theorem qcz:zBa (some BT)=some GQ:=rfl
theorem qf3:wNil ω=some []:=rfl
theorem qhg:wSh fd g ω=wshR nM (g ω):=rfl
theorem qhA:wshR A6 abo=some (.sh d::ws):=rfl
theorem qgN:wPw i g ω=wpwR ω[i]? (g ω):=rfl
theorem qcx:wpwR BU abo=some (.pw ds::ws):=rfl
theorem e_cw:zBO is m g ω=cwR is m ω (g ω):=rfl
theorem qhr:cwR is m ω abo=cwB is ω (m ws):=rfl
theorem qgZ:cwB is ω (some (d,r))=if Y8 is r=true then some (d,X8 (XN is r) ω)else none:=rfl
theorem qgS:zBc i is m g ω=setPw i (zBO is m g ω):=rfl
theorem e_sp:setPw i (some (d,r))=some (.nx,r.set i ↥d):=rfl
theorem qhn:Y8 (some k::is) (some kb::r)=Y8 is r:=rfl
theorem qhv:Y8 UC (w::r)=Y8 is r:=rfl
theorem qhI:Y8 [] r=true:=by cases r <;> rfl
theorem qh0:X8 I (w::r)=zAF (I 0) w::X8 (λi=>I (i+1)) r:=by unfold X8;rw[List.mapIdx_cons]
theorem qgG:X8 I []=[]:=rfl
theorem qgQ{j:Nat}:XN (some k::is) (some kb::r) j=if j=k then some ds else XN is r j:=rfl
theorem qht{j:Nat}:XN UC (w::r) j=XN is r j:=by
 cases w with
 | none=>rfl
 | some w=>cases w <;> rfl
theorem qh3{j:Nat}:XN [] r j=none:=by cases r <;> rfl
theorem qh7:zAF none w=w:=q5D
theorem qh9:zAF He h9=some GR:=rfl
theorem qfd:mirW n b ws=outW (b (WA n ws)):=rfl
theorem qcy:outW (some (.rt (.sh d),r))=some (d,r):=rfl
end
end Hk
namespace Hk
open PySem PyProof.Rows
noncomputable def kcl(c:Int)(l:SB):List ur:=l.filter λp=>t7 p.1==c
def zAG(l m:SB):Prop:=∀c,kcl c l=kcl c m
theorem q0Y(c:Int)(a b:SB):kcl c N8=kcl c a++kcl c b:=Zn ..
theorem q60(c:Int)(a:SB):kcl c a.reverse=(kcl c a).reverse:=List.filter_reverse ..
theorem q74{c:Int}{l:SB}(h:∀p∈l,t7 p.1≠c):kcl c l=[]:=xS.mpr λp hp=>by simpa using h p hp
theorem q4v{xs:Fb}{i:Nat}{p:ur}(h:xs.toList[i]?=some p):K xs i=t7 p.1:=by
 unfold K;rw[<- zj,h]
theorem qca{α:Type}{l:bJ}{i j:Nat}{p:α}(h:p∈(l.take j).drop i):∃n,i<=n/\n<j/\l[n]?=some p:=by
 obtain⟨m,hm⟩:=yz.mp h;rw[xL,xA]at hm
 split at hm
 ·exact⟨i+m,∅,by assumption,hm⟩
 ·cases hm
theorem cut3{α:Type}(l:bJ){i j:Nat}(h:i<=j):l.take i++((l.take j).drop i++l.drop j)=l:=by
 have:l.take i=(l.take j).take i:=by rw[YQ,ZK h]
 rw[this,<- yB,yy,yy]
theorem q4b{xs:Fb}{i j:Nat}(hij:i<=j)(hj:j<=xs.size):(mirror xs i j ((j-i)/2)).toList=xs.toList.take i++(((xs.toList.take j).drop i).reverse++xs.toList.drop j):=by
 apply xB;intro k;rw[zj,getElem?_mirror_all hj];have hl:xs.toList.length=xs.size:=zU;rcases yD k i with h1|h1
 ·rw[Ez,zd (by rw[zo];omega),xA,Vy,zj]
 ·rw[zZ (by rw[zo];omega),zo,show min i xs.toList.length=i by omega]
  have ld:((xs.toList.take j).drop i).length=j-i:=by rw[yN,zo];omega
  rcases yD k j with h2|h2
  ·rw[vH TY,zd (by rw[xG,ld];omega),List.getElem?_reverse (by rw[ld];omega),ld,xL,xA,J9,zj]
   congr 1;omega
  ·rw[Ez,zZ (by rw[xG,ld];omega),xG,ld,xL,zj]
   congr 1;omega
theorem qaZ{xs:Fb}{j l:Nat}(hs:j<xs.size)(hl:l<=j):(bubble xs j (j-l)).toList=xs.toList.take l++(xs[j]::Cp):=by
 apply xB;intro k;rw[zj,getElem?_bubble hs _ ∅,show j-(j-l)=l by omega];have hn:xs.toList.length=xs.size:=zU;rcases yD k l with h1|h1
 ·rw[Ez,Ez,zd (by rw[zo];omega),xA,Vy,zj]
 ·rw[zZ (by rw[zo];omega),zo,show min l xs.toList.length=l by omega]
  rcases wZ h1 with h2|h2
  ·subst h2
   rw[lW,wS,xQ,UI]
  ·rw[Ez]
   obtain⟨m,hm⟩:∃m,k-l=m+1:=⟨k-l-1,∅⟩;rw[hm,xD];have ld:((xs.toList.take j).drop l).length=j-l:=by rw[yN,zo];omega
   rcases yD m (j-l)with h3|h3
   ·rw[J9,zd (by rw[ld];exact h3),xL,xA,J9,zj]
    congr 1;omega
   ·rw[Ez,zZ (by rw[ld];exact h3),ld,xL,zj]
    congr 1;omega
theorem qaG{xs:Fb}{j l:Nat}(hs:j<xs.size)(hl:l<=j)(h:∀i,l<=i->i<j->K xs j<K xs i):zAG (bubble xs j (j-l)).toList xs.toList:=by
 intro c;have hx:xs.toList[j]?=some xs[j]:=by rw[zj,UI]
 have e:xs.toList=xs.toList.take l++((xs.toList.take j).drop l++(xs[j]::xs.toList.drop (j+1))):=by
  have d:xs.toList.drop j=xs[j]::xs.toList.drop (j+1):=by
   rw[xf (by rw[zU];exact hs),Array.getElem_toList]
  rw[<- d,cut3 _ hl]
 rw[qaZ hs hl,q0Y];have e2:kcl c xs.toList=kcl c (xs.toList.take l)++(kcl c MP++kcl c (xs[j]::xs.toList.drop (j+1))):=by
  conv=>lhs;rw[e]
  rw[q0Y,q0Y]
 rw[e2]
 congr 1
 show kcl c ([xs[j]]++Cp)=_++kcl c ([xs[j]]++xs.toList.drop (j+1));rw[q0Y,q0Y,q0Y]
 by_cases z:t7 xs[j].1=c
 ·have no:kcl c MP=[]:=q74 λp hp=>by
   obtain⟨n,n1,n2,n3⟩:=qca hp;have k1:=q4v n3;have k2:=q4v hx;have:=h n n1 n2;omega
  rw[no,yV,yV]
 ·have no:kcl c [xs[j]]=[]:=q74 λp hp=>by cases zV.mp hp;exact z
  rw[no,yV,yV]
structure DInv (a₀:Array ur) (xs:Array ur) (x neq:Nat):Prop where
 le:neq+1<=x
 ni:sW xs x
 eq:∀i,x-(neq+1)<=i->i<x->K xs i=K xs (x-1)
 lt:0<x-(neq+1)->K xs (x-(neq+1))<K xs (x-(neq+1)-1)
 cl:∀c,kcl c (xs.toList.take (x-(neq+1)))=(kcl c (a₀.toList.take (x-(neq+1)))).reverse
 dr:xs.toList.drop (x-(neq+1))=a₀.toList.drop (x-(neq+1))
theorem DInv.flip{a₀ xs:Fb}{x neq:Nat}(D:DInv a₀ xs x neq)(hx:x<=xs.size)(hz:xs.size=a₀.size):
  (∀c,kcl c ((mirror xs QS x ((x-QS)/2)).toList.take x)=(kcl c Sk).reverse)/\(mirror xs QS x ((x-QS)/2)).toList.drop x=a₀.toList.drop x:=by
 have hb:x-Ay<=x:=Nat.sub_le _ _;have hle:=D.le;have hbx:x-Ay<x:=∅
 have lt:=D.lt;have eq:=D.eq;have ni:=D.ni;have cl:=D.cl;have dr:=D.dr;generalize x-Ay=b at hb hbx lt eq cl dr;have hn:xs.toList.length=xs.size:=zU;have hn0:a₀.toList.length=a₀.size:=zU;have run:(xs.toList.take x).drop b=(a₀.toList.take x).drop b:=by
  rw[YR,YR,dr]
 have lrun:((xs.toList.take x).drop b).length=x-b:=by rw[yN,zo];omega
 rw[q4b hb hx];have l1:(xs.toList.take b++((xs.toList.take x).drop b).reverse).length=x:=by
  rw[zE,xG,lrun,zo];omega
 rw[<- yB];refine⟨λc=>?_,?_⟩
 ·rw[YF l1,q0Y,q60,run]
  have e0:a₀.toList.take x=a₀.toList.take b++(a₀.toList.take x).drop b:=by
   have:a₀.toList.take b=(a₀.toList.take x).take b:=by rw[YQ,ZK hb]
   rw[this,yy]
  have e9:kcl c Sk=kcl c (a₀.toList.take b)++kcl c LH:=(vn (kcl c) e0).trans (q0Y c _ _);rw[e9,ZZ,<- cl c]
  by_cases z:c=K xs (x-1)
  ·have no:kcl c (xs.toList.take b)=[]:=q74 λp hp=>by
    obtain⟨m,hm⟩:=yz.mp hp;rw[xA]at hm
    split at hm
    ·rename_i hmb
     have k1:=q4v hm;have k2:=lt ∅;have k3:=ni m (b-1) ∅ ∅;have k4:K xs b=K xs (x-1):=eq b cP hbx;omega
    ·cases hm
   rw[no,yV,zn]
  ·have no:kcl c LH=[]:=q74 λp hp=>by
    rw[<- run]at hp;obtain⟨n,n1,n2,n3⟩:=qca hp;have k1:=q4v n3;have k2:=eq n n1 n2;intro y;exact z ∅
   rw[no,List.reverse_nil,zn,yV]
 ·rw[YG l1]
  have e1:xs.toList.drop x=(xs.toList.drop b).drop (x-b):=by rw[YS];congr 1;omega
  have e2:a₀.toList.drop x=(a₀.toList.drop b).drop (x-b):=by rw[YS];congr 1;omega
  rw[e1,e2,dr]
section
variable{prog:vS}{w:vX}{A:vc}{E:vB->vF->Prop}{s:vF}{a₀:Array ur}
theorem q65{xs ys:Fb}{x:Nat}(h:sW xs x)(e:∀k,K ys k=K xs k)(hl:x=0\/K xs x<=K xs (x-1)):sW ys (x+1):=by
 intro i j hij hj;rw[e,e];rcases yD j x with y|y
 ·exact h i j hij y
 ·obtain rfl:j=x:=∅
  rcases wZ hij with z|z
  ·rw[z];exact yh _
  ·rcases hl with hl|hl
   ·omega
   ·exact ZA hl (h i (j-1) ∅ ∅)
theorem qaF{st:ux}{n nrem:Nat}{Q:DescSt->ux->Prop}(h0:Cn)(hn:FV)(h1:1<=n)(hnn:n<=nrem)(hB:FU)(hD:DInv a₀ mP n 0)(h:∀m neq st',tI a₀ st'->n<=m->m<=nrem->DInv a₀ eW m neq->Q (none,m,neq) st'):wpS ar A E s (descLoop n nrem) Q st:=by
 unfold descLoop;refine tD (I:=λx c st'=>∃neq,c=(none,x,neq)/\tI a₀ st'/\DInv a₀ eW x neq) ?turn ?done ⟨0,rfl,hB,hD⟩
 case done=>
  rintro c st' ⟨neq,rfl,b1,b2⟩;rw[Nat.max_eq_right hnn]at b2 ⊢;exact h nrem neq st' b1 hnn cP b2
 case turn=>
  rintro x c st' hx1 hx2 ⟨neq,rfl,b1,D⟩
  dsimp only
  have hsz:(vW st').size=a₀.size:=b1.size;have hle:=D.le;refine vz MZ
  by_cases less:K eW x<K eW (x-1)
  ·rw[vO less]
   simp only[if_true];obtain⟨f1,f2⟩:=D.flip ∅ hsz;have ke:=tj (xs:=vW st') (i:=x-Ay) (j:=x) ∅ D.eq;have next:DInv a₀ (mirror eW QS x ((x-QS)/2)) (x+1) 0:=by
    refine⟨∅,q65 D.ni ke (.inr (wT less)),DQ,fJ,?_,?_⟩
    ·congr 1;omega
    ·show K _ x<K _ (x-1)
     rw[ke,ke];exact less
    ·exact f1
    ·exact f2
   by_cases hq:neq>0
   ·rw[vH hq]
    exact vz (tm (uN ⟨0,rfl,b1.setArr JD,next⟩))
   ·rw[vJ hq]
    have hq0:neq=0:=∅
    subst hq0;have e:mirror eW abi x ((x-abi)/2)=vW st':=by
     have:(x-abi)/2=0:=∅
     rw[this];rfl
    rw[e]at next
    exact uN ⟨0,rfl,b1,next⟩
  ·rw[vQ less]
   simp only[yG,if_false];refine vz MZ
   by_cases more:K eW (x-1)<K eW x
   ·rw[vO more]
    simp only[if_true];exact uN (h x neq st' b1 hx1 ∅ D)
   ·rw[vQ more]
    simp only[yG,if_false];have ex:K eW x=K eW (x-1):=∅
    have eb:x+1-(neq+1+1)=x-Ay:=∅
    refine uN ⟨Ay,rfl,b1,∅,q65 D.ni Ij (.inr ∅),DQ,?_,?_,?_⟩
    ·rw[eb]at i1
     rw[show x+1-1=x by omega,ex];rcases yD i x with y|y
     ·exact D.eq i i1 y
     ·obtain rfl:i=x:=∅
      exact ex
    ·rw[eb];exact D.lt
    ·rw[eb];exact D.cl
    ·rw[eb];exact D.dr
theorem qc7{st:ux}{n nrem:Nat}{Q:HN}(h0:Cn)(hn:FV)(h1:1<=n)(hnn:n<=nrem)(hB:FU)(hs:sW mP n)(hc:∀c,kcl c ((vW st).toList.take n)=(kcl c Sl).reverse)(hd:(vW st).toList.drop n=a₀.toList.drop n)(h:∀m st',tI a₀ st'->1<=m->m<=nrem->ut eW m->zAG (vW st').toList a₀.toList->Q (some m) st'):wpS ar A E s (tail3 n nrem) Q st:=by
 unfold tail3;have hsz:n<=(vW st).size:=by rw[hB.size];omega
 refine vz (tm ?_);have b1:tI a₀ (setArr st (mirror mP 0 n ((n-0)/2))):=hB.setArr JD;have stb:zAG (mirror mP 0 n ((n-0)/2)).toList a₀.toList:=λc=>by
  rw[q4b Cf hsz,YT,yV,wb,q0Y,q60,hc c,ZT,hd,<- q0Y,yy]
 refine vz (wpS_ascLoop h0 hn h1 hnn b1 Ju λm m1 m2 m3 _=>uN (h m _ b1 ∅ m2 m3 stb));show K (mirror mP 0 n ((n-0)/2)) i<=K (mirror mP 0 n ((n-0)/2)) j;rw[K_mirror hsz,K_mirror hsz,J9,J9];exact hs _ _ ∅ ∅
theorem q6l{st:ux}{n nrem:Nat}{Q:HN}(h0:Cn)(hn:FV)(hnn:n+1<=nrem)(hB:FU)(hD:DInv a₀ mP (n+1) 0)(h:∀m st',tI a₀ st'->1<=m->m<=nrem->ut eW m->zAG (vW st').toList a₀.toList->Q (some m) st'):wpS ar A E s (descPart n nrem) Q st:=by
 unfold descPart;refine vz LL;refine vz (qaF h0 hn ∅ hnn hB hD λm neq st' b1 m1 m2 D=>?_)
 dsimp only
 have hsz:(vW st').size=a₀.size:=b1.size;have hle:=D.le;obtain⟨f1,f2⟩:=D.flip ∅ hsz;have ke:=tj (xs:=vW st') (i:=m-Ay) (j:=m) ∅ D.eq
 by_cases hq:neq>0
 ·rw[vH hq]
  refine vz (tm (qc7 h0 hn ∅ m2 (b1.setArr JD) Ju f1 f2 h));show K VL j<=K VL i;rw[ke,ke];exact D.ni i j hij hj
 ·rw[vJ hq]
  have hq0:neq=0:=∅
  subst hq0;have e:mirror eW abA m ((m-abA)/2)=vW st':=by
   have:(m-abA)/2=0:=∅
   rw[this];rfl
  rw[e]at f1 f2;exact qc7 h0 hn ∅ m2 b1 D.ni f1 f2 h
theorem qaO{st:ux}{nrem:Nat}{Q:HN}(h0:Cn)(hn:FV)(h1:1<=nrem)(hB:FU)(hA:vW st=a₀)(h:∀m st',tI a₀ st'->1<=m->m<=nrem->ut eW m->zAG (vW st').toList a₀.toList->Q (some m) st'):wpS ar A E s (countRun' 0 nrem) Q st:=by
 rw[countRun0_eq];refine vz (wpS_ascLoop h0 hn (zQ 1) h1 hB (λi j hij hj=>by obtain rfl:i=j:=∅;exact yh _) λn n1 n2 n3 n4=>?_)
 dsimp only
 have same:zAG (vW st).toList a₀.toList:=λc=>by rw[hA]
 by_cases e1:n=nrem
 ·rw[vH ⇑e1]
  exact uN N4
 ·rw[vJ ⇑e1]
  have lt:=n4.resolve_left e1
  by_cases e2:n>1
  ·rw[vH e2]
   refine vz (wpS_ltK hB h0 ∅ ∅ ?_)
   by_cases rose:K mP 0<K mP (n-1)
   ·rw[vO rose]
    simp only[if_true];exact uN N4
   ·rw[vQ rose]
    simp only[yG,if_false];have hsz:n<=(vW st).size:=by rw[hB.size];omega
    have all:∀k,0<=k->k<n->K mP k=K mP (n-1):=λk _ hk=>by
     have a1:=n3 0 k ∅ hk;have a2:=n3 k (n-1) ∅ ∅;omega
    have ke:=tj (xs:=vW st) (i:=0) (j:=n) hsz all;refine vz (tm (q6l h0 hn ∅ (hB.setArr JD) ?_ h));show DInv a₀ (mirror mP 0 n ((n-0)/2)) (n+1) 0;have ml:=q4b (yA n) hsz;rw[YT,yV,wb]at ml;have ll:(((vW st).toList.take n).reverse).length=n:=by rw[xG,zo,zU];omega
    have ni:sW mP n:=λi j hij hj=>by rw[all i ∅ ∅,all j ∅ hj];exact yh _
    refine⟨∅,q65 ni ke ac9,DQ,fJ,λc=>?_,?_⟩
    ·congr 1;omega
    ·show K _ n<K _ (n-1)
     rw[ke,ke];exact lt
    ·show kcl c ((mirror mP 0 n ((n-0)/2)).toList.take n)=(kcl c Sl).reverse
     rw[ml,YF ll,q60,hA]
    ·show (mirror mP 0 n ((n-0)/2)).toList.drop n=a₀.toList.drop n
     rw[ml,YG ll,hA]
  ·rw[vJ e2]
   obtain rfl:n=1:=∅
   refine q6l h0 hn ∅ hB ?_ h;have ni:sW mP 1:=λi j hij hj=>by obtain rfl:i=j:=∅;exact yh _
   refine⟨∅,q65 ni Ij ac9,DQ,λ_=>lt,λc=>?_,?_⟩
   ·congr 1;omega
   ·show kcl c ((vW st).toList.take 1)=(kcl c (a₀.toList.take 1)).reverse
    rw[hA,<- q60];cases a₀.toList with
    | nil=>rfl
    | cons p r=>rfl
   ·rw[hA]
theorem qeU{st:ux}{n ok:Nat}{Q:Bool->ux->Prop}(h0:Cn)(hn:n<=a₀.size)(hok:ok<=n)(hB:FU)(hs:ut mP ok)(hS:zAG (vW st).toList a₀.toList)(h:∀st',tI a₀ st'->ut eW n->zAG (vW st').toList a₀.toList->Q true st'):wpS ar A E s (binarySort' 0 n ok) Q st:=by
 rw[binarySort'_eq];simp only[xz];refine vz (sX (tD (I:=λj c st'=>c=(none,())/\tI a₀ st'/\ut eW (min j n)/\zAG (vW st').toList a₀.toList)
  (Q:=λc st'=>c=(none,())/\tI a₀ st'/\ut eW n/\zAG (vW st').toList a₀.toList) ?turn ?done ?first) λc st' z=>?_)
 case first=>
  refine⟨rfl,hB,Ju,hS⟩
  by_cases y:ok=0
  ·obtain rfl:i=j:=∅
   exact yh _
  ·exact hs i j hij ∅
 case done=>
  rintro c st' ⟨hc,b1,b2,b3⟩;rw[show min (max (max ok 1) n) n=n by omega]at b2;exact⟨hc,b1,b2,b3⟩
 case turn=>
  rintro j c st' j1 j2 ⟨rfl,b1,b2,b3⟩;rw[show min j n=j by omega]at b2;have hj:j<a₀.size:=∅
  have hjs:j<(vW st').size:=by rw[b1.size];exact hj
  refine vz (sX (tD (I:=λx c st2=>st2=st'/\∃l r,c=(none,l,r)/\l<=r/\r<=j/\r-l<=j-x/\(∀i,i<l->K eW i<=K eW j)/\∀i,r<=i->i<j->K eW j<K eW i)
   (Q:=λc st2=>st2=st'/\∃l r,c=(none,l,r)/\l<=j/\(∀i,i<l->K eW i<=K eW j)/\∀i,l<=i->i<j->K eW j<K eW i) ?half ?found ?all) λc st2 z=>?_)
  case all=>exact⟨rfl,0,j,rfl,Cf,cP,∅,λi y=>∅,λi y1 y2=>∅⟩
  case found=>
   rintro c st2 ⟨rfl,l,r,rfl,c1,c2,c3,c4,c5⟩;obtain rfl:l=r:=∅
   exact Oi
  case half=>
   rintro x c st2 _ hx ⟨rfl,l,r,rfl,c1,c2,c3,c4,c5⟩
   dsimp only
   by_cases y:l>=r
   ·rw[KC]
    obtain rfl:l=r:=∅
    exact uN Oi
   ·rw[LM]
    refine vz (wpS_ltK b1 h0 hj ∅ ?_)
    by_cases less:K (vW st2) j<K (vW st2) ((l+r)/2)
    ·rw[vO less]
     simp only[if_true];refine uN ⟨rfl,l,(l+r)/2,rfl,∅,∅,∅,c4,DQ⟩;exact Int.lt_of_lt_of_le less (b2 _ _ i1 i2)
    ·rw[vQ less]
     simp only[yG,if_false];refine uN ⟨rfl,(l+r)/2+1,r,rfl,∅,∅,∅,λi i1=>?_,c5⟩;have:=b2 i ((l+r)/2) ∅ ∅;omega
  obtain⟨rfl,l,r,rfl,c1,c2,c3⟩:=z;show wpS _ _ _ _ (do moveDown' j l;pure (ForInStep.yield (none,()))) _ _;rw[moveDown'_eq];refine vz (wpS_modify (uN ⟨rfl,b1.setArr (bubble_perm _ _ _),?_,?_⟩))
  ·rw[show min (j+1) n=j+1 by omega]
   intro i k hik hk;show K N6 i<=K N6 k;rw[ac1,ac1,show j-(j-l)=l by omega]
   repeat' split
   all_goals first
    | (exfalso;omega)
    | exact yh _
    | exact c2 _ ∅
    | exact wT (c3 _ ∅ ∅)
    | exact b2 _ _ ∅ ∅
  ·intro c
   rw[<- b3 c];exact qaG hjs c1 c3 c
 obtain⟨rfl,b1,b2,b3⟩:=z;exact uN (h st' b1 b2 b3)
def zBV(a₀:Fb)(st:ux):Prop:=SDone a₀ st/\zAG (vW st).toList a₀.toList
theorem qb3{st:ux}{Q:Unit->ux->Prop}(h0:Cn)(hB:FU)(hA:vW st=a₀)(h2:2<=a₀.size)(h64:a₀.size<64)(h:∀st',(vW st').Perm a₀->failedOf st'=none->ut eW a₀.size->zAG (vW st').toList a₀.toList->Q () st'):wpS ar A E s sortRuns' Q st:=by
 rw[sortRuns'_eq];refine vz Jy
 dsimp only
 have mr:minRun' a₀.size a₀.size 0=a₀.size:=by
  cases e:a₀.size with
  | zero=>omega
  | succ f=>rw[minRun'_succ,J9]
 simp only[hB.size,mr];refine vz (sX (tD (I:=λx c st'=>(x=0/\c=(none,0)/\st'=st)\/(1<=x/\c=aaE/\zBV a₀ st')) (Q:=λc st'=>c=aaE/\zBV a₀ st') ?turn ?done (.inl aa7)) λc st' z=>?_)
 case done=>
  rintro c st' (⟨y,_,_⟩|⟨_,y1,y2⟩)
  ·omega
  ·exact⟨y1,y2⟩
 case turn=>
  rintro x c st' _ hx (⟨rfl,rfl,rfl⟩|⟨x1,rfl,D⟩)
  ·dsimp only
   rw[Ez];simp only[Z1,Nat.min_self,xz];refine vz (qaO h0 cP ∅ hB hA λm st2 b1 m1 m2 m3 m4=>?_)
   dsimp only
   by_cases y:m<a₀.size
   ·rw[KC]
    refine vz LL;refine vz (qeU h0 cP m2 b1 m3 m4 λst3 d1 d2 d3=>?_);simp only[Zg,yG,if_false];refine vz Jy;have nb:(pendingOf st3).back?=none:=by rw[d1.pend];rfl
    rw[nb]
    dsimp only
    exact vz (wpS_modify (uN (.inr ⟨∅,rfl,d1.done d2,d3⟩)))
   ·rw[LM]
    obtain rfl:m=a₀.size:=∅
    refine vz Jy;have nb:(pendingOf st2).back?=none:=by rw[b1.pend];rfl
    rw[nb]
    dsimp only
    exact vz (wpS_modify (uN (.inr ⟨∅,rfl,b1.done m3,m4⟩)))
  ·dsimp only
   rw[vH cP];exact uN ⟨rfl,D⟩
 obtain⟨rfl,D⟩:=z
 dsimp only
 refine vz (sX (tD (I:=λ_ c st2=>st2=st'/\c=(none,())) (Q:=λc st2=>st2=st'/\c=(none,())) (λx c st2 _ _ y=>?_) (λ_ _ y=>y) bQ) λc st2 y=>?_)
 ·obtain⟨rfl,rfl⟩:=y
  refine vz Jy;rw[vH (by rw[D.1.2.2.1];exact zQ 1)];exact uN bQ
 ·obtain⟨rfl,rfl⟩:=y
  exact uN (h _ D.1.1 D.1.2.1 D.1.2.2.2 D.2)
end
section
variable{α β:Type}
noncomputable def Wy(f:mY)(x:α):List α->List α
 | []=>[x]
 | y::r=>if f x<=f y then x::y::r else y::Wy f x r
noncomputable def Yt(f:mY)(l:bJ):List α:=l.foldr (Wy f) []
noncomputable def clK(f:mY)(c:Int)(l:bJ):List α:=l.filter λx=>f x==c
theorem q5J{f:mY}{x:α}:∀{l:bJ},(Wy f x l).Perm (x::l)
 | []=>.refl _
 | y::r=>by
  unfold Wy
  split
  ·exact .refl _
  ·exact(q5J.cons y).trans (.swap x y r)
theorem qK{f:mY}:∀{l:bJ},(Yt f l).Perm l
 | []=>.refl _
 | y::r=>q5J.trans ((qK (l:=r)).cons y)
theorem q8l(f:mY)(l:bJ):(Yt f l).length=l.length:=qK.length_eq
theorem qcB{f:mY}{x:α}:∀{l:bJ},l.Pairwise nB->(Wy f x l).Pairwise nB
 | [],_=>wx _ _
 | y::r,h=>by
  obtain⟨h1,h2⟩:=zm.mp h;unfold Wy
  split
  ·rename_i z
   refine zm.mpr ⟨A3,h⟩;rcases zI.mp ha with rfl|ha
   ·exact z
   ·exact ZA z (h1 a ha)
  ·rename_i z
   refine zm.mpr ⟨A3,qcB h2⟩;rcases zI.mp (q5J.mem_iff.mp ha)with rfl|ha
   ·omega
   ·exact h1 a ha
theorem q4X{f:mY}:∀{l:bJ},(Yt f l).Pairwise nB
 | []=>.nil
 | y::r=>qcB (q4X (l:=r))
theorem qbV{f:mY}{x:α}(c:Int):∀{l:bJ},l.Pairwise nB->clK f c (Wy f x l)=clK f c (x::l)
 | [],_=>rfl
 | y::r,h=>by
  obtain⟨h1,h2⟩:=zm.mp h;unfold Wy
  split
  ·rfl
  ·rename_i z
   have ih:=qbV (x:=x) c h2;unfold clK at ih ⊢;rw[yY,ih,yY,yY,yY]
   by_cases a:f x=c
   ·have:¬f y=c:=∅
    simp[a,this]
   ·simp[a]
theorem qab{f:mY}(c:Int):∀{l:bJ},clK f c (Yt f l)=clK f c l
 | []=>rfl
 | y::r=>by
  show clK f c (Wy f y (Yt f r))=_;rw[qbV c q4X];unfold clK;rw[yY,yY];have ih:=qab (f:=f) c (l:=r);unfold clK at ih;rw[ih]
theorem q3a{f:mY}{a:α}{l:bJ}:clK f (f a) (a::l)=a::clK f (f a) l:=by
 unfold clK;rw[yY,vH (by simp)]
theorem qbA{f:mY}:∀{l m:bJ},l.Pairwise nB->m.Pairwise nB->(∀c,clK f c l=clK f c m)->l=m
 | [],m,_,_,h=>by
  cases m with
  | nil=>rfl
  | cons b m=>have:=h (f b);rw[q3a]at this;cases this
 | a::l,m,h1,h2,h=>by
  cases m with
  | nil=>have:=h (f a);rw[q3a]at this;cases this
  | cons b m=>
   obtain⟨p1,p2⟩:=zm.mp h1;obtain⟨q1,q2⟩:=zm.mp h2;have x1:a∈b::m:=by
    have:a∈clK f (f a) (b::m):=by rw[<- h,q3a];exact zG
    exact(yM.mp this).1
   have x2:b∈a::l:=by
    have:b∈clK f (f b) (a::l):=by rw[h,q3a];exact zG
    exact(yM.mp this).1
   have e:f a=f b:=by
    rcases zI.mp x1 with y|y
    ·rw[y]
    ·rcases zI.mp x2 with z|z
     ·rw[z]
     ·have:=q1 a y;have:=p1 b z;omega
   have hab:=h (f a);rw[q3a]at hab;rw[e,q3a]at hab;obtain⟨rfl,_⟩:=YY hab;refine vn (a::·) (qbA p2 q2 λc=>?_);have hc:=h c;unfold clK at hc ⊢;rw[yY,yY]at hc
   by_cases z:(f a==c)=true
   ·rw[gR,gR]at hc;exact(YY hc).2
   ·rw[gE,gE]at hc;exact hc
theorem q9g{f:β->Int}{g:Th}{x:α}:∀{l:bJ},Wy f (g x) Pu=(Wy acq x l).map g
 | []=>rfl
 | y::r=>by
  show (if f (g x)<=f (g y)then _ else _)=(if f (g x)<=f (g y)then _ else _:List α).map g
  split
  ·rfl
  ·rw[q9g];rfl
theorem q2G{f:β->Int}{g:Th}:∀{l:bJ},Yt f Pu=(Yt acq l).map g
 | []=>rfl
 | y::r=>by
  show Wy f (g y) (Yt f (r.map g))=(Wy _ y (Yt _ r)).map g;rw[q2G,q9g]
end
theorem qhY{a₀ xs:Fb}(hp:xs.Perm a₀)(hs:ut xs a₀.size)(hS:zAG xs.toList a₀.toList):xs.toList=Yt (λp=>t7 p.1) a₀.toList:=by
 have hn:xs.size=a₀.size:=hp.size_eq;refine qbA (f:=λp:ur=>t7 p.1) (yv.mpr λi j hi hj hij=>?_) q4X λc=>(hS c).trans (qab c).symm;have e1:=q4v (xs:=xs) (i:=i) (zD hi);have e2:=q4v (xs:=xs) (i:=j) Po;rw[<- e1,<- e2];exact hs i j ∅ (by rw[zU]at hj;omega)
end Hk
namespace Hk
open PySem PySem.Spec PyProof.Rows L2
section
variable{X:Cx}{pins:List (vC×Obj)}{σ:L2.St}{H:Hp}{s:vF}
theorem qfc{h':ve}{a:vC}{ys:br}{its:bC}{n t':Nat}(I:aj)(fa:nE)(k:∀b o,b≠a->s.heap.get? b=some o->h'.get? b=some o)(new:h'.get? a=some { cls:=.type "list", data:=.seq its.toArray n })(hv:Yw ys its)(hz:BD):Inv X pins σ (upd H a rC) { s with heap:=h',toks:=t' }:=by
 obtain⟨f0,f1,f2,f3,f4,f5⟩:=fa;have I1:=I.turned (h':=h') (t':=t') (it:=a) k f0 f1 f3 f4 f5;have na:∀{b:vC}{u:HO},H b=some u->b≠a:=λq z=>by rw[z,f0]at q;cases q
 refine Inv.step (s:={ s with heap:=h',toks:=t' }) (H':=upd H a rC) (h':=h') (g':=s.gens) (d':=s.drawn) (t':=t') (ch:=[a]) I1 mJ (λb o _ _ _ e _=>e) (λb o _ _ _ e _=>⟨o.slots,e⟩)
  (λb o hc e n=>by rw[qd ⇑hc];exact n) (λb o _ e=>Iq) (λb xs q=>by rw[LR];exact q) (λb o u q=>by rw[LR];exact q)
  (λb ps q=>⟨#[],by rw[LR,q];simp⟩) (λ_ hm=>hm) (λb u q=>?_) I1.bare
 ·cases zV.mp hb
  exact aa8
 ·by_cases z:b=a
  ·subst z
   rw[qf]at q;cases q;exact⟨hz,its,n,hv,new⟩
  ·rw[qd z]at q
   exact(I1.hok b u q).stay Ox (λc q=>by rw[LR];exact q) (λc xs q=>by rw[LR];exact q)
theorem qhR{k:Nat}{f:vC}{fd:vL}{ps:dM}{sp:Sp}{E:XK}{Q:VK}{us:bC}{vs:br}{E':aO}(F:Dx)(hr:HL)(hb:jp)(I:aj)(r:UQ)(h:sp vs H Q E):vM ai X.A.in1.in1 Qv cV E' s:=by
 have hl:(us++[]).length=ps.length:=by rw[zn,<- r.length];exact F.len _ _ _ _ h
 have b:=hb s us I.kIn hl;rw[zn]at b;refine t8 (uV (F.run X.A.in1.in1 X.stack s H Bj us vs Q E hr.in1.in1 I.env0.in1.in1 b r h) λr s' hq=>?_);cases r with
 | error e=>exact False.elim hq
 | ok fl=>
  cases fl with
  | ret u=>exact I.after hq
  | next=>exact False.elim hq
  | brk=>exact False.elim hq
  | cont=>exact False.elim hq
end
theorem q46{α:Type}{f g:mY}:∀{l:bJ},(∀x∈l,f x=g x)->Yt f l=Yt g l
 | [],_=>rfl
 | y::r,h=>by
  show Wy f y (Yt f r)=Wy g y (Yt g r);rw[q46 λx hx=>h x iP];have:∀{l:bJ},(∀x∈l,f x=g x)->Wy f y l=Wy g y l:=λ{l} hl=>by
   induction l with
   | nil=>rfl
   | cons z r ih=>
    unfold Wy;rw[h y zG,hl z zG,ih λx hx=>hl x iP]
  exact this λx hx=>h x (zH _ (qK.mem_iff.mp hx))
theorem q9E{α:Type}{f:α->V}{g:α->vB}:∀{l:bJ},(∀t∈l,RelV (f t) (g t))->Yw (l.map f) Pu
 | [],_=>.nil
 | t::r,h=>.cons (h t zG) (q9E λx hx=>h x iP)
theorem q4p:∀{xs:br}{vs:bC}{i:Nat}{v:vB},Yw xs vs->vs[i]?=some v->∃x,xs[i]?=some x/\RelV x v
 | _,_,i,v,.nil,h=>by simp at h
 | _,_,0,v,.cons r _,h=>by simp at h;subst h;exact PX
 | _,_,i+1,v,.cons _ r,h=>by
  obtain⟨x,a,b⟩:=q4p (i:=i) r ⇑h;exact⟨x,by simpa using a,b⟩
theorem q9J:∀{vs:bC}{ns:ac}{i:Nat}{v:vB},uJ vs ns->vs[i]?=some v->ns[i]?=some (t7 v)
 | _,_,i,v,.nil,h=>by simp at h
 | _,_,0,v,.cons _ _ _,h=>by simp at h;subst h;rfl
 | _,_,i+1,v,.cons _ _ r,h=>by
  have:=q9J (i:=i) r ⇑h;simpa using this
theorem qb7{xs:br}{vs ks:bC}{ds:aM}{kf:PF}(rv:O0)(hd:IG)(hk:uJ ks (ds.map kf)):Yw ((Yt (λz:D×V=>kf z.1) mE).map (·.2)) ((Yt (λp:vB×vB=>t7 p.1) (ks.zip vs)).map (·.2)):=by
 have l1:=rv.length;have l2:=hk.length;rw[zB]at l2
 let L:=(ds.zip xs).zip (ks.zip vs)
 have e1:ds.zip xs=L.map Prod.fst:=by
  rw[wI];rw[yl,yl];omega
 have e2:ks.zip vs=L.map Prod.snd:=by
  rw[List.map_snd_zip];rw[yl,yl];omega
 have mem:∀t∈L,kf t.1.1=t7 t.2.1/\RelV t.1.2 t.2.2:=λt ht=>by
  obtain⟨i,hi⟩:=yz.mp ht;obtain⟨a1,a2⟩:=yw.mp hi;obtain⟨b1,b2⟩:=yw.mp a1;obtain⟨c1,c2⟩:=yw.mp a2;obtain⟨x,g1,g2⟩:=q4p rv c2;rw[b2]at g1;cases g1;have g3:=q9J hk c1;rw[zX,b1]at g3;exact⟨zr g3,g2⟩
 rw[e1,e2,q2G,q2G,zi,zi,q46 λt ht=>(mem t ht).1];exact q9E λt ht=>(mem t Ut).2
section
variable{X:Cx}{pins:List (vC×Obj)}{σ:L2.St}{G H:Hp}{s:vF}{a kS:vC}{xs:List V}{vs:List vB}{ds:List D}{kf:D->Int}
noncomputable def apart(pins:aC)(a kS:vC)(e1:Nat)(ks:fj)(e:Nat):List A5:=pins++[(kS,Fn),(a,v4 "list" #[] e1)]
theorem q6I(I:gk):s.heap.get? kS=some Fn/\H kS=none:=by
 have:=I.pin (kS,Fn) aao;exact AD
theorem q7X(I:gk):s.heap.get? a=some (v4 "list" #[] e1)/\H a=none:=by
 have:=I.pin (a,v4 "list" #[] e1) Pm;exact AD
theorem q89(I:gk):Inv X pins σ H s:=I.unpinned
theorem q9z{e1 e:Nat}{ks:fj}(I:aj)(fk:HG)(fa:nE)(hk:s.heap.get? kS=some Fn)(ha:s.heap.get? a=some (v4 "list" #[] e1)):Inv X Cy σ H s :=
 I.pins_of λp hp=>by
  rcases zR.mp hp with z|z
  ·exact I.pin p (zJ _ z)
  ·rcases zI.mp z with rfl|z
   ·exact⟨hk,fk.1,fk.2.1,fk.2.2.1,λv h=>by cases h⟩
   ·cases zV.mp z
    exact⟨ha,fa.1,fa.2.1,fa.2.2.1,λv h=>by cases h⟩
theorem q4w{h:ve}{b:vC}{ys:fj}{n:Nat}(q:h.get? b=some (v4 "list" ys n))(f:aaT):∃n',(h.update b NQ).get? b=some (v4 "list" (f ys) n'):=⟨_,get?_update_seq q f⟩
theorem q0e{H':Hp}{b:vC}(h:X1 X pins H b)(n:H' b=none):X1 X pins H' b:=⟨n,h.2⟩
theorem q9T{st:ux}{ks:fj}{e e1:Nat}{P:BL}{E:aO}{A:vc}(I:gk)(ne:kS≠a)(fk:HG)(fa:nE)(rv:O0)(hd:IG)(hk:Qb)(h64:KB)(ho:(vW st).toList=Yt (λp:ur=>t7 p.1) UE)(hf:failedOf st=none)(h:∀s',Inv X pins σ (upd H a (.lst ((Yt (λz:D×V=>kf z.1) mE).map (·.2)))) s'->P AX s'):
  vM ai A (ksk_tail a false e1 acf st) P E s:=by
 obtain⟨qk,hk0⟩:=q6I I;obtain⟨qa,ha0⟩:=q7X I;have I0:=q89 I;have lk:ks.toList.length=vs.length:=by have:=hk.length;have:=rv.length;rw[zB]at *;omega
 have lo:((vW st).map (·.2)).size=vs.length:=by
  rw[Array.size_map,<- zU,ho,q8l,yl];omega
 have qa1:(s.heap.update kS (Obj.mapSeq λ_=>(#[]:Array vB))).get? a=some (v4 "list" #[] e1):=(ze _ _ ne).trans qa;obtain⟨c2,qa2⟩:=q4w qa1 (λ_=>(vW st).map (·.2));have sv:=qb7 rv hd hk;have el:((vW st).map (·.2)).toList=(Yt (λp:vB×vB=>t7 p.1) UE).map (·.2):=by rw[Array.toList_map,ho]
 unfold ksk_tail
 try dsimp only
 refine vA (tK qk rfl (vA (uj (vA (seqEpoch_at qa1 rfl ?_)))) (by rw[<- zU,lk,vh];omega) Cf);refine vA (tK qa1 rfl ?_ Cf (by show ((vW st).map (·.2)).size<=_;rw[lo,vh];omega));rw[hf];simp only[bne_self_eq_false,yG,if_false];refine vG (h _ ?_);have I1:=I0.turned (h':=s.heap.update kS (Obj.mapSeq λ_=>(#[]:Array vB))) (t':=s.toks) (it:=kS) kK fk.1 fk.2.1 fk.2.2.2.1 fk.2.2.2.2.1 fk.2.2.2.2.2;refine qfc (s:={ s with heap:=s.heap.update kS (Obj.mapSeq λ_=>(#[]:Array vB)) }) (its:=((vW st).map (·.2)).toList) (n:=c2) (t':=s.toks) I1 fa kK ?_ (by rw[el];exact sv) ?_
 ·rw[xP];exact qa2
 ·rw[sv.length,<- el,zU,lo,vh];omega
theorem qhZ{ks:fj}{e e1:Nat}{P:BL}{E:aO}{A:vc}(I:gk)(ne:kS≠a)(fk:HG)(fa:nE)(rv:O0)(hd:IG)(hk:Qb)(h64:KB)(h:∀s',Inv X pins σ (upd H a (.lst ((Yt (λz:D×V=>kf z.1) mE).map (·.2)))) s'->P AX s'):
  vM ai A (ksk_end a false vs.toArray e1 acf ks) P E s:=by
 have lk:ks.size=vs.length:=by rw[<- zU];have:=hk.length;have:=rv.length;rw[zB]at *;omega
 have lz:(ks.zip vs.toArray).size=vs.length:=by rw[Array.size_zip,lk,zN,Nat.min_self]
 have ez:(ks.zip vs.toArray).toList=ks.toList.zip vs:=ksk_zip ks vs;unfold ksk_end
 try dsimp only
 rw[vJ (by decide)]
 by_cases h2:vs.toArray.size<2
 ·rw[vH h2,vH h2]
  refine vA fW;rw[StateT.run_pure];refine vA (vG (q9T (st:=SortSt.mk' general' Hq #[] 7 none) I ne fk fa rv hd hk h64 ?_ rfl h));show (ks.zip vs.toArray).toList=_;rw[ez];rw[zN]at h2;have l2:(ks.toList.zip vs).length<2:=by rw[yl];omega
  match ks.toList.zip vs,l2 with
  | [],_=>rfl
  | [_],_=>rfl
  | _::_::_,l2=>simp at l2;omega
 ·rw[vJ h2,vJ h2]
  rw[zN]at h2;rw[ksk_kind hk (by rw[lk];omega)];refine vA (vG (vA (vo (qb3 (a₀:=ks.zip vs.toArray) (st:=SortSt.mk' oneType' Hq #[] 7 none)
   (Q:=λ_ st'=>(vW st').Perm Hq/\failedOf st'=none/\ut eW (ks.zip vs.toArray).size/\zAG (vW st').toList (ks.zip vs.toArray).toList)
   (ksk_intKeys hk) ⟨Array.Perm.refl _,rfl,rfl,rfl⟩ rfl (by rw[lz];omega) (by rw[lz];exact h64) λst' b1 b2 b3 b4=>⟨b1,b2,b3,b4⟩) ?_ λ_ _ z=>z)))
  rintro⟨⟨⟩,st'⟩ s' ⟨rfl,b1,b2,b3,b4⟩
  try dsimp only
  refine q9T I ne fk fa rv hd hk h64 ?_ b2 h;rw[qhY b1 b3 b4,ez]
theorem qfY{k:Nat}{f:vC}{fd:vL}{ps:dM}{m:bG}{e1:Nat}{P:BL}{E:aO}(F:cU)(hr:HL)(hb:jp)(I:Inv X (apart pins a kS e1 #[] 0) σ H s)(ne:kS≠a)(fk:HG)(fa:nE)(sg:Bc)(rp:CA)(rv:O0)(h64:KB)(hm:∀d∈ds,m [d]=↥DA)(h:∀G' H' s',Ext G H G' H'->H' a=none->Inv X pins σ (upd H' a (.lst ((Yt (λz:D×V=>kf z.1) mE).map (·.2)))) s'->P AX s'):
  vM ai X.A.in1.in1 (ksk_rest a eZ false vs.toArray e1 acf) P E s:=by
 have ld:ds.length=xs.length:=rp.len;have lv:xs.length=vs.length:=rv.length;unfold ksk_rest;refine vA VA;rw[List.forIn_toArray];refine vA (ksk_fold (λi s'=>∃G' H' ks e,Inv X Cy σ H' s'/\Ext G H G' H'/\uJ ks.toList ((ds.map kf).take i)) vs 0 s
  ⟨G,H,#[],0,I,Ext.refl sg,by simpa using IntsAre.nil⟩ ?turn ?done)
 case turn=>
  rintro j x s' hx ⟨G',H',ks,e,I',x',hk⟩;simp only[xz]at hk ⊢;have hj:j<vs.length:=(zc.mp hx).1;obtain⟨y,hy,ry⟩:=q4p rv hx;have hdj:ds[j]?=some ds[j]:=zD ∅;obtain⟨y',hy',rd⟩:=rp.get hdj;rw[hy]at hy';cases hy';have lks:ks.size<=vs.length:=by
   have:=hk.length;rw[zU,zo]at this;omega
  refine vA (uZ (vo (qhR (Q:=λv H2=>v=.int (kf ds[j])/\∃G2,Ext G H G2 H2) (E:=λ_ _ _=>False) (E':=λ_ _=>False) F hr hb I' (.cons ry .nil) ?_) LK λ_ _ z=>False.elim z))
  ·exact⟨G',[ds[j]],_,Qj,rfl,x'.gh,Yr.cons (rd.mono x'.gg) Yr.nil,λv G2 H2 x2 y2=>⟨y2,G2,x'.trans x2⟩⟩
  ·obtain⟨v,H2,I2,rvu,rfl,G2,x2⟩:=he
   obtain⟨t2,rfl⟩:∃t,u=.int (kf ds[j]) t:=by
    obtain⟨t,z⟩:=rvu;exact⟨t,z⟩
   try dsimp only
   obtain⟨qk,hk0⟩:=q6I I2;obtain⟨qa,ha0⟩:=q7X I2;obtain⟨c2,qk2⟩:=q4w qk (·.push (.int (kf ds[j]) t2));have fk2:=q0e fk hk0;refine vA (tK qk rfl (vG ⟨rfl,G2,H2,ks.push (.int (kf ds[j]) t2),c2,?_,x2,?_⟩) (by rw[vh];omega) (by rw[ZH,vh];omega))
   ·have I3:=(q89 I2).turned (h':=s2.heap.update kS (Obj.mapSeq (·.push (.int (kf ds[j]) t2)))) (t':=s2.toks) (it:=kS) kK fk2.1 fk2.2.1 fk2.2.2.2.1 fk2.2.2.2.2.1 fk2.2.2.2.2.2
    exact q9z I3 fk2 Qe qk2 ((ze _ _ ne).trans qa)
   ·have ek:(ds.map kf).take (j+1)=(ds.map kf).take j++[kf ds[j]]:=by
     rw[Zx,zX,hdj];rfl
    have ea:(ks.push (Value.int (kf ds[j]) t2)).toList=ks.toList++[Value.int (kf ds[j]) t2]:=by simp
    rw[ea,ek];exact ksk_snoc hk
 case done=>
  rintro s' ⟨G',H',ks,e,I',x',hk⟩;rw[xw (by rw[zB];omega)]at hk;obtain⟨qk,hk0⟩:=q6I I';obtain⟨qa,ha0⟩:=q7X I'
  try dsimp only
  exact vA (listItems_at qk rfl (qhZ I' ne (q0e fk hk0) Qe rv ld hk h64 λs2 I2=>h G' H' s2 x' ha0 I2))
end
section
variable{X:Cx}{pins:List (vC×Obj)}{σ:L2.St}{G H:Hp}{s:vF}{a:vC}{xs:List V}{vs:List vB}{ds:List D}{kf:D->Int}{k:Nat}{f:vC}{fd:vL}{ps:List Str}{m:List D->Option O}
theorem qgx{n:Nat}{P:BL}{E:aO}(F:cU)(hr:HL)(hb:jp)(I:aj)(fa:nE)(qa:s.heap.get? a=some Dm)(sg:Bc)(rp:CA)(rv:O0)(h64:KB)(hm:∀d∈ds,m [d]=some (.sh DA))(h:∀G' H' s',Ext G H G' H'->H' a=none->Inv X pins σ (upd H' a (.lst ((Yt (λz:D×V=>kf z.1) mE).map (·.2)))) s'->P AX s'):
  vM ai X.A.in1.in1 (ksk_tree a eZ false) P E s:=by
 obtain⟨e1,qa1⟩:=q4w qa (λ_=>(#[]:Array vB));have la:a<s.heap.objs.size:=zS qa;have I3:=I.turned (h':=s.heap.update a (Obj.mapSeq λ_=>(#[]:Array vB))) (t':=s.toks) (it:=a) kK fa.1 fa.2.1 fa.2.2.2.1 fa.2.2.2.2.1 fa.2.2.2.2.2;have I4:=I3.kept (h':=(s.heap.update a (Obj.mapSeq λ_=>(#[]:Array vB))).push oG) (t':=s.toks) λb u q=>zF _ q;have fk:=I4.fpOk cP (I4.hok.fresh cP);have I5:=I4.kept (h':=((s.heap.update a (Obj.mapSeq λ_=>(#[]:Array vB))).push oG).push (v4 "list" #[] 0)) (t':=s.toks) λb u q=>zF _ q;have qa5:(((s.heap.update a (Obj.mapSeq λ_=>(#[]:Array vB))).push oG).push (v4 "list" #[] 0)).get? a=some (v4 "list" #[] e1):=zF _ (zF _ qa1);have hn:((s.heap.update a (Obj.mapSeq λ_=>(#[]:Array vB))).push oG).objs.size=s.heap.objs.size+1:=by rw[size_push',xR]
 have I6:=q9z (e:=0) (ks:=#[]) I5 fk fa jH qa5;have z64:vs.toArray.size<=sizeLine:=by rw[zN,vh];omega
 unfold ksk_tree;refine vA (listItems_at qa rfl (vA (tK qa rfl (vA (seqEpoch_at qa1 rfl (vA (tY (vA (uz Vx Cf)) ⇑z64)))) z64 Cf)));exact qfY F hr hb I6 (by rw[hn];exact xb (yS la)) fk fa sg rp rv h64 hm h
theorem qda{p:vC}{Q:VK}{E:aO}(F:cU)(hr:HL)(hb:jp)(I:aj)(hp:HW)(sg:Bc)(rp:CA)(h64:xs.length<64)(hm:∀d∈ds,m [d]=↥DA)(q:∀G' H' l,Ext G H G' H'->H' l=none->H l=none->Q c9 (upd H' l (.lst ((Yt (λz:D×V=>kf z.1) mE).map (·.2))))):
  vM ai X.A (call j0 OX JP) cV E s:=by
 obtain⟨vs,n0,rv,e0,_⟩:=I.lst hp;have lv:xs.length=vs.length:=rv.length;have z64:vs.length<=sizeLine:=by rw[vh];omega
 have hn:((s.heap.push (v4 "list" #[] 0)).update s.heap.objs.size (Obj.mapSeq (·++vs.toArray))).objs.size=s.heap.objs.size+1:=by rw[xR,size_push']
 have keep:∀b o,s.heap.get? b=some o->(((s.heap.push (v4 "list" #[] 0)).update s.heap.objs.size (Obj.mapSeq (·++vs.toArray))).push fz).get? b=some o:=λb o z=>by
  have lt:b<s.heap.objs.size:=zS z;exact zF _ ((ze _ _ (xb lt)).trans (zF _ z))
 have I2:=I.kept (t':=s.toks) keep;have fa:X1 X pins H nW:=I.fpOk QP Gz;have qa:(((s.heap.push (v4 "list" #[] 0)).update s.heap.objs.size (Obj.mapSeq (·++vs.toArray))).push fz).get? nW=some fz:=by
  rw[<- hn];exact zW _ rfl
 refine call_function_entry_kw sM sF sG (ksk_s1 _ _) ?_;unfold Builtin.«sorted»;apply vA (m:=checkCount "sorted" 1 1 _);apply vG;refine vA (collect_list AE (vA (uz ?_ z64)) z64);show vM _ _ _ _ _ { s with heap:=((s.heap.push (v4 "list" #[] 0)).update s.heap.objs.size (Obj.mapSeq (·++vs.toArray))).push fz };rw[hn];refine vA (vU (wpAny_call_entry_kw slot_list_sort ⟨_,qa,rfl⟩ entry_list_sort ?go (ksk_l1 _ _)))
 case go=>
  show vM ai X.A.in1.in1 (Builtin.«list.sort» ⟨[.ref nW],JP⟩) _ _ _;rw[ksk_t1];refine qgx F hr hb I2 fa qa sg rp rv ∅ hm λG' H' s' x' hn' I'=>db;exact vG ⟨_,rfl,PM,_,I',rfl,q G' H' _ x' hn' fa.1⟩
theorem q9Y{K:zC}{G:Hp}:∀{l:List (D×V)},(∀t∈l,Rep K G t.1 t.2)->Yr K G (l.map (·.1)) (l.map (·.2))
 | [],_=>rfl
 | t::r,h=>Yr.cons (h t zG) (q9Y λx hx=>h x iP)
theorem qcX{K:zC}{G:Hp}{ds:aM}{xs:br}{kf:PF}(h:Yr K G ds xs):Yr K G (Yt kf ds) ((Yt (λz:D×V=>kf z.1) mE).map (·.2)):=by
 have l:=h.len;have e:ds=(ds.zip xs).map Prod.fst:=by rw[wI];omega
 have mem:∀t∈ds.zip xs,Rep K G t.1 t.2:=λt ht=>by
  obtain⟨i,hi⟩:=yz.mp ht;obtain⟨a1,a2⟩:=yw.mp hi;obtain⟨v,b1,b2⟩:=h.get a1;rw[a2]at b1;cases b1;exact b2
 have e2:Yt kf ds=(Yt (λz:D×V=>kf z.1) mE).map (·.1):=by
  conv=>lhs;rw[e]
  rw[q2G]
 rw[e2];exact q9Y λt ht=>mem t Ut
noncomputable def WL(m:bG)(d:D):Int:=match m [d]with
 | ↥(.int k)=>k
 | _=>0
noncomputable def keyOk(m:bG)(d:D):Bool:=match m [d]with
 | ↥(.int _)=>true
 | _=>false
theorem qav{m:bG}{d:D}(h:keyOk m d=true):m [d]=↥(.int (WL m d)):=by
 unfold keyOk at h;unfold WL
 split at h
 ·rename_i k e;rw[e]
 ·cases h
noncomputable def tSortK(K:zC)(m:bG)(te:TE):TE:=λσ H Q=>te σ H λv H1=>∃p xs G ds,v=.ref p/\H1 p=some dY/\Yx G H1/\Yr K G ds xs/\xs.length<64/\(∀d∈ds,keyOk m d=true) /\
 ∀G' H' l,Ext G H1 G' H'->H' l=none->H1 l=none->Q c9 (upd H' l (.lst ((Yt (λz:D×V=>WL m z.1) mE).map (·.2))))
def askK(K:zC)(m:bG)(Q:VK):V->Hp->Prop:=λv H1=>∃p xs G ds,v=.ref p/\H1 p=some dY/\Yx G H1/\Yr K G ds xs/\xs.length<64/\(∀d∈ds,keyOk m d=true) /\
 ∀G' H' l,Ext G H1 G' H'->H' l=none->H1 l=none->Q c9 (upd H' l (.lst ((Yt (λz:D×V=>WL m z.1) mE).map (·.2))))
def one1(R:V->Hp->Prop):List V->Hp->Prop:=λus H1=>match us with
 | [v]=>R v H1
 | _=>False
theorem qce{R:V->Hp->Prop}{us:br}{H1:Hp}(h:one1 R us H1):∃v,us=[v]/\R v H1:=by
 unfold one1 at h
 split at h
 ·exact⟨_,rfl,h⟩
 ·exact h.elim
theorem qfR{e:vP}{te:TE}{x:Str}{p p2 p3 pos:Pos}{k0:Nat}(c:g9)(hr:Ei)(hg:Jk)(hm:oz)(hx:rT)(he:rR)(hk:k+2<=k0)(hd:aG:=by decide)(hs:m7:=by rfl)(h1:rF:=by rfl)(h2:(vZ pos g7).any (·.1)=false:=by rfl)(h3:(v7 pos iE).all (·.1.isSome)=true:=by rfl)(h4:(v7 pos iE).any (·.1.isNone)=false:=by rfl)(h5:(v7 pos iE).filterMap (·.1)=[dX]:=by rfl):
  PE X Rs (tSortK X.K m te):=by
 intro pins s σ H Q I h;refine vp (q0m I hg hm q3M ?_ (by decide) (by decide));refine callWith_kw (thn (qB he qC hs pos pins s σ H (one1 (askK X.K m Q)) I h) λus s1 ⟨ws,H1,I1,r1,q1⟩=>?_) h1 h2 h3 h4;obtain⟨v,rfl,p,xs,G,ds,rfl,b1,b2,b3,b4,b5,b6⟩:=qce q1;obtain⟨u,rfl,ru⟩:=vals1 r1;cases ru;refine thn iS λzs s2 ⟨ys,H2,I2,rz,e1,e2⟩=>?_;subst e1;subst e2;obtain⟨u,rfl,ru⟩:=vals1 rz;cases ru;rw[h5];exact qda c.1 JK c.2.2.2 I2 b1 b2 b3 b4 Pk b6
end
noncomputable def zBS(m:bG):D->Option R
 | .lst ds=>if ds.length<64/\ds.all Ht=true then some (.fr Ny)else none
 | _=>none
noncomputable def zAy(m:bG)(f:FD):FE:=λω=>(f ω).bind (zBS m)
theorem qfZ{X:Cx}{k:Nat}{f:vC}{fd:vL}{ps:dM}{m:bG}{e:vP}{fe:FD}{x:Str}{p p2 p3 pos:Pos}{k0:Nat}(c:g9)(hr:Ei)(hm:oz)(he:XV X e fe)(hg:Gl X "sorted" := by exact rfl)(hx:rT:=by exact rfl)(hk:k+2<=k0:=by decide)(hd:aG:=by decide)(hs:m7:=by rfl)(h1:rF:=by rfl)(h2:(vZ pos g7).any (·.1)=false:=by rfl)(h3:(v7 pos iE).all (·.1.isSome)=true:=by rfl)(h4:(v7 pos iE).any (·.1.isNone)=false:=by rfl)(h5:(v7 pos iE).filterMap (·.1)=[dX]:=by rfl):
  XE X Rs (zAy m fe):=by
 obtain⟨t,g1,g2⟩:=he;refine⟨_,qfR c hr hg hm hx g1 hk hd hs h1 h2 h3 h4 h5,J7⟩;obtain⟨d,q,er⟩:=bnd er;refine g2 G0 H0 G ω σ H d _ o q λv G1 H1 x1 y1=>?_;cases d with
 | lst ds=>
  have er':(if ds.length<64/\ds.all Ht=true then some (R.fr Ny)else none)=some r:=er
  by_cases z:ds.length<64/\ds.all Ht=true
  ·rw[gR]at er'
   cases er';obtain⟨p,vs,rfl,w1,w2⟩:=y1.lst x1.gh;refine⟨p,vs,G1,ds,rfl,w1,x1.gh,w2,by rw[<- w2.len];exact z.1,ym.mp z.2,λG2 H2 l x2 n2 n1=>?_⟩;have x3:=Ext.hide x2.gh n2 (.lst ((Yt (λz:D×V=>WL m z.1) (ds.zip vs)).map (·.2)));exact kk _ G2 _ DC ⟨l,_,rfl,x1.hh.free n1,x2.gh.free n2,qf,qcX (w2.mono x2.gg)⟩
  ·rw[gE]at er';cases er'
 | _=>cases er
end Hk
namespace Hk
open PySem L2
noncomputable def skR(m:bG)(o:fh):Option R:=o.bind (zBS m)
section
variable{m:List D->Option O}{f:FD}{ω:WSt}{d:D}{i:Nat}{ks:List Int}{ds:List D}
theorem qc0:zAy m f ω=skR m (f ω):=rfl
theorem qdy:iDk i ω=zBN ω[i]?:=rfl
theorem qf6:zBN (some ↥EQ)=some Nj:=rfl
theorem qkU(h:ds.length<64)(h':∀d∈ds,keyOk m d=true):skR m KH=some (.fr Ny):=vH ⟨h,ym.mpr h'⟩
end
end Hk
namespace Hk
open PySem PySem.Spec PyProof.Rows L2
section
variable{X:Cx}{pins:List (vC×Obj)}{σ:L2.St}{G H:Hp}{s:vF}{it a p:vC}{xs:List V}{ds:List D}{kf:D->Int}{k:Nat}{f:vC}{fd:vL}{ps:List Str}{m:List D->Option O}
theorem qcE{sp:Sp}{E:XK}{Q:VK}{us:bC}{vs:br}{E':aO}(F:Dx)(hr:O4)(hb:jp)(I:aj)(r:UQ)(h:sp vs H Q E):vM ai X.A.in1 Qv cV E' s:=by
 have hl:(us++[]).length=ps.length:=by rw[zn,<- r.length];exact F.len _ _ _ _ h
 have b:=hb s us I.kIn hl;rw[zn]at b;refine t8 (uV (F.run X.A.in1 X.stack s H Bj us vs Q E hr.in1 I.env0.in1 b r h) λr s' hq=>?_);cases r with
 | error e=>exact False.elim hq
 | ok fl=>
  cases fl with
  | ret u=>exact I.after hq
  | next=>exact False.elim hq
  | brk=>exact False.elim hq
  | cont=>exact False.elim hq
theorem q7p{oI oS:Obj}(I:aj)(fi:X1 X pins H it)(fa:nE)(hi:s.heap.get? it=some oI)(ha:s.heap.get? a=some oS)(ni:∀v,oI.data≠.cell v)(na:∀v,oS.data≠.cell v):Inv X Dn σ H s :=
 I.pins_of λp hp=>by
  rcases zR.mp hp with z|z
  ·exact I.pin p (zJ _ z)
  ·rcases zI.mp z with rfl|z
   ·exact⟨hi,fi.1,fi.2.1,fi.2.2.1,ni⟩
   ·cases zV.mp z
    exact⟨ha,fa.1,fa.2.1,fa.2.2.1,na⟩
theorem q7f{oI oS:Obj}(I:Inv X Dn σ H s):s.heap.get? it=some oI/\H it=none:=by
 have:=I.pin (it,oI) aao;exact AD
theorem q9f{oI oS:Obj}(I:Inv X Dn σ H s):s.heap.get? a=some oS/\H a=none:=by
 have:=I.pin (a,oS) Pm;exact AD
theorem q3c{h':ve}{t':Nat}{b:vC}(I:aj)(fi:X1 X pins H b)(k:∀c o,c≠b->s.heap.get? c=some o->h'.get? c=some o):Inv X pins σ H { s with heap:=h',toks:=t' } :=
 I.turned k fi.1 fi.2.1 fi.2.2.2.1 fi.2.2.2.2.1 fi.2.2.2.2.2
noncomputable def kn(kf:PF)(ds:aM)(i:Nat):Int:=(ds[i]?.map kf).getD 0
noncomputable abbrev kbt(kf:PF)(ds:aM):Nat->Nat->Bool:=λi j=>decide (kn kf ds i<kn kf ds j)
theorem qhz{i:Nat}(h:i<ds.length):kn kf ds i=kf ds[i]:=by unfold kn;rw[zD h];rfl
theorem qkO{Z:R3}(F:cU)(hr:O4)(hb:jp)(hh:acZ)(fi:X1 X pins H it)(fa:nE)(nia:it≠a)(hp:HW)(sg:Bc)(rp:CA)(hm:∀d∈ds,m [d]=↥DA)(hZ:∀G' H' s' y u,Ext G H G' H'->Inv X pins σ H' s'->xs[vt cW Jc]?=some y->RelV y u->Z (.ok (.ret u)) s'):
  ∀(r j:Nat)(G' H':Hp)(s:vF)(y:V)(vb:vB)(tb:Tok)(c:Nat)(oI:Obj),xs.length-(j+1)=r->j+1<=xs.length->Ext G H G' H' ->
   Inv X (pins++[(it,oI),(a,v4 "list" #[vb,Ro] c)]) σ H' s->(∀h:ve,h.get? it=some oI->h.IsListIter it p (j+1))->(∀v,oI.data≠.cell v)->xs[EW]?=some y->RelV y vb ->
   uU ai X.A (.builtin "min.loop" ⟨[ig,eZ,dJ],[]⟩) Z s:=by
 have nm:DH = "min.loop" := by decide
 have npi:p≠it:=λz=>by rw[z,fi.1]at hp;cases hp
 have ld:ds.length=xs.length:=rp.len;intro r
 induction r with
 | zero=>
  intro j G' H' s y vb tb c oI e1 e2 x I hI nI hy ry;obtain⟨qi,hi0⟩:=q7f I;obtain⟨qa,ha0⟩:=q9f I;obtain⟨vs,n0,rv,e0,_⟩:=I.lst (x.hh _ _ hp);have lv:xs.length=vs.length:=rv.length;have W:=Walks.list (prog:=X.prog) (w:=X.w) (A:=X.A.in1) hh it p npi vs.toArray;have hsz:vs.toArray.size=j+1:=by rw[zN];omega
  refine v8 PySem.F.entry_min_loop ?_;rw[lP];show vM _ X.A.in1 (seqItems? dJ >>= _) _ _ s;refine vA acy;show vM _ X.A.in1 (tryCatch M5 _ >>= _) _ _ s;refine vA (ub (W.done s _ _ ⟨by rw[hsz];exact hI _ qi,AE⟩ λh' tk' hk'=>?_));have I1:=q3c (h':=h') (t':=tk') I.unpinned (q0e fi hi0) λb o hb q=>hk' b o ⇑hb q;have qa':=hk' a _ ⇑(nia.symm) qa;show vM _ X.A.in1 (ui a (λ_=>#[]) >>= _) _ _ _;refine vA (uA qa' rfl (vA (uj fW)));have I2:=q3c (h':=h'.update a (Obj.mapSeq λ_=>(#[]:Array vB))) (t':=tk') I1 Qe λb o hb q=>(ze _ _ fN).trans q;exact hZ G' H' _ y vb x I2 (by rw[show xs.length-1=j by omega];exact hy) ry
 | succ r ih=>
  intro j G' H' s y vb tb c oI e1 e2 x I hI nI hy ry;obtain⟨qi,hi0⟩:=q7f I;obtain⟨qa,ha0⟩:=q9f I;obtain⟨vs,n0,rv,e0,_⟩:=I.lst (x.hh _ _ hp);have lv:xs.length=vs.length:=rv.length;have hlt:j+1<xs.length:=∅
  have W:=Walks.list (prog:=X.prog) (w:=X.w) (A:=X.A.in1) hh it p npi vs.toArray;have hsz:vs.toArray.size=vs.length:=zN ..;refine v8 PySem.F.entry_min_loop ?_;rw[lP];show vM _ X.A.in1 (seqItems? dJ >>= _) _ _ s;refine vA acy;show vM _ X.A.in1 (tryCatch M5 _ >>= _) _ _ s;refine vA (ub (W.item (j+1) s _ _ (by rw[hsz,<- lv];exact hlt) ⟨hI _ qi,AE⟩ λv h' tk' hP hst' hk'=>?_));have hv:vs[j+1]?=some v:=by simpa using hP
  obtain⟨oI',hoI',hoc,hod⟩:=id hst'.1;have nI':∀v,oI'.data≠.cell v:=λv z=>by rw[hod]at z;cases z
  obtain⟨y',hy',ry'⟩:=q4p rv hv;have hdj:ds[j+1]?=some ds[j+1]:=zD ∅;obtain⟨y2,hy2,rd⟩:=rp.get hdj;rw[hy']at hy2;cases hy2;have fi':=q0e fi hi0;have fa':=q0e fa ha0;have I1:=q3c (h':=h') (t':=tk') I.unpinned fi' λb o hb q=>hk' b o ⇑hb q;have qa':=hk' a _ ⇑(nia.symm) qa;have I2:=q7p I1 fi' fa' hoI' qa' nI' (λv z=>by cases z);show vM _ X.A.in1 (tryCatch My _ >>= _) _ _ _;refine vA (ub (vU (vo (qcE (Q:=λv2 H2=>v2=.int (kf ds[j+1])/\∃G2,Ext G H G2 H2) (E:=λ_ _ _=>False) (E':=λ_ _=>False) F hr hb I2 aaZ ?_) LK λ_ _ z=>False.elim z)))
  ·exact⟨G',[ds[j+1]],_,Qj,rfl,x.gh,Yr.cons (rd.mono x.gg) Yr.nil,λv2 G2 H2 x2 y2=>⟨y2,G2,x.trans x2⟩⟩
  ·obtain⟨v2,H2,I3,rvu,rfl,G2,x2⟩:=he
   obtain⟨t2,rfl⟩:∃t,u=.int (kf ds[j+1]) t:=by
    obtain⟨t,z⟩:=rvu;exact⟨t,z⟩
   rw[<- qhz (kf:=kf) (show j+1<ds.length by omega)];obtain⟨qi3,hi3⟩:=q7f I3;obtain⟨qa3,ha3⟩:=q9f I3;show vM _ X.A.in1 (tryCatch (holding [v,pz] (richCompare .Lt pz Ro >>= _)) _ >>= _) _ _ _;refine vA (ub (vU (vA (CmpOf.ints_lt (prog:=X.prog) (w:=X.w) (A:=X.A.in1) (P:=λi v=>∃t,v=.int (kn kf ds i) t) (kn kf ds) (λi v h=>h) (j+1) EW _ _ _ _ _ ⟨t2,rfl⟩ ⟨tb,rfl⟩ ?_))));refine vA (vU (uF ?_));refine vA (uj fW);cases hb':kbt kf ds (j+1) EW with
   | true=>
    have hb2:decide LS=true:=hb';have ab:vt cW (j+1)=j+1:=by simp only[vt,hb',if_true]
    obtain⟨c2,qa4⟩:=q4w qa3 (λ_=>#[v,pz]);simp only[hb2,if_true];refine vA (uA qa3 rfl (vA Vz));rw[nm];have I4:=q3c (h':=s2.heap.update a (Obj.mapSeq λ_=>#[v,pz])) (t':=s2.toks) I3.unpinned JH λb o hb q=>(ze _ _ fN).trans q;have I5:=q7p I4 (q0e fi hi3) JH LG qa4 nI' (λv z=>by cases z);refine vG ⟨nL,ih (j+1) G2 H2 _ y' v t2 c2 oI' ∅ hlt x2 (by rw[ab];exact I5) A9 nI' (by rw[ab];exact hy') ry'⟩
   | false=>
    have hb2:decide LS=false:=hb';have ab:vt cW (j+1)=vt cW j:=by simp only[vt,hb',yG,if_false]
    simp only[hb2,yG,if_false];refine vA Vz;rw[nm];exact vG ⟨nL,ih (j+1) G2 H2 _ y vb tb c oI' ∅ hlt x2 (by rw[ab];exact I3) A9 nI' (by rw[ab];exact hy) ry⟩
theorem qjY{Q:VK}{E:aO}(F:cU)(hr:O4)(hb:jp)(hh:acZ)(I:aj)(hp:HW)(sg:Bc)(rp:CA)(h0:0<xs.length)(hm:∀d∈ds,m [d]=↥DA)(q:∀G' H' y,Ext G H G' H'->xs[vt cW Jc]?=some y->Q y H'):
  vM ai X.A (call La OX JP) cV E s:=by
 have nm:DH = "min.loop" := by decide
 obtain⟨vs,n0,rv,e0,_⟩:=I.lst hp;have lv:xs.length=vs.length:=rv.length;have ld:ds.length=xs.length:=rp.len;have hls:s.heap.IsList p vs.toArray:=AE;refine kmk_tree PySem.F.kind_min PySem.F.plain_min PySem.F.entry_min (kmk_min_key _ _) ?_;show vM _ X.A.in1 (Builtin.Builtins.bindParams "min" aaK 0 ⟨[],JP⟩ >>= _) _ _ s;refine vA (tX (show Builtin.Builtins.bindParams "min" aaK 0 ⟨[],JP⟩=pure [some eZ,none]from rfl) ?_);refine vA fW;refine vA (ua hls ?_);refine vA (uz ?_ Cf);rw[nm];generalize hA:({ cls:=.type "list_iterator", data:=.fields #[bE,.int 0 0] }:Obj)=oA;have hS:(s.heap.push oA).objs.size=s.heap.objs.size+1:=size_push' ..;have keep:∀b o,s.heap.get? b=some o->((s.heap.push oA).push (v4 "list" #[] 0)).get? b=some o:=λb o e=>zF _ FN;have I2:=I.kept (t':=s.toks) keep;have fi:X1 X pins H s.heap.objs.size:=I.fpOk cP lZ;have fa:X1 X pins H (s.heap.push oA).objs.size:=by rw[hS];exact I.fpOk QP Gz
 have gI:((s.heap.push oA).push (v4 "list" #[] 0)).get? s.heap.objs.size=some oA:=zF _ (zW _ (by rw[<- hA];rfl));have gS:((s.heap.push oA).push (v4 "list" #[] 0)).get? (s.heap.push oA).objs.size=some (v4 "list" #[] 0):=zW _ rfl;have nia:s.heap.objs.size≠(s.heap.push oA).objs.size:=by rw[hS];exact zt QQ
 have npi:p≠s.heap.objs.size:=zt (zS e0);refine vG ⟨nL,?_⟩;have W:=Walks.list (prog:=X.prog) (w:=X.w) (A:=X.A.in1) hh s.heap.objs.size p npi vs.toArray;have hsz:vs.toArray.size=vs.length:=zN ..;generalize (s.heap.push oA).objs.size=a at *;refine v8 PySem.F.entry_min_loop ?_;rw[lP];show vM _ X.A.in1 (seqItems? dJ >>= _) _ _ _;refine vA (uK gS rfl ?_);show vM _ X.A.in1 (tryCatch (uO aJ) _ >>= _) _ _ _;refine vA (ub (W.item 0 _ _ _ (by rw[hsz,<- lv];exact h0) ⟨⟨_,gI,by rw[<- hA],by rw[<- hA];rfl⟩,⟨_,keep _ _ e0,rfl,n0,rfl⟩⟩ λv h' tk' hP hst' hk'=>?_));have hv:vs[0]?=some v:=by simpa using hP
 obtain⟨oI',hoI',hoc,hod⟩:=id hst'.1;have nI':∀v,oI'.data≠.cell v:=λv z=>by rw[hod]at z;cases z
 obtain⟨y',hy',ry'⟩:=q4p rv hv;have hdj:ds[0]?=some ds[0]:=zD ∅;obtain⟨y2,hy2,rd⟩:=rp.get hdj;rw[hy']at hy2;cases hy2;have I3:=q3c (h':=h') (t':=tk') I2 fi λb o hb q=>hk' b o ⇑hb q;have qa':=hk' a _ ⇑(nia.symm) gS;have I4:=q7p I3 fi fa hoI' qa' nI' (λv z=>by cases z);show vM _ X.A.in1 (tryCatch My _ >>= _) _ _ _;refine vA (ub (vU (vo (qcE (Q:=λv2 H2=>v2=.int (kf ds[0])/\∃G2,Ext G H G2 H2) (E:=λ_ _ _=>False) (E':=λ_ _=>False) F hr hb I4 aaZ ?_) LK λ_ _ z=>False.elim z)))
 ·exact⟨G,[ds[0]],_,Qj,rfl,sg,Yr.cons rd Yr.nil,λv2 G2 H2 x2 y2=>⟨y2,G2,x2⟩⟩
 ·obtain⟨v2,H2,I5,rvu,rfl,G2,x2⟩:=he
  obtain⟨t2,rfl⟩:∃t,u=.int (kf ds[0]) t:=by
   obtain⟨t,z⟩:=rvu;exact⟨t,z⟩
  rw[<- qhz (kf:=kf) (show 0<ds.length by omega)];obtain⟨qi3,hi3⟩:=q7f I5;obtain⟨qa3,ha3⟩:=q9f I5;obtain⟨c2,qa4⟩:=q4w qa3 (λ_=>#[v,Ie]);show vM _ X.A.in1 (ui a (λ_=>#[v,Ie]) >>= _) _ _ _;refine vA (uA qa3 rfl ?_);rw[nm];have I6:=q3c (h':=s2.heap.update a (Obj.mapSeq λ_=>#[v,Ie])) (t':=s2.toks) I5.unpinned JH λb o hb q=>(ze _ _ fN).trans q;have I7:=q7p I6 (q0e fi hi3) JH LG qa4 nI' (λv z=>by cases z);refine vG ⟨nL,qkO F hr hb hh fi fa nia hp sg rp hm (λG' H' s' y u x' I' hy ru=>?_) _ 0 G2 H2 _ y' v t2 c2 oI' rfl h0 x2 I7 A9 nI' hy' ry'⟩;exact⟨y,H',I',ru,q G' H' y x' hy⟩
def askM(K:zC)(m:bG)(Q:VK):V->Hp->Prop:=λv H1=>∃p xs G ds,v=.ref p/\H1 p=some dY/\Yx G H1/\Yr K G ds xs/\0<xs.length/\(∀d∈ds,keyOk m d=true) /\
 ∀G' H' y,Ext G H1 G' H'->xs[vt (kbt (WL m) ds) Jc]?=some y->Q y H'
noncomputable def tMinK(K:zC)(m:bG)(te:TE):TE:=λσ H Q=>te σ H (askM K m Q)
theorem qiO{e:vP}{te:TE}{x:Str}{p p2 p3 pos:Pos}{k0:Nat}(c:g9)(hr:Ei)(hc:b0)(hg:Gl X "min")(hm:abR)(hx:rT)(he:rR)(hk:k+1<=k0)(hd:aG:=by decide)(hs:m7:=by rfl)(h1:rF:=by rfl)(h2:(vZ pos g7).any (·.1)=false:=by rfl)(h3:(v7 pos iE).all (·.1.isSome)=true:=by rfl)(h4:(v7 pos iE).any (·.1.isNone)=false:=by rfl)(h5:(v7 pos iE).filterMap (·.1)=[dX]:=by rfl):
  PE X IY (tMinK X.K m te):=by
 intro pins s σ H Q I h;refine vp (q0m I hg hm q9R ?_ (by decide) (by decide));refine callWith_kw (thn (qB he qC hs pos pins s σ H (one1 (askM X.K m Q)) I h) λus s1 ⟨ws,H1,I1,r1,q1⟩=>?_) h1 h2 h3 h4;obtain⟨v,rfl,p,xs,G,ds,rfl,b1,b2,b3,b4,b5,b6⟩:=qce q1;obtain⟨u,rfl,ru⟩:=vals1 r1;cases ru;refine thn iS λzs s2 ⟨ys,H2,I2,rz,e1,e2⟩=>?_;subst e1;subst e2;obtain⟨u,rfl,ru⟩:=vals1 rz;cases ru;rw[h5];exact qjY c.1 JK c.2.2.2 fO I2 b1 b2 b3 b4 Pk b6
end
noncomputable def zBk(kf:PF)(ds:aM):Nat:=vt cW Si
noncomputable def oMinK(m:bG):D->Option R
 | .lst ds=>if ds.all Ht=true then ds[DT]?.map R.sh else none
 | _=>none
noncomputable def zBg(m:bG)(f:FD):FE:=λω=>(f ω).bind (oMinK m)
theorem qiz{X:Cx}{k:Nat}{f:vC}{fd:vL}{ps:dM}{m:bG}{e:vP}{fe:FD}{x:Str}{p p2 p3 pos:Pos}{k0:Nat}(c:g9)(hr:Ei)(hc:b0)(hm:abR)(he:XV X e fe)(hg:Gl X "min" := by exact rfl)(hx:rT:=by exact rfl)(hk:k+1<=k0:=by decide)(hd:aG:=by decide)(hs:m7:=by rfl)(h1:rF:=by rfl)(h2:(vZ pos g7).any (·.1)=false:=by rfl)(h3:(v7 pos iE).all (·.1.isSome)=true:=by rfl)(h4:(v7 pos iE).any (·.1.isNone)=false:=by rfl)(h5:(v7 pos iE).filterMap (·.1)=[dX]:=by rfl):
  XE X IY (zBg m fe):=by
 obtain⟨t,g1,g2⟩:=he;refine⟨_,qiO c hr hc hg hm hx g1 hk hd hs h1 h2 h3 h4 h5,J7⟩;obtain⟨d,q,er⟩:=bnd er;refine g2 G0 H0 G ω σ H d _ o q λv G1 H1 x1 y1=>?_;cases d with
 | lst ds=>
  have er':(if ds.all Ht=true then ds[DT]?.map R.sh else none)=some r:=er
  by_cases z:ds.all Ht=true
  ·rw[gR]at er'
   cases q2:ds[DT]? with
   | none=>rw[q2]at er';cases er'
   | some d1=>
    rw[q2]at er';cases er';obtain⟨p,vs,rfl,w1,w2⟩:=y1.lst x1.gh;have hl:=w2.len;have h0:0<ds.length:=xm Cf (zc.mp q2).1;refine⟨p,vs,G1,ds,rfl,w1,x1.gh,w2,∅,ym.mp z,λG2 H2 y x2 hy=>?_⟩;obtain⟨y3,b1,b2⟩:=w2.get q2;rw[<- hl]at hy;rw[show vs[DT]?=some y from hy]at b1;cases b1;exact kk _ G2 H2 eA (b2.mono x2.gg)
  ·rw[gE]at er';cases er'
 | _=>cases er
noncomputable def mkR(m:bG)(o:fh):Option R:=o.bind (oMinK m)
section
variable{m:List D->Option O}{f:FD}{ω:WSt}{ds:List D}
theorem qjQ:zBg m f ω=mkR m (f ω):=rfl
theorem qkN(h':∀d∈ds,keyOk m d=true):mkR m KH=ds[DT]?.map R.sh:=vH (ym.mpr h')
end
section
variable{X:Cx}{pos:Pos}
noncomputable def gLst(K:zC)(n:Nat)(t:TGs):TG:=λv σ H Q=>∃a xs,v=.ref a/\SqL K H a xs/\xs.length=n/\t xs σ H Q
theorem qjU{es:iI}{k:Nat}{t:TGs}{n:Nat}(hc:b0)(h:PGs X es t)(hn:Ad:=by rfl)(hst:(uB es X.env).findIdx? (·.1)=none:=by rfl):PG X CW (gLst X.K n t):=by
 intro pins s σ H v u Q I r hw;obtain⟨a,xs,e1,hq,hl,hw⟩:=hw;subst e1;cases r;obtain⟨its,rv,⟨o,m,h1,h2,h3,h4⟩,hz⟩:=I.list hq;have hL:s.heap.IsList a its.toArray:=⟨o,h1,h2,m,h4⟩;rw[assign_Tuple];refine vA (uy ?_);unfold unpack;have sz:(uB es X.env).length=its.toArray.size:=by simp[hn,<- hl,rv.length]
 rw[sz,hst];refine vA (vU (PySem.W.kun_itemsOf fO hL λh' hx=>?_));have I1:Inv X pins σ H { s with heap:=h' }:=I.kept (t':=s.toks) λb o e=>hx b o (zt DS) e;exact h pins _ σ H xs _ Q I1 ⇑rv hw
noncomputable def gTl(n:Nat)(g:di):FG:=λd ω=>match d with
 | .lst ds=>if ds.length=n then g ds ω else none
 | _=>none
theorem qjl{es:iI}{k n:Nat}{gs:di}(hc:b0)(h:U0)(hn:Ad:=by rfl)(hst:(uB es X.env).findIdx? (·.1)=none:=by rfl):XG X CW (gTl n gs):=by
 obtain⟨g,h1,h2⟩:=h;refine⟨_,qjU hc h1 hn hst,GG⟩;unfold gTl at e;cases d with
 | lst ds=>
  dsimp only at e
  obtain⟨a,vs,rfl,r1,r2⟩:=h
  by_cases z:ds.length=n
  ·rw[gR]at e
   exact⟨a,vs,rfl,SqL.of (o.gh _ _ r1),by rw[<- r2.len];exact z,h2 G0 H0 G ω σ H ds vs ω' Q o e r2 k⟩
  ·rw[gE]at e;cases e
 | _=>cases e
end
end Hk
namespace Hk
open PySem L2
noncomputable def zAr:D->D->Option R
 | .lst xs,.int k=>if (0<=k/\k<=1000)/\xs.length<=1000 then some (.fr (zv k.toNat xs).flatten)else none
 | _,_=>none
theorem Yr.rep{K:zC}{H:Hp}{ds:aM}{vs:br}(h:Ck):∀n:Nat,Yr K H (zv n ds).flatten (zv n vs).flatten
 | 0=>rfl
 | n+1=>by
  rw[yP,yP,yo,yo];exact h.app (h.rep n)
theorem qii{K:zC}:OpV K rRep zAr:=by
 intro G H x y d v u Q s e hx hy k
 match x,y,e with
 | .lst xs,.int n,e=>
  unfold zAr at e
  dsimp only at e
  by_cases z:(0<=n/\n<=1000)/\xs.length<=1000
  ·rw[gR]at e
   cases e;obtain⟨a,vs,rfl,h1,h2⟩:=hx.lst s;cases hy.int;have hz:vs.length*n.toNat<=sizeLine:=by
    rw[<- h2.len];have:=Nat.mul_le_mul z.2 (show n.toNat<=1000 by omega);rw[vh];omega
   refine⟨a,n,vs,rfl,rfl,h1,∅,∅,hz,AZ⟩;exact k _ G _ V0 ⟨p,_,rfl,hp,s.free hp,qf,h2.rep _⟩
  ·rw[gE]at e;cases e
section
variable{X:Cx}{a b:vP}{pos:Pos}{f g:FD}
theorem qk0(ha:dL)(hb:fT):XE X ET (Yn zAr f g):=q2H qjO qii ha hb
end
theorem qku{ds:aM}{k:Int}(h0:V1)(h1:k<=1000)(h2:ds.length<=1000):zAr gK kX=some (.fr (zv k.toNat ds).flatten):=vH ⟨⟨h0,h1⟩,h2⟩
def rIdx:V->List V->Hp->VK->Prop:=λx vs H Q=>∃(l:vC) (ns:ac) (k:Int) (j:Nat),x=.ref l/\vs=[kX]/\H l=some Ca/\W7 k ns=some j/\Q Mk H
theorem qgp{X:Cx}:MtM X "list.index" rIdx:=by
 intro pins s σ H x vs v us Q I rx rv h;obtain⟨l,ns,k,j,rfl,rfl,hH,hj,q⟩:=h;cases rx;obtain⟨u,rfl,ru⟩:=rv.one;obtain⟨t,rfl⟩:=ru;obtain⟨z,its,n,r,hl,e⟩:=I.lstM hH;obtain⟨e1,e2⟩:=q7D (k:=k) r;rw[hj]at e2;obtain⟨a,b,c⟩:=Zl e2;refine uf F.slot_list_index gC F.entry_list_index (F.args_list_index_2 _ _)
  (MeetsSeq.list_index l its.toArray n (.int k t) (PyProof.Rows.isInt k) Pj j ⇑a (by have:=WP;omega) ⇑b (λi hi hlt=>(by simpa using c i ⇑hi hlt))) Jr
 exact⟨Mk,H,ka,bK,q⟩
noncomputable def idxD:D->D->Option R
 | .lst ds,.int k=>(intsOf ds).bind λns=>(W7 k ns).map λ(j:Nat)=>.sh Mk
 | _,_=>none
noncomputable def fIdx(f g:FD):FE:=λω=>(f ω).bind λd=>(g ω).bind λc=>idxD d c
section
variable{X:Cx}{o e:vP}{apos cpos:Pos}{f g:FD}
theorem qfG(ho:XV X o f)(he:XD X e g)(hbase:uE o "index" X.env mj=eval o X.env:=by rfl)(hfew:((vZ cpos g7).all (λx=>!x.1)&&(v7 cpos m6).all jL
   && decide (([e]:List vP).length+([]:List uI).length+(if ([]:List uI).isEmpty then 0 else 1)<30))=true:=by rfl)
  (hline:gH=true:=by rfl) (hs:vK [e] X.env=b8::vK [] X.env:=by rfl) (hplain:(vZ cpos bP).any (·.1)=false:=by rfl) :
  XE X (.Call (.Attribute o "index" apos) [e] [] cpos) (fIdx f g):=by
 obtain⟨t,h1,h2⟩:=ho;obtain⟨u,h3,h4⟩:=he;refine⟨_,q38 PySem.F.plainAttrs_list PySem.F.slot_list_index PySem.F.type_list_index qgp h1 (qB h3 qC hs) hbase hfew hline hs hplain,J6⟩;obtain⟨d,q1,e⟩:=bnd e;obtain⟨c,q2,e⟩:=bnd e;obtain⟨ds,k,rfl,rfl,e⟩:∃ds k,d=.lst ds/\c=.int k/\((intsOf ds).bind λns=>(W7 k ns).map λ(j:Nat)=>R.sh Mk)=some r:=by
  cases d with
  | lst ds=>
   cases c with
   | int k=>exact⟨ds,k,rfl,rfl,e⟩
   | _=>cases e
  | _=>cases e
 obtain⟨ns,q3,e⟩:=bnd e;obtain⟨j,q4,e⟩:=mpd e;subst e;have hds:=q0N q3;subst hds;refine h2 G0 H0 G ω σ H _ _ ow q1 λv G1 H1 x1 y1=>?_;obtain⟨p,vs,rfl,g1,g2⟩:=y1.lst x1.gh;have hv:=g2.of_ints;subst hv;refine⟨.inl ⟨rfl,_,SqL.of g1⟩,h4 G0 H0 G1 ω σ H1 _ _ Qf q2 λw G2 H2 x2 y2=>?_⟩;cases (show w=.int k from y2);exact⟨p,ns,k,j,rfl,rfl,x2.hh _ _ g1,q4,kk _ G2 H2 eA rfl⟩
end
end Hk
set_option maxHeartbeats 4000000
namespace Kx
open PySem L2 Hk
noncomputable def top(i:Nat):vm:=PySem.Challenge.pw_hookrail_k66_a_ring_tour_walked.main.body.getD i (.Pass ⟨0,0,0,0⟩)
section
variable{P:vS}{w:vX}{K:zC}{mg:Str->Option vB}{base:ve}{f:vC}{fd:vL}
noncomputable def q7r:FS:=Am
noncomputable def qw:List D->Option O:=mir 1 q7r
noncomputable abbrev q4V:vm:=top 6
theorem qcR:FnScope gO gO (Yi q4V):=aa
theorem qaR (F:Fun K "is_whole" "is_whole" q4V f fd)(z_isinstance:cZ)(z_bool:acN)(z_int:mg "int" = none)(i_int:ab6)(i_bool:IsT K .bl):
  FnOk P w K mg base CX0 1 f fd gO (spD K 1 qw):=by
 have h:=fnD (P:=P) (w:=w) (mg:=mg) (base:=base) (k:=0) (body:=q7r) F qcR (λcdv A outer s H E hr=>
   fo)
 exact h
noncomputable def q6Y:FS:=(Y4 (eOf (Wh (dOf JT) (Wh (dOf (Yn da oZ cv)) (Wh (dOf (Yp qw (Yf iu Yq))) OV)))))
noncomputable def q3J:List D->Option O:=mir 1 q6Y
noncomputable abbrev q6U:vm:=top 7
theorem qfW:FnScope gO gO (Yi q6U):=aa
theorem qeA{f_is_whole:vC}{d_is_whole:vL}(F:Fun K "is_box" "is_box" q6U f fd)(c_is_whole:bi)(z_len:fD)(z_isinstance:cZ)(z_tuple:nZ)(i_tuple:CU):
  FnOk P w K mg base CX0 2 f fd gO (spD K 1 q3J):=by
 have h:=fnD (P:=P) (w:=w) (mg:=mg) (base:=base) (k:=1) (body:=q6Y) F qfW (λcdv A outer s H E hr=>
   (qc (qg (XD.toE (q03 (XE.toD kG) (q03 (XE.toD (W5 hr.units l9 af)) (q03 ju (q0w ju))))))))
 exact h
noncomputable def q5B:FD:=(dOf (Yp q3J gz))
noncomputable def q4a:FS:=(Yu (sIf (WM UY (WM (XQ (WB (vOf (Yp qw NI)))) (XQ (WB (vOf (W4 .lst cR)))))) bc Xl)
  (Y4 (XZ zAx (Yf (vOf (XB 1 [] VX je Y7 q5B)) Yq))))
noncomputable def q0X:List D->Option O:=mir 3 q4a
noncomputable abbrev q42:vm:=top 8
theorem qaH:FnScope ci ci (Yi q42):=aa
theorem qaw{f_is_whole:vC}{d_is_whole:vL}{f_is_box:vC}{d_is_box:vL}(F:Fun K "is_errand" "is_errand" q42 f fd)(c_is_whole:bi)(c_is_box:Cal P w K mg base 2 f_is_box d_is_box "is_box" gO 1 q3J)(z_isinstance:cZ)(z_list:kD)(z_all:Bx)(i_list:Gc):
  FnOk P w K mg base CX0 3 f fd ci (spD K 3 q0X):=by
 have h:=fnD (P:=P) (w:=w) (mg:=mg) (base:=base) (k:=2) (body:=q4a) F qaH (λcdv A outer s H E hr=>
   (qb (qy (XW.toT (q06 Q4 (q06 (qI (qE (XE.toV Lh))) (q0J (qI (qE (XE.toV (q0p lg i_list rfl z_isinstance rfl z_list q1m)))))))) bz qq)
   (qc (qg (qu Hm q4A rfl z_all q4D (qj (XE.toV (qN rfl (blk OY [] [] rfl ⋯ ⋯ rfl trivial) (qt jt) jM (λ_ _ _ _=>⟨(qh (i:=0) (show (pI++dC:List Str).Nodup from by decide +kernel) rfl ax),qD,(XE.toD (xc c_is_box hr gB))⟩))) qo))))))
 exact h
noncomputable def q2g:FS:=(sIf (XQ (WB (vOf (Yp q0X oe)))) sNo Xl)
noncomputable def q05:List D->Option O:=mir 3 q2g
noncomputable abbrev q2d:vm:=top 9
theorem q87:FnScope ci ci (Yi q2d):=aa
theorem q7w{f_is_errand:vC}{d_is_errand:vL}(F:Fun K "check_errand" "check_errand" q2d f fd)(c_is_errand:Cal P w K mg base 3 f_is_errand d_is_errand "is_errand" ci 3 q0X):
  FnOk P w K mg base CX0 4 f fd ci (spD K 3 q05):=by
 have h:=fnD (P:=P) (w:=w) (mg:=mg) (base:=base) (k:=3) (body:=q2g) F q87 (λcdv A outer s H E hr=>
   (qc (qy (qI (qE (XE.toV (xc c_is_errand hr oh)))) R5 qq)))
 exact h
noncomputable def q6F:FS:=(sExt 3 cK)
noncomputable def q7z:FS:=(Yu Vt
  (Yu (XC 3 (WZ fZ))
  (Yu (Wb VX N5 q6F)
  (Y4 (Wm cJ)))))
noncomputable def q4z:List D->Option O:=mir 5 q7z
noncomputable abbrev q7M:vm:=top 10
theorem q7Z:FnScope ["home", "last", "boxes", "places", "box"] ci (Yi q7M):=aa
theorem qgn{f_check_errand:vC}{d_check_errand:vL}(F:Fun K "stops" "stops" q7M f fd)(c_check_errand:oK)(z_sorted:mT)(z_set:mg "set" = none):
  FnOk P w K mg base CX0 5 f fd ci (spD K 3 q4z):=by
 have h:=fnD (P:=P) (w:=w) (mg:=mg) (base:=base) (k:=4) (body:=q7z) F q7Z (λcdv A outer s H E hr=>
   (qb Kf
   (qb (qp (i:=3) q7Z.nd rfl (Or.inl rfl) (XF ga))
   (qb (q02 PassesOwn.never rfl (qt jt) (qh (i:=4) q7Z.nd rfl ax) (qc (q9M Ct nJ)))
   (qc (qg (qcZ rfl z_sorted rfl z_set lf)))))))
 exact h
noncomputable def q5x:FS:=sNb
noncomputable def q25:List D->Option O:=mir 5 q5x
noncomputable abbrev q3k:vm:=top 12
theorem q5r:FnScope ["things", "ties", "beside", "thing", "tie"] mW (Yi q3k):=aa
theorem q91 (F:Fun K "neighbours" "neighbours" q3k f fd):
  FnOk P w K mg base CX0 1 f fd mW (spD K 2 q25):=by
 have h:=fnD (P:=P) (w:=w) (mg:=mg) (base:=base) (k:=0) (body:=q5x) F q5r (λcdv A outer s H E hr=>
   (qkj hr.units PassesOwn.never rfl q5r.nd rfl rfl rfl (by first|exact Or.inl rfl|exact Or.inr rfl) (by first|exact Or.inl rfl|exact Or.inr rfl) (by first|exact Or.inl rfl|exact Or.inr rfl) (by first|exact .inl rfl|exact .inr rfl) (by first|exact .inl rfl|exact .inr rfl) (by first|exact .inl rfl|exact .inr rfl) Ux Q6 AR AR AR Ct AR oQ oQ oQ oQ (λω e h=>qk4 h) (λω e h=>qk9 h)))
 exact h
noncomputable def q4g:FS:=(sIf (zAs true 2 dZ) (Yu (zAS 2 dZ Qr)
  (zBQ 3 dZ)) Xl)
noncomputable def q2v:FT:=(WB cJ)
noncomputable def q3S:FS:=(Yu (zBB 4 (zBD 3))
  (Wb (Xi (dOf (zAB 1 cK))) Q8 q4g))
noncomputable def q4K:FS:=(Yu (zA6 2 av Qr)
  (Yu (XC 3 (WZ gz))
  (Yu (sWh 1000000 q2v q3S)
  (Y4 (zAv 2)))))
noncomputable def q23:List D->Option O:=mir 6 q4K
noncomputable abbrev q50:vm:=top 13
theorem q1X:FnScope ["thing", "beside", "found", "waiting", "here", "other"] IJ (Yi q50):=aa
theorem qaN (F:Fun K "group_of" "group_of" q50 f fd)(z_sorted:mT):
  FnOk P w K mg base CX0 1 f fd IJ (spD K 2 q23):=by
 have h:=fnD (P:=P) (w:=w) (mg:=mg) (base:=base) (k:=0) (body:=q4K) F q1X (λcdv A outer s H E hr=>
   (qb (qfF (i:=2) q1X.nd rfl (Or.inl rfl) cN Xb)
   (qb (qp (i:=3) q1X.nd rfl (Or.inl rfl) (XF gB))
   (qb (qg6 PassesOwn.never (qE lf) (qb (qi1 (i:=4) q1X.nd rfl (Or.inl rfl) (qiX Ct))
   (qc (q02 PassesOwn.never rfl (qt (XE.toD (q4B hr.units Q6 nJ))) (qh (i:=5) q1X.nd rfl ax) (qc (qy (q8H hr.units Bv AR) (qb (q5X hr.units AR Bv Xb)
   (qc (q4q Ct Bv))) qq))))))
   (qc (qg (qgg rfl rfl z_sorted AR)))))))
 exact h
noncomputable def q5y:FS:=(zAS 3 mM Qr)
noncomputable def q5L:FS:=(sIf (zAs true 3 dZ) (Yu (XC 6 (eOf (dOf (Yp q23 (Yf dZ oq)))))
  (Yu (zBQ 4 k9)
  (Wb (Xi k9) (gN 7) q5y))) Xl)
noncomputable def q6z:FS:=(Yu (XC 2 (eOf (dOf (Yp q25 fZ))))
  (Yu (zA4 3)
  (Yu abQ
  (Yu (Wb (Xi (dOf (Wi ay))) Q8 q5L)
  (We 4)))))
noncomputable def q2c:List D->Option O:=mir 8 q6z
noncomputable abbrev q6T:vm:=top 14
theorem q1D:FnScope ["things", "ties", "beside", "grouped", "told", "thing", "group", "member"] mW (Yi q6T):=aa
theorem qel{f_neighbours:vC}{d_neighbours:vL}{f_group_of:vC}{d_group_of:vL}(F:Fun K "groups" "groups" q6T f fd)(c_neighbours:Cal P w K mg base 1 f_neighbours d_neighbours "neighbours" mW 2 q25)(c_group_of:Cal P w K mg base 1 f_group_of d_group_of "group_of" IJ 2 q23)(z_sorted:mT):
  FnOk P w K mg base CX0 2 f fd mW (spD K 2 q2c):=by
 have h:=fnD (P:=P) (w:=w) (mg:=mg) (base:=base) (k:=1) (body:=q6z) F q1D (λcdv A outer s H E hr=>
   (qb (qp (i:=2) q1D.nd rfl (Or.inl rfl) (XD.toE (XE.toD (xc c_neighbours hr ga))))
   (qb (q7F (i:=3) q1D.nd rfl ax)
   (qb (qp (i:=4) q1D.nd rfl (Or.inl rfl) Kj)
   (qb (q02 PassesOwn.never rfl (qt (XE.toD (q5V rfl z_sorted ib))) (qh (i:=5) q1D.nd rfl ax) (qc (qy (q8H hr.units Bv Ct) (qb (qp (i:=6) q1D.nd rfl (Or.inl rfl) (XD.toE (XE.toD (xc c_group_of hr (Ye Bv ou)))))
   (qb (q4q Q5 GJ)
   (qc (q02 PassesOwn.never rfl (qt GJ) (qh (i:=7) q1D.nd rfl ax) (qc (q5X hr.units Ct Ul Xb)))))) qq)))
   JE)))))
 exact h
noncomputable def qe9:FS:=(Y4 BY)
noncomputable def q17:List D->Option O:=mir 1 qe9
noncomputable abbrev qan:vm:=top 16
theorem qkB:FnScope kR kR (Yi qan):=aa
theorem qi6 (F:Fun K "cost" "cost" qan f fd):
  FnOk P w K mg base CX0 1 f fd kR (spD K 1 q17):=by
 have h:=fnD (P:=P) (w:=w) (mg:=mg) (base:=base) (k:=0) (body:=qe9) F qkB (λcdv A outer s H E hr=>
   (qc (qg bw)))
 exact h
noncomputable def q1C:FS:=(zAS 1 cK bn)
noncomputable def q1y:FS:=(Wb HD N5 q1C)
noncomputable def q1Q:FS:=(Yu (zA4 1)
  (Yu (Wb (iEn gz) (gT 2 NA) q1y)
  (Xf 1 (Y4 be))))
noncomputable def q0d:List D->Option O:=mir 5 q1Q
noncomputable abbrev q1Y:vm:=top 17
theorem q0z:FnScope ["parts", "numbers", "number", "part", "thing"] ["parts"] (Yi q1Y):=aa
theorem q6K (F:Fun K "group_numbers" "group_numbers" q1Y f fd)(z_enumerate:Gs):
  FnOk P w K mg base CX0 1 f fd ["parts"] (spD K 1 q0d):=by
 have h:=fnD (P:=P) (w:=w) (mg:=mg) (base:=base) (k:=0) (body:=q1Q) F q0z (λcdv A outer s H E hr=>
   (qb (q7F (i:=1) q0z.nd rfl ax)
   (qb (q02 PassesOwn.never rfl (qbY rfl z_enumerate gB) (q1N rfl (qx (qh (i:=2) q0z.nd rfl ax) (qx (qh (i:=3) q0z.nd rfl ax) q16))) (qc (q02 PassesOwn.never rfl (qt j5) (qh (i:=4) q0z.nd rfl ax) (qc (q5X hr.units Q6 nJ jt)))))
   (q0b 1 (qc (qg (vE 1)))))))
 exact h
noncomputable def q19:FS:=(zAS 3 cK (dOf (zB3 (tOf (Yn da (vOf (zAB 0 cK)) cR)) be (zAB 0 cK))))
noncomputable def q1n:FS:=(Yu (zA4 3)
  (Yu (Wb (iDk 0) N5 q19)
  (Xf 3 (Y4 (Yh 3)))))
noncomputable def q0h:List D->Option O:=mir 5 q1n
noncomputable abbrev q1q:vm:=top 18
theorem q1o:FnScope ["numbers", "one", "other", "joined", "thing"] BX (Yi q1q):=aa
theorem q5A (F:Fun K "with_two_joined" "with_two_joined" q1q f fd):
  FnOk P w K mg base CX0 1 f fd BX (spD K 3 q0h):=by
 have h:=fnD (P:=P) (w:=w) (mg:=mg) (base:=base) (k:=0) (body:=q1n) F q1o (λcdv A outer s H E hr=>
   (qb (q7F (i:=3) q1o.nd rfl ax)
   (qb (q02 PassesOwn.never rfl (qi4 Ux) (qh (i:=4) q1o.nd rfl ax) (qc (q5X hr.units Ct nJ (XE.toD (q7m (X4 hr.units (XE.toV OJ) lg) (vE 1) OJ)))))
   (q0b 3 (qc (qg (vE 3)))))))
 exact h
noncomputable def q5N:FS:=(Yu (XC 6 (eOf (dOf (zAB 3 (dOf (Yn oIx j8 aQ))))))
  (Yu (XC 7 (eOf (dOf (zAB 3 (dOf (Yn oIx j8 au))))))
  (sIf (tOf (Yn fL j7 Ey)) (Yu (zBQ 4 dZ)
  (XC 3 (eOf (dOf (Yp q0h (Yf bv (Yf k9 IM))))))) Xl)))
noncomputable def q6s:FS:=(Yu (XC 3 (eOf (dOf (Yp q0d (Yf (dOf (Yp q2c fZ)) Yq)))))
  (Yu abQ
  (Yu (Wb (Xi (dOf (zAy q17 cR))) Q8 q5N)
  (We 4))))
noncomputable def q3e:List D->Option O:=mir 8 q6s
noncomputable abbrev q6S:vm:=top 19
theorem q1A:FnScope ["things", "knots", "edges", "numbers", "taken", "edge", "one", "other"] Bz (Yi q6S):=aa
theorem qdQ{f_group_numbers:vC}{d_group_numbers:vL}{f_groups:vC}{d_groups:vL}{f_cost:vC}{d_cost:vL}{f_with_two_joined:vC}{d_with_two_joined:vL}(F:Fun K "forest" "forest" q6S f fd)(c_group_numbers:Cal P w K mg base 1 f_group_numbers d_group_numbers "group_numbers" ["parts"] 1 q0d)(c_groups:Cal P w K mg base 2 f_groups d_groups "groups" mW 2 q2c)(c_cost:CV)(c_with_two_joined:Cal P w K mg base 1 f_with_two_joined d_with_two_joined "with_two_joined" BX 3 q0h)(z_sorted:mT):
  FnOk P w K mg base CX0 4 f fd Bz (spD K 3 q3e):=by
 have h:=fnD (P:=P) (w:=w) (mg:=mg) (base:=base) (k:=3) (body:=q6s) F q1A (λcdv A outer s H E hr=>
   (qb (qp (i:=3) q1A.nd rfl (Or.inl rfl) (XD.toE (XE.toD (xc c_group_numbers hr (Ye (XE.toD (xc c_groups hr ga)) Yk)))))
   (qb (qp (i:=4) q1A.nd rfl (Or.inl rfl) Kj)
   (qb (q02 PassesOwn.never rfl (qt (XE.toD (qfZ c_cost hr z_sorted lg))) (qh (i:=5) q1A.nd rfl ax) (qb (qp (i:=6) q1A.nd rfl (Or.inl rfl) rH)
   (qb (qp (i:=7) q1A.nd rfl (Or.inl rfl) rH)
   (qc (qy (Xq hr.units Lj Uj) (qb (q4q Q5 Bv)
   (qc (qp (i:=3) q1A.nd rfl (Or.inl rfl) (XD.toE (XE.toD (xc c_with_two_joined hr (Ye j5 (Ye GJ B3)))))))) qq)))))
   JE))))
 exact h
noncomputable def q6L:FS:=(Y4 (eOf (Wh (dOf NB) (dOf (Yn (oIn false) ay (zAW (Yf au Fv)))))))
noncomputable def q1F:List D->Option O:=mir 1 q6L
noncomputable abbrev q6R:vm:=top 21
theorem qfU:FnScope gO gO (Yi q6R):=aa
theorem qdX{f_is_whole:vC}{d_is_whole:vL}(F:Fun K "is_way" "is_way" q6R f fd)(c_is_whole:bi):
  FnOk P w K mg base CX0 2 f fd gO (spD K 1 q1F):=by
 have h:=fnD (P:=P) (w:=w) (mg:=mg) (base:=base) (k:=1) (body:=q6L) F qfU (λcdv A outer s H E hr=>
   (qc (qg (XD.toE (q03 (XE.toD Ag) (q0w (XE.toD (xe_in ib (XD.toV (Xs (Ye Yg CB)))))))))))
 exact h
noncomputable def q3W:FS:=(Y4 (eOf (Wh (dOf (Yp qw NI)) (Wh (dOf (Yn oGe aZ aQ)) (dOf (Yn oLt aZ ay))))))
noncomputable def qG:List D->Option O:=mir 2 q3W
noncomputable abbrev q43:vm:=top 22
theorem qaT:FnScope jV jV (Yi q43):=aa
theorem q9i{f_is_whole:vC}{d_is_whole:vL}(F:Fun K "has_place" "has_place" q43 f fd)(c_is_whole:bi):
  FnOk P w K mg base CX0 2 f fd jV (spD K 2 qG):=by
 have h:=fnD (P:=P) (w:=w) (mg:=mg) (base:=base) (k:=1) (body:=q3W) F qaT (λcdv A outer s H E hr=>
   (qc (qg (XD.toE (q03 (XE.toD Lh) (q03 (XE.toD (qgI fF af)) (q0w (XE.toD (qdk fF ib)))))))))
 exact h
noncomputable def q2N:FS:=(Yu (sIf (WM (XQ (WB (vOf (W4 .tup aZ)))) (tOf (Yn fL o7 gu))) bc Xl)
  (Y4 (eOf (Wh (dOf (Yp qG (Yf av (Yf (dOf BZ) Yq)))) (Wh (dOf (Yp qG (Yf av (Yf (dOf NG) Yq)))) (dOf (Yp q1F (Yf (dOf (Yn oIx aZ cv)) Yq))))))))
noncomputable def q0T:List D->Option O:=mir 2 q2N
noncomputable abbrev q2T:vm:=top 23
theorem q99:FnScope jV jV (Yi q2T):=aa
theorem q7E{f_is_way:vC}{d_is_way:vL}{f_has_place:vC}{d_has_place:vL}(F:Fun K "is_ring_box" "is_ring_box" q2T f fd)(c_is_way:Br)(c_has_place:fI)(z_len:fD)(z_isinstance:cZ)(z_tuple:nZ)(i_tuple:CU):
  FnOk P w K mg base CX0 3 f fd jV (spD K 2 q0T):=by
 have h:=fnD (P:=P) (w:=w) (mg:=mg) (base:=base) (k:=2) (body:=q2N) F q99 (λcdv A outer s H E hr=>
   (qb (qy (XW.toT (q06 (qI (qE (XE.toV (q0p fF i_tuple rfl z_isinstance rfl z_tuple q2l)))) (q0J (Xq hr.units iw af)))) bz qq)
   (qc (qg (XD.toE (q03 CQ (q03 CQ (q0w (XE.toD (xc c_is_way hr (Ye oR Yk)))))))))))
 exact h
noncomputable def q4Q:FD:=(dOf (Yp q0T NH))
noncomputable def q5w:FS:=(Yu (sIf (WM UY (WM (XQ (WB (vOf (Yp qG fZ)))) (XQ (WB (vOf (Yp qG (Yf av oq))))))) bc Xl)
  (Y4 (eOf (Wh (dOf (W4 .lst cJ)) (dOf (XZ zAx (Yf (vOf (XB 1 [0] HD je Y7 q4Q)) Yq)))))))
noncomputable def q2K:List D->Option O:=mir 4 q5w
noncomputable abbrev q5z:vm:=top 24
theorem qeq:FnScope ak ak (Yi q5z):=aa
theorem qdh{f_has_place:vC}{d_has_place:vL}{f_is_whole:vC}{d_is_whole:vL}{f_is_ring_box:vC}{d_is_ring_box:vL}(F:Fun K "is_ring" "is_ring" q5z f fd)(c_has_place:fI)(c_is_whole:bi)(c_is_ring_box:Cal P w K mg base 3 f_is_ring_box d_is_ring_box "is_ring_box" jV 2 q0T)(z_all:Bx)(z_isinstance:cZ)(z_list:kD)(i_list:Gc):
  FnOk P w K mg base CX0 4 f fd ak (spD K 4 q2K):=by
 have h:=fnD (P:=P) (w:=w) (mg:=mg) (base:=base) (k:=3) (body:=q5w) F qeq (λcdv A outer s H E hr=>
   (qb (qy (XW.toT (q06 Q4 (q06 (qI (qE (XE.toV (xc c_has_place hr ga)))) (q0J (qI (qE (XE.toV (xc c_has_place hr (Ye cN ou))))))))) bz qq)
   (qc (qg (XD.toE (q03 (XE.toD CL) (q0w (XE.toD (qu Hm q4A rfl z_all q4D (qj (XE.toV (qN rfl (blk OY Lw [0] rfl ⋯ ⋯ rfl ⟨⟨rfl,(by first|exact Or.inl rfl|exact Or.inr rfl),rfl⟩,trivial⟩) Ke jM (λ_ _ _ _=>⟨(qh (i:=0) (show (pI++jY:List Str).Nodup from by decide +kernel) rfl ax),qD,(XE.toD (xc c_is_ring_box hr NJ))⟩))) qo))))))))))
 exact h
noncomputable def q3s:FS:=(sIf (XQ (WB (vOf (Yp q2K bp)))) sNo Xl)
noncomputable def q0j:List D->Option O:=mir 4 q3s
noncomputable abbrev q3w:vm:=top 25
theorem q9O:FnScope ak ak (Yi q3w):=aa
theorem q92{f_is_ring:vC}{d_is_ring:vL}(F:Fun K "check_ring" "check_ring" q3w f fd)(c_is_ring:Cal P w K mg base 4 f_is_ring d_is_ring "is_ring" ak 4 q2K):
  FnOk P w K mg base CX0 5 f fd ak (spD K 4 q0j):=by
 have h:=fnD (P:=P) (w:=w) (mg:=mg) (base:=base) (k:=4) (body:=q3s) F q9O (λcdv A outer s H E hr=>
   (qc (qy (qI (qE (XE.toV (xc c_is_ring hr aW)))) R5 qq)))
 exact h
noncomputable def q3P:FD:=MB
noncomputable def q2j:FS:=(Y4 (XB 1 [] (Xi av) je Y7 q3P))
noncomputable def qM:List D->Option O:=mir 1 q2j
noncomputable abbrev q2p:vm:=top 26
theorem q80:FnScope rO rO (Yi q2p):=aa
theorem q7c (F:Fun K "without_ways" "without_ways" q2p f fd):
  FnOk P w K mg base CX0 1 f fd rO (spD K 1 qM):=by
 have h:=fnD (P:=P) (w:=w) (mg:=mg) (base:=base) (k:=0) (body:=q2j) F q80 (λcdv A outer s H E hr=>
   (qc (qg (qN rfl (blk OY [] [] rfl ⋯ ⋯ rfl trivial) (qt cN) jM (λ_ _ _ _=>⟨(qh (i:=0) (show (pI++dC:List Str).Nodup from by decide +kernel) rfl ax),qD,QA⟩)))))
 exact h
noncomputable def q6b:FS:=(Y4 (Yn oMod (vOf (Yn zA7 (vOf (Yn Wq cR aZ)) cJ)) ay))
noncomputable def q04:List D->Option O:=mir 4 q6b
noncomputable abbrev q7U:vm:=top 27
theorem qjd:FnScope ln ln (Yi q7U):=aa
theorem qfV (F:Fun K "steps" "steps" q7U f fd):
  FnOk P w K mg base CX0 1 f fd ln (spD K 4 q04):=by
 have h:=fnD (P:=P) (w:=w) (mg:=mg) (base:=base) (k:=0) (body:=q6b) F qjd (λcdv A outer s H E hr=>
   (qc (qg (qT (XE.toV (qaE (XE.toV (q09 lg fF)) lf)) ib))))
 exact h
noncomputable def q4e:FS:=(Yu Vs
  (Yu (XC 4 (eOf (dOf (Yp q4z (Yf aH (Yf bn (Yf aaH Yq)))))))
  (Y4 (XZ WN (Yf bm (Yf (vOf (Yn Xo (vOf Q9) (vOf (fSl bm pNo (pAt au))))) Yq))))))
noncomputable def qX:List D->Option O:=mir 5 q4e
noncomputable abbrev q3X:vm:=top 28
theorem q6h:FnScope ["size", "home", "last", "boxes", "places"] ak (Yi q3X):=aa
theorem qae{f_check_ring:vC}{d_check_ring:vL}{f_stops:vC}{d_stops:vL}{f_without_ways:vC}{d_without_ways:vL}(F:Fun K "ring_gaps" "ring_gaps" q3X f fd)(c_check_ring:rf)(c_stops:Cal P w K mg base 5 f_stops d_stops "stops" ci 3 q4z)(c_without_ways:fE)(z_list:kD)(z_zip:FX):
  FnOk P w K mg base CX0 6 f fd ak (spD K 4 qX):=by
 have h:=fnD (P:=P) (w:=w) (mg:=mg) (base:=base) (k:=5) (body:=q4e) F q6h (λcdv A outer s H E hr=>
   (qb Lp
   (qb (qp (i:=4) q6h.nd rfl (Or.inl rfl) (XD.toE (XE.toD (xc c_stops hr (Ye dD (Ye jt (Ye EK Yk)))))))
   (qc (qg (qd8 rfl z_list rfl z_zip (qj kO (qj (XE.toV (qJ (XE.toV (Y5 kO HC XR)) (XE.toV (Y5 kO XR HC)))) qo))))))))
 exact h
noncomputable def q3C:FS:=(Y4 (zB3 (tOf (Yn da (vOf BZ) (vOf NG))) (Yh 0) (Yp q04 (Yf av (Yf (dOf BZ) (Yf (dOf NG) E3))))))
noncomputable def q1g:List D->Option O:=mir 2 q3C
noncomputable abbrev q3H:vm:=top 29
theorem qac:FnScope lu lu (Yi q3H):=aa
theorem q97{f_steps:vC}{d_steps:vL}(F:Fun K "gap_length" "gap_length" q3H f fd)(c_steps:cz):
  FnOk P w K mg base CX0 2 f fd lu (spD K 2 q1g):=by
 have h:=fnD (P:=P) (w:=w) (mg:=mg) (base:=base) (k:=1) (body:=q3C) F qac (λcdv A outer s H E hr=>
   (qc (qg (q7m (X4 hr.units HE HE) (vE 0) (xc c_steps hr (Ye cN (Ye oR (Ye oR mN))))))))
 exact h
noncomputable def q2U:FD:=(dOf (Yn Xo ay (zAW (Yf (dOf (Yp q1g NH)) Yq))))
noncomputable def q3m:FS:=(Y4 (XB 1 [0] Rc je Y7 q2U))
noncomputable def q00:List D->Option O:=mir 4 q3m
noncomputable abbrev q3D:vm:=top 30
theorem q9N:FnScope ak ak (Yi q3D):=aa
theorem q96{f_ring_gaps:vC}{d_ring_gaps:vL}{f_gap_length:vC}{d_gap_length:vL}(F:Fun K "ring_edges" "ring_edges" q3D f fd)(c_ring_gaps:iD)(c_gap_length:Cal P w K mg base 2 f_gap_length d_gap_length "gap_length" lu 2 q1g):
  FnOk P w K mg base CX0 7 f fd ak (spD K 4 q00):=by
 have h:=fnD (P:=P) (w:=w) (mg:=mg) (base:=base) (k:=6) (body:=q3m) F q9N (λcdv A outer s H E hr=>
   (qc (qg (qN rfl (blk ["gap"] Lw [0] rfl ⋯ ⋯ rfl ⟨⟨rfl,(by first|exact Or.inl rfl|exact Or.inr rfl),rfl⟩,trivial⟩) Hj jM (λ_ _ _ _=>⟨(qh (i:=0) (show (UO++jY:List Str).Nodup from by decide +kernel) rfl ax),qD,(XE.toD (qJ ib (XD.toV (Xs (Ye (XE.toD (xc c_gap_length hr NJ)) Yk)))))⟩)))))
 exact h
noncomputable def q4k:FS:=(Y4 (Yn oLt (vOf (Yp q04 (Yf av (Yf aH (Yf (dOf NE) E3))))) (vOf (Yp q04 (Yf av (Yf aH (Yf bn E3)))))))
noncomputable def q0E:List D->Option O:=mir 4 q4k
noncomputable abbrev q47:vm:=top 31
theorem qb4:FnScope lr lr (Yi q47):=aa
theorem q9W{f_steps:vC}{d_steps:vL}(F:Fun K "goes_over" "goes_over" q47 f fd)(c_steps:cz):
  FnOk P w K mg base CX0 2 f fd lr (spD K 4 q0E):=by
 have h:=fnD (P:=P) (w:=w) (mg:=mg) (base:=base) (k:=1) (body:=q4k) F qb4 (λcdv A outer s H E hr=>
   (qc (qg (qdk (XE.toV (xc c_steps hr (Ye cN (Ye dD (Ye TF mN))))) (XE.toV (xc c_steps hr (Ye cN (Ye dD (Ye jt mN)))))))))
 exact h
noncomputable def q3G:FT:=(Wn (tOf (Yn da (vOf BY) au)) (WB (vOf (Yp q0E (Yf aH (Yf iu (Yf Er oq)))))))
noncomputable def q5E:FD:=av
noncomputable def q3h:FT:=(Wn (tOf (Yn da (vOf BY) lB)) (WB (vOf (Yp q0E (Yf aH (Yf Er (Yf iu oq)))))))
noncomputable def q5q:FD:=av
noncomputable def q3Z:FS:=(Yu (XC 5 (eOf (dOf (zB3 (WB (vOf (Yp q0E (Yf av (Yf aH (Yf bn (Yf cK Yq))))))) (eOf au) (eOf aQ)))))
  (Yu (XC 6 (XB 1 [0,4] HD je q3G q5E))
  (Xf 6 (Yu (XC 7 (XB 1 [0,4] HD je q3h q5q))
  (Xf 7 (Y4 (Yn Xo (vOf (Yn Wq j8 (vOf (XZ WK (Yf j7 Yq))))) (vOf (XZ WK (Yf Ey Yq))))))))))
noncomputable def q1s:List D->Option O:=mir 8 q3Z
noncomputable abbrev q4c:vm:=top 32
theorem q2y:FnScope ["size", "home", "last", "boxes", "gap", "own", "rights", "lefts"] nD (Yi q4c):=aa
theorem q9u{f_goes_over:vC}{d_goes_over:vL}(F:Fun K "bare_lack" "bare_lack" q4c f fd)(c_goes_over:Cal P w K mg base 2 f_goes_over d_goes_over "goes_over" lr 4 q0E)(z_len:fD):
  FnOk P w K mg base CX0 3 f fd nD (spD K 5 q1s):=by
 have h:=fnD (P:=P) (w:=w) (mg:=mg) (base:=base) (k:=2) (body:=q3Z) F q2y (λcdv A outer s H E hr=>
   (qb (qp (i:=5) q2y.nd rfl (Or.inl rfl) (XD.toE (XE.toD (q7m (qE (XE.toV (xc c_goes_over hr (Ye cN (Ye dD (Ye jt (Ye nJ Yk))))))) Su Su))))
   (qb (q1k (i:=6) rfl q2y.nd rfl rfl (blk OY lu [0,4] rfl ⋯ ⋯ rfl ⟨⟨rfl,(by first|exact Or.inl rfl|exact Or.inr rfl),rfl⟩,⟨⟨rfl,(by first|exact Or.inl rfl|exact Or.inr rfl),rfl⟩,trivial⟩⟩) Ke jM (λ_ _ _ _=>⟨(qh (i:=0) (show (pI++(lu:List Str):List Str).Nodup from by decide +kernel) rfl ax),(q4u (XW.toT (q4C (X4 hr.units mH af) nX))),cN⟩))
   (q0b 6 (qb (q1k (i:=7) rfl q2y.nd rfl rfl (blk OY lu [0,4] rfl ⋯ ⋯ rfl ⟨⟨rfl,(by first|exact Or.inl rfl|exact Or.inr rfl),rfl⟩,⟨⟨rfl,(by first|exact Or.inl rfl|exact Or.inr rfl),rfl⟩,trivial⟩⟩) Ke jM (λ_ _ _ _=>⟨(qh (i:=0) (show (pI++(lu:List Str):List Str).Nodup from by decide +kernel) rfl ax),(q4u (XW.toT (q4C (X4 hr.units mH dW) nX))),cN⟩))
   (q0b 7 (qc (qg (qJ (XE.toV (q09 Je (XE.toV (qu qr qU rfl z_len qS (qj Lj qo))))) (XE.toV (qu qr qU rfl z_len qS (qj Uj qo))))))))))))
 exact h
noncomputable def q2M:FD:=(dOf (Yn Xo aZ (vOf (Yp q1s (Yf bn (Yf bv (Yf cK (Yf dZ gz))))))))
noncomputable def q3z:FS:=(Y4 (XB 1 [4,0,1,2,3] Rc je Y7 q2M))
noncomputable def qH:List D->Option O:=mir 5 q3z
noncomputable abbrev q3i:vm:=top 33
theorem q9l:FnScope bI bI (Yi q3i):=aa
theorem q9a{f_ring_gaps:vC}{d_ring_gaps:vL}{f_bare_lack:vC}{d_bare_lack:vL}(F:Fun K "ring_lacks" "ring_lacks" q3i f fd)(c_ring_gaps:iD)(c_bare_lack:Cal P w K mg base 3 f_bare_lack d_bare_lack "bare_lack" nD 5 q1s):
  FnOk P w K mg base CX0 7 f fd bI (spD K 5 qH):=by
 have h:=fnD (P:=P) (w:=w) (mg:=mg) (base:=base) (k:=6) (body:=q3z) F q9l (λcdv A outer s H E hr=>
   (qc (qg (qN rfl (blk ["gap"] HB [4,0,1,2,3] rfl ⋯ ⋯ rfl ⟨⟨rfl,(by first|exact Or.inl rfl|exact Or.inr rfl),rfl⟩,⟨⟨rfl,(by first|exact Or.inl rfl|exact Or.inr rfl),rfl⟩,⟨⟨rfl,(by first|exact Or.inl rfl|exact Or.inr rfl),rfl⟩,⟨⟨rfl,(by first|exact Or.inl rfl|exact Or.inr rfl),rfl⟩,⟨⟨rfl,(by first|exact Or.inl rfl|exact Or.inr rfl),rfl⟩,trivial⟩⟩⟩⟩⟩) Hj jM (λ_ _ _ _=>⟨(qh (i:=0) (show (UO++(HB:List Str):List Str).Nodup from by decide +kernel) rfl ax),qD,(XE.toD (qJ fF (XE.toV (xc c_bare_lack hr (Ye jt (Ye j5 (Ye nJ (Ye Bv gB))))))))⟩)))))
 exact h
noncomputable def q2f:FT:=(tOf (Yn fL aZ aQ))
noncomputable def q4y:FD:=MB
noncomputable def q29:FD:=iu
noncomputable def q30:FS:=(Yu (XC 5 (XB 2 [] (iZp IN) KR q2f q4y))
  (Xf 5 (Yu (XC 6 (XB 1 [] HD je Y7 q29))
  (Xf 6 (Y4 (Yp q3e (Yf k9 (Yf (dOf (Yn Xo (vOf (Yn Xo (vOf (Yp qM oq)) (vOf (WZ (Yf (zAW fZ) Yq))))) j8)) E2))))))))
noncomputable def q0f:List D->Option O:=mir 7 q30
noncomputable abbrev q2Z:vm:=top 34
theorem q2V:FnScope ["home", "last", "boxes", "edges", "lacks", "lacking", "places"] cn (Yi q2Z):=aa
theorem q82{f_forest:vC}{d_forest:vL}{f_without_ways:vC}{d_without_ways:vL}(F:Fun K "ring_forest" "ring_forest" q2Z f fd)(c_forest:Cal P w K mg base 4 f_forest d_forest "forest" Bz 3 q3e)(c_without_ways:fE)(z_zip:FX):
  FnOk P w K mg base CX0 5 f fd cn (spD K 5 q0f):=by
 have h:=fnD (P:=P) (w:=w) (mg:=mg) (base:=base) (k:=4) (body:=q30) F q2V (λcdv A outer s H E hr=>
   (qb (q1k (i:=5) rfl q2V.nd rfl rfl (blk LZ [] [] rfl ⋯ ⋯ rfl trivial) ID mi (λ_ _ _ _=>⟨(q1N rfl (qx (qh (i:=0) (show (ny++dC:List Str).Nodup from by decide +kernel) rfl ax) (qx (qh (i:=1) (show (ny++dC:List Str).Nodup from by decide +kernel) rfl ax) q16))),(q4u (Xq hr.units fF af)),QA⟩))
   (q0b 5 (qb (q1k (i:=6) rfl q2V.nd rfl rfl (blk kR [] [] rfl ⋯ ⋯ rfl trivial) Ke jM (λ_ _ _ _=>⟨(qh (i:=0) (show ((kR:List Str)++dC:List Str).Nodup from by decide +kernel) rfl ax),qD,gj⟩))
   (q0b 6 (qc (qg (xc c_forest hr (Ye GJ (Ye (XE.toD (qJ (XE.toV (qJ (XE.toV (xc c_without_ways hr ou)) (XE.toV (XF (Ye (Xs ga) Yk))))) Je)) E4))))))))))
 exact h
noncomputable def q24:FD:=(dOf (Yn zA7 (vOf (Yp q17 gz)) (vOf (XZ zBo (Yf aZ Yq)))))
noncomputable def q1L:FD:=(dOf (Yp q17 gz))
noncomputable def q2a:FS:=(Yu (XC 5 (XB 2 [] (iZp IN) KR Y7 q24))
  (Xf 5 (Y4 (Yn Xo (vOf (XZ zBd UT)) (vOf (Yn zA7 cv (vOf (XZ zBd (Yf (vOf (XB 1 [] (Xi (dOf (Yp q0f mG))) je Y7 q1L)) Yq)))))))))
noncomputable def qL:List D->Option O:=mir 6 q2a
noncomputable abbrev q2s:vm:=top 35
theorem q4n:FnScope ["home", "last", "boxes", "edges", "lacks", "crossings"] cn (Yi q2s):=aa
theorem q7l{f_cost:vC}{d_cost:vL}{f_ring_forest:vC}{d_ring_forest:vL}(F:Fun K "empty_weight" "empty_weight" q2s f fd)(c_cost:CV)(c_ring_forest:pj)(z_zip:FX)(z_abs:Ng)(z_sum:FY):
  FnOk P w K mg base CX0 6 f fd cn (spD K 5 qL):=by
 have h:=fnD (P:=P) (w:=w) (mg:=mg) (base:=base) (k:=5) (body:=q2a) F q4n (λcdv A outer s H E hr=>
   (qb (q1k (i:=5) rfl q4n.nd rfl rfl (blk LZ [] [] rfl ⋯ ⋯ rfl trivial) ID mi (λ_ _ _ _=>⟨(q1N rfl (qx (qh (i:=0) (show (ny++dC:List Str).Nodup from by decide +kernel) rfl ax) (qx (qh (i:=1) (show (ny++dC:List Str).Nodup from by decide +kernel) rfl ax) q16))),qD,(XE.toD (qaE (XE.toV Vv) (XE.toV (qu q6O q9U rfl z_abs q9L (qj fF qo)))))⟩))
   (q0b 5 (qc (qg (qJ (XE.toV (qu KJ q5g rfl z_sum q5h Ur)) (XE.toV (qaE af (XE.toV (qu KJ q5g rfl z_sum q5h (qj (XE.toV (qN rfl (blk kR [] [] rfl ⋯ ⋯ rfl trivial) (qt (XE.toD (xc c_ring_forest hr lw))) jM (λ_ _ _ _=>⟨(qh (i:=0) (show ((kR:List Str)++dC:List Str).Nodup from by decide +kernel) rfl ax),qD,(XE.toD Vv)⟩))) qo)))))))))))
 exact h
noncomputable def q3t:FD:=(dOf (Yp q04 (Yf bv oe)))
noncomputable def q6M:FD:=(dOf (Yn Xo ay aZ))
noncomputable def q4I:FS:=(Yu (XC 9 (XB 1 [8] (Xi dZ) je Y7 q6M))
  (Xf 9 (zBQ 7 (zAW (Yf (dOf (Yh 8)) (Yf (dOf (Yn Xo j7 (vOf (Yp qL (Yf aH (Yf bn (Yf bv (Yf cK (Yf (dOf (Yh 9)) Yq))))))))) Yq))))))
noncomputable def q7Q:FS:=(Yu (XC 4 Pw)
  (Yu (XC 5 (eOf (dOf (Yp qH (Yf av (Yf aH (Yf bn (Yf bv UU))))))))
  (Yu (XC 6 (eOf (dOf (XZ zBd (Yf (vOf (XB 3 [0] HD (gT 3 pM) Y7 q3t)) Yq)))))
  (Yu (XC 7 Kk)
  (Yu (Wb (iRg2 (Yf (vOf (Yn Wq lB (vOf (XZ bMax UT)))) (Yf (vOf (Yn Wq cv (vOf (XZ bMin UT)))) Yq))) (gN 8) q4I)
  (We 7))))))
noncomputable def q0u:List D->Option O:=mir 10 q7Q
noncomputable abbrev q7y:vm:=top 36
theorem q2k:FnScope ["size", "home", "last", "boxes", "edges", "bare", "loaded", "told", "c", "lacks"] ak (Yi q7y):=aa
theorem qgo{f_ring_edges:vC}{d_ring_edges:vL}{f_ring_lacks:vC}{d_ring_lacks:vL}{f_steps:vC}{d_steps:vL}{f_empty_weight:vC}{d_empty_weight:vL}(F:Fun K "turns" "turns" q7y f fd)(c_ring_edges:p9)(c_ring_lacks:ip)(c_steps:cz)(c_empty_weight:Cal P w K mg base 6 f_empty_weight d_empty_weight "empty_weight" cn 5 qL)(z_sum:FY)(z_min:Nf)(z_max:mg "max" = none)(z_range:sw):
  FnOk P w K mg base CX0 8 f fd ak (spD K 4 q0u):=by
 have h:=fnD (P:=P) (w:=w) (mg:=mg) (base:=base) (k:=7) (body:=q7Q) F q2k (λcdv A outer s H E hr=>
   (qb (qp (i:=4) q2k.nd rfl (Or.inl rfl) E6)
   (qb (qp (i:=5) q2k.nd rfl (Or.inl rfl) (XD.toE (XE.toD (xc c_ring_lacks hr (Ye cN (Ye dD (Ye jt (Ye j5 mN))))))))
   (qb (qp (i:=6) q2k.nd rfl (Or.inl rfl) (XD.toE (XE.toD (qu KJ q5g rfl z_sum q5h (qj (XE.toV (qN rfl (blk Qy Lw [0] rfl ⋯ ⋯ rfl ⟨⟨rfl,(by first|exact Or.inl rfl|exact Or.inr rfl),rfl⟩,trivial⟩) Ke (q5c (qZ jM (qZ (qv 1) (qZ (qv 2) q2z)))) (λ_ _ _ _=>⟨(q1N rfl (qx (qh (i:=0) (show (pi++jY:List Str).Nodup from by decide +kernel) rfl ax) (qx (qh (i:=1) (show (pi++jY:List Str).Nodup from by decide +kernel) rfl ax) (qx (qh (i:=2) (show (pi++jY:List Str).Nodup from by decide +kernel) rfl ax) q16)))),qD,(XE.toD (xc c_steps hr (Ye j5 oh)))⟩))) qo)))))
   (qb (qp (i:=7) q2k.nd rfl (Or.inl rfl) Kj)
   (qb (q02 PassesOwn.never rfl (qeN rfl z_range (qj (XE.toV (q09 dW (XE.toV (qu (qeH rfl) qkD rfl z_max qjo Ur)))) (qj (XE.toV (q09 af (XE.toV (qu (q8n rfl) qe4 rfl z_min q9R Ur)))) qo))) (qh (i:=8) q2k.nd rfl EM) (qb (q1k (i:=9) rfl q2k.nd rfl rfl (blk ["lack"] ["c"] [8] rfl ⋯ ⋯ rfl ⟨⟨rfl,(by first|exact Or.inl rfl|exact Or.inr rfl),rfl⟩,trivial⟩) (qt Bv) jM (λ_ _ _ _=>⟨(qh (i:=0) (show ((["lack"]:List Str)++(["c"]:List Str):List Str).Nodup from by decide +kernel) rfl ax),qD,(XE.toD (qJ ib fF))⟩))
   (q0b 9 (qc (q4q Uw (Xs (Ye (vD 8) (Ye (XE.toD (qJ Lj (XE.toV (xc c_empty_weight hr (Ye dD (Ye jt (Ye j5 (Ye nJ (Ye (vD 9) Yk))))))))) Yk))))))))
   (qc (q2b Uw))))))))
 exact h
noncomputable def q57:FD:=aH
noncomputable def q3l:FS:=(Y4 (XZ bMin (Yf (vOf (XB 2 [] (Xi (dOf (Yp q0u bp))) KR Y7 q57)) Yq)))
noncomputable def q0o:List D->Option O:=mir 4 q3l
noncomputable abbrev q3o:vm:=top 37
theorem qaq:FnScope ak ak (Yi q3o):=aa
theorem q98{f_turns:vC}{d_turns:vL}(F:Fun K "ring_least" "ring_least" q3o f fd)(c_turns:kg)(z_min:Nf):
  FnOk P w K mg base CX0 9 f fd ak (spD K 4 q0o):=by
 have h:=fnD (P:=P) (w:=w) (mg:=mg) (base:=base) (k:=8) (body:=q3l) F qaq (λcdv A outer s H E hr=>
   (qc (qg (qu (q8n rfl) qe4 rfl z_min q9R (qj (XE.toV (qN rfl (blk ["c", "weight"] [] [] rfl ⋯ ⋯ rfl trivial) (qt (XE.toD Uf)) mi (λ_ _ _ _=>⟨(q1N rfl (qx (qh (i:=0) (show (Nx++dC:List Str).Nodup from by decide +kernel) rfl ax) (qx (qh (i:=1) (show (Nx++dC:List Str).Nodup from by decide +kernel) rfl ax) q16))),qD,dD⟩))) qo)))))
 exact h
noncomputable abbrev q0y:vm:=top 39
theorem q2L:FnScope IK CP (Yi q0y):=aa
theorem q59(F:Fun K "numbers_by_start" "numbers_by_start" q0y f fd)(z_enumerate:Gs):FnOk P w K mg base CX0 1 f fd CP (spT K):=by
 refine F.ok q2L BQ j6
 ·obtain⟨G,as,_,rp,_⟩:=h
  rw[<- rp.len];rfl
 ·exact qi5 (X:=(zAh CX0 P w K mg base IK "numbers_by_start" (Yi q0y) f cdv A outer s H E).nox) PassesOwn.never rfl q2L.nd rfl rfl rfl (by first|exact Or.inl rfl|exact Or.inr rfl) (by first|exact Or.inl rfl|exact Or.inr rfl) (by first|exact Or.inl rfl|exact Or.inr rfl) (by first|exact .inl rfl|exact .inr rfl) (by first|exact .inl rfl|exact .inr rfl) (by first|exact .inl rfl|exact .inr rfl) rfl z_enumerate Ux Q6 AR Q6 TF (λω e h=>qkb h) rfl S8 rfl rfl rfl rfl rfl rfl rfl rfl (λt h=>qdI rfl h) (by intro _;rfl) h
noncomputable def q0q:FD:=iu
noncomputable def q0r:FD:=Er
noncomputable def q0F:FS:=(Y4 (Yn da (vOf (Wi (vOf (XB 1 [] (Xi av) je Y7 q0q)))) (vOf (Wi (vOf (XB 1 [] (Xi av) je Y7 q0r))))))
noncomputable def qQ:List D->Option O:=mir 1 q0F
noncomputable abbrev q0G:vm:=top 40
theorem q41:FnScope CP CP (Yi q0G):=aa
theorem q3K (F:Fun K "as_many_begin_as_end" "as_many_begin_as_end" q0G f fd)(z_sorted:mT):
  FnOk P w K mg base CX0 1 f fd CP (spD K 1 qQ):=by
 have h:=fnD (P:=P) (w:=w) (mg:=mg) (base:=base) (k:=0) (body:=q0F) F q41 (λcdv A outer s H E hr=>
   (qc (qg (W5 hr.units (XE.toV (q5V rfl z_sorted (XE.toV (qN rfl (blk ["arc"] [] [] rfl ⋯ ⋯ rfl trivial) (qt cN) jM (λ_ _ _ _=>⟨(qh (i:=0) (show (UP++dC:List Str).Nodup from by decide +kernel) rfl ax),qD,gj⟩))))) (XE.toV (q5V rfl z_sorted (XE.toV (qN rfl (blk ["arc"] [] [] rfl ⋯ ⋯ rfl trivial) (qt cN) jM (λ_ _ _ _=>⟨(qh (i:=0) (show (UP++dC:List Str).Nodup from by decide +kernel) rfl ax),qD,gj⟩)))))))))
 exact h
noncomputable abbrev q1f:vm:=top 41
theorem qY:FnScope g8 oa (Yi q1f):=aa
noncomputable def q1S:List D->Option O:=mRF
theorem q8X{f_n:vC}{d_n:vL}(F:Fun K "round_from" "round_from" q1f f fd)(G_n:FnOk P w K mg base CX0 1 f_n d_n CP (spT K))(a_n:mg "numbers_by_start" = some (.ref f_n))(k_n:xK K (.ref f_n)=true)(b_n:Binds K d_n CP [])(z_list:kD)(z_reversed:mg "reversed" = none):FnOk P w K mg base CX0 2 f fd oa (spD K 2 q1S):=by
 refine F.ok qY BQ j6
 ·obtain⟨G,ds,r,_,h2,_,h4,_⟩:=h
  rw[<- h4.len];exact h2
 ·have hu:=hu1 (X:=(zAh CX0 P w K mg base g8 "round_from" (Yi q1f) f cdv A outer s H E).nox) hr.units
  exact qjA (X:=(zAh CX0 P w K mg base g8 "round_from" (Yi q1f) f cdv A outer s H E).nox) (f1:=(dOf acX)) (f0:=(dOf acY)) Fw Fw (λ_ _ _=>qks) (λ_ _ _=>qjS) rfl h (λp1 p0=>(qO (q0k (i:=2) qY.nd rfl (by first|exact Or.inl rfl|exact Or.inr rfl) (q7Y G_n (hr.mono (by decide)) rfl a_n k_n b_n .nil zBm (qB Q6 qC rfl)) rfl (by first|exact .inl rfl|exact .inr rfl)) (qO (q0k (i:=3) qY.nd rfl (by first|exact Or.inl rfl|exact Or.inr rfl) Na rfl (by first|exact .inl rfl|exact .inr rfl)) (qO (q0k (i:=4) qY.nd rfl (by first|exact Or.inl rfl|exact Or.inr rfl) Na rfl (by first|exact .inl rfl|exact .inr rfl)) (qO (q0k (i:=5) qY.nd rfl (by first|exact Or.inl rfl|exact Or.inr rfl) Ux rfl (by first|exact .inl rfl|exact .inr rfl)) (qO (q9k PassesOwn.never (qhC (q4G Ct (by intro _;rfl)) (qeF (q4G Ci (by intro _;rfl)))).pt (q0V (qgR (q4G Ci (by intro _;rfl)) (qO (q0k (i:=6) qY.nd rfl (by first|exact Or.inl rfl|exact Or.inr rfl) (qag PySem.F.plainAttrs_list PySem.F.slot_list_pop PySem.F.type_list_pop qar (q62 hu AR (pv 5) (by intro _ _;rfl)) rfl rfl) rfl (by first|exact .inl rfl|exact .inr rfl)) (qO (q1l (q38 PySem.F.plainAttrs_list PySem.F.slot_list_append PySem.F.type_list_append q18 Ct Uu rfl rfl rfl rfl rfl) rfl) (q0V (q0k (i:=5) qY.nd rfl (by first|exact Or.inl rfl|exact Or.inr rfl) p1 rfl (by first|exact .inl rfl|exact .inr rfl))))) (qO (q0k (i:=6) qY.nd rfl (by first|exact Or.inl rfl|exact Or.inr rfl) (qag PySem.F.plainAttrs_list PySem.F.slot_list_pop PySem.F.type_list_pop qar Ct rfl rfl) rfl (by first|exact .inl rfl|exact .inr rfl)) (qO (q1l (q38 PySem.F.plainAttrs_list PySem.F.slot_list_append PySem.F.type_list_append q18 Q5 Uu rfl rfl rfl rfl rfl) rfl) (q0V (q0k (i:=5) qY.nd rfl (by first|exact Or.inl rfl|exact Or.inr rfl) p0 rfl (by first|exact .inl rfl|exact .inr rfl)))))))) (q0V (q5I (qd6 rfl z_list rfl z_reversed (qB Q5 qC rfl) rfl rfl rfl rfl rfl)))))))))
noncomputable def q6H:FS:=(Yu (sIf (XQ (WB (vOf (Yp qQ NI)))) sNo Xl)
  (Yu (XC 2 (eOf (dOf (Yp q1S fZ))))
  (Yu (sIf (tOf (Yn fL (vOf IP) o7)) sNo Xl)
  (Y4 (Yh 2)))))
noncomputable def q3f:List D->Option O:=mir 3 q6H
noncomputable abbrev q6Q:vm:=top 42
theorem q9X:FnScope ["start", "arcs", "row"] oa (Yi q6Q):=aa
theorem qeP{f_as_many_begin_as_end:vC}{d_as_many_begin_as_end:vL}{f_round_from:vC}{d_round_from:vL}(F:Fun K "row_of" "row_of" q6Q f fd)(c_as_many_begin_as_end:Cal P w K mg base 1 f_as_many_begin_as_end d_as_many_begin_as_end "as_many_begin_as_end" CP 1 qQ)(c_round_from:Cal P w K mg base 2 f_round_from d_round_from "round_from" oa 2 q1S)(z_len:fD):
  FnOk P w K mg base CX0 3 f fd oa (spD K 2 q3f):=by
 have h:=fnD (P:=P) (w:=w) (mg:=mg) (base:=base) (k:=2) (body:=q6H) F q9X (λcdv A outer s H E hr=>
   (qb (qy (qI (qE (XE.toV (xc c_as_many_begin_as_end hr UV)))) R5 qq)
   (qb (qp (i:=2) q9X.nd rfl (Or.inl rfl) (XD.toE (XE.toD (xc c_round_from hr ga))))
   (qb (qy (Xq hr.units (XE.toV pG) iw) R5 qq)
   (qc (qg (vE 2)))))))
 exact h
noncomputable def q2O:FS:=(Yu (XC 3 (eOf (dOf (Yp q3f (Yf av (Yf (dOf (Yn Xo cR (vOf (WZ (Yf (zAW NH) Yq))))) Yq))))))
  (Yu (XC 4 (eOf (dOf (fIdx cJ (dOf IP)))))
  (Y4 (Yn Xo (vOf (fSl cJ (pAt (vOf (Yn Xo bm au))) pNo)) (vOf (fSl cJ pNo (pAt bm)))))))
noncomputable def q0t:List D->Option O:=mir 5 q2O
noncomputable abbrev q32:vm:=top 43
theorem q2R:FnScope ["home", "last", "arcs", "row", "cut"] Ef (Yi q32):=aa
theorem q7T{f_row_of:vC}{d_row_of:vL}(F:Fun K "row_between" "row_between" q32 f fd)(c_row_of:Cal P w K mg base 3 f_row_of d_row_of "row_of" oa 2 q3f)(z_len:fD):
  FnOk P w K mg base CX0 4 f fd Ef (spD K 3 q0t):=by
 have h:=fnD (P:=P) (w:=w) (mg:=mg) (base:=base) (k:=3) (body:=q2O) F q2R (λcdv A outer s H E hr=>
   (qb (qp (i:=3) q2R.nd rfl (Or.inl rfl) (XD.toE (XE.toD (xc c_row_of hr (Ye cN (Ye (XE.toD (qJ lg (XE.toV (XF (Ye (Xs NJ) Yk))))) Yk))))))
   (qb (qp (i:=4) q2R.nd rfl (Or.inl rfl) (XD.toE (XE.toD (qfG lf (XE.toD pG)))))
   (qc (qg (qJ (XE.toV (Y5 lf (Y9 (XE.toV (qJ kO af))) XR)) (XE.toV (Y5 lf XR (Y9 kO)))))))))
 exact h
noncomputable def q5W:FS:=(Yu (sIf (WM UZ (WM (tOf (Yn fL oZ gu)) (tOf (Yn fL (vOf iG) Qq)))) bc Xl)
  (Y4 (eOf (Wh OV (Wh (dOf (Yp qw (Yf (dOf BY) Yq))) (dOf (Yn fL M3 (vOf BY))))))))
noncomputable def q2h:List D->Option O:=mir 1 q5W
noncomputable abbrev q7K:vm:=top 45
theorem qik:FnScope gO gO (Yi q7K):=aa
theorem qgl{f_is_whole:vC}{d_is_whole:vL}(F:Fun K "is_go" "is_go" q7K f fd)(c_is_whole:bi)(z_len:fD)(z_isinstance:cZ)(z_tuple:nZ)(i_tuple:CU):
  FnOk P w K mg base CX0 2 f fd gO (spD K 1 q2h):=by
 have h:=fnD (P:=P) (w:=w) (mg:=mg) (base:=base) (k:=1) (body:=q5W) F qik (λcdv A outer s H E hr=>
   (qb de
   (qc (qg (XD.toE (q03 ju (q03 ju (q0w (XE.toD (xe_ne hr.units mH mH))))))))))
 exact h
noncomputable def q1p:FD:=(dOf NB)
noncomputable def q1z:FS:=(Yu (sIf (WM UZ (WM (tOf (Yn fL oZ jm)) (tOf (Yn fL (vOf iG) Qs)))) bc Xl)
  (Yu (sIf (XQ (WB (vOf (XZ zAx (Yf (vOf (XB 1 [] (Xi (dOf (fSl ay (pAt au) pNo))) je Y7 q1p)) Yq))))) bc Xl)
  (Y4 (eOf (Wh (dOf (Yn oGe M3 aQ)) (dOf (Yn oLt M3 o7)))))))
noncomputable def q0l:List D->Option O:=mir 2 q1z
noncomputable abbrev q1E:vm:=top 46
theorem q6D:FnScope eI eI (Yi q1E):=aa
theorem q6e{f_is_whole:vC}{d_is_whole:vL}(F:Fun K "has_carry_form" "has_carry_form" q1E f fd)(c_is_whole:bi)(z_len:fD)(z_isinstance:cZ)(z_tuple:nZ)(z_all:Bx)(i_tuple:CU):
  FnOk P w K mg base CX0 2 f fd eI (spD K 2 q0l):=by
 have h:=fnD (P:=P) (w:=w) (mg:=mg) (base:=base) (k:=1) (body:=q1z) F q6D (λcdv A outer s H E hr=>
   (qb de
   (qb (qy (qI (qE (XE.toV (qu Hm q4A rfl z_all q4D (qj (XE.toV (qN rfl (blk ["part"] [] [] rfl ⋯ ⋯ rfl trivial) (qt (XE.toD (Y5 ib HC XR))) jM (λ_ _ _ _=>⟨(qh (i:=0) (show ((["part"]:List Str)++dC:List Str).Nodup from by decide +kernel) rfl ax),qD,(XE.toD Ag)⟩))) qo))))) bz qq)
   (qc (qg (XD.toE (q03 (XE.toD (qgI mH af)) (q0w (XE.toD (qdk mH iw))))))))))
 exact h
noncomputable def q4O:FS:=(Y4 (eOf (Wh (dOf (Yp q0l fZ)) (dOf (Yn da (vOf (fSl ay (pAt cv) pNo)) (vOf (Yn oIx aZ M3)))))))
noncomputable def q1V:List D->Option O:=mir 2 q4O
noncomputable abbrev q4W:vm:=top 47
theorem qd1:FnScope eI eI (Yi q4W):=aa
theorem qb5{f_has_carry_form:vC}{d_has_carry_form:vL}(F:Fun K "is_carry" "is_carry" q4W f fd)(c_has_carry_form:Cal P w K mg base 2 f_has_carry_form d_has_carry_form "has_carry_form" eI 2 q0l):
  FnOk P w K mg base CX0 3 f fd eI (spD K 2 q1V):=by
 have h:=fnD (P:=P) (w:=w) (mg:=mg) (base:=base) (k:=2) (body:=q4O) F qd1 (λcdv A outer s H E hr=>
   (qc (qg (XD.toE (q03 (XE.toD (xc c_has_carry_form hr ga)) (q0w (XE.toD (W5 hr.units (XE.toV (Y5 ib HC XR)) (XE.toV (Yj fF mH))))))))))
 exact h
noncomputable def q5j:FS:=(Y4 (eOf (vOr (dOf (Yp q2h gz)) (dOf (Yp q1V fZ)))))
noncomputable def q2F:List D->Option O:=mir 2 q5j
noncomputable abbrev q5s:vm:=top 48
theorem qew:FnScope eI eI (Yi q5s):=aa
theorem qdm{f_is_carry:vC}{d_is_carry:vL}{f_is_go:vC}{d_is_go:vL}(F:Fun K "is_move" "is_move" q5s f fd)(c_is_carry:Cal P w K mg base 3 f_is_carry d_is_carry "is_carry" eI 2 q1V)(c_is_go:Cal P w K mg base 2 f_is_go d_is_go "is_go" gO 1 q2h):
  FnOk P w K mg base CX0 4 f fd eI (spD K 2 q2F):=by
 have h:=fnD (P:=P) (w:=w) (mg:=mg) (base:=base) (k:=3) (body:=q5j) F qew (λcdv A outer s H E hr=>
   (qc (qg (XD.toE (qlb (XE.toD (xc c_is_go hr gB)) (q0w (XE.toD (xc c_is_carry hr ga))))))))
 exact h
noncomputable def q52:FS:=(Yu (sIf (tOf (Yn fL (vOf (Yn oIx bm (vOf (Wz cv)))) cJ)) bc Xl)
  (XC 3 (eOf (dOf (Yn oIx bm lB)))))
noncomputable def q85:FS:=(Yu (XC 3 (eOf av))
  (Yu (Wb VX N5 q52)
  (Y4 (Yn da cJ aZ))))
noncomputable def q4m:List D->Option O:=mir 5 q85
noncomputable abbrev q7C:vm:=top 49
theorem q5S:FnScope ["home", "last", "moves", "here", "move"] Ds (Yi q7C):=aa
theorem qfP (F:Fun K "leads" "leads" q7C f fd):
  FnOk P w K mg base CX0 1 f fd Ds (spD K 3 q4m):=by
 have h:=fnD (P:=P) (w:=w) (mg:=mg) (base:=base) (k:=0) (body:=q85) F q5S (λcdv A outer s H E hr=>
   (qb (qp (i:=3) q5S.nd rfl (Or.inl rfl) (XD.toE cN))
   (qb (q02 PassesOwn.never rfl (qt jt) (qh (i:=4) q5S.nd rfl ax) (qb (qy (Xq hr.units (XE.toV (Yj kO dW)) lf) bz qq)
   (qc (qp (i:=3) q5S.nd rfl (Or.inl rfl) (XD.toE (XE.toD (Yj kO dW)))))))
   (qc (qg (W5 hr.units lf fF))))))
 exact h
noncomputable def q4T:FD:=(dOf (Yp q2F fZ))
noncomputable def q37:FT:=(tOf (Yn da (vOf iG) Qs))
noncomputable def q34:FD:=Er
noncomputable def q5f:FS:=(Yu Vt
  (Yu (sIf (WM (XQ (WB (vOf (W4 .lst cJ)))) (XQ (WB (vOf (XZ zAx (Yf (vOf (XB 1 [2] HD je Y7 q4T)) Yq)))))) bc Xl)
  (Yu (XC 4 (XB 1 [] HD je q37 q34))
  (Xf 4 (Y4 (eOf (Wh (dOf (Yn da (vOf (Wi bm)) (vOf (XZ zAE (Yf (vOf IP) Yq))))) (dOf (Yp q4m (Yf av (Yf aH E2)))))))))))
noncomputable def q2C:List D->Option O:=mir 5 q5f
noncomputable abbrev q5b:vm:=top 50
theorem q8G:FnScope ["home", "last", "boxes", "thing", "carried"] rq (Yi q5b):=aa
theorem qcL{f_check_errand:vC}{d_check_errand:vL}{f_is_move:vC}{d_is_move:vL}{f_leads:vC}{d_leads:vL}(F:Fun K "is_tour" "is_tour" q5b f fd)(c_check_errand:oK)(c_is_move:Cal P w K mg base 4 f_is_move d_is_move "is_move" eI 2 q2F)(c_leads:Cal P w K mg base 1 f_leads d_leads "leads" Ds 3 q4m)(z_all:Bx)(z_isinstance:cZ)(z_list:kD)(z_sorted:mT)(z_len:fD)(z_range:sw)(i_list:Gc):
  FnOk P w K mg base CX0 5 f fd rq (spD K 4 q2C):=by
 have h:=fnD (P:=P) (w:=w) (mg:=mg) (base:=base) (k:=4) (body:=q5f) F q8G (λcdv A outer s H E hr=>
   (qb Kf
   (qb (qy (XW.toT (q06 (qI (qE (XE.toV CL))) (q0J (qI (qE (XE.toV (qu Hm q4A rfl z_all q4D (qj (XE.toV (qN rfl (blk CO rO [2] rfl ⋯ ⋯ rfl ⟨⟨rfl,(by first|exact Or.inl rfl|exact Or.inr rfl),rfl⟩,trivial⟩) Ke jM (λ_ _ _ _=>⟨(qh (i:=0) (show (iL++(rO:List Str):List Str).Nodup from by decide +kernel) rfl ax),qD,(XE.toD (xc c_is_move hr ga))⟩))) qo)))))))) bz qq)
   (qb (q1k (i:=4) rfl q8G.nd rfl rfl (blk CO [] [] rfl ⋯ ⋯ rfl trivial) Ke jM (λ_ _ _ _=>⟨(qh (i:=0) (show (iL++dC:List Str).Nodup from by decide +kernel) rfl ax),(q4u (X4 hr.units mH Gx)),gj⟩))
   (q0b 4 (qc (qg (XD.toE (q03 (XE.toD (W5 hr.units (XE.toV (q5V rfl z_sorted kO)) (XE.toV (q6j rfl z_list rfl z_range (qj (XE.toV pG) qo))))) (q0w (XE.toD (xc c_leads hr (Ye cN (Ye dD E4))))))))))))))
 exact h
noncomputable def q22:FS:=(Yu (sIf (XQ (WB (vOf (Yp q1F (Yf (dOf acW) Yq))))) bc Xl)
  (Yu (sIf (tOf (Yn da (vOf ND) Qs)) (Y4 (Yn da (vOf acW) (vOf (Yn oIx (vOf (Yn oIx aZ (vOf NC))) cv)))) Xl)
  (Y4 (eOf (Wh (dOf (Yp qG (Yf av (Yf (dOf NC) Yq)))) (dOf (Yp qG (Yf av (Yf (dOf (Yn oIx cR cv)) Yq)))))))))
noncomputable def q0v:List D->Option O:=mir 3 q22
noncomputable abbrev q1J:vm:=top 52
theorem q7d:FnScope oX oX (Yi q1J):=aa
theorem q6p{f_is_way:vC}{d_is_way:vL}{f_has_place:vC}{d_has_place:vL}(F:Fun K "keeps_to_ring" "keeps_to_ring" q1J f fd)(c_is_way:Br)(c_has_place:fI):
  FnOk P w K mg base CX0 3 f fd oX (spD K 3 q0v):=by
 have h:=fnD (P:=P) (w:=w) (mg:=mg) (base:=base) (k:=2) (body:=q22) F q7d (λcdv A outer s H E hr=>
   (qb (qy (qI (qE (XE.toV (xc c_is_way hr (Ye (XE.toD (Yj lg dW)) Yk))))) bz qq)
   (qb (qy (X4 hr.units TD Gx) (qc (qg (W5 hr.units (XE.toV (Yj lg dW)) (XE.toV (Yj (XE.toV (Yj fF TD)) af))))) qq)
   (qc (qg (XD.toE (q03 CS (q0w CS))))))))
 exact h
noncomputable def q1T:FD:=(dOf JT)
noncomputable def q1O:FD:=(dOf (fSl ay pNo (pAt lB)))
noncomputable def q21:FD:=(dOf (Yp q0v (Yf aH (Yf bn gz))))
noncomputable def q26:FS:=(Yu Vs
  (Yu (sIf (WM L3 (XQ (WB (vOf (XZ zAx (Yf (vOf (XB 1 [] VW je Y7 q1T)) Yq)))))) bc Xl)
  (Yu (sIf (XQ (WB (vOf (Yp q2C (Yf aH (Yf bn (Yf aaH (Yf (dOf (XB 1 [] VW je Y7 q1O)) Yq)))))))) bc Xl)
  (Y4 (XZ zAx (Yf (vOf (XB 1 [0,3] VW je Y7 q21)) Yq))))))
noncomputable def q0I:List D->Option O:=mir 5 q26
noncomputable abbrev q28:vm:=top 53
theorem q7P:FnScope cG cG (Yi q28):=aa
theorem q71{f_check_ring:vC}{d_check_ring:vL}{f_is_tour:vC}{d_is_tour:vL}{f_without_ways:vC}{d_without_ways:vL}{f_keeps_to_ring:vC}{d_keeps_to_ring:vL}(F:Fun K "is_ring_tour" "is_ring_tour" q28 f fd)(c_check_ring:rf)(c_is_tour:Cal P w K mg base 5 f_is_tour d_is_tour "is_tour" rq 4 q2C)(c_without_ways:fE)(c_keeps_to_ring:Cal P w K mg base 3 f_keeps_to_ring d_keeps_to_ring "keeps_to_ring" oX 3 q0v)(z_isinstance:cZ)(z_tuple:nZ)(z_all:Bx)(z_list:kD)(i_list:Gc)(i_tuple:CU):
  FnOk P w K mg base CX0 6 f fd cG (spD K 5 q0I):=by
 have h:=fnD (P:=P) (w:=w) (mg:=mg) (base:=base) (k:=5) (body:=q26) F q7P (λcdv A outer s H E hr=>
   (qb Lp
   (qb (qy (XW.toT (q06 pH (q0J (qI (qE (XE.toV (qu Hm q4A rfl z_all q4D (qj (XE.toV (qN rfl (blk CO [] [] rfl ⋯ ⋯ rfl trivial) (qt nJ) jM (λ_ _ _ _=>⟨(qh (i:=0) (show (iL++dC:List Str).Nodup from by decide +kernel) rfl ax),qD,(XE.toD kG)⟩))) qo)))))))) bz qq)
   (qb (qy (qI (qE (XE.toV (xc c_is_tour hr (Ye dD (Ye jt (Ye EK (Ye (XE.toD (qN rfl (blk CO [] [] rfl ⋯ ⋯ rfl trivial) (qt nJ) jM (λ_ _ _ _=>⟨(qh (i:=0) (show (iL++dC:List Str).Nodup from by decide +kernel) rfl ax),qD,(XE.toD (Y5 ib XR (Y9 dW)))⟩))) Yk)))))))) bz qq)
   (qc (qg (qu Hm q4A rfl z_all q4D (qj (XE.toV (qN rfl (blk CO abN [0,3] rfl ⋯ ⋯ rfl ⟨⟨rfl,(by first|exact Or.inl rfl|exact Or.inr rfl),rfl⟩,⟨⟨rfl,(by first|exact Or.inl rfl|exact Or.inr rfl),rfl⟩,trivial⟩⟩) (qt nJ) jM (λ_ _ _ _=>⟨(qh (i:=0) (show (iL++(abN:List Str):List Str).Nodup from by decide +kernel) rfl ax),qD,(XE.toD (xc c_keeps_to_ring hr (Ye dD (Ye jt gB))))⟩))) qo))))))))
 exact h
noncomputable def q2q:FD:=(dOf (Yp q04 (Yf aH (Yf (dOf (Yn oIx ay (vOf (Wz gu)))) (Yf (dOf (Yn oIx ay (vOf (Wz cv)))) (Yf (dOf (Yn oIx ay lB)) Yq))))))
noncomputable def q2X:FS:=(Y4 (XZ zBd (Yf (vOf (XB 1 [0] (Xi aH) je Y7 q2q)) Yq)))
noncomputable def q0R:List D->Option O:=mir 2 q2X
noncomputable abbrev q2P:vm:=top 54
theorem q8Y:FnScope DK DK (Yi q2P):=aa
theorem q81{f_steps:vC}{d_steps:vL}(F:Fun K "ring_length" "ring_length" q2P f fd)(c_steps:cz)(z_sum:FY):
  FnOk P w K mg base CX0 2 f fd DK (spD K 2 q0R):=by
 have h:=fnD (P:=P) (w:=w) (mg:=mg) (base:=base) (k:=1) (body:=q2X) F q8Y (λcdv A outer s H E hr=>
   (qc (qg (qu KJ q5g rfl z_sum q5h (qj (XE.toV (qN rfl (blk CO Lw [0] rfl ⋯ ⋯ rfl ⟨⟨rfl,(by first|exact Or.inl rfl|exact Or.inr rfl),rfl⟩,trivial⟩) (qt dD) jM (λ_ _ _ _=>⟨(qh (i:=0) (show (iL++jY:List Str).Nodup from by decide +kernel) rfl ax),qD,(XE.toD (xc c_steps hr (Ye dD (Ye HF (Ye HF (Ye HF Yk))))))⟩))) qo)))))
 exact h
noncomputable def q2S:FS:=(Y4 fu)
noncomputable def qz:List D->Option O:=mir 1 q2S
noncomputable abbrev q31:vm:=top 55
theorem q9b:FnScope UN UN (Yi q31):=aa
theorem q7H (F:Fun K "turn_weight" "turn_weight" q31 f fd):
  FnOk P w K mg base CX0 1 f fd UN (spD K 1 qz):=by
 have h:=fnD (P:=P) (w:=w) (mg:=mg) (base:=base) (k:=0) (body:=q2S) F q9b (λcdv A outer s H E hr=>
   (qc (qg bw)))
 exact h
noncomputable def q45:FS:=(Y4 (Yn oIx (vOf (zBg qz (vOf (Yp q0u bp)))) aQ))
noncomputable def q0W:List D->Option O:=mir 4 q45
noncomputable abbrev q3V:vm:=top 56
theorem qaQ:FnScope ak ak (Yi q3V):=aa
theorem q9t{f_turn_weight:vC}{d_turn_weight:vL}{f_turns:vC}{d_turns:vL}(F:Fun K "best_turn" "best_turn" q3V f fd)(c_turn_weight:Cal P w K mg base 1 f_turn_weight d_turn_weight "turn_weight" UN 1 qz)(c_turns:kg)(z_min:Nf):
  FnOk P w K mg base CX0 9 f fd ak (spD K 4 q0W):=by
 have h:=fnD (P:=P) (w:=w) (mg:=mg) (base:=base) (k:=8) (body:=q45) F qaQ (λcdv A outer s H E hr=>
   (qc (qg (Yj (XE.toV (qiz c_turn_weight hr rfl z_min (XE.toV Uf))) af))))
 exact h
noncomputable def q77:FD:=(dOf (Yn Xo (zAW (Yf Qs gz)) aZ))
noncomputable def q5F:FS:=(Y4 (XB 2 [] (iEn gz) KR Y7 q77))
noncomputable def q2B:List D->Option O:=mir 1 q5F
noncomputable abbrev q5o:vm:=top 57
theorem qeT:FnScope rO rO (Yi q5o):=aa
theorem qdf (F:Fun K "carries" "carries" q5o f fd)(z_enumerate:Gs):
  FnOk P w K mg base CX0 1 f fd rO (spD K 1 q2B):=by
 have h:=fnD (P:=P) (w:=w) (mg:=mg) (base:=base) (k:=0) (body:=q5F) F qeT (λcdv A outer s H E hr=>
   (qc (qg (qN rfl (blk KW [] [] rfl ⋯ ⋯ rfl trivial) (qbY rfl z_enumerate gB) mi (λ_ _ _ _=>⟨(q1N rfl (qx (qh (i:=0) (show ((KW:List Str)++dC:List Str).Nodup from by decide +kernel) rfl ax) (qx (qh (i:=1) (show ((KW:List Str)++dC:List Str).Nodup from by decide +kernel) rfl ax) q16))),qD,(XE.toD (qJ (XD.toV (Xs (Ye Xr gB))) fF))⟩)))))
 exact h
noncomputable def q53:FS:=(Y4 (eOf (zAW (Yf Qq (Yf iu (Yf Er E3))))))
noncomputable def q1h:List D->Option O:=mir 1 q53
noncomputable abbrev q4P:vm:=top 58
theorem qcI:FnScope kR kR (Yi q4P):=aa
theorem qaV (F:Fun K "go_right" "go_right" q4P f fd):
  FnOk P w K mg base CX0 1 f fd kR (spD K 1 q1h):=by
 have h:=fnD (P:=P) (w:=w) (mg:=mg) (base:=base) (k:=0) (body:=q53) F qcI (λcdv A outer s H E hr=>
   (qc (qg (XD.toE (Xs (Ye Xr (Ye gj (Ye gj mN))))))))
 exact h
noncomputable def q5d:FS:=(Y4 (eOf (zAW (Yf Qq (Yf Er (Yf iu Fv))))))
noncomputable def q1H:List D->Option O:=mir 1 q5d
noncomputable abbrev q5G:vm:=top 59
theorem qfl:FnScope kR kR (Yi q5G):=aa
theorem qdo (F:Fun K "go_left" "go_left" q5G f fd):
  FnOk P w K mg base CX0 1 f fd kR (spD K 1 q1H):=by
 have h:=fnD (P:=P) (w:=w) (mg:=mg) (base:=base) (k:=0) (body:=q5d) F qfl (λcdv A outer s H E hr=>
   (qc (qg (XD.toE (Xs (Ye Xr (Ye gj (Ye gj CB))))))))
 exact h
noncomputable def q2u:FS:=(Yu (XC 10 (eOf (dOf (zB3 (tOf (Yn oGt P9 aQ)) (Yp q1h og) (Yp q1H og)))))
  (sExt 7 (dOf (Yn zAr (vOf (WZ (Yf (dOf (Yh 10)) Yq))) (vOf (XZ zBo (Yf P9 Yq)))))))
noncomputable def q2i:FS:=(sExt 7 (dOf (WZ (Yf (dOf (Yp q1h og)) (Yf (dOf (Yp q1H og)) Yq)))))
noncomputable def q2Q:FS:=(Yu (XC 5 Pw)
  (Yu (XC 6 (eOf (dOf (Yp qH mG))))
  (Yu (XC 7 Kk)
  (Yu (Wb (iZp dS) (gT 2 Nz) q2u)
  (Yu (Wb (Xi (dOf (Yp q0f (Yf aH (Yf bn (Yf bv dS)))))) (gN 8) q2i)
  (We 7))))))
noncomputable def q0S:List D->Option O:=mir 11 q2Q
noncomputable abbrev q2W:vm:=top 60
theorem q01:FnScope ["size", "home", "last", "boxes", "c", "edges", "lacks", "moves", "edge", "lack", "move"] bI (Yi q2W):=aa
theorem q7B{f_ring_edges:vC}{d_ring_edges:vL}{f_ring_lacks:vC}{d_ring_lacks:vL}{f_go_right:vC}{d_go_right:vL}{f_go_left:vC}{d_go_left:vL}{f_ring_forest:vC}{d_ring_forest:vL}(F:Fun K "empty_moves" "empty_moves" q2W f fd)(c_ring_edges:p9)(c_ring_lacks:ip)(c_go_right:Cal P w K mg base 1 f_go_right d_go_right "go_right" kR 1 q1h)(c_go_left:Cal P w K mg base 1 f_go_left d_go_left "go_left" kR 1 q1H)(c_ring_forest:pj)(z_zip:FX)(z_abs:Ng):
  FnOk P w K mg base CX0 8 f fd bI (spD K 5 q0S):=by
 have h:=fnD (P:=P) (w:=w) (mg:=mg) (base:=base) (k:=7) (body:=q2Q) F q01 (λcdv A outer s H E hr=>
   (qb (qp (i:=5) q01.nd rfl (Or.inl rfl) E6)
   (qb (qp (i:=6) q01.nd rfl (Or.inl rfl) (XD.toE (XE.toD (xc c_ring_lacks hr lw))))
   (qb (qp (i:=7) q01.nd rfl (Or.inl rfl) Kj)
   (qb (q02 PassesOwn.never rfl (q9I rfl z_zip iH) (q1N rfl (qx N3 (qx (qh (i:=9) q01.nd rfl ax) q16))) (qb (qp (i:=10) q01.nd rfl (Or.inl rfl) (XD.toE (XE.toD (q7m (qhk (vV 9) af) QR RM))))
   (qc (q9M Uw (XE.toD (qk0 (XE.toV (XF (Ye (vD 10) Yk))) (XE.toV (qu q6O q9U rfl z_abs q9L (qj (vV 9) qo)))))))))
   (qb (q02 PassesOwn.never rfl (qt (XE.toD (xc c_ring_forest hr (Ye dD (Ye jt (Ye j5 iH)))))) N3 (qc (q9M Uw (XE.toD (XF (Ye (XE.toD QR) (Ye (XE.toD RM) Yk)))))))
   (qc (q2b Uw))))))))
 exact h
noncomputable def q3p:FD:=(dOf (fSl ay (pAt (vOf (Wz gu))) (pAt lB)))
noncomputable def q3I:FD:=(dOf (Yn oIx aZ ay))
noncomputable def q4j:FS:=(Yu (XC 4 (eOf (dOf (Yp q0W bp))))
  (Yu (XC 5 (eOf (dOf (Yn Xo (vOf (Yp q2B E2)) (vOf (Yp q0S mG))))))
  (Yu (XC 6 (XB 1 [] (Xi dZ) je Y7 q3p))
  (Xf 6 (Y4 (XB 1 [5] (Xi (dOf (Yp q0t (Yf aH (Yf bn (Yf k9 Yq)))))) je Y7 q3I))))))
noncomputable def q1u:List D->Option O:=mir 7 q4j
noncomputable abbrev q3T:vm:=top 61
theorem q2x:FnScope ["size", "home", "last", "boxes", "c", "moves", "arcs"] ak (Yi q3T):=aa
theorem q9S{f_best_turn:vC}{d_best_turn:vL}{f_carries:vC}{d_carries:vL}{f_empty_moves:vC}{d_empty_moves:vL}{f_row_between:vC}{d_row_between:vL}(F:Fun K "ring_tour" "ring_tour" q3T f fd)(c_best_turn:Cal P w K mg base 9 f_best_turn d_best_turn "best_turn" ak 4 q0W)(c_carries:Cal P w K mg base 1 f_carries d_carries "carries" rO 1 q2B)(c_empty_moves:Cal P w K mg base 8 f_empty_moves d_empty_moves "empty_moves" bI 5 q0S)(c_row_between:Cal P w K mg base 4 f_row_between d_row_between "row_between" Ef 3 q0t):
  FnOk P w K mg base CX0 10 f fd ak (spD K 4 q1u):=by
 have h:=fnD (P:=P) (w:=w) (mg:=mg) (base:=base) (k:=9) (body:=q4j) F q2x (λcdv A outer s H E hr=>
   (qb (qp (i:=4) q2x.nd rfl (Or.inl rfl) (XD.toE (XE.toD (xc c_best_turn hr aW))))
   (qb (qp (i:=5) q2x.nd rfl (Or.inr rfl) (XD.toE (XE.toD (qJ (XE.toV (xc c_carries hr E4)) (XE.toV (xc c_empty_moves hr lw))))))
   (qb (q1k (i:=6) rfl q2x.nd rfl rfl (blk CO [] [] rfl ⋯ ⋯ rfl trivial) (qt Bv) jM (λ_ _ _ _=>⟨(qh (i:=0) (show (iL++dC:List Str).Nodup from by decide +kernel) rfl ax),qD,(XE.toD (Y5 ib (Y9 dW) (Y9 dW)))⟩))
   (q0b 6 (qc (qg (qN rfl (blk ["number"] ["moves"] [5] rfl ⋯ ⋯ rfl ⟨⟨rfl,(by first|exact Or.inl rfl|exact Or.inr rfl),rfl⟩,trivial⟩) (qt (XE.toD (xc c_row_between hr (Ye dD (Ye jt (Ye GJ Yk)))))) jM (λ_ _ _ _=>⟨(qh (i:=0) (show ((["number"]:List Str)++(["moves"]:List Str):List Str).Nodup from by decide +kernel) rfl ax),qD,(XE.toD (Yj fF ib))⟩)))))))))
 exact h
noncomputable def q3U:FS:=(Yu (sIf (tOf (Yn oLt aZ oZ)) (Y4 (Yn oIx ay aZ)) Xl)
  (Y4 (eOf aQ)))
noncomputable def qW:List D->Option O:=mir 2 q3U
noncomputable abbrev q44:vm:=top 63
theorem qb0:FnScope Ga Ga (Yi q44):=aa
theorem qaC (F:Fun K "_law_cell" "_law_cell" q44 f fd)(z_len:fD):
  FnOk P w K mg base CX0 1 f fd Ga (spD K 2 qW):=by
 have h:=fnD (P:=P) (w:=w) (mg:=mg) (base:=base) (k:=0) (body:=q3U) F qb0 (λcdv A outer s H E hr=>
   (qb (qy (q7a fF l9) (qc (qg (Yj ib fF))) qq)
   (qc (qg Su))))
 exact h
noncomputable def q4h:FS:=(Yu (XC 1 (eOf (dOf (Yp qW (Yf av UU)))))
  (Y4 (Yn oIx (vOf (WZ (Yf (dOf (Yn Xo au (vOf (Yn oMod Fm (fC (.int 12)))))) (Yf (dOf (Yn Xo au (vOf (Yn oMod Fm (fC (.int 100)))))) (Yf (dOf (Yn Xo au (vOf (Yn oMod Fm (vOf (Yn oPow (fC (.int 10)) (fC (.int 39)))))))) (Yf (fC (.int 24)) Yq)))))) (vOf (Yn oMod aZ jm)))))
noncomputable def q1w:List D->Option O:=mir 2 q4h
noncomputable abbrev q3Y:vm:=top 64
theorem q6n:FnScope ["script", "cell"] CN (Yi q3Y):=aa
theorem q9p{f__law_cell:vC}{d__law_cell:vL}(F:Fun K "_law_size" "_law_size" q3Y f fd)(c__law_cell:fQ):
  FnOk P w K mg base CX0 2 f fd CN (spD K 1 q1w):=by
 have h:=fnD (P:=P) (w:=w) (mg:=mg) (base:=base) (k:=1) (body:=q4h) F q6n (λcdv A outer s H E hr=>
   (qb (qp (i:=1) q6n.nd rfl (Or.inl rfl) Sv)
   (qc (qg (Yj (XE.toV (XF (Ye Bd (Ye Bd (Ye (XE.toD (qJ af (XE.toV (qT Sr (XE.toV (qjz af af)))))) mN))))) (XE.toV (qT fF af)))))))
 exact h
noncomputable def q3j:FS:=(Yu (XC 4 (eOf (dOf (Yp qW (Yf av (Yf (dOf (Yn Xo cv cJ)) Yq))))))
  (zBQ 2 (dOf (Yn oMod (vOf (Yn oIx (vOf (WZ (Yf (dOf (Yn Xo cJ (vOf L1))) (Yf (dOf L1) (Yf (dOf (Yn Wq (vOf (Yn Wq aQ au)) (vOf L1))) Yq))))) (vOf (Yn oMod bm gu)))) aZ))))
noncomputable def q48:FS:=(Yu (XC 2 Kk)
  (Yu (Wb (iRg1 (Yf OQ Yq)) (gN 3) q3j)
  (Yu (sIf (tOf (Yn da (vOf (Yn oMod (vOf (Yn oDiv (vOf US) (fC (.int 28)))) gu)) au)) (zAz 2 au (dOf ND)) Xl)
  (We 2))))
noncomputable def q1t:List D->Option O:=mir 5 q48
noncomputable abbrev q4f:vm:=top 65
theorem q2w:FnScope ["script", "size", "some", "k", "cell"] JR (Yi q4f):=aa
theorem qa6{f__law_cell:vC}{d__law_cell:vL}(F:Fun K "_law_menu" "_law_menu" q4f f fd)(c__law_cell:fQ)(z_range:sw):
  FnOk P w K mg base CX0 2 f fd JR (spD K 2 q1t):=by
 have h:=fnD (P:=P) (w:=w) (mg:=mg) (base:=base) (k:=1) (body:=q48) F q2w (λcdv A outer s H E hr=>
   (qb (qp (i:=2) q2w.nd rfl (Or.inl rfl) Kj)
   (qb (q02 PassesOwn.never rfl (q8a rfl z_range (qj af qo)) (qh (i:=3) q2w.nd rfl ax) (qb (qp (i:=4) q2w.nd rfl (Or.inl rfl) (XD.toE (XE.toD (xc c__law_cell hr (Ye cN (Ye (XE.toD (qJ af lf)) Yk))))))
   (qc (q4q AR (XE.toD (qT (XE.toV (Yj (XE.toV (XF (Ye (XE.toD (qJ lf (XE.toV R6))) (Ye (XE.toD R6) (Ye (XE.toD (q09 (XE.toV (q09 af af)) (XE.toV R6))) Yk))))) (XE.toV (qT kO af)))) fF))))))
   (qb (qy (X4 hr.units (XE.toV (qT (XE.toV (q0K (XE.toV Av) af)) af)) af) (qc (q7L AR Yg oP)) qq)
   (qc (q2b AR))))))
 exact h
noncomputable def q2Y:FS:=(zBQ 4 (zAW (Yf (dOf (Yn oIx aZ (vOf (Yn oMod (vOf (Yn oDiv j8 cv)) OQ)))) (Yf (dOf (Yn oIx aZ (vOf (Yn oMod (vOf (Yn oDiv j8 (fC (.int 14)))) OQ)))) (Yf (dOf (Yn oIx (vOf (WZ (Yf au Fv))) (vOf (Yn oMod j8 cv)))) Yq)))))
noncomputable def q3r:FS:=(Yu (XC 2 (eOf (dOf US)))
  (Yu (XC 3 (eOf (dOf (Yn oIx (vOf (WZ (Yf OR (Yf OR (Yf (dOf (Yn oMod QT (fC (.int 6)))) (Yf (dOf (Yn oMod QT gu)) Yq)))))) (vOf (Yn oMod cR jm))))))
  (Yu abQ
  (Yu (Wb (Xi (dOf (fSl ay (pAt (fC (.int 9))) (pAt (vOf (Yn Xo (fC (.int 9)) cJ)))))) Q8 q2Y)
  (We 4)))))
noncomputable def q1a:List D->Option O:=mir 6 q3r
noncomputable abbrev q3B:vm:=top 66
theorem q1b:FnScope ["script", "some", "cell", "many", "boxes", "one"] JQ (Yi q3B):=aa
theorem q93{f__law_cell:vC}{d__law_cell:vL}(F:Fun K "_law_boxes" "_law_boxes" q3B f fd)(c__law_cell:fQ):
  FnOk P w K mg base CX0 2 f fd JQ (spD K 2 q1a):=by
 have h:=fnD (P:=P) (w:=w) (mg:=mg) (base:=base) (k:=1) (body:=q3r) F q1b (λcdv A outer s H E hr=>
   (qb (qp (i:=2) q1b.nd rfl (Or.inl rfl) Sv)
   (qb (qp (i:=3) q1b.nd rfl (Or.inl rfl) (XD.toE (XE.toD (Yj (XE.toV (XF (Ye Yg (Ye Yg (Ye GO (Ye GO Yk)))))) (XE.toV (qT lg af))))))
   (qb (qp (i:=4) q1b.nd rfl (Or.inl rfl) Kj)
   (qb (q02 PassesOwn.never rfl (qt (XE.toD (Y5 ib HC (Y9 (XE.toV (qJ af lf)))))) (qh (i:=5) q1b.nd rfl ax) (qc (q4q Q5 (Xs (Ye AA (Ye AA (Ye (XE.toD (Yj (XE.toV (XF (Ye Yg CB))) (XE.toV (qT Je af)))) Yk)))))))
   JE)))))
 exact h
noncomputable def q5P:FS:=Am
noncomputable def q1Z:List D->Option O:=mir 1 q5P
noncomputable abbrev q3A:vm:=top 67
theorem qap:FnScope gO gO (Yi q3A):=aa
theorem q8V (F:Fun K "_law_whole" "_law_whole" q3A f fd)(z_isinstance:cZ)(z_bool:acN)(z_int:mg "int" = none)(i_int:ab6)(i_bool:IsT K .bl):
  FnOk P w K mg base CX0 1 f fd gO (spD K 1 q1Z):=by
 have h:=fnD (P:=P) (w:=w) (mg:=mg) (base:=base) (k:=0) (body:=q5P) F qap (λcdv A outer s H E hr=>
   fo)
 exact h
noncomputable def q1x:FS:=(sIf (XQ (WB (vOf (Yp q1Z (Yf dZ Yq))))) oi Xl)
noncomputable def q1W:FS:=(Yu (sIf (WM (XQ (WB (vOf (W4 .tup bm)))) (WM (tOf (Yn oLt lh jm)) (WM (tOf (Yn oGt lh OR)) (tOf (Yn fL (vOf NF) (vOf (Yn oIx (vOf (WZ (Yf Qq (Yf Qs Yq)))) (vOf (Yn Wq lh jm))))))))) oi Xl)
  (Yu (Wb (Xi (dOf Q9)) Q8 q1x)
  (Yu (sAsg (dOf (fSl bm (pAt (vOf (Yn Wq lh gu))) pNo)) (gT 3 Gw))
  (Yu (sIf (WM Tl (WM (tOf (Yn oLt Ey aQ)) (WM (tOf (Yn oGe Ey ay)) (tOf (Yn fL (vOf (Yn zAt Jz Jz)) au))))) oi Xl)
  (Yu (sIf (tOf (Yn da lh jm)) (Yu (sIf (tOf (Yn da Ey cJ)) oi Xl)
  (Y4 (Yh 7))) Xl)
  (Yu (sIf (WM (tOf (Yn UA nV cR)) (tOf (Yn fL (vOf (Yn oIx aZ nV)) (zAW (Yf k9 (Yf mM og)))))) oi Xl)
  (Yu (zBp 2 (dOf oo))
  (Y4 (Yh 7)))))))))
noncomputable def q0H:List W->Option si:=mirW 9 q1W
noncomputable abbrev q3u:vm:=top 68
theorem q1e:FnScope ["size", "boxes", "left", "here", "move", "part", "begin", "end", "side"] iW (Yi q3u):=aa
theorem q95{f__law_whole:vC}{d__law_whole:vL}(F:Fun K "_law_moved" "_law_moved" q3u f fd)(c__law_whole:Cal P w K mg base 1 f__law_whole d__law_whole "_law_whole" gO 1 q1Z)(z_len:fD)(z_isinstance:cZ)(z_tuple:nZ)(i_tuple:CU):
  FnOk P w K mg base CX0 2 f fd iW (spW K 5 q0H):=by
 have h:=fnW (P:=P) (w:=w) (mg:=mg) (base:=base) (k:=1) (body:=q1W) F q1e (λcdv A outer s H E hr=>
   (qb (qy (XW.toT (q06 (qI (qE (XE.toV (q0p kO i_tuple rfl z_isinstance rfl z_tuple q2l)))) (q06 (q7a dP af) (q06 (qhk dP af) (q0J (Xq hr.units cc (XE.toV (Yj (XE.toV (XF (Ye Xr (Ye Xr Yk)))) Ss)))))))) m9 qq)
   (qb (q02 PassesOwn.never rfl (qt (XE.toD (Y5 kO HC XR))) (qh (i:=5) q1e.nd rfl ax) (qc (qy (qI (qE (XE.toV (xc c__law_whole hr (Ye Bv Yk))))) m9 qq)))
   (qb (q9Z (XE.toD (Y5 kO (Y9 Ss) XR)) (q1N rfl (qx (qh (i:=6) q1e.nd rfl ax) (qx (qh (i:=7) q1e.nd rfl ax) (qx (qh (i:=8) q1e.nd rfl ax) q16)))))
   (qb (qy (XW.toT (q06 TC (q06 (q7a Uj af) (q06 (ql6 Uj ib) (q0J (Xq hr.units (XE.toV (qid (vV 8) (vV 8))) af)))))) m9 qq)
   (qb (qy (X4 hr.units dP af) (qb (qy (X4 hr.units Uj lf) m9 qq)
   aaB) qq)
   (qb (qy (XW.toT (q06 (zAH cc lg) (q0J (Xq hr.units (XE.toV (Yj fF cc)) (XD.toV (Xs (Ye GJ (Ye Ul B2)))))))) m9 qq)
   (qb (qhQ AR oQ)
   aaB))))))))
 exact h
noncomputable def q1P:FS:=(Yu (zBc 6 [none,none,some 5,none,none] q0H (wSh av (wSh bv (wPw 5 (wSh k9 (wSh mM wNil))))))
  (sIf (tOf (Yn (oIs false) j7 abF)) bc Xl))
noncomputable def q4d:FS:=(Yu (sIf L3 bc Xl)
  (Yu (XC 5 (XZ zAE (Yf (vOf (XZ WK (Yf cJ Yq))) Yq)))
  (Yu (XC 6 (eOf aH))
  (Yu (Wb VW (gN 7) q1P)
  (Y4 (eOf (Wh (dOf (Yn da j7 cR)) (dOf (Yn da j8 (vOf Kk))))))))))
noncomputable def q1v:List D->Option O:=mir 8 q4d
noncomputable abbrev q49:vm:=top 69
theorem q1r:FnScope ["size", "home", "last", "boxes", "thing", "left", "here", "move"] cG (Yi q49):=aa
theorem q9B{f__law_moved:vC}{d__law_moved:vL}(F:Fun K "_law_does" "_law_does" q49 f fd)(c__law_moved:CalW P w K mg base 2 f__law_moved d__law_moved "_law_moved" iW 5 q0H)(z_isinstance:cZ)(z_list:kD)(z_len:fD)(z_range:sw)(i_list:Gc):
  FnOk P w K mg base CX0 3 f fd cG (spD K 5 q1v):=by
 have h:=fnD (P:=P) (w:=w) (mg:=mg) (base:=base) (k:=2) (body:=q4d) F q1r (λcdv A outer s H E hr=>
   (qb (qy pH bz qq)
   (qb (qp (i:=5) q1r.nd rfl (Or.inl rfl) (q6j rfl z_list rfl z_range (qj (XE.toV (qu qr qU rfl z_len qS (qj lf qo))) qo)))
   (qb (qp (i:=6) q1r.nd rfl (Or.inl rfl) (XD.toE dD))
   (qb (q02 PassesOwn.never rfl (qt nJ) (qh (i:=7) q1r.nd rfl ax) (qb (qhU (i:=6) q1r.nd rfl (Or.inl rfl) c__law_moved hr (q7j cN (q7j j5 (qky (pv 5) (q7j GJ (q7j Ul qij))))))
   (qc (qy (xt_is Lj (XD.toV Wf)) bz qq))))
   (qc (qg (XD.toE (q03 (XE.toD (W5 hr.units Lj lg)) (q0w (XE.toD (W5 hr.units Je (XE.toV Kj)))))))))))))
 exact h
noncomputable def q3d:FS:=(Yu (sAsg (dOf (fSl aZ (pAt (vOf (Yn Wq o7 gu))) pNo)) (gT 3 (Ys (gN 2) (Ys (gN 3) (Ys N5 Xa)))))
  (Yu (sIf (tOf (Yn da bm au)) (Y4 (Yn oMod (vOf (Yn Wq cJ cR)) ay)) Xl)
  (Y4 (Yn oMod (vOf (Yn Wq cR cJ)) ay))))
noncomputable def q1d:List D->Option O:=mir 5 q3d
noncomputable abbrev q3F:vm:=top 70
theorem q1U:FnScope ["size", "move", "begin", "end", "side"] LY (Yi q3F):=aa
theorem q8Z (F:Fun K "_law_steps" "_law_steps" q3F f fd)(z_len:fD):
  FnOk P w K mg base CX0 1 f fd LY (spD K 2 q1d):=by
 have h:=fnD (P:=P) (w:=w) (mg:=mg) (base:=base) (k:=0) (body:=q3d) F q1U (λcdv A outer s H E hr=>
   (qb (q9Z (XE.toD (Y5 fF (Y9 (XE.toV (q09 iw af))) XR)) (q1N rfl (qx (qh (i:=2) q1U.nd rfl ax) (qx (qh (i:=3) q1U.nd rfl ax) (qx (qh (i:=4) q1U.nd rfl ax) q16)))))
   (qb (qy (X4 hr.units kO af) (qc (qg (qT (XE.toV (q09 lf lg)) ib))) qq)
   (qc (qg (qT (XE.toV (q09 lg lf)) ib))))))
 exact h
noncomputable def q0c:FS:=(Yu (sIf (Wn EB (Wn (tOf (Yn da RS au)) (tOf (Yn oLt (vOf (Yn oMod (vOf (Yn Wq (vOf BZ) nV)) ay)) (vOf (Yn oMod (vOf (Yn Wq Gf nV)) ay)))))) (zAz 3 aQ (dOf (Yn Xo (vOf NE) au))) Xl)
  (sIf (Wn EB (Wn (tOf (Yn da RS lB)) (tOf (Yn oLt (vOf (Yn oMod (vOf (Yn Wq (vOf BZ) Gf)) ay)) (vOf (Yn oMod (vOf (Yn Wq nV Gf)) ay)))))) (zAz 3 au (dOf (Yn Xo (vOf (Yn oIx cJ au)) au))) Xl))
noncomputable def q2o:FS:=(Yu (XC 3 (WZ (Yf aQ UU)))
  (Yu (Wb VX N5 q0c)
  (We 3)))
noncomputable def q0L:List D->Option O:=mir 5 q2o
noncomputable abbrev q2e:vm:=top 71
theorem q2r:FnScope ["size", "gap", "moves", "found", "move"] Ee (Yi q2e):=aa
theorem q7t (F:Fun K "_law_empties" "_law_empties" q2e f fd):
  FnOk P w K mg base CX0 1 f fd Ee (spD K 3 q0L):=by
 have h:=fnD (P:=P) (w:=w) (mg:=mg) (base:=base) (k:=0) (body:=q2o) F q2r (λcdv A outer s H E hr=>
   (qb (qp (i:=3) q2r.nd rfl (Or.inl rfl) (XF (Ye Yg mN)))
   (qb (q02 PassesOwn.never rfl (qt jt) (qh (i:=4) q2r.nd rfl ax) (qb (qy (XW.toT (q4C TH (q4C (X4 hr.units cc af) jT))) AH qq)
   (qc (qy (XW.toT (q4C TH (q4C (X4 hr.units cc dW) jT))) AH qq))))
   (qc (q2b Ct)))))
 exact h
noncomputable def qaB:FD:=(dOf (Yp q1d NH))
noncomputable def q7e:FT:=(tOf (Yn da M3 aZ))
noncomputable def q7b:FD:=iu
noncomputable def q75:FS:=(Yu (sAsg (dOf (Yp q0L (Yf aH (Yf (dOf (Yn oIx (vOf (Yh 10)) (vOf (Yh 12)))) IM)))) (gTl 2 L0))
  (sIf (WM (tOf (Yn fL (vOf (Yn Wq (vOf (Yh 13)) (vOf (Yh 14)))) Ex)) (tOf (Yn UA (vOf (Yn Wq (vOf (Yn Xo (vOf (Yh 13)) (vOf (Yh 14)))) (vOf (XZ zBo (Yf Ex Yq))))) (zAW (Yf aQ (Yf cv Yq)))))) bc Xl))
noncomputable def qde:FS:=(Yu (XC 1 (eOf (dOf (Yp q1w gz))))
  (Yu (XC 2 (eOf (dOf (Yp q1t fZ))))
  (Yu (XC 3 (eOf (dOf (Yp q1a (Yf av oq)))))
  (Yu (XC 4 (eOf (dOf ND)))
  (Yu (XC 5 (eOf (dOf NC)))
  (Yu (XC 6 (eOf (dOf (XZ zBt (Yf cJ Yq)))))
  (Yu (XC 7 (eOf (dOf (Yp q1u B1))))
  (Yu (sIf (WM Tl (XQ (WB (vOf (Yp q1v (Yf aH (Yf cK (Yf dZ (Yf bv IM))))))))) bc Xl)
  (Yu (sIf (tOf (Yn (oIs true) (vOf (Yp q0I (Yf aH (Yf cK (Yf dZ (Yf k9 IM)))))) Qr)) bc Xl)
  (Yu (XC 8 (eOf (dOf (XZ zBd (Yf (vOf (XB 1 [1] (Xi mM) je Y7 qaB)) Yq)))))
  (Yu (sIf (WM (tOf (Yn fL (vOf (Yp q0R (Yf aH IM))) Jz)) (tOf (Yn fL (vOf (Yp q0o B1)) Jz))) bc Xl)
  (Yu (XC 9 (XB 1 [8] (Xi (dOf (Yp q0u B1))) je q7e q7b))
  (Xf 9 (Yu (XC 10 (eOf (dOf (Yp qX B1))))
  (Yu (XC 11 (eOf (dOf (Yp qH (Yf aH (Yf cK (Yf dZ (Yf k9 (Yf (dOf (Yn oIx P9 aQ)) Yq)))))))))
  (Yu (Wb (iRg1 (Yf (vOf (XZ WK (Yf (vOf (Yh 10)) Yq))) Yq)) (gN 12) q75)
  (Y4 (eOf Qr))))))))))))))))))
noncomputable def q5Z:List D->Option O:=mir 15 qde
noncomputable abbrev q5Y:vm:=top 72
theorem q0Q:FnScope ["script", "size", "some", "boxes", "home", "last", "handed", "moves", "gone", "best", "spans", "due", "k", "right", "left"] CN (Yi q5Y):=aa
theorem qjR{f__law_size:vC}{d__law_size:vL}{f__law_menu:vC}{d__law_menu:vL}{f__law_boxes:vC}{d__law_boxes:vL}{f_ring_tour:vC}{d_ring_tour:vL}{f__law_does:vC}{d__law_does:vL}{f_is_ring_tour:vC}{d_is_ring_tour:vL}{f__law_steps:vC}{d__law_steps:vL}{f_ring_least:vC}{d_ring_least:vL}{f_ring_length:vC}{d_ring_length:vL}{f_turns:vC}{d_turns:vL}{f_ring_gaps:vC}{d_ring_gaps:vL}{f_ring_lacks:vC}{d_ring_lacks:vL}{f__law_empties:vC}{d__law_empties:vL}(F:Fun K "law" "law" q5Y f fd)(c__law_size:Cal P w K mg base 2 f__law_size d__law_size "_law_size" CN 1 q1w)(c__law_menu:Cal P w K mg base 2 f__law_menu d__law_menu "_law_menu" JR 2 q1t)(c__law_boxes:Cal P w K mg base 2 f__law_boxes d__law_boxes "_law_boxes" JQ 2 q1a)(c_ring_tour:Cal P w K mg base 10 f_ring_tour d_ring_tour "ring_tour" ak 4 q1u)(c__law_does:Cal P w K mg base 3 f__law_does d__law_does "_law_does" cG 5 q1v)(c_is_ring_tour:Cal P w K mg base 6 f_is_ring_tour d_is_ring_tour "is_ring_tour" cG 5 q0I)(c__law_steps:Cal P w K mg base 1 f__law_steps d__law_steps "_law_steps" LY 2 q1d)(c_ring_least:Cal P w K mg base 9 f_ring_least d_ring_least "ring_least" ak 4 q0o)(c_ring_length:Cal P w K mg base 2 f_ring_length d_ring_length "ring_length" DK 2 q0R)(c_turns:kg)(c_ring_gaps:iD)(c_ring_lacks:ip)(c__law_empties:Cal P w K mg base 1 f__law_empties d__law_empties "_law_empties" Ee 3 q0L)(z_list:kD)(z_sum:FY)(z_len:fD)(z_range:sw)(z_abs:Ng):
  FnOk P w K mg base CX0 11 f fd CN (spD K 1 q5Z):=by
 have h:=fnD (P:=P) (w:=w) (mg:=mg) (base:=base) (k:=10) (body:=qde) F q0Q (λcdv A outer s H E hr=>
   (qb (qp (i:=1) q0Q.nd rfl (Or.inr rfl) (XD.toE (XE.toD (xc c__law_size hr gB))))
   (qb (qp (i:=2) q0Q.nd rfl (Or.inl rfl) (XD.toE (XE.toD (xc c__law_menu hr ga))))
   (qb (qp (i:=3) q0Q.nd rfl (Or.inl rfl) (XD.toE (XE.toD (xc c__law_boxes hr (Ye cN ou)))))
   (qb (qp (i:=4) q0Q.nd rfl (Or.inl rfl) (XD.toE oP))
   (qb (qp (i:=5) q0Q.nd rfl (Or.inl rfl) (XD.toE oP))
   (qb (qp (i:=6) q0Q.nd rfl (Or.inl rfl) (XD.toE (XE.toD (qlg q9n qj5 rfl z_list q1m (qj lf qo)))))
   (qb (qp (i:=7) q0Q.nd rfl (Or.inl rfl) (XD.toE (XE.toD (xc c_ring_tour hr gU))))
   (qb (qy (XW.toT (q06 TC (q0J (qI (qE (XE.toV (xc c__law_does hr (Ye dD (Ye nJ (Ye Bv (Ye j5 B3))))))))))) bz qq)
   (qb (qy (zBJ (XE.toV (xc c_is_ring_tour hr (Ye dD (Ye nJ (Ye Bv (Ye GJ B3)))))) (XD.toV Xb)) bz qq)
   (qb (qp (i:=8) q0Q.nd rfl (Or.inr rfl) (XD.toE (XE.toD (qu KJ q5g rfl z_sum q5h (qj (XE.toV (qN rfl (blk CO Lw [1] rfl ⋯ ⋯ rfl ⟨⟨rfl,(by first|exact Or.inl rfl|exact Or.inr rfl),rfl⟩,trivial⟩) (qt Ul) jM (λ_ _ _ _=>⟨(qh (i:=0) (show (iL++jY:List Str).Nodup from by decide +kernel) rfl ax),qD,(XE.toD (xc c__law_steps hr NJ))⟩))) qo)))))
   (qb (qy (XW.toT (q06 (Xq hr.units (XE.toV (xc c_ring_length hr (Ye dD B3))) (vV 8)) (q0J (Xq hr.units (XE.toV (xc c_ring_least hr gU)) (vV 8))))) bz qq)
   (qb (q1k (i:=9) rfl q0Q.nd rfl rfl (blk ["row"] ["gone"] [8] rfl ⋯ ⋯ rfl ⟨⟨rfl,(by first|exact Or.inl rfl|exact Or.inr rfl),rfl⟩,trivial⟩) (qt (XE.toD (xc c_turns hr gU))) jM (λ_ _ _ _=>⟨(qh (i:=0) (show ((["row"]:List Str)++(["gone"]:List Str):List Str).Nodup from by decide +kernel) rfl ax),(q4u (X4 hr.units mH fF)),gj⟩))
   (q0b 9 (qb (qp (i:=10) q0Q.nd rfl (Or.inl rfl) (XD.toE (XE.toD (xc c_ring_gaps hr gU))))
   (qb (qp (i:=11) q0Q.nd rfl (Or.inl rfl) (XD.toE (XE.toD (xc c_ring_lacks hr (Ye dD (Ye nJ (Ye Bv (Ye GJ (Ye (XE.toD (Yj (vV 9) af)) Yk)))))))))
   (qb (q02 PassesOwn.never rfl (q8a rfl z_range (qj (XE.toV (qu qr qU rfl z_len qS (qj (vV 10) qo))) qo)) (qh (i:=12) q0Q.nd rfl ax) (qb (q9Z (XE.toD (xc c__law_empties hr (Ye dD (Ye (XE.toD (Yj (vV 10) (vV 12))) B3)))) (qjl rfl (qx (qh (i:=13) q0Q.nd rfl ax) (qx (qh (i:=14) q0Q.nd rfl ax) q16))))
   (qc (qy (XW.toT (q06 (Xq hr.units (XE.toV (q09 (vV 13) (vV 14))) Lz) (q0J (zAH (XE.toV (q09 (XE.toV (qJ (vV 13) (vV 14))) (XE.toV (qu q6O q9U rfl z_abs q9L (qj Lz qo))))) (XD.toV (Xs (Ye Yg mN))))))) bz qq))))
   bz)))))))))))))))))
 exact h
end
set_option compiler.extract_closed false
set_option hygiene false
local macro_rules|`(tactic| simp_arith $c:optConfig [$xs,*])=>`(tactic| simp $c only[qea,qcz,qf3,qhg,qhA,qgN,qcx,e_cw,qhr,qgZ,qgS,e_sp,qhn,qhv,qhI,qh0,qgG,qgQ,qht,qh3,qh7,qh9,qfd,qcy,WA,eq_self,YA,Za,Zb,reduceCtorEq,qc0,qdy,qf6,qbv,e_wd,qer,e_wz,qby,qe1,qc9,qgL,qfp,qex,qh8,qhu,qgJ,qeo,qh1,qbD,qci,qhB,qeD,qcV,qcF,qhN,qcb,qcr,q07,qbU,qbS,qhH,qhd,qcf,qc8,e_if,qe2,qfu,qgY,qbB,qbT,qed,qbb,qhw,zBW,qgU,qah,q5C,qbi,qcD,qhi,e_fs,qgK,e_ag,e_gn,e_gt,e_gc,e_g0,qgX,qbH,qbd,e_c,e_e,e_ed,e_d,qcC,qbl,e_v,qc4,qbq,qbz,e_op,e_o2,qeg,e_cl,qbo,qbe,e_ac,e_ca,e_an,qhe,qgO,qh6,e_bl,qhm,e_sl,e_po,e_pa,e_ap,qgH,qdY,qet,qhf,q8F,q9y,q8P,q8m,q8J,q8w,e_t,e_tr,qfm,e_ta,qhs,qhK,e_to,qha,qf8,e_tn,qdU,qcq,qal,qf2,e_va,qgF,qgE,e_vo,qhF,qdz,qeI,qdB,qhp,qhD,qeL,WD,qhG,e_ng,qbx,qc6,qc5,q7G,qfn,qdG,qbr,qdV,qev,qds,qco,qck,qgP,qhc,qhM,qh2,at0,at1,at2,q0s,qbg,zAa,entry,yX,xE,zK,yu,zB,zL,yU,YB,yV,yP,Zc,xo,xq,xD,xQ,Nat.reduceSub,Nat.reduceAdd,Nat.reduceLT,Int.reduceLT,Int.reduceLE,Int.reduceSub,Int.reduceAdd,Int.reduceMul,Int.reduceMod,Int.reduceDiv,Int.reduceNeg,Zh,Int.reduceBEq,YH,↓reduceIte,Zg,YZ,ZO,Ya,wW,Zz,Zf,Bool.or_true,wL,YU,xz,beq_self_eq_true,yG,$xs,*])
set_option compiler.extract_closed true
set_option hygiene true
noncomputable def XY(p:gJ):D:=.tup l8
noncomputable def X6:D->Bool
 | .int _=>true
 | _=>false
noncomputable def nsD:D->Bool
 | .scr _=>false
 | .exc _=>false
 | .dic _ _=>false
 | _=>true
noncomputable def noScr:D->Bool
 | .scr _=>false
 | .exc _=>false
 | .dic _ _=>false
 | .tup [a,b]=>nsD a&&nsD b
 | _=>true
noncomputable def isBoxL:List D->Bool
 | []=>false
 | [_]=>false
 | [a,b]=>X6 a&&X6 b
 | _::_::_::_=>false
noncomputable def zAk:D->Bool
 | .tup ds=>isBoxL ds
 | _=>false
theorem q1B{d:D}(h:nsD d=true):qw [d]=↥(.bl (X6 d)):=by
 cases d <;> first|rfl|cases h
theorem qjG{d:D}(h:noScr d=true):q3J [d]=↥(.bl (zAk d)):=by
 unfold q3J q6Y
 match d,h with
 | .non,_=>rfl
 | .bl _,_=>rfl
 | .int _,_=>rfl
 | .str _,_=>rfl
 | .lst _,_=>rfl
 | .tup [],_=>rfl
 | .tup [_],_=>simp_arith[q07];rfl
 | .tup [a,b],h=>
  have h':=ZS.mp (show (_&&_)=true from h);have ha:=q1B h'.1;have hb:=q1B h'.2;simp_arith[ha,hb];simp_arith[show (((0+1+1:Nat):Int)==2)=true from rfl,ha,hb];cases a <;> cases b <;> rfl
 | .tup (a::b::c::r),_=>
  have hn:(((a::b::c::r).length:Int)==2)=false:=by
   simp only[zK,beq_eq_false_iff_ne,ne_eq];omega
  simp only[zK]at hn;simp_arith[hn];rfl
theorem q6A:∀(q:D->Bool)(ds:aM),allB OU=some (ds.all q)
 | _,[]=>rfl
 | q,d::ds=>by
  show (allB OU).map _=_;rw[q6A q ds];rfl
theorem qfk{h l:D}{ds:aM}(hh:nsD h=true)(hl:nsD l=true)(hd:∀d∈ds,noScr d=true)(hlen:aaG):
  q0X [h,l,gK]=↥(.bl (X6 h&&(X6 l&&ds.all zAk))):=by
 unfold q0X q4a;have e1:=q1B hh;have e2:=q1B hl;simp_arith[e1,e2,WD hlen];cases X6 h <;> cases X6 l <;> simp_arith[e2,WD hlen] <;> first|rfl|skip
 rw[q8T (λd=>D.bl (zAk d))]
 ·simp_arith[zAx,q6A]
 ·intro d hd'
  unfold q5B;simp_arith[inW,qjG (hd d hd')]
noncomputable def flat(bs:ah):List Int:=bs.flatMap λp=>[p.1,p.2]
noncomputable def plc(h l:Int)(bs:ah):List Int:=h::l::flat bs
theorem qgk(bs:ah)(p:gJ):flat (bs++[p])=flat bs++[p.1,p.2]:=by simp[flat]
theorem q4U(bs:ah):(flat bs).length=2*bs.length:=by
 induction bs with
 | nil=>rfl
 | cons p r ih=>simp[flat]at ih ⊢;omega
theorem qiM(h l:Int)(bs:ah)(p:gJ):plc h l (bs++[p])=plc h l bs++[p.1,p.2]:=by unfold plc;rw[qgk];rfl
theorem zAT(x:Int):nsD GU=true:=rfl
theorem qft(p:gJ):zAk MD=true:=rfl
theorem qdv(bs:ah):(bs.map XY).all zAk=true:=by
 rw[wR];exact ym.mpr λp _=>qft p
theorem qdD{h l:Int}{bs:ah}(hb:bs.length<=1000):q0X abK=↥bY:=by
 have:=qfk (h:=.int h) (l:=.int l) (ds:=bs.map XY) (zAT h) (zAT l) (λd hd=>by
  obtain⟨p,_,rfl⟩:=za.mp hd;rfl) (by rw[zB];omega)
 rw[qdv]at this;exact this
theorem q9V{h l:Int}{bs:ah}(hb:bs.length<=1000):q05 abK=some IV:=by
 unfold q05 q2g;simp_arith[qdD hb]
theorem qfz{h l:Int}{bs:ah}(hb:Jh):q4z abK=some Oe:=by
 unfold q4z q7z;simp_arith[q9V (show bs.length<=1000 by omega)];obtain⟨ω',e,x4,rfl⟩:=qR (g:=gN 4) (b:=q6F) XY bs
  (λpre ω=>∃x4,ω=[↥dA,↥dQ,↥lc,IB,x4])
  (λpre p post ω hd ⟨x4,hω⟩=>by
   subst hω;refine db;unfold q6F;have hl:(plc h l pre).length<=1000:=by
    have:=vn yZ hd;rw[zE,zK]at this;show (flat pre).length+1+1<=1000;rw[q4U];omega
   have e1:=qah (i:=3) (ω:=[↥dA,↥dQ,↥lc,IB,↥MD]) (ds:=(plc h l pre).map D.int) (ds':=l8) (by rw[zB,zK,zq];omega);simp_arith[q07];show W2 (extS 3 _ (some MD) _) _;rw[show XY p=D.tup l8 from rfl]at e1 ⊢;rw[e1,qiM,zO];exact bK)
  (ω:=[↥dA,↥dQ,↥lc,some (.ow [dA,dQ]),none]) Om
 simp_arith[e];have hlen:(plc h l bs).length<64:=by
  show (flat bs).length+1+1<64;rw[q4U];omega
 have:Wm cJ [↥dA,↥dQ,↥lc,some (.ow DD),x4]=some Oe:=by
  show zAN (.lst DD)=_;show (intsOf DD).bind _=_;rw[q0x];exact vH (qke hlen)
 simp_arith[this]
theorem q8v:∀(xs ys:ac),w9 pairD lV acs=(xs.zip ys).map XY
 | [],_=>rfl
 | _::_,[]=>rfl
 | x::xs,y::ys=>by
  show _::w9 pairD lV acs=_::(xs.zip ys).map XY;rw[q8v xs ys];rfl
theorem qgc(ds:aM):cutD ds Cg none=ds.drop 1:=by
 unfold cutD;have e:HT.sIx ds.length 0 Cg=min 1 ds.length:=HT.q3b ds.length 0 1;rw[e,HT.q4Z];cases ds with
 | nil=>rfl
 | cons d r=>
  have:min 1 (d::r).length=1:=by rw[zK];omega
  rw[this];show List.take _ r=r;rw[zK,Zm,wH]
structure Stp (P:List Int):Prop where
 ne:P≠[]
 rise:P.Pairwise (· < ·)
 len:P.length<=1000
theorem stp(h l:Int){bs:ah}(hb:Jh):Stp (Y6 ED):=by
 refine⟨λe=>?_,q1i,?_⟩
 ·have:h∈Y6 ED:=q3O.mpr (by simp[plc])
  rw[e]at this;simp at this
 ·have:(Y6 ED).length<=(plc h l bs).length:=q3N _
  have h2:(plc h l bs).length=2*bs.length+2:=by show (flat bs).length+1+1=_;rw[q4U]
  omega
theorem q1j{α:Type}{g:FG}{c:FT}{f:FD}(P:rQ)(q:α->Bool)(B F:α->D):∀(xs:bJ){ω:WSt},P ω ->
  (∀x∈xs,∀ω,P ω->∃w,g (B x) ω=some w/\P w/\c w=some (q x)/\(q x=true->f w=some (F x)))->Xn g c f Ue ω=some FK
 | [],_,_,_=>rfl
 | x::xs,ω,h,t=>by
  obtain⟨w,h1,h2,h3,h4⟩:=t x zG ω h;have ih:=q1j P q B F xs h2 aal;rw[zL,Xn,h1,yX,h3,yX];cases hq:q x with
  | true=>rw[lW,h4 hq,yX,ih,xt hq];rfl
  | false=>rw[vJ (by decide),ih,xu (by rw[hq];decide)]
theorem q1R{α:Type}{i:Nat}{c:FT}{f:FD}(q:α->Bool)(B F:α->D)(xs:bJ){ω:WSt}(h:∀x∈xs,c G7=some (q x)/\(q x=true->f G7=some (F x))):Xn UJ c f Ue ω=some FK :=
 q1j (g:=gN i) (c:=c) (f:=f) (λw=>∀x,w.set i x=ω.set i x) q B F xs (ω:=ω) (λx=>rfl) λd hd w hw=>
  ⟨w.set i ↥(B d),rfl,λx=>by rw[List.set_set,hw],by rw[hw];exact(h d hd).1,λz=>by rw[hw];exact(h d hd).2 z⟩
theorem qA{α:Type}{i:Nat}{f:FD}(B F:α->D)(xs:bJ){ω:WSt}(h:∀x∈xs,f G7=some (F x)):Xn UJ Y7 f Ue ω=some (xs.map F):=by
 have:=q1R (c:=Y7) (i:=i) (f:=f) De B F xs (ω:=ω) λx hx=>⟨rfl,λ_=>h x hx⟩;rw[this,Iz]
theorem qeB{α:Type}(f:mY):∀bs:List α,zB5 N7=some (bs.map f).sum
 | []=>rfl
 | b::r=>by
  show (zB5 (r.map λp=>D.int (f p))).map _=_;rw[qeB f r];rfl
theorem q5M{α:Type}(f:mY)(bs:bJ):zBd [.lst N7]=↥(.int (bs.map f).sum):=by
 show (zB5 _).map _=_;rw[qeB];rfl
theorem q4M{ns:ac}{k:Int}(h:V1):qW [ky,kX]=↥(.int (ns.getD k.toNat 0)):=by
 unfold qW q3U
 by_cases hk:k<ns.length
 ·simp_arith[hk,decide_true,q0n h hk]
  simp[zT,zD (show k.toNat<ns.length by omega)]
 ·simp_arith[hk,decide_false]
  simp[zT,zx (show ns.length<=k.toNat by omega)]
theorem q7x{ds:aM}{i:Int}(P:D->Prop)(h0:0<=i)(h1:i<ds.length)(h:∀d∈ds,P d):∃d,atI ds i=some d/\P d :=
 ⟨_,q0n h0 h1,h _ Vu⟩
noncomputable def tri(x:ag):D:=.tup [.int x.1,.int x.2.1,.int x.2.2]
theorem qjc{ns:ac}:∃n:Int,q1w [ky]=↥aY/\1<=n/\n<=10^39:=by
 unfold q1w q4h;have hc:=q4M (ns:=ns) (k:=0) (by decide);generalize ns.getD (ZV 0) 0=c at hc;have p39:oPow (.int 10) (.int 39)=↥(.int (10^39)):=rfl;have md:∀x,oMod GU (.int (10^39))=↥(.int (x%10^39)):=λx=>q0s (by decide);simp only[Zh]at p39 md ⊢;obtain⟨d,hd,n,rfl,hn⟩:=q7x (ds:=[.int (1+c/4%12),.int (1+c/4%100),.int (1+c/4%1000000000000000000000000000000000000000),.int 24]) (i:=c%4) (λd=>∃n:Int,d=D.int n/\1<=n/\n<=1000000000000000000000000000000000000000) ∅ (show c%4<4 by omega) (by
  intro d hd;simp only[zI,zg,or_false]at hd;rcases hd with rfl|rfl|rfl|rfl
  ·exact Ir
  ·exact Ir
  ·exact Ir
  ·exact⟨_,rfl,by decide,by decide⟩)
 simp_arith[hc,p39,md,hd];exact⟨n,rfl,hn⟩
theorem qg2{ns:ac}{n:Int}(hn:1<=n):∃ps:List Int,q1t [ky,aY]=some (.fr jy)/\ps.length=7/\∀p∈ps,0<=p/\p<n:=by
 unfold q1t q48;have rg:rg1I (some [.int 7])=some (upTo 0 7):=rfl;obtain⟨ω',e,ps,y3,y4,rfl,i1,i2⟩:=q8A (g:=gN 3) (b:=q3j) 0 7
  (λi ω=>∃(ps:ac) (y3 y4:bS),ω=[↥ky,↥aY,some (.ow jy),y3,y4]/\ps.length=i/\∀p∈ps,0<=p/\p<n)
  (λi ω hi ⟨ps,y3,y4,hω,i1,i2⟩=>by
   subst hω;refine db;have hc:=q4M (ns:=ns) (k:=2+(0+jd)) ∅;generalize ns.getD (2+(0+jd)).toNat 0=c at hc;obtain⟨d,hd,q,rfl⟩:=q7x (ds:=[.int (0+jd+c/3),.int (c/3),.int (-1-c/3)]) (i:=c%3) (λd=>∃q:Int,d=D.int q) ∅ (show c%3<3 by omega) (by
    intro d hd;simp only[zI,zg,or_false]at hd;rcases hd with rfl|rfl|rfl <;> exact bK)
   have md:oMod MK aY=↥(.int (q%n)):=q0s ∅;have hll:(ps.map D.int).length<1000000:=by rw[zB];omega
   unfold q3j;simp_arith[hc,hd,md];rw[zBW hll,q7G];refine⟨ps++[q%n],_,_,by rw[zO];rfl,by rw[zE,i1];rfl,λp hp=>?_⟩;rcases zR.mp hp with y|y
   ·exact i2 p y
   ·cases zV.mp y
    exact⟨wO _ ∅,Zo _ ∅⟩)
  (ω:=[↥ky,↥aY,pU,none,none]) ⟨[],none,none,rfl,rfl,by simp⟩
 have hc:=q4M (ns:=ns) (k:=1) (by decide);generalize ns.getD (ZV 1) 0=c at hc
 match ps,i1,i2,e with
 | p0::p1::r,i1,i2,e=>
  by_cases z:c/28%3=1
  ·simp_arith[rg,e,hc,z]
   refine⟨p0::p0::r,?_,i1,AZ⟩
   ·rw[q7R (by decide) (by simp;omega)]
    rfl
   ·rcases zI.mp hp with rfl|hp
    ·exact i2 _ zG
    ·rcases zI.mp hp with rfl|hp
     ·exact i2 _ zG
     ·exact i2 p (by simp[hp])
  ·have z':(c/28%3==1)=false:=by simpa using z
   simp_arith[rg,e,hc,z'];exact⟨p0::p1::r,rfl,i1,i2⟩
theorem pick7{xs:ac}(h7:xs.length=7)(x:Int):∃y,y∈xs/\atI lV (x%7)=some (.int y):=by
 refine⟨xs[(x%7).toNat]'∅,Vu,?_⟩;rw[q0n ∅ (by rw[zB];omega),xJ]
theorem qeC{ns ps:ac}(h7:ps.length=7)(hl:ns.length<=63):∃bs:List ag,q1a [ky,.lst jy]=some (.fr BI)/\(∀b∈bs,b.1∈ps/\b.2.1∈ps/\gQ)/\bs.length<=5:=by
 unfold q1a q3r;have hc:=q4M (ns:=ns) (k:=1) (by decide);generalize ns.getD (ZV 1) 0=c at hc;obtain⟨d,hd,k,rfl,hk⟩:=q7x (ds:=[.int 5,.int 5,.int (c/4%6),.int (c/4%3)]) (i:=c%4) (λd=>∃k:Nat,d=D.int bh/\k<=5) ∅ (show c%4<4 by omega) (by
  intro d hd;simp only[zI,zg,or_false]at hd;rcases hd with rfl|rfl|rfl|rfl
  ·exact⟨5,rfl,by decide⟩
  ·exact⟨5,rfl,by decide⟩
  ·exact⟨(c/4%6).toNat,by rw[Zd ∅],∅⟩
  ·exact⟨(c/4%3).toNat,by rw[Zd ∅],∅⟩)
 simp_arith[hc,hd,qkK];have hcl:(cutD ns (some 9) OE).length<=5:=by
  have e1:HT.sIx ns.length 0 (some 9)=min 9 ns.length:=HT.q3b ns.length 0 9;have e2:HT.sIx ns.length ns.length OE=min (9+k) ns.length:=by
   have:=HT.q3b ns.length ns.length (9+k);rw[show ((9+k:Nat):Int)=9+bh by omega]at this;exact this
  unfold cutD;rw[e1,e2,zo];omega
 generalize cutD ns (some 9) OE=cells at hcl;obtain⟨ω',e,bs,x5,rfl,i1,i2⟩:=qR (g:=gN 5) (b:=q2Y) D.int cells
  (λpre ω=>∃(bs:bX) (x5:bS),ω=[↥ky,Fj,↥lQ,↥mB,some (.ow BI),x5]/\(∀b∈bs,b.1∈ps/\b.2.1∈ps/\gQ)/\bs.length=pre.length)
  (λpre x post ω hd' ⟨bs,x5,hω,i1,i2⟩=>by
   subst hω;refine db;have hp:pre.length<cells.length:=by rw[hd',zE,zK];omega
   obtain⟨y1,m1,a1⟩:=pick7 h7 (x/2);obtain⟨y2,m2,a2⟩:=pick7 h7 (x/14);obtain⟨d,hd,q,rfl,hq⟩:=q7x (ds:=[aV,IW]) (i:=x%2) (λd=>∃q:Int,d=D.int q/\(q=1\/q=-1)) ∅ (show x%2<2 by omega) (by
    intro d hd;simp only[zI,zg,or_false]at hd;rcases hd with rfl|rfl
    ·exact⟨_,rfl,bT⟩
    ·exact⟨_,rfl,Ml⟩)
   have hll:(bs.map tri).length<1000000:=by rw[zB];omega
   unfold q2Y;simp_arith[a1,a2,hd,zBW hll];refine⟨bs++[(y1,y2,q)],_,by rw[zO];rfl,λb hb=>?_,by rw[zE,zE,i2];rfl⟩;rcases zR.mp hb with y|y
   ·exact i1 b y
   ·cases zV.mp y;exact⟨m1,m2,hq⟩)
  (ω:=[↥ky,Fj,↥lQ,↥mB,pU,none]) ⟨[],none,rfl,by simp,rfl⟩
 simp_arith[e];exact⟨bs,rfl,i1,∅⟩
noncomputable def wD:D->Bool
 | .int _=>true
 | _=>false
noncomputable def plD:D->Bool
 | .scr _=>false
 | .exc _=>false
 | .dic _ _=>false
 | _=>true
noncomputable def smD:D->Bool
 | .int w=>decide (w.natAbs<2^200)
 | d=>plD d
noncomputable def plB:D->Bool
 | .tup ds=>ds.all smD
 | d=>plD d
noncomputable def plL:D->Bool
 | .lst ds=>ds.all plB&&decide (ds.length<=20)
 | d=>plD d
noncomputable def inD(n:Int):D->Bool
 | .int x=>decide (0<=x)&&decide (x<n)
 | _=>false
noncomputable def zBl:D->Bool
 | .int w=>w==1 || w == -1
 | _=>false
noncomputable def zBi(n:Int):D->Bool
 | .tup [x,y,w]=>inD n x&&(inD n y&&zBl w)
 | _=>false
noncomputable def isRd:D->D->D->D->Bool
 | .int n,h,l,.lst ds=>inD n h&&Cu
 | _,_,_,_=>false
theorem qdr{d:D}(h:smD d=true):plD d=true:=by cases d <;> first|rfl|cases h
theorem q5a{d:D}(h:abu):qw [d]=↥(.bl (wD d)):=by
 cases d <;> first|rfl|cases h
theorem qj0(w:Int):oIn false e8 (.tup [aV,IW])=↥(.bl (w==1 || w == -1)):=by
 have e:=q6C w [1,-1];have h:(Xm e8&&([1,-1].map D.int).all Xm)=true:=rfl;show (if (Xm e8&&([1,-1].map D.int).all Xm)=true then some (R.sh (D.bl (Hk.inD e8 ([1,-1].map D.int))))else none)=_;rw[vH h,e]
 congr 3
 by_cases a:w=1 <;> by_cases b:w=-1 <;> simp[a,b]
theorem qc1{d:D}(h:abu):q1F [d]=↥(.bl (zBl d)):=by
 unfold q1F q6L;have e:=q5a h;cases d with
 | int w=>simp_arith[e,wD,qj0,zBl]
 | _=>first|(simp_arith[e,wD,zBl];done)|cases h
theorem q2E{n:Int}{d:D}(h:abu):qG [aY,d]=↥(.bl (inD n d)):=by
 unfold qG q3W;have e:=q5a h;cases d with
 | int x=>
  simp_arith[e,wD,inD,ge_iff_le]
 | _=>first|(simp_arith[e,wD,inD];done)|cases h
theorem qjM{n:Int}{d:D}(h:plB d=true):q0T [aY,d]=↥(.bl abg):=by
 unfold q0T q2N
 match d,h with
 | .non,_=>rfl
 | .bl _,_=>rfl
 | .int _,_=>rfl
 | .str _,_=>rfl
 | .lst _,_=>rfl
 | .tup [],_=>rfl
 | .tup [_],_=>rfl
 | .tup [_,_],_=>rfl
 | .tup (a::b::c::e::r),_=>
  have hn:(((a::b::c::e::r).length:Int)==3)=false:=by
   simp only[zK,beq_eq_false_iff_ne,ne_eq];omega
  simp only[zK]at hn;simp_arith[hn];rfl
 | .tup [a,b,c],h=>
  have h':smD a=true/\smD b=true/\smD c=true:=by simpa [plB]using h
  have e1:=q2E (n:=n) (qdr h'.1);have e2:=q2E (n:=n) (qdr h'.2.1);have e3:=qc1 (qdr h'.2.2);have e4:Ph=true:=rfl;simp_arith[e1,e2,e3];simp_arith[e4,e1,e2,e3];show _=some (O.sh (D.bl (inD n a&&(inD n b&&zBl c))));cases inD n a <;> cases inD n b <;> simp_arith[q07]
theorem qep(n h l b:D)(hn:plD n=true)(hh:plD h=true)(hl:plD l=true)(hb:plL b=true):q2K [n,h,l,b]=↥(.bl (isRd n h l b)):=by
 unfold q2K q5w;have e1:=q5a hn;cases n with
 | int n=>
  have e2:=q2E (n:=n) hh;have e3:=q2E (n:=n) hl;have no:∀{b:D},(inD n h=false\/inD n l=false)->isRd aY h l b=false:=by
   intro b z;cases b with
   | lst ds=>
    show (inD n h&&Cu)=false;rcases z with z|z <;> rw[z]
    ·rfl
    ·cases inD n h <;> rfl
   | _=>rfl
  cases z1:inD n h with
  | false=>simp_arith[e1,wD,e2,z1,no (.inl z1)]
  | true=>
   cases z2:inD n l with
   | false=>simp_arith[e1,wD,e2,e3,z1,z2,no (.inr z2)]
   | true=>
    cases b with
    | lst ds=>
     have hb':ds.all plB=true/\ds.length<=20:=by simpa [plL]using hb
     have hll:ds.length<=1000000:=∅
     have cm:Xn je Y7 q4Q ds KU=some (ds.map λd=>D.bl abg):=by
      refine q8T (λd=>D.bl abg) ds λd hd=>?_;have:=qjM (n:=n) (ym.mp hb'.1 d hd);unfold q4Q;simp_arith[this]
     simp_arith[e1,wD,e2,e3,z1,z2,WD hll,inW,WJ,cm,zAx,q6A];show _=some (O.sh (D.bl (inD n h&&Cu)));rw[z1,z2];rfl
    | _=>first|(simp_arith[e1,wD,e2,e3,z1,z2,isRd];done)|cases hb
 | _=>first|(simp_arith[e1,wD,isRd];done)|cases hn
theorem qfB(bs:bX):shp ao=true:=qct 2 (by decide) λd hd=>by
 obtain⟨p,_,rfl⟩:=za.mp hd;exact⟨rfl,by show 1<=2;decide⟩
theorem q8c{n h l:Int}{bs:bX}(hn:n<=10^39)(hh:Mh)(hl:Mg)(hb:iM)(hbs:∀b∈bs,Bh/\oT/\gQ):
  q0j bU=some IV:=by
 have smD':∀{x:Int},x.natAbs<=10^39->smD GU=true:=λ{x} hx=>by
  show decide (x.natAbs<2^200)=true;exact vO (xm hx (by decide))
 have pb:(bs.map tri).all plB=true:=by
  rw[wR];refine ym.mpr λb hb=>?_;obtain⟨a1,a2,a3⟩:=hbs b hb;show (smD Fg&&(smD Bt&&(smD K9&&true)))=true;rw[smD' ∅,smD' ∅,smD' ∅];rfl
 have pL:plL ao=true:=by
  show ((bs.map tri).all plB&&decide ((bs.map tri).length<=20))=true;rw[pb,zB];simp;omega
 have e:=qep aY dA dQ ao rfl rfl rfl pL;have ok:isRd aY dA dQ ao=true:=by
  show (inD n dA&&(inD n dQ&&(bs.map tri).all (zBi n)))=true;have i1:∀{x:Int},0<=x/\x<n->inD n GU=true:=λ{x} hx=>by
   show (decide (0<=x)&&decide (x<n))=true;simp;exact hx
  rw[i1 hh,i1 hl,wR];show bs.all _=true;refine ym.mpr λb hb=>?_;obtain⟨a1,a2,a3⟩:=hbs b hb;show (inD n Fg&&(inD n Bt&&zBl K9))=true;rw[i1 a1,i1 a2];show (b.2.2==1 || b.2.2 == -1)=true;rcases a3 with z|z <;> rw[z] <;> rfl
 rw[ok]at e;unfold q0j q3s;simp_arith[e]
noncomputable def two(b:ag):Int×Int:=(b.1,b.2.1)
theorem q6x{bs:bX}(hb:iM):qM [ao]=some (.fr gW):=by
 unfold qM q2j;have hl:(bs.map tri).length<=1000000:=by rw[zB];omega
 have cm:=qA (i:=0) (f:=q3P) tri (λb=>XY (two b)) bs (ω:=FZ) (λb _=>rfl);simp_arith[WD hl,inW,WJ,cm];rw[zi];rfl
noncomputable def rnd(P:ac):List gJ:=P.zip (P.drop 1++P.take 1)
theorem qi2(ds:aM):cutD ds none Cg=ds.take 1:=by
 unfold cutD;have e:HT.sIx ds.length ds.length Cg=min 1 ds.length:=HT.q3b ds.length ds.length 1;rw[e,HT.q4Z,Z1,wb,ZM];omega
theorem q6G{n h l:Int}{bs:bX}(hn:n<=10^39)(hh:Mh)(hl:Mg)(hb:iM)(hbs:∀b∈bs,Bh/\oT/\gQ):
  qX bU=some (.fr ((rnd (Y6 cw)).map XY)):=by
 unfold qX q4e;have c:=q8c hn hh hl hb hbs;have w:=q6x hb;have s:=qfz (h:=h) (l:=l) (bs:=bs.map two) (by rw[zB];omega);have sl:(Y6 cw).length<=1000:=(stp h l (bs:=bs.map two) (by rw[zB];omega)).len;generalize Y6 cw=P at s sl;have ad:Xo (.lst (cutD O5 Cg none)) (.lst (cutD O5 none Cg))=some (.fr J4):=by
  rw[qgc,qi2,<- wm,<- wk,zO];exact vH (by rw[zB,zB,yN,zo];omega)
 have hz:WN [.lst O5,.lst J4]=some (.fr AC):=by
  show some (R.fr (w9 pairD _ _))=_;rw[q8v];rfl
 simp_arith[c,w,s,qhh,ad,hz]
inductive Rch (es:List (Int×Int)) (a:Int):Int->Prop where
 | refl:Rch es a a
 | step {b c:Int}:Rch es a b->((b,c)∈es\/(c,b)∈es)->Rch es a c
theorem Rch.trans{es:ah}{a b c:Int}(h:Rch es a b)(h':Rch es b c):Rch es a c:=by
 induction h' with
 | refl=>exact h
 | step _ e ih=>exact ih.step e
theorem Rch.symm{es:ah}{a b:Int}(h:Rch es a b):Rch es b a:=by
 induction h with
 | refl=>exact .refl
 | step _ e ih=>exact(Rch.refl.step e.symm).trans ih
theorem Rch.inv{es:ah}{a:Int}(P:Int->Prop)(h0:P a)(hs:∀b c,P b->((b,c)∈es\/(c,b)∈es)->P c){c:Int}(h:ab0):P c:=by
 induction h with
 | refl=>exact h0
 | step _ e ih=>exact hs _ _ ih e
theorem q70{α β:Type}(f:Th):∀(ks:ac)(xs:bJ)(k:Int),Y0 ks (xs.map f) k=(Y0 ks xs k).map f
 | [],_,_=>rfl
 | _::_,[],_=>rfl
 | k'::ks,x::xs,k=>by
  show (if k'=k then some (f x)else Y0 ks (xs.map f) k)=(if k'=k then some x else Y0 ks xs k).map f
  by_cases z:k'=k
  ·rw[gR,gR];rfl
  ·rw[gE,gE,q70 f ks xs k]
theorem q3R{α:Type}:∀{ks:ac}{xs:bJ}{k:Int},ks.length=xs.length->(Y0 ks xs k).isSome=decide (k∈ks)
 | [],[],_,_=>rfl
 | [],_::_,_,h=>by simp at h
 | _::_,[],_,h=>by simp at h
 | k'::ks,x::xs,k,h=>by
  show (if k'=k then some x else Y0 ks xs k).isSome=_
  by_cases z:k'=k
  ·rw[gR];simp[z]
  ·have z':¬k=k':=λy=>z y.symm
   rw[gE,q3R ⇑h];simp[z']
theorem q6P:∀(ks:ac)(xss:eS)(a' b a:Int),Y0 ks aaL a=(Y0 ks xss a).map λxs=>if a=a' then xs++[b]else xs
 | [],_,_,_,_=>rfl
 | _::_,[],_,_,_=>rfl
 | k::ks,x::xss,a',b,a=>by
  unfold WW
  by_cases z:k=a'
  ·rw[gR]
   show (if k=a then some RO else Y0 ks xss a)=(if k=a then some x else Y0 ks xss a).map _
   by_cases y:k=a
   ·rw[KC,KC,xE,vH (y▸z)]
   ·rw[LM,LM]
    have:¬a=a':=λe=>y (z.trans e.symm);cases Y0 ks xss a with
    | none=>rfl
    | some v=>rw[xE,vJ this]
  ·rw[gE]
   show (if k=a then some x else Y0 ks aaL a)=(if k=a then some x else Y0 ks xss a).map _
   by_cases y:k=a
   ·have:¬a=a':=λe=>z (y.trans e)
    rw[KC,KC,xE,vJ this]
   ·rw[LM,LM];exact q6P ks xss a' b a
theorem qiB(ts:ac)(a:Int)(ha:a∈ts):∀(es:ah),∃xs,Y0 ts (nbT ts es) a=some xs/\∀c,c∈xs↔((a,c)∈es\/(c,a)∈es):=by
 intro es;have key:∀(post pre:ah)(T:eS)(xs:ac),Y0 ts T a=some xs->(∀c,c∈xs↔((a,c)∈pre\/(c,a)∈pre))->∃xs',Y0 ts (post.foldl VY T) a=some xs'/\∀c,c∈xs'↔((a,c)∈pre++post\/(c,a)∈pre++post):=by
  intro post
  induction post with
  | nil=>intro pre T xs h1 h2;exact⟨xs,h1,by rw[zn];exact h2⟩
  | cons e post ih=>
   intro pre T xs h1 h2;have h3:Y0 ts (X5 ts T e) a=some (let ys:=if a=e.1 then xs++[e.2]else xs;if a=e.2 then ys++[e.1]else ys):=by
    unfold X5;rw[q6P,q6P,h1];rfl
   obtain⟨xs',g1,g2⟩:=ih (pre++[e]) (X5 ts T e) _ h3 (λc=>by
    obtain⟨e1,e2⟩:=e;have m:∀x y:Int,(x,y)∈pre++[(e1,e2)]↔(x,y)∈pre\/(x=e1/\y=e2):=λx y=>by simp
    rw[m,m]
    by_cases y1:a=e1 <;> by_cases y2:a=e2 <;> simp[y1,y2,h2] <;> (try subst y1) <;> (try subst y2) <;> simp_all <;> grind)
   refine⟨xs',g1,λc=>?_⟩;rw[g2,yB];rfl
 have h0:Y0 ts Mv a=some []:=by
  have:(Y0 ts Mv a).isSome=true:=by rw[q3R (by rw[zB]),vO ha]
  obtain⟨x,hx⟩:=yr.mp this;rw[q70]at hx ⊢;obtain⟨y,hy,e⟩:=xy.mp hx;rw[hy];rfl
 obtain⟨xs',g1,g2⟩:=key es [] _ [] h0 (by simp);exact⟨xs',g1,by simpa using g2⟩
structure Ok (ts:List Int) (es:List (Int×Int)):Prop where
 nd:ts.Nodup
 inn:∀e∈es,e.1∈ts/\e.2∈ts
 l1:ts.length<64
 l2:es.length<=1000
noncomputable def nbD(ts:ac)(es:ah):List D:=(nbT ts es).map λxs=>.lst lV
theorem q90{ts:ac}{es:ah}(h:O7):q25 [bu,.lst Do]=↥dn:=by
 have hl:=h.l1;have e:nbM cf Do=some dn:=by
  unfold nbM;rw[q0x,q40];exact vH ⟨h.nd,h.inn,∅,h.l2⟩
 show outM ((nbM cf Do).map _)=_;rw[e];rfl
theorem Rch.mem{ts:ac}{es:ah}(h:O7){a c:Int}(ha:a∈ts)(r:ab0):c∈ts :=
 r.inv (λx=>x∈ts) ha λb c _ e=>by
  rcases e with e|e
  ·exact(h.inn _ e).2
  ·exact(h.inn _ e).1
noncomputable def WC(F:ac):List D:=F.map λ_=>.bl true
theorem q8f(F:ac):F.length=(WC F).length:=by unfold WC;rw[zB]
theorem qch{F:ac}{c:Int}(h:c∉F):WF F c=F++[c]/\putA F (WC F) c bY=WC (F++[c]):=by
 unfold WF putA WC;rw[vJ h,vJ h,zO];exact bQ
theorem q2t:∀{F ts:ac},F.Nodup->(∀c∈F,c∈ts)->F.length<=ts.length
 | [],_,_,_=>yA _
 | a::r,ts,hn,hs=>by
  obtain⟨h1,h2⟩:=yk.mp hn;have ha:=hs a zG;have:=q2t (F:=r) (ts:=ts.erase a) h2 λc hc=>(List.mem_erase_of_ne (show c≠a from λz=>h1 (by rw[<- z];exact hc))).mpr (hs c (zH _ hc));rw[List.length_erase_of_mem ha]at this;have hp:0<ts.length:=List.length_pos_of_mem ha;rw[zK];omega
structure GI (ts:List Int) (es:List (Int×Int)) (a:Int) (F Wt:List Int):Prop where
 nd:F.Nodup
 st:a∈F
 wl:Wt.length<=F.length
 w:∀c∈Wt,c∈F
 r:∀c∈F,Rch es a c
 cl:∀b∈F,b∉Wt->∀c,((b,c)∈es\/(c,b)∈es)->c∈F
theorem qb6{ts:ac}{es:ah}(h:O7){a:Int}(ha:a∈ts):
  ∃F:List Int,q23 [cM,dn]=some (.fr pR)/\F.Nodup/\∀c,c∈F↔Rch es a c:=by
 unfold q23 q4K;simp_arith[q07];have hl1:=h.l1;obtain⟨ω',e,F,x4,x5,rfl,gi⟩:=qjK (fc:=q2v) (fb:=q3S) (n:=1000000)
  (λω=>∃(F Wt:ac) (x4 x5:bS),ω=[↥cM,↥dn,IC,some (.ow (Wt.map D.int)),x4,x5]/\GI ts es a F Wt)
  (λω=>match ω with
   | [_,_,some (.od F _),some (.ow w),_,_]=>RZ+w.length
   | _=>0)
  (λω=>∃(F:ac) (x4 x5:bS),ω=[↥cM,↥dn,IC,pU,x4,x5]/\GI ts es a F [])
  (λω ⟨F,Wt,x4,x5,hω,gi⟩ hf=>by
   subst hω;unfold q2v at hf;simp -implicitDefEqProofs only[qea,qcz,qf3,qhg,qhA,qgN,qcx,e_cw,qhr,qgZ,qgS,e_sp,qhn,qhv,qhI,qh0,qgG,qgQ,qht,qh3,qh7,qh9,qfd,qcy,WA,eq_self,YA,Za,Zb,reduceCtorEq,qc0,qdy,qf6,qbv,e_wd,qer,e_wz,qby,qe1,qc9,qgL,qfp,qex,qh8,qhu,qgJ,qeo,qh1,qbD,qci,qhB,qeD,qcV,qcF,qhN,qcb,qcr,q07,qbU,qbS,qhH,qhd,qcf,qc8,e_if,qe2,qfu,qgY,qbB,qbT,qed,qbb,qhw,zBW,qgU,qah,q5C,qbi,qcD,qhi,e_fs,qgK,e_ag,e_gn,e_gt,e_gc,e_g0,qgX,qbH,qbd,e_c,e_e,e_ed,e_d,qcC,qbl,e_v,qc4,qbq,qbz,e_op,e_o2,qeg,e_cl,qbo,qbe,e_ac,e_ca,e_an,qhe,qgO,qh6,e_bl,qhm,e_sl,e_po,e_pa,e_ap,qgH,qdY,qet,qhf,q8F,q9y,q8P,q8m,q8J,q8w,e_t,e_tr,qfm,e_ta,qhs,qhK,e_to,qha,qf8,e_tn,qdU,qcq,qal,qf2,e_va,qgF,qgE,e_vo,qhF,qdz,qeI,qdB,qhp,qhD,qeL,WD,qhG,e_ng,qbx,qc6,qc5,q7G,qfn,qdG,qbr,qdV,qev,qds,qco,qck,qgP,qhc,qhM,qh2,at0,at1,at2,q0s,qbg,zAa,entry,yX,xE,zK,yu,zB,zL,yU,YB,yV,yP,Zc,xo,xq,xD,xQ,Nat.reduceSub,Nat.reduceAdd,Nat.reduceLT,Int.reduceLT,Int.reduceLE,Int.reduceSub,Int.reduceAdd,Int.reduceMul,Int.reduceMod,Int.reduceDiv,Int.reduceNeg,Zh,Int.reduceBEq,YH,↓reduceIte,Zg,YZ,ZO,Ya,wW,Zz,Zf,Bool.or_true,wL,YU,xz,beq_self_eq_true,yG]at hf;cases Wt with
   | nil=>exact⟨F,x4,x5,rfl,gi⟩
   | cons w r=>cases hf)
  (λω ⟨F,Wt,x4,x5,hω,gi⟩=>by
   subst hω;refine⟨!Wt.isEmpty,?_,λhk=>?_⟩
   ·unfold q2v
    simp_arith[q07];cases Wt <;> rfl
   ·obtain⟨Wr,here,rfl⟩:∃Wr here,Wt=Wr++[here]:=by
     cases Wt with
     | nil=>cases hk
     | cons w r=>exact⟨(w::r).dropLast,(w::r).getLast (by simp),(wP _).symm⟩
    have hF:here∈F:=gi.w here (by simp);have hts:here∈ts:=(gi.r here hF).mem h ha;obtain⟨xs,v1,v2⟩:=qiB ts here hts es;have vd:Y0 ts (nbD ts es) here=some (.lst lV):=by unfold nbD;rw[q70,v1];rfl
    have ew:(Wr++[here]).map D.int=Wr.map D.int++[D.int here]:=by rw[zO];rfl
    have ffl:=q2t gi.nd λc hc=>(gi.r c hc).mem h ha;unfold q3S;rw[ew];simp_arith[qit,vd];obtain⟨ω',e,F',W',x5',rfl,i1,i2,i3,i4,i5,i6,i7,i8⟩:=qR (g:=gN 5) (b:=q4g) D.int xs
     (λpre ω=>∃(F' W':ac) (x5:bS),ω=[↥cM,↥dn,some (.od F' (WC F')),some (.ow (W'.map D.int)),Cq,x5]/\F'.Nodup/\(∀c∈F,c∈F')/\(∀c∈Wr,c∈W')/\(∀c∈W',c∈F')/\(∀c∈F',Rch es a c)/\(∀c∈F',c∈F\/c∈W')/\(∀c∈pre,c∈F')/\F'.length+Wr.length=F.length+W'.length)
     (λpre c post ω hd ⟨F',W',x5,hω,i1,i2,i3,i4,i5,i6,i7,i8⟩=>by
      subst hω;refine db;have hcx:c∈xs:=by rw[hd];simp
      have hcr:Rch es a c:=(gi.r here hF).step ((v2 c).mp hcx);have fl:=q2t i1 λc hc=>(i5 c hc).mem h ha;have hs:(Y0 F' (WC F') c).isSome=decide (c∈F'):=q3R (q8f F');unfold q4g
      by_cases hc:c∈F'
      ·simp_arith[hs,hc,decide_true]
       exact⟨F',W',_,rfl,i1,i2,i3,i4,i5,i6,λx hx=>(by rcases zR.mp hx with y|y;exact i7 x y;cases zV.mp y;exact hc),i8⟩
      ·obtain⟨p1,p2⟩:=qch hc
       have hwl:(W'.map D.int).length<1000000:=by
        rw[zB];have:=gi.wl;rw[zE,zq]at this;omega
       simp_arith[hs,hc,decide_false,q4s (show F'.length<1000000 by omega),p1,p2,zBW hwl];refine⟨F'++[c],W'++[c],_,by rw[zO];rfl,?_,λx hx=>zM _ (i2 x hx),λx hx=>zM _ (i3 x hx),λx hx=>?_,λx hx=>?_,λx hx=>?_,λx hx=>?_,by rw[zE,zE,zq];omega⟩
       ·rw[yd]
        exact⟨i1,by simp,λx hx y hy z=>by cases zV.mp hy;exact hc (z▸hx)⟩
       ·rcases zR.mp hx with y|y
        ·exact zM _ (i4 x y)
        ·exact zJ _ y
       ·rcases zR.mp hx with y|y
        ·exact i5 x y
        ·cases zV.mp y;exact hcr
       ·rcases zR.mp hx with y|y
        ·exact(i6 x y).elim .inl λz=>.inr (zM _ z)
        ·exact .inr (zJ _ y)
       ·rcases zR.mp hx with y|y
        ·exact zM _ (i7 x y)
        ·exact zJ _ y)
     (ω:=[↥cM,↥dn,IC,some (.ow (Wr.map D.int)),Cq,x5])
     ⟨F,Wr,x5,rfl,gi.nd,λc hc=>hc,λc hc=>hc,λc hc=>gi.w c (zM _ hc),gi.r,λc hc=>.inl hc,λc hc=>(by cases hc),rfl⟩
    have fl':=q2t i1 λc hc=>(i5 c hc).mem h ha;simp_arith[e];have wl0:=gi.wl;rw[zE,zq]at wl0;refine⟨⟨F',W',_,_,rfl,i1,i2 a gi.st,∅,i4,i5,λb hb hw c hc=>?_⟩,?_⟩
    ·rcases i6 b hb with y|y
     ·by_cases z:b=here
      ·subst z
       exact i7 c ((v2 c).mpr hc)
      ·exact i2 c (gi.cl b y (λm=>by rcases zR.mp m with m|m;exact hw (i3 b m);exact z P7) c hc)
     ·exact vN y hw
    ·show (ts.length-F'.length)+(W'.map D.int).length<RZ+(Wr.map D.int++[D.int here]).length
     rw[zB,zE,zB,zq];omega)
  (ω:=[↥cM,↥dn,some (.od [a] [bY]),some (.ow [cM]),none,none])
  ⟨[a],[a],none,none,rfl,by simp,by simp,zQ _,λc hc=>hc,λc hc=>by cases zV.mp hc;exact .refl,λb hb hw=>vN hb hw⟩
  (by show (ts.length-1)+1<1000000;omega)
 have fl:=q2t gi.nd λc hc=>(gi.r c hc).mem h ha;simp_arith[e,qfy (show F.length<64 by omega)];exact⟨F,rfl,gi.nd,λc=>⟨gi.r c,λr=>r.inv (λx=>x∈F) gi.st λb c hb hc=>gi.cl b hb (by simp) c hc⟩⟩
noncomputable def gD(g:ac):D:=.lst ON
structure Cls (ts:List Int) (es:List (Int×Int)) (g:List Int) (a:Int):Prop where
 inn:a∈ts
 up:g.Pairwise (· < ·)
 mem:∀c,c∈g↔Rch es a c
 hd:g.head?=some a
theorem qj4{F:ac}(h:F.Nodup):(Yz F).Pairwise (· < ·):=by
 have h1:(Yz F).Nodup:=(qF (l:=F)).nodup_iff.mpr h;have h2:=q1c (l:=F);have:=List.Pairwise.and h2 h1;exact this.imp λ{a b} h=>(by have h1:=h.1;have h2:=h.2;omega)
theorem qkr{ts:ac}{es:ah}{F:ac}{a:Int}(ha:a∈ts)(hn:F.Nodup)(hm:∀c,c∈F↔Rch es a c)(least:∀c∈F,a<=c):Cls ts es (Yz F) a:=by
 have pm:=qF (l:=F);have up:=qj4 hn;refine⟨ha,up,λc=>by rw[pm.mem_iff,hm],?_⟩;have haF:a∈Yz F:=pm.mem_iff.mpr ((hm a).mpr .refl);cases q:Yz F with
 | nil=>rw[q]at haF;cases haF
 | cons b r=>
  rw[q]at haF up;have hb:a<=b:=least b (pm.mem_iff.mp (by rw[q];exact zG));rcases zI.mp haF with rfl|hr
  ·rfl
  ·have:=(zm.mp up).1 a hr
   omega
structure GS (ts:List Int) (es:List (Int×Int)) (gs:List (List Int)) (hs:List Int):Prop where
 len:gs.length=hs.length
 cls:∀(j:Nat)g a,gs[j]?=some g->hs[j]?=some a->Cls ts es g a
 up:hs.Pairwise (· < ·)
theorem GS.snoc{ts:ac}{es:ah}{gs:eS}{hs:ac}(h:HY){g:ac}{a:Int}(c:Cls ts es g a)(hu:∀b∈hs,b<a):GS ts es (gs++[g]) (hs++[a]):=by
 refine⟨by rw[zE,zE,h.len];rfl,λj g' a' e1 e2=>?_,?_⟩
 ·rcases yD j gs.length with z|z
  ·rw[zd z]at e1
   rw[zd (by rw[<- h.len];exact z)]at e2;exact h.cls j g' a' e1 e2
  ·rw[zZ z]at e1
   rw[zZ (by rw[<- h.len];exact z),<- h.len]at e2;cases hj:j-gs.length with
   | zero=>rw[hj]at e1 e2;cases e1;cases e2;exact c
   | succ n=>rw[hj]at e1;cases e1
 ·rw[xY]
  exact⟨h.up,by simp,λb hb c hc=>by cases zV.mp hc;exact hu b hb⟩
theorem GS.one{ts:ac}{es:ah}{gs:eS}{hs:ac}(h:HY){g:ac}(hg:g∈gs):∃a∈hs,Cls ts es g a:=by
 obtain⟨j,hj,rfl⟩:=z8.mp hg;have hj2:j<hs.length:=by rw[<- h.len];exact hj
 exact⟨hs[j],Vu,h.cls j _ _ Po (zD hj2)⟩
theorem qeY{ts:ac}{es:ah}(h:O7):∃gs hs,q2c [bu,.lst Do]=some (.fr kq)/\GS ts es gs hs/\(∀t∈ts,∃g∈gs,t∈g)/\gs.length<=ts.length:=by
 unfold q2c q6z;have hl1:=h.l1;have sp:=qF (l:=ts);have sl:=q1c (l:=ts);simp_arith[q90 h,q66 hl1];obtain⟨ω',e,gs,hs,Gd,x5,x6,x7,rfl,i1,i2,i3,i4,i5,i6⟩:=qR (g:=gN 5) (b:=q5L) D.int (Yz ts)
  (λpre ω=>∃(gs:eS) (hs Gd:ac) (x5 x6 x7:bS),ω=[↥bu,cj,↥dn,Tm,some (.ow kq),x5,x6,x7]/\GS ts es gs hs/\Gd.Nodup/\(∀c,c∈Gd↔∃g∈gs,c∈g)/\(∀t∈pre,t∈Gd)/\(∀a∈hs,a∈pre)/\gs.length<=pre.length)
  (λpre t post ω hd ⟨gs,hs,Gd,x5,x6,x7,hω,i1,i2,i3,i4,i5,i6⟩=>by
   subst hω;refine db;have ht:t∈ts:=sp.mem_iff.mp (by rw[hd];simp);have hs1:(Y0 Gd (WC Gd) t).isSome=decide (t∈Gd):=q3R (q8f Gd);have gts:∀c∈Gd,c∈ts:=λc hc=>by
    obtain⟨g,hg,hcg⟩:=(i3 c).mp hc;obtain⟨a,_,cl⟩:=i1.one hg;exact((cl.mem c).mp hcg).mem h cl.inn
   have plen:pre.length<=ts.length:=by rw[<- sp.length_eq,hd,zE];omega
   unfold q5L
   by_cases hc:t∈Gd
   ·simp_arith[hs1,hc,decide_true]
    exact⟨gs,hs,Gd,_,_,_,rfl,i1,i2,i3,λx hx=>(by rcases zR.mp hx with y|y;exact i4 x y;cases zV.mp y;exact hc),λa ha=>zM _ (i5 a ha),by rw[zE];omega⟩
   ·obtain⟨F,f1,f2,f3⟩:=qb6 h ht
    have least:∀c∈F,t<=c:=λc hcF=>by
     rcases Int.lt_or_le c t with z|z
     ·exfalso
      have rc:=(f3 c).mp hcF;have hcs:c∈Yz ts:=sp.mem_iff.mpr (rc.mem h ht);rw[hd]at hcs sl;have hcp:c∈pre:=by
       rcases zR.mp hcs with y|y
       ·exact y
       ·rcases zI.mp y with rfl|y
        ·omega
        ·have:=(zm.mp (xY.mp sl).2.1).1 c y
         omega
      obtain⟨g,hg,hcg⟩:=(i3 c).mp (i4 c hcp);obtain⟨a,_,cl⟩:=i1.one hg;exact hc ((i3 t).mpr ⟨g,hg,(cl.mem t).mpr (((cl.mem c).mp hcg).trans rc.symm)⟩)
     ·exact z
    have cl:=qkr ht f2 f3 least;have dis:∀c∈Yz F,c∉Gd:=λc hcg hcG=>by
     obtain⟨g,hg,hcg'⟩:=(i3 c).mp hcG;obtain⟨a,_,cl'⟩:=i1.one hg;exact hc ((i3 t).mpr ⟨g,hg,(cl'.mem t).mpr (((cl'.mem c).mp hcg').trans ((cl.mem c).mp hcg).symm)⟩)
    have hgl:(gs.map gD).length<1000000:=by rw[zB];omega
    simp_arith[hs1,hc,decide_false,f1,zBW hgl];obtain⟨ω',e,x7',rfl⟩:=qR (g:=gN 7) (b:=q5y) D.int (Yz F)
     (λpre' ω=>∃(x7:bS),ω=[↥bu,cj,↥dn,some (.od (Gd++pre') (WC (Gd++pre'))),M7,TZ,↥pD,x7])
     (λpre' c post' ω hd' ⟨x7,hω⟩=>by
      subst hω;refine db;have ndF:(Yz F).Nodup:=(qF (l:=F)).nodup_iff.mpr f2;have hnew:c∉Gd++pre':=λm=>by
       rcases zR.mp m with y|y
       ·exact dis c (by rw[hd'];simp) y
       ·rw[hd',yd]at ndF
        exact ndF.2.2 c y c zG rfl
      obtain⟨p1,p2⟩:=qch hnew;have hlen:(Gd++pre').length<1000000:=by
       have z1:=q2t i2 gts;have z2:pre'.length<=ts.length:=by
        have a1:(Yz F).length<=ts.length:=by
         rw[(qF (l:=F)).length_eq];exact q2t f2 λc hc=>((f3 c).mp hc).mem h ht
        rw[hd',zE]at a1;omega
       rw[zE];omega
      unfold q5y;simp_arith[q4s hlen,p1,p2,yB];exact bK)
     (ω:=[↥bu,cj,↥dn,Tm,M7,TZ,↥pD,x7]) ⟨x7,by rw[zn]⟩
    simp_arith[e];refine⟨gs++[Yz F],hs++[t],Gd++Yz F,_,_,_,by rw[zO];rfl,i1.snoc cl λb hb=>?_,?_,λc=>?_,λx hx=>?_,λa ha=>?_,by rw[zE,zE,zq,zq];omega⟩
    ·have hbp:=i5 b hb
     rw[hd]at sl;have le:b<=t:=(xY.mp sl).2.2 b hbp t zG;have ne:b≠t:=λz=>hc (i4 t (z▸hbp));omega
    ·rw[yd]
     exact⟨i2,(qF (l:=F)).nodup_iff.mpr f2,λx hx y hy z=>dis y hy (z▸hx)⟩
    ·rw[zR,i3]
     constructor
     ·rintro(⟨g,hg,hcg⟩|hcF)
      ·exact⟨g,zM _ hg,hcg⟩
      ·exact⟨_,Vr,hcF⟩
     ·rintro⟨g,hg,hcg⟩
      rcases zR.mp hg with y|y
      ·exact .inl ⟨g,y,hcg⟩
      ·cases zV.mp y;exact .inr hcg
    ·rcases zR.mp hx with y|y
     ·exact zM _ (i4 x y)
     ·cases zV.mp y
      exact zJ _ ((cl.mem t).mpr .refl)
    ·rcases zR.mp ha with y|y
     ·exact zM _ (i5 a y)
     ·exact zJ _ y)
  (ω:=[↥bu,cj,↥dn,ss,pU,none,none,none])
  ⟨[],[],[],none,none,none,rfl,⟨rfl,λj g a e=>(by simp at e),.nil⟩,xa,by simp,by simp,by simp,cP⟩
 simp_arith[e];refine⟨gs,hs,rfl,i1,λt ht=>?_,by rw[<- sp.length_eq];exact i6⟩;exact(i3 t).mp (i4 t (sp.mem_iff.mpr ht))
theorem Rch.mono{es fs:ah}{a c:Int}(h:∀e∈es,e∈fs)(r:ab0):Rch fs a c:=by
 induction r with
 | refl=>exact .refl
 | step _ e ih=>exact ih.step (e.elim (λz=>.inl (h _ z)) λz=>.inr (h _ z))
noncomputable def XX(f:cQ)(a b:Int):Int->Int:=λx=>if f x=b then a else f x
def Tells(ts:ac)(es:ah)(f:cQ):Prop:=∀x∈ts,∀y∈ts,f x=f y↔Rch es x y
theorem Tells.join{ts:ac}{es:ah}{f:cQ}(h:Tells ts es f)(inn:∀e∈es,e.1∈ts/\e.2∈ts){p q:Int}(hp:p∈ts)(hq:q∈ts):Tells ts OS (XX f (f p) (f q)):=by
 intro x hx y hy;have up:∀{u v:Int},Rch es u v->Rch OS u v:=λr=>r.mono λe he=>zM _ he;have pq:Rch OS p q:=Rch.refl.step (.inl (by simp))
 constructor
 ·intro e
  unfold XX at e
  by_cases h1:f x=f q
  ·rw[Vy]at e
   by_cases h2:f y=f q
   ·exact up ((h x hx y hy).mp (by rw[h1,h2]))
   ·rw[vJ h2]at e
    exact((up ((h x hx q hq).mp h1)).trans pq.symm).trans (up ((h p hp y hy).mp e))
  ·rw[vJ h1]at e
   by_cases h2:f y=f q
   ·rw[vH h2]at e
    exact((up ((h x hx p hp).mp e)).trans pq).trans (up ((h q hq y hy).mp h2.symm))
   ·rw[vJ h2]at e
    exact up ((h x hx y hy).mp e)
 ·intro r
  have key:∀{u v:Int},(u,v)∈es++[(p,q)]->u∈ts/\v∈ts/\XX f (f p) (f q) u=XX f (f p) (f q) v:=λ{u v} m=>by
   rcases zR.mp m with m|m
   ·obtain⟨a,b⟩:=inn _ m
    have e:=(h u a v b).mpr (Rch.refl.step (.inl m));exact⟨a,b,by unfold XX;rw[e]⟩
   ·cases zV.mp m
    refine⟨hp,hq,?_⟩;unfold XX;rw[lW]
    by_cases z:f p=f q
    ·rw[gR]
    ·rw[gE]
  exact(Rch.inv (λz=>z∈ts/\XX f (f p) (f q) x=XX f (f p) (f q) z) ⟨hx,rfl⟩ (λb c hb hbc=>by
   rcases hbc with m|m
   ·obtain⟨a1,a2,a3⟩:=key m;exact⟨a2,hb.2.trans a3⟩
   ·obtain⟨a1,a2,a3⟩:=key m;exact⟨a1,hb.2.trans a3.symm⟩) r).2
noncomputable def lst1(f:cQ)(ts:ac)(a:Int):Bool:=ts.all λc=>f c != f a || decide (a<=c)
noncomputable def many(f:cQ)(ts:ac):Nat:=(ts.filter (lst1 f ts)).length
noncomputable abbrev Eg:=Int×Int×Int
noncomputable def Xe(e:Eg):Int×Int:=Lr
noncomputable def Yo(e:Eg):Int:=e.2.2
noncomputable def XJ(s:cQ×List Eg)(e:Eg):cQ×List Eg:=if s.1 e.1=s.1 e.2.1 then s else (XX s.1 (s.1 e.1) (s.1 e.2.1),s.2++[e])
noncomputable def Xd(f:cQ)(es:dB):cQ×List Eg:=es.foldl XJ (f,[])
theorem q8R(f:cQ)(es:dB)(e:Eg):Xd f (es++[e])=XJ (Xd f es) e:=by unfold Xd;rw[wf];rfl
theorem q8W{α:Type}{P:List α->Prop}(h0:P [])(hs:∀l a,P l->P (l++[a]))(l:bJ):P l:=by
 have:∀l:List α,P l.reverse:=λl=>by
  induction l with
  | nil=>exact h0
  | cons a r ih=>rw[wd];exact hs _ _ ih
 have:=this l.reverse
 rwa [ZT]at this
theorem q0P(f:cQ)(es:dB):(Xd f es).2.Sublist es:=by
 refine q8W (P:=λes=>(Xd f es).2.Sublist es) (Z2 _) (λl e ih=>?_) es;rw[q8R];unfold XJ
 split
 ·exact ih.trans (List.sublist_append_left _ _)
 ·exact ih.append (Z2 _)
theorem Cls.low{ts:ac}{es:ah}{g:ac}{a:Int}(c:Cls ts es g a):∀x∈g,a<=x:=λx hx=>by
 have h:=c.hd;have u:=c.up;cases g with
 | nil=>cases hx
 | cons b r=>
  cases h;rcases zI.mp hx with rfl|hx
  ·exact yh _
  ·exact wT ((zm.mp u).1 x hx)
theorem GS.apart{ts:ac}{es:ah}{gs:eS}{hs:ac}(h:HY){i j:Nat}{g g':ac}{c:Int}(e1:gs[i]?=some g)(e2:gs[j]?=some g')(h1:c∈g)(h2:c∈g'):i=j:=by
 have li:=(zc.mp e1).1;have lj:=(zc.mp e2).1;rw[h.len]at li lj;have c1:=h.cls i g _ e1 (zD li);have c2:=h.cls j g' _ e2 (zD lj);have r1:=(c1.mem c).mp h1;have r2:=(c2.mem c).mp h2;have a1:=c1.low _ ((c1.mem _).mpr (r1.trans r2.symm));have a2:=c2.low _ ((c2.mem _).mpr (r2.trans r1.symm));rcases Nat.lt_trichotomy i j with z|z|z
 ·have:=yv.mp h.up i j li lj z;omega
 ·exact z
 ·have:=yv.mp h.up j i lj li z;omega
theorem qbM:∀{gs:eS},(∀g∈gs,g.Nodup)->(∀(i j:Nat)g g' c,gs[i]?=some g->gs[j]?=some g'->c∈g->c∈g'->i=j)->gs.flatten.Nodup
 | [],_,_=>xa
 | g::gs,h1,h2=>by
  rw[yo,yd];refine⟨h1 g zG,qbM (λg hg=>h1 g (zH _ hg)) (λi j a b c e1 e2 m1 m2=>?_),λx hx y hy e=>?_⟩
  ·have:=h2 (i+1) (j+1) a b c e1 e2 m1 m2;omega
  ·subst e
   obtain⟨g',hg',hx'⟩:=wJ.mp hy;obtain⟨j,hj,rfl⟩:=z8.mp hg';have:=h2 0 (j+1) g _ x rfl (zD hj) hx hx';omega
theorem GS.flat{ts:ac}{es:ah}{gs:eS}{hs:ac}(ok:O7)(h:HY)(all:∀t∈ts,∃g∈gs,t∈g):gs.flatten.Perm ts:=by
 have nd:gs.flatten.Nodup:=qbM (λg hg=>by
  obtain⟨a,_,c⟩:=h.one hg;exact c.up.imp λ{a b} h e=>∅) λi j g g' c e1 e2 m1 m2=>h.apart e1 e2 m1 m2
 refine(wY nd ok.nd).mpr λx=>⟨λhx=>?_,λhx=>?_⟩
 ·obtain⟨g,hg,hx⟩:=wJ.mp hx
  obtain⟨a,_,c⟩:=h.one hg;exact((c.mem x).mp hx).mem ok c.inn
 ·obtain⟨g,hg,hx⟩:=all x hx
  exact wJ.mpr ⟨g,hg,hx⟩
noncomputable def nmP:Nat->List ac->List lx
 | _,[]=>[]
 | k,g::gs=>(k,g)::nmP (k+1) gs
noncomputable def kkP(ps:SC):List Int:=ps.flatMap (·.2)
noncomputable def vvP(ps:SC):List D:=ps.flatMap λp=>p.2.map λ_=>D.int abv
theorem q63:∀(k:Nat)(gs:eS),kkP UD=gs.flatten
 | _,[]=>rfl
 | k,g::gs=>by show g++kkP Nd=_;rw[q63];rfl
theorem qfs:∀ps:List lx,(kkP ps).length=(vvP ps).length
 | []=>rfl
 | p::ps=>by show (p.2++kkP ps).length=((p.2.map λ_=>D.int abv)++vvP ps).length;rw[zE,zE,zB,qfs ps]
theorem qbt{α:Type}(v:α):∀(g:ac){x:Int},x∈g->Y0 g acQ x=some v
 | [],_,h=>by cases h
 | y::g,x,h=>by
  show (if y=x then some v else Y0 g acQ x)=some v
  by_cases z:y=x
  ·rw[gR]
  ·rw[gE]
   rcases zI.mp h with rfl|h
   ·exact vN rfl z
   ·exact qbt v g h
theorem q9G{α:Type}:∀{a:ac}{c:bJ}{b:ac}{d:bJ}{x:Int},a.length=c.length->x∈a->Y0 N8 (c++d) x=Y0 a c x
 | [],_,_,_,_,_,h=>by cases h
 | _::_,[],_,_,_,h,_=>by simp at h
 | y::a,v::c,b,d,x,hl,h=>by
  show (if y=x then some v else Y0 N8 (c++d) x)=if y=x then some v else Y0 a c x
  by_cases z:y=x
  ·rw[gR,gR]
  ·rw[gE,gE]
   rcases zI.mp h with rfl|h
   ·exact vN rfl z
   ·exact q9G ⇑hl h
theorem q8N{α:Type}:∀{a:ac}{c:bJ}{b:ac}{d:bJ}{x:Int},a.length=c.length->x∉a->Y0 N8 (c++d) x=Y0 b d x
 | [],[],_,_,_,_,_=>rfl
 | [],_::_,_,_,_,h,_=>by simp at h
 | _::_,[],_,_,_,h,_=>by simp at h
 | y::a,v::c,b,d,x,hl,h=>by
  show (if y=x then some v else Y0 N8 (c++d) x)=_;rw[vJ (λz=>h (by rw[z];exact zG))];exact q8N ⇑hl λz=>h (zH _ z)
theorem qau:∀{gs:eS}{k:Nat},gs.flatten.Nodup->∀{j:Nat}{g:ac}{x:Int},gs[j]?=some g->x∈g->Y0 (kkP UD) (vvP UD) x=some (.int ((k+j:Nat):Int))
 | [],k,_,j,g,x,h,_=>by cases h
 | g'::gs,k,hn,j,g,x,h,hx=>by
  rw[yo,yd]at hn;show Y0 (g'++kkP Nd) ((g'.map λ_=>D.int bh)++vvP Nd) x=_;cases j with
  | zero=>cases h;rw[q9G (by rw[zB]) hx,qbt _ _ hx];rfl
  | succ j=>
   have hg:gs[j]?=some g:=h;have hf:x∈gs.flatten:=wJ.mpr ⟨g,zw hg,hx⟩;rw[q8N (by rw[zB]) (λz=>hn.2.2 x z x hf rfl),qau hn.2.1 hg hx,show k+1+j=k+(j+1) by omega]
theorem qcj{α:Type}{ks:ac}{xs:bJ}{k:Int}(y:α)(h:k∉ks):WF ks k=ks++[k]/\putA ks xs k y=xs++[y]:=by
 unfold WF putA;rw[vJ h,vJ h];exact bQ
noncomputable def nmD(p:lx):D:=.tup [.int abv,gD p.2]
theorem qbK:∀(k:Nat)(gs:eS),WS k kq=(nmP k gs).map nmD
 | _,[]=>rfl
 | k,g::gs=>by show D.tup [mB,gD g]::WS (k+1) kq=_;rw[qbK];rfl
theorem qfb(a b:SC):kkP N8=kkP a++kkP b:=by unfold kkP;rw[xj]
theorem qjs(a b:SC):vvP N8=vvP a++vvP b:=by unfold vvP;rw[xj]
theorem qcQ{gs:eS}(nd:gs.flatten.Nodup)(fl:gs.flatten.length<64):q0d [JY]=↥(.dic Sd RP):=by
 unfold q0d q1Q;simp_arith[qbK];have nd':(kkP kH).Nodup:=by rw[q63];exact nd
 have fl':(kkP kH).length<64:=by rw[q63];exact fl
 generalize nmP 0 gs=ps at nd' fl';obtain⟨ω',e,x2,x3,x4,rfl⟩:=qR (g:=gT 2 NA) (b:=q1y) nmD ps
  (λpre ω=>∃x2 x3 x4,ω=[↥JY,LP,x2,x3,x4])
  (λpre p post ω hd ⟨x2,x3,x4,hω⟩=>by
   subst hω;refine db;unfold q1y;obtain⟨k,g⟩:=p;rw[hd,qfb]at nd' fl';show W2 (Wb _ _ _ mq) _;simp_arith[q07];obtain⟨ω',e,y4,rfl⟩:=qR (g:=gN 4) (b:=q1C) D.int g
    (λpre' ω=>∃y4,ω=[↥JY,some (.od (kkP pre++pre') (vvP pre++pre'.map λ_=>D.int bh)),↥mB,↥(.lst ON),y4])
    (λpre' c post' ω hd' ⟨y4,hω⟩=>by
     subst hω;refine db;have nd2:(kkP pre++(pre'++c::post')).Nodup:=by
      have:(kkP pre++(g++kkP post)).Nodup:=nd';rw[hd',<- yB]at this;exact(yd.mp this).1
     have hnew:c∉kkP pre++pre':=λm=>by
      rw[<- yB]at nd2;exact(yd.mp nd2).2.2 c m c zG rfl
     have hlen:(kkP pre++pre').length<1000000:=by
      have:(kkP pre++(g++kkP post)).length<64:=fl';rw[hd']at this;simp only[zE,zK]at this ⊢;omega
     obtain⟨p1,p2⟩:=qcj (xs:=vvP pre++pre'.map λ_=>D.int bh) (D.int bh) hnew;unfold q1C;simp_arith[q4s hlen,p1,p2,yB];exact⟨_,by rw[zO];rfl⟩)
    (ω:=mq) ⟨x4,by rw[zn,yU,zn]⟩
   simp_arith[e];have ek:kkP acH=kkP pre++g:=by
    rw[qfb];show kkP pre++(g++[])=_;rw[zn]
   have ev:vvP acH=vvP pre++g.map λ_=>D.int bh:=by
    rw[qjs];show vvP pre++((g.map λ_=>D.int bh)++[])=_;rw[zn]
   rw[ek,ev];exact nv)
  (ω:=[↥JY,ss,none,none,none]) pE
 simp_arith[e]
noncomputable def egD(e:Eg):D:=.tup sZ
theorem q4Y(e:Eg):q17 [OT]=↥(.int (Yo e)):=rfl
theorem qdL(e:Eg):WL q17 OT=Yo e:=by unfold WL;rw[q4Y]
theorem qcN(e:Eg):keyOk q17 OT=true:=by unfold keyOk;rw[q4Y]
theorem qeJ(es:dB):Yt (WL q17) oH=(Yt Yo es).map egD:=by
 rw[q2G,q46 λx _=>qdL x]
noncomputable def Wx(f:cQ)(ks:ac):List D:=ks.map λk=>.int (f k)
theorem q4J{f:cQ}:∀{ks:ac}{x:Int},x∈ks->Y0 ks Py x=some (.int (f x))
 | [],_,h=>by cases h
 | k::ks,x,h=>by
  by_cases e:k=x
  ·subst e
   show (if k=k then some (D.int (f k))else Y0 ks Py k)=_;rw[lW]
  ·show (if k=x then some (D.int (f k))else Y0 ks Py x)=_
   rw[vJ e];exact q4J ((zI.mp h).elim (λz=>vN z.symm e) id)
theorem qjT{f:cQ}{ks:ac}{a b:Int}(hn:ks.Nodup)(hl:ks.length<1000):q0h [pA,cM,iz]=↥(.dic ks (Wx IQ ks)):=by
 unfold q0h q1n;obtain⟨ω',e,x4,rfl⟩:=qR (g:=gN 4) (b:=q19) D.int ks
  (λpre ω=>∃x4:Option W,ω=[↥pA,↥cM,↥iz,some (.od pre (Wx IQ pre)),x4])
  (λpre k post ω hd ⟨x4,hω⟩=>by
   subst hω;refine db;have hk:k∈ks:=by rw[hd];simp
   have hnk:k∉pre:=λz=>by
    rw[hd]at hn;exact(yd.mp hn).2.2 k z k (by simp) rfl
   have hp:pre.length<ks.length:=by rw[hd,zE,zK];omega
   have hv:=q4J (f:=f) hk;have hds:pre.length<1000000:=∅
   obtain⟨p1,p2⟩:=qcj (xs:=Wx IQ pre) (D.int (XX f a b k)) hnk;have ev:Wx IQ (pre++[k])=Wx IQ pre++[.int (XX f a b k)]:=by unfold Wx;rw[zO];rfl
   unfold q19
   by_cases z:f k=b
   ·have z':(f k==b)=true:=by simpa using z
    have jk:XX f a b k=a:=vH z;rw[jk]at p2 ev;simp_arith[hv,z',q4s hds,p1,p2];exact⟨_,by rw[ev]⟩
   ·have z':(f k==b)=false:=by simpa using z
    have jk:XX f a b k=f k:=vJ z;rw[jk]at p2 ev;simp_arith[hv,z',q4s hds,p1,p2];exact⟨_,by rw[ev]⟩)
  (ω:=[↥pA,↥cM,↥iz,ss,none]) Om
 simp_arith[e]
noncomputable def zAO(ks:ac)(vs:aM)(x:Int):Int:=match Y0 ks vs x with
 | some (.int i)=>i
 | _=>0
theorem qbL:∀{ks:ac}{vs:aM},ks.Nodup->ks.length=vs.length->(∀v∈vs,∃i:Int,v=.int i)->vs=Wx (zAO ks vs) ks
 | [],[],_,_,_=>rfl
 | [],_::_,_,h,_=>by simp at h
 | _::_,[],_,h,_=>by simp at h
 | k::ks,v::vs,hn,hl,hv=>by
  obtain⟨n1,n2⟩:=yk.mp hn;obtain⟨i,rfl⟩:=hv v zG;have ih:=qbL n2 ⇑hl λu hu=>hv u (zH _ hu);have e1:zAO Kg J2 k=i:=by
   unfold zAO;show (match (if k=k then some (D.int i)else Y0 ks vs k)with|some (.int i)=>i|_=>0)=i;rw[lW]
  have e2:∀x∈ks,zAO Kg J2 x=zAO ks vs x:=λx hx=>by
   unfold zAO;have:Y0 Kg (D.int i::vs) x=Y0 ks vs x:=vJ (λz:k=x=>by subst z;exact n1 hx);rw[this]
  show D.int i::vs=D.int (zAO Kg J2 k)::ks.map _;rw[e1]
  congr 1
  have:ks.map (λk'=>D.int (zAO Kg J2 k'))=Wx (zAO ks vs) ks:=by
   unfold Wx;exact yI λx hx=>by rw[e2 x hx]
  rw[this];exact ih
theorem qj2:∀(ps:SC),∀v∈vvP ps,∃i:Int,v=.int i:=λps v hv=>by
 unfold vvP at hv;obtain⟨p,_,h⟩:=yg.mp hv;obtain⟨_,_,rfl⟩:=za.mp h;exact bK
theorem q9q{ts:ac}{kn:ah}(ok:Ok ts kn):∃(gs:eS) (ks:ac) (f:cQ),q2c [bu,Dz]=some (.fr kq)/\q0d [JY]=↥pA/\ks.Nodup/\(∀x,x∈ks↔x∈ts)/\ks.length<64/\Tells ts kn f:=by
 obtain⟨gs,hs,g1,g2,g3,g4⟩:=qeY ok;have pf:=g2.flat ok g3;have nd:gs.flatten.Nodup:=pf.nodup_iff.mpr ok.nd;have fl:gs.flatten.length<64:=by rw[pf.length_eq];exact ok.l1
 have nm:=qcQ nd fl;have kk:=q63 0 gs;have lv:=qbL (ks:=kkP kH) (vs:=vvP kH) (by rw[kk];exact nd) (qfs _) (qj2 _);refine⟨gs,kkP kH,zAO Sd RP,g1,by rw[<- lv];exact nm,by rw[kk];exact nd,λx=>by rw[kk];exact pf.mem_iff,by rw[kk];exact fl,λx hx y hy=>?_⟩;obtain⟨gx,mx,hxg⟩:=g3 x hx;obtain⟨gy,my,hyg⟩:=g3 y hy;obtain⟨i,hi⟩:=yz.mp mx;obtain⟨j,hj⟩:=yz.mp my;have vx:=qau (k:=0) nd hi hxg;have vy:=qau (k:=0) nd hj hyg;have fx:zAO Sd RP x=ack:=by unfold zAO;rw[vx]
 have fy:zAO Sd RP y=((0+j:Nat):Int):=by unfold zAO;rw[vy]
 rw[fx,fy];obtain⟨a,_,cx⟩:=g2.one mx;obtain⟨b,_,cy⟩:=g2.one my
 constructor
 ·intro e
  have:i=j:=∅
  subst this;rw[hi]at hj;cases hj;exact((cx.mem x).mp hxg).symm.trans ((cx.mem y).mp hyg)
 ·intro r
  have:y∈gx:=(cx.mem y).mpr (((cx.mem x).mp hxg).trans r);have:=g2.apart hi hj this hyg;rw[this]
theorem qej{ts:ac}{kn:ah}{es:dB}(ok:Ok ts kn)(he:∀e∈es,e.1∈ts/\e.2.1∈ts)(hl:Sh):∃f:Int->Int,Tells ts kn f/\q3e [bu,Dz,Pe]=some ML:=by
 obtain⟨gs,ks,f,g1,g2,nd,mem,lk,tl⟩:=q9q ok;refine⟨f,tl,?_⟩;unfold q3e q6s;have sk:=qkU (m:=q17) (ds:=es.map egD) (by rw[zB];exact hl) (λd hd=>by obtain⟨e,_,rfl⟩:=za.mp hd;exact qcN e);rw[qeJ]at sk;have pm:=qK (f:=Yo) (l:=es);have hS:∀e∈Yt Yo es,e.1∈ts/\e.2.1∈ts:=λe h=>he e JI;have lS:(Yt Yo es).length=es.length:=pm.length_eq;generalize Yt Yo es=S at sk hS lS;simp_arith[g1,g2,sk];obtain⟨ω',e,x5,x6,x7,rfl⟩:=qR (g:=gN 5) (b:=q5N) egD S
  (λpre ω=>∃(x5 x6 x7:bS),ω=[↥bu,↥Dz,↥Pe,↥(.dic ks (Wx (Xd f pre).1 ks)),some (.ow ((Xd f pre).2.map egD)),x5,x6,x7])
  (λpre e post ω hd ⟨x5,x6,x7,hω⟩=>by
   subst hω;refine db;obtain⟨m1,m2⟩:=hS e (by rw[hd];simp);have v1:=q4J (f:=(Xd f pre).1) ((mem e.1).mpr m1);have v2:=q4J (f:=(Xd f pre).1) ((mem e.2.1).mpr m2);have lp:((Xd f pre).2.map egD).length<1000000:=by
    have:=(q0P f pre).length_le;have:pre.length<=S.length:=by rw[hd,zE];omega
    rw[zB];omega
   have tw:=qjT (f:=(Xd f pre).1) (a:=(Xd f pre).1 e.1) (b:=(Xd f pre).1 e.2.1) nd ∅;have ed:egD e=.tup sZ:=rfl;unfold q5N;rw[q8R];unfold XJ
   by_cases z:(Xd f pre).1 e.1=(Xd f pre).1 e.2.1
   ·have z':GE=true:=by simpa using z
    rw[gR];simp_arith[ed,v1,v2,z'];exact nv
   ·have z':GE=false:=by simpa using z
    rw[gE];simp_arith[ed,v1,v2,z',zBW lp,tw];exact⟨_,_,_,by rw[zO];rfl⟩)
  (ω:=[↥bu,↥Dz,↥Pe,↥pA,pU,none,none,none]) pE
 simp_arith[e]
noncomputable def goN(n s g x:Int):Bool:=decide ((x-s)%n<(g-s)%n)
theorem qfD{n x s:Int}(hx:0<=x/\x<n)(hs:0<=s/\s<n):(x-s)%n=if s<=x then x-s else x-s+n:=by
 by_cases z:s<=x
 ·rw[gR];exact wA ∅ ∅
 ·have e:(x-s+n)%n=(x-s)%n:=by simp
  rw[gE,<- e];exact wA ∅ ∅
noncomputable def rts(n:Int)(bs:bX)(x:Int):List ag:=bs.filter λb=>b.2.2==1&&goN n b.1 b.2.1 x
noncomputable def lfs(n:Int)(bs:bX)(x:Int):List ag:=bs.filter λb=>b.2.2 == -1&&goN n b.2.1 b.1 x
theorem q6u{n a b:Int}(hn:0<n):q04 [aY,cM,iz,aV]=↥(.int ((b-a)%n)):=by
 unfold q04 q6b;have mu:zA7 J3 aV=↥J3:=by rw[q6N (by decide) (by decide),ZP]
 have mo:oMod J3 aY=↥(.int ((b-a)%n)):=q0s hn;simp_arith[mu,mo]
theorem q7N{n s g:Int}(hn:0<n)(p:gJ):q0E [aY,rD,.int g,MD]=↥(.bl (goN n s g p.1)):=by
 unfold q0E q4k;have s1:=q6u (a:=s) (b:=p.1) hn;have s2:=q6u (a:=s) (b:=g) hn;have pd:XY p=.tup l8:=rfl;simp_arith[pd,s1,s2];rfl
noncomputable def Yl(n h l:Int)(bs:bX)(x:Int):Int:=(if goN n h l x=true then 1 else 0)-((rts n bs x).length:Int)+((lfs n bs x).length:Int)
theorem qiZ{n h l:Int}{bs:bX}(hn:0<n)(hb:iM)(p:gJ):q1s [aY,dA,dQ,ao,MD]=↥(.int (Yl n h l bs p.1)):=by
 unfold q1s q3Z;have o:=q7N (s:=h) (g:=l) hn p;have kl:(bs.map tri).length<=1000000:=by rw[zB];omega
 have td:∀b:Int×Int×Int,tri b=.tup [Fg,Bt,K9]:=λ_=>rfl;have cm1:=q1R (i:=0) (c:=q3G) (f:=q5E) (λb=>b.2.2==1&&goN n b.1 b.2.1 p.1) tri tri bs (ω:=aaJ) (λb _=>⟨by
  have o1:=q7N (s:=b.1) (g:=b.2.1) hn p;unfold q3G;cases q:(b.2.2==1)with
  | true=>simp_arith[td,q,o1]
  | false=>simp_arith[td,q],λ_=>rfl⟩)
 have cm2:=q1R (i:=0) (c:=q3h) (f:=q5q) (λb=>b.2.2 == -1&&goN n b.2.1 b.1 p.1) tri tri bs (ω:=aaJ) (λb _=>⟨by
  have o1:=q7N (s:=b.2.1) (g:=b.1) hn p;unfold q3h;cases q:(b.2.2 == -1)with
  | true=>simp_arith[td,q,o1]
  | false=>simp_arith[td,q],λ_=>rfl⟩)
 unfold Yl rts lfs;generalize goN n h l p.1=go at o ⊢;cases go with
 | true=>simp_arith[o,WD kl,inW,WJ,cm1,cm2,zB]
 | false=>simp_arith[o,WD kl,inW,WJ,cm1,cm2,zB]
theorem q5k{n h l c:Int}{bs:bX}(hn0:1<=n)(hn:n<=10^39)(hh:Mh)(hl:Mg)(hb:iM)(hbs:∀b∈bs,Bh/\oT/\gQ):
  qH LX=some (.fr ((Y6 cw).map λx=>D.int rN)):=by
 unfold qH q3z;have g:=q6G hn hh hl hb hbs;have sl:(Y6 cw).length<=1000:=(stp h l (bs:=bs.map two) (by rw[zB];omega)).len;generalize Y6 cw=P at g sl;have kl:((rnd P).map XY).length<=1000000:=by
  rw[zB];unfold rnd;rw[yl];omega
 have cm:=qA (i:=0) (f:=q2M) XY Jt (rnd P) (ω:=[none,↥lQ,↥aY,↥dA,↥dQ,↥ao]) (λp _=>by
  have b:=qiZ (h:=h) (l:=l) (show 0<n by omega) hb p;unfold q2M;simp_arith[b])
 have zf:(rnd P).map Jt=P.map λx=>D.int rN:=by
  have:(rnd P).map Prod.fst=P:=by
   unfold rnd;rw[wI];rw[zE,yN,zo];omega
  conv=>rhs;rw[<- this]
  rw[zi];rfl
 simp_arith[g,WD kl,inW,WJ,cm,zf]
theorem qcp{b:ag}{bs:bX}(h:b∈bs):b.1∈flat oJ/\b.2.1∈flat oJ:=by
 unfold flat;refine⟨OA,OA⟩
 ·exact zG
 ·exact zH _ zG
theorem qje{x:Int}{bs:bX}(h:x∈flat oJ):∃b∈bs,x=b.1\/x=b.2.1:=by
 unfold flat at h;obtain⟨p,hp,hx⟩:=yg.mp h;obtain⟨b,hb,rfl⟩:=za.mp hp;rcases zI.mp hx with z|z
 ·exact⟨b,hb,.inl z⟩
 ·exact⟨b,hb,.inr (zV.mp z)⟩
theorem q0g{P:ac}{k:Nat}(h:abB):P.getD k 0=P[k]:=by rw[zT,zD h];rfl
noncomputable def stN(n:Int)(b:ag):Int:=(b.2.1-b.1)*b.2.2%n
noncomputable def glN(n:Int)(g:gJ):Int:=if g.1=g.2 then n else (g.2-g.1)%n
theorem qic{n:Int}(hn:0<n)(p:gJ):q1g [aY,MD]=↥ac7:=by
 unfold q1g q3C;have s:=q6u (a:=p.1) (b:=p.2) hn;have pd:XY p=.tup l8:=rfl;unfold glN
 by_cases z:p.1=p.2
 ·have q:(p.1==p.2)=true:=by simpa using z
  simp_arith[pd,q,gR]
 ·have q:(p.1==p.2)=false:=by simpa using z
  simp_arith[pd,q,gE,s]
noncomputable def egN(n:Int)(p:gJ):Eg:=(p.1,p.2,glN n p)
theorem q8S{n h l:Int}{bs:bX}(hn0:1<=n)(hn:n<=10^39)(hh:Mh)(hl:Mg)(hb:iM)(hbs:∀b∈bs,Bh/\oT/\gQ):
  q00 bU=some (.fr (((rnd (Y6 cw)).map (egN n)).map egD)):=by
 unfold q00 q3m;have g:=q6G hn hh hl hb hbs;have sl:(Y6 cw).length<=1000:=(stp h l (bs:=bs.map two) (by rw[zB];omega)).len;generalize Y6 cw=P at g sl;have kl:((rnd P).map XY).length<=1000000:=by
  rw[zB];unfold rnd;rw[yl];omega
 have cm:=qA (i:=0) (f:=q2U) XY RF (rnd P) (ω:=KU) (λp _=>by
  have b:=qic (show 0<n by omega) p;have pd:XY p=.tup l8:=rfl;have ad:Xo MD (.tup [ac7])=↥(egD (egN n p)):=by
   rw[pd];rfl
  unfold q2U;simp_arith[b,ad])
 have mm:(rnd P).map RF=((rnd P).map (egN n)).map egD:=by rw[zi];rfl
 simp_arith[g,WD kl,inW,WJ,cm,mm]
noncomputable def lkT(es:dB)(ls:ac):List gJ:=((es.zip ls).filter λq=>q.2 != 0).map λq=>Xe q.1
noncomputable def zpD(q:Eg×Int):D:=.tup [egD q.1,.int q.2]
theorem q5Q:∀(es:dB)(ls:ac),zAY oH kE=(es.zip ls).map zpD
 | [],_=>rfl
 | _::_,[]=>rfl
 | e::es,x::ls=>by
  show D.tup [OT,GU]::zAY oH kE=_;rw[q5Q];rfl
theorem qbG{c:FT}{f:FD}(q:Eg×Int->Bool)(F:Eg×Int->D)(xs:List (Eg×Int)){ω:WSt}(hω:∃a b,ω=rG)(h:∀x∈xs,c Nv=some (q x)/\(q x=true->f Nv=some (F x))):
  Xn KR c f (xs.map zpD) ω=some FK :=
 q1j (λw=>∃a b,w=rG) q zpD F xs hω λx hx w hw=>by
  obtain⟨a,b,rfl⟩:=hw;exact⟨_,rfl,pS,(h x hx).1,(h x hx).2⟩
theorem q78{h l:Int}{bs:bX}{es:dB}{ls:ac}(hb:iM)(le:Sh)(ok:Ok CM kZ)(he:∀e∈es,e.1∈es.map EU/\e.2.1∈es.map EU):
  ∃f:Int->Int,Tells CM kZ f/\q0f acV=some ML:=by
 obtain⟨f,f1,f2⟩:=qej ok he le;refine PV;unfold q0f q30;have w:=q6x hb;have zl:(es.zip ls).length<=64:=by rw[yl];omega
 have kz:((es.zip ls).map zpD).length<=1000000:=by rw[zB];omega
 have ke:(es.map egD).length<=1000000:=by rw[zB];omega
 have cm1:=qbG (c:=q2f) (f:=q4y) (λq=>q.2 != 0) T8 Sg (ω:=MC) pS (λq _=>⟨by
  unfold q2f;simp_arith[q07];rfl,λ_=>rfl⟩)
 have cm2:=qA (i:=0) (f:=q29) egD aai es (ω:=FZ) (λe _=>by
  unfold q29;have ed:egD e=.tup sZ:=rfl;simp_arith[ed])
 have m1:((es.zip ls).filter λq=>q.2 != 0).map T8=(lkT es ls).map Ym:=by unfold lkT;rw[zi];rfl
 have m2:es.map aai=(es.map λe=>e.1).map D.int:=by rw[zi];rfl
 have lt:(lkT es ls).length<=64:=by
  unfold lkT;rw[zB];exact yJ (xW _ _) zl
 have a1:Xo Mi (.lst [.tup [dA,dQ]])=some (.fr Og):=by
  have:(bs.map two++om).map Ym=(bs.map two).map XY++[.tup [dA,dQ]]:=by rw[zO];rfl
  rw[this];exact vH (by rw[zB,zB];show bs.length+1<=_;omega)
 have a2:Xo (.lst Og) (.lst ((lkT es ls).map Ym))=some (.fr ((bs.map two++om++lkT es ls).map Ym)):=by
  rw[zO (l₂:=lkT es ls)];exact vH (by rw[zB,zB,zE,zB];show bs.length+1+_<=_;omega)
 have zz:=q5Q es ls;simp_arith[zz,WD kz,WD ke,inW,WJ,cm1,cm2,m1,m2,w,a1,a2,f2]
noncomputable def Y3(c:Int):Int:=if c<0 then -c else c
noncomputable def ewN(es:dB)(ls:ac)(F:dB):Int:=((es.zip ls).map λq=>Yo q.1*Y3 q.2).sum+2*(F.map Yo).sum
theorem qd7{h l:Int}{bs:bX}{es:dB}{ls:ac}(hb:iM)(le:Sh)(hls:∀x∈ls,-1000<=x/\x<=1000)(ok:Ok CM kZ)(he:∀e∈es,e.1∈es.map EU/\e.2.1∈es.map EU):
  ∃f:Int->Int,Tells CM kZ f/\qL acV=↥(.int (ewN es ls (Xd f pX).2)):=by
 obtain⟨f,f1,f2⟩:=q78 hb le ok he;refine PV;unfold qL q2a;have zl:(es.zip ls).length<=64:=by rw[yl];omega
 have kz:((es.zip ls).map zpD).length<=1000000:=by rw[zB];omega
 have kl:=(q0P f pX).length_le;rw[q8l]at kl;generalize (Xd f pX).2=F at f2 kl;have kF:(F.map egD).length<=1000000:=by rw[zB];omega
 have cm1:=qbG (c:=Y7) (f:=q24) De (λq=>D.int abO) Sg (ω:=MC) pS (λq hq=>⟨rfl,λ_=>by
  have c:=q4Y q.1;have bq:=hls _ (wN hq).2;have mu:zA7 (.int (Yo q.1)) ach=↥(.int abO):=q6N (by unfold Y3;split <;> omega) (by unfold Y3;split <;> omega);have ab:zBo [.int q.2]=↥ach:=rfl;unfold q24;simp_arith[c,ab,mu]⟩)
 rw[Iz]at cm1;have cm2:=qA (i:=0) (f:=q1L) egD (λe=>D.int (Yo e)) F (ω:=FZ) (λe _=>by
  have c:=q4Y e;unfold q1L;simp_arith[c])
 have s1:=q5M (λq:Eg×Int=>Yo q.1*Y3 q.2) Sg;have s2:=q5M Yo F;have zz:=q5Q es ls;have m2:∀x:Int,zA7 (.int 2) GU=↥(.int (2*x)):=λx=>qgr (by decide) (by decide);simp_arith[zz,WD kz,WD kF,inW,WJ,cm1,cm2,s1,s2,f2,m2];rfl
noncomputable def nxN(N k:Nat):Nat:=if k+1<N then k+1 else 0
noncomputable def egs(n:Int)(P:ac):List Eg:=(rnd P).map (egN n)
theorem qbP(P:ac):(rnd P).length=P.length:=by
 unfold rnd;rw[yl,zE,yN,zo];omega
theorem qbW{P:ac}{k:Nat}(hk:abB):(rnd P)[k]?=some (IS,CC):=by
 have:(P.drop 1++P.take 1)[k]?=some CC:=by
  unfold nxN
  by_cases z:k+1<P.length
  ·rw[gR,zd (by rw[yN];omega),xL,Nat.add_comm 1 k,zD z,q0g z]
  ·rw[gE,zZ (by rw[yN];omega),yN,show k-(P.length-1)=0 by omega,xA,vH (by decide),zD aac,q0g aac]
 unfold rnd;rw[yw];exact⟨by rw[zD hk,Pt],this⟩
theorem qef(P:ac):rnd P=(zY P.length).map λk=>(IS,CC):=by
 apply xB;intro k
 by_cases z:k<P.length
 ·rw[qbW z,zX,yn z];rfl
 ·rw[zx (by rw[qbP];omega),zx (by rw[zB,zh];omega)]
theorem qV(n:Int)(P:ac):(egs n P).map EU=P:=by
 unfold egs;rw[zi];show (rnd P).map Prod.fst=P;unfold rnd;rw[wI];rw[zE,yN,zo];omega
theorem q0a{n:Int}{P:ac}:∀e∈egs n P,e.1∈P/\e.2.1∈P:=λe he=>by
 unfold egs at he;rw[qef,zi]at he;obtain⟨k,hk,rfl⟩:=za.mp he;have hk':=yO.mp hk;have hx:nxN P.length k<P.length:=by unfold nxN;split <;> omega
 show P.getD k 0∈P/\P.getD gZ 0∈P;rw[q0g hk',q0g hx];exact⟨Vu,Vu⟩
theorem q39{n h l x:Int}{bs:bX}(hb:iM):-21<=Yl n h l bs x/\Yl n h l bs x<=21:=by
 have a:(rts n bs x).length<=bs.length:=xW _ _;have b:(lfs n bs x).length<=bs.length:=xW _ _;unfold Yl
 split <;> omega
theorem qhj{n a b w:Int}(hn:0<n)(hw:w=1\/w=-1):q04 [aY,cM,iz,e8]=↥(.int ((b-a)*w%n)):=by
 unfold q04 q6b;have mu:zA7 J3 e8=↥aaY:=q6N ∅ ∅;have mo:oMod aaY aY=↥(.int ((b-a)*w%n)):=q0s hn;simp_arith[mu,mo]
theorem qiU{n:Int}(hn:0<n){bs:bX}(hbs:∀b∈bs,b.2.2=1\/b.2.2=-1):
  Xn (gT 3 pM) Y7 q3t BI Sn=some (bs.map λb=>D.int (stN n b)):=by
 have:=q1j (g:=gT 3 pM) (c:=Y7) (f:=q3t) (λw=>∃a b c,w=[a,b,c,↥aY]) De tri (λb=>D.int (stN n b)) bs (ω:=Sn) nv λb hb w hw=>by
  obtain⟨x,y,z,rfl⟩:=hw;refine⟨_,rfl,nv,rfl,fJ⟩;have s:=qhj (a:=b.1) (b:=b.2.1) hn (hbs b hb);show q3t [↥Fg,↥Bt,↥K9,↥aY]=_;unfold q3t stN;simp_arith[s]
 rw[this,Iz]
noncomputable def Xw(S:Int)(w:cQ)(c:Int):D:=.tup [lQ,.int (S+w c)]
noncomputable def loT(B:ac):Int:=-1-W8 B
noncomputable def nT(B:ac):Nat:=(2-X7 B-loT B).toNat
theorem rngT{B:ac}(h0:B≠[])(hB:∀b∈B,-21<=b/\b<=21):(-22<=loT B/\loT B<=20)/\(-19<=2-X7 B/\2-X7 B<=23)/\nT B<=100/\0<nT B:=by
 have a:=hB _ (q1I h0).1;have b:=hB _ (q0Z h0).1;have c:=(q1I h0).2 _ (q0Z h0).1;unfold nT loT;omega
theorem qfT{n h l:Int}{bs:bX}(hn0:1<=n)(hn:n<=10^39)(hh:Mh)(hl:Mg)(hb:iM)(hbs:∀b∈bs,Bh/\oT/\gQ){P:ac}(eP:Y6 cw=P){w:cQ}(hw:∀c:Int,-200<=c->c<=200->qL [dA,dQ,ao,.lst TV,.lst (P.map λx=>D.int rP)]=↥(.int (w c))):
  q0u bU=some (.fr ((zY (nT (P.map nh))).map λk:Nat=>Xw (bs.map iQ).sum w (loT (P.map nh)+bh))):=by
 have re:=q8S hn0 hn hh hl hb hbs;have rl:=q5k (c:=0) hn0 hn hh hl hb hbs;have S:=stp h l (bs:=bs.map two) (by rw[zB];omega);rw[eP]at re rl S;have re':q00 bU=some (.fr TV):=re;have z0:(P.map λx=>D.int (0+Yl n h l bs x))=(P.map nh).map D.int:=by
  rw[zi];exact yI λx _=>by rw[ZB];rfl
 rw[z0]at rl;generalize hB:P.map nh=B at rl;have B0:B≠[]:=λe=>by rw[e]at hB;exact S.ne (xH.mp hB)
 have Bb:∀b∈B,-21<=b/\b<=21:=λb hb'=>by
  rw[<- hB]at hb';obtain⟨x,_,rfl⟩:=za.mp hb';exact q39 hb
 obtain⟨r1,r2,r3,_⟩:=rngT B0 Bb;have mx:=qji B0;have mn:=qdP B0;have lo:=qiU (n:=n) ∅ (bs:=bs) λb h=>(hbs b h).2.2;have sm:=q5M iQ bs;have kl:(bs.map tri).length<=1000000:=by rw[zB];omega
 have kB:(B.map D.int).length<=1000000:=by rw[zB,<- hB,zB];have:=S.len;omega
 generalize (bs.map iQ).sum=Z at sm;generalize hE:(egs n P).map egD=E at re' hw;obtain⟨ω',e,x8,x9,rfl⟩:=qR (g:=gN 8) (b:=q4I) (λk:Nat=>D.int fM) (zY rn)
  (λpre ω=>∃x8 x9:Option W,ω=[↥aY,↥dA,↥dQ,↥ao,↥(.lst E),QO,↥(.int Z),some (.ow (pre.map λk:Nat=>Xw Z w fM)),x8,x9])
  (λpre k post ω hd ⟨x8,x9,hω⟩=>by
   subst hω;refine db;have hk:k<nT B:=yO.mp (by rw[hd];simp);have pl:pre.length<nT B:=by
    have:=vn yZ hd;rw[zh,zE,zK]at this;omega
   generalize hc:loT B+bh=c;have W:=hw c ∅ ∅;have cm:=qA (i:=0) (f:=q6M) D.int T7 B (ω:=[none,↥lQ]) (λx _=>by
    unfold q6M;simp_arith[q07])
   have mm:B.map T7=P.map λx=>D.int rP:=by rw[<- hB,zi];rfl
   rw[mm]at cm;have as:(pre.map λk:Nat=>Xw Z w fM).length<1000000:=by rw[zB];omega
   show W2 (q4I [_,_,_,_,_,_,_,_,↥lQ,_]) _;unfold q4I;simp_arith[WD kB,inW,WJ,cm,W,zBW as];exact⟨_,_,by rw[zO,Zp,hc];rfl⟩)
  (ω:=[↥aY,↥dA,↥dQ,↥ao,↥(.lst E),QO,↥(.int Z),pU,none,none]) ⟨none,none,rfl⟩
 have up:upTo (loT B) rn=(zY rn).map λk:Nat=>D.int fM:=rfl;have rg:rg2I (some [.int (-1-W8 B),.int (2-X7 B)])=some (upTo (loT B) rn):=qkJ ⟨by unfold loT at r1;omega,by unfold loT at r1;omega⟩ DO;unfold q0u q7Q;simp_arith[re',rl,WD kl,inW,WJ,lo,sm,mx,mn,rg,up,e]
theorem qeX{n h l:Int}{bs:bX}{ks:cH}{f:U6}{Z:Int}{v:cQ}(k0:ks≠[])(kl:ks.length<=1000)(ht:q0u bU=some (.fr (ks.map λk=>Xw Z v (f k)))):
  q0o bU=↥(.int (X7 (ks.map λk=>Z+v (f k)))):=by
 unfold q0o q3l;have kk:(ks.map λk=>Xw Z v (f k)).length<=1000000:=by rw[zB];omega
 have cm:=q1j (g:=gT 2 fY) (c:=Y7) (f:=q57) (λw=>∃a b,w=rG) De (λk=>Xw Z v (f k)) Ov ks (ω:=MC) pS λk _ w hw=>by
  obtain⟨a,b,rfl⟩:=hw;exact S9
 rw[Iz]at cm;have mm:ks.map Ov=(ks.map λk=>Z+v (f k)).map D.int:=by rw[zi];rfl
 rw[mm]at cm;have mn:=qdP (ns:=ks.map λk=>Z+v (f k)) λe=>k0 OC;simp_arith[ht,WD kk,inW,WJ,cm,mn]
theorem Rch.one{X:ah}{p q x y:Int}(r:Rch (X++[(p,q)]) x y):Rch X x y\/(Rch X x p/\Rch X q y)\/(Rch X x q/\Rch X p y):=by
 induction r with
 | refl=>exact .inl .refl
 | @step b c _ e ih=>
  have e':((b,c)∈X\/(c,b)∈X)\/(b=p/\c=q)\/(b=q/\c=p):=by
   rcases e with e|e
   ·rcases zR.mp e with e|e
    ·exact .inl Vg
    ·have:=zV.mp e;simp only[Prod.mk.injEq]at this;exact .inr (.inl this)
   ·rcases zR.mp e with e|e
    ·exact .inl (.inr e)
    ·have:=zV.mp e;simp only[Prod.mk.injEq]at this;exact .inr (.inr ⟨this.2,this.1⟩)
  rcases e' with e'|⟨rfl,rfl⟩|⟨rfl,rfl⟩
  ·rcases ih with h|⟨h1,h2⟩|⟨h1,h2⟩
   ·exact .inl (h.step e')
   ·exact .inr (.inl Vm)
   ·exact .inr (.inr Vm)
  ·rcases ih with h|⟨h1,h2⟩|⟨h1,h2⟩
   ·exact .inr (.inl ⟨h,.refl⟩)
   ·exact .inr (.inl ⟨h1,.refl⟩)
   ·exact .inl h1
  ·rcases ih with h|⟨h1,h2⟩|⟨h1,h2⟩
   ·exact .inr (.inr ⟨h,.refl⟩)
   ·exact .inl h1
   ·exact .inr (.inr ⟨h1,.refl⟩)
theorem Rch.sub{X Y:ah}(h:∀e∈X,Rch Y e.1 e.2){x y:Int}(r:Rch X x y):Rch Y x y:=by
 induction r with
 | refl=>exact .refl
 | step _ e ih=>
  rcases e with e|e
  ·exact ih.trans (h _ e)
  ·exact ih.trans (h _ e).symm
theorem Rch.of{X:ah}{p q:Int}(h:(p,q)∈X):Rch X p q:=Rch.refl.step SO
theorem qbj{a b:Int}:∀(C:dB)(T:ah),¬Rch T a b->Rch (T++C.map Xe) a b->∃C1 c C2,C=C1++c::C2/\¬Rch ac0 a b/\Rch (T++C1.map Xe++[Xe c]) a b
 | [],T,h,r=>vN ⇑r h
 | c::C,T,h,r=>by
  by_cases z:Rch (T++[Xe c]) a b
  ·exact⟨[],c,C,rfl,by simpa using h,by simpa using z⟩
  ·obtain⟨C1,d,C2,e,h1,h2⟩:=qbj C (T++[Xe c]) z ⇑r
   exact⟨c::C1,d,C2,by rw[e];rfl,by simpa using h1,by simpa using h2⟩
noncomputable def kru(f:cQ):List Eg->Int
 | []=>0
 | e::es=>if f e.1=f e.2.1 then kru f es else Yo e+kru jJ es
theorem q83:∀(es:dB)(f:cQ)(acc:dB),((es.foldl XJ nN).2.map Yo).sum=(acc.map Yo).sum+kru f es
 | [],f,acc=>by show _=_+A7;rw[Z3];rfl
 | e::es,f,acc=>by
  show ((es.foldl XJ (XJ nN e)).2.map Yo).sum=_+(if f e.1=f e.2.1 then kru f es else Yo e+kru jJ es)
  by_cases z:f e.1=f e.2.1
  ·have a:XJ nN e=nN:=vH z
   rw[a,gR,q83 es]
  ·have a:XJ nN e=(jJ,acc++[e]):=vJ z
   rw[a,gE,q83 es,zO,yH,Zp,List.sum_singleton,Int.add_assoc]
theorem q69:∀{C:dB},(∀c∈C,0<=Yo c)->0<=(C.map Yo).sum
 | [],_=>yh _
 | c::C,h0=>by rw[zL,zk];have:=h0 c zG;have:=q69 λx hx=>h0 x iP;omega
theorem kmin{ts:ac}:∀(es:dB),es.Pairwise (λa b=>Yo a<=Yo b)->∀(f:cQ)(T:ah)(C:dB),Tells ts T f->(∀e∈T,e.1∈ts/\e.2∈ts)->(∀e∈es,e.1∈ts/\e.2.1∈ts)->(∀c∈C,0<=Yo c) ->
  (∀c∈C,Rch (T++(es.filter λx=>decide (Yo x<=Yo c)).map Xe) c.1 c.2.1)->(∀e∈es,Rch (T++C.map Xe) e.1 e.2.1)->kru f es<=(C.map Yo).sum
 | [],_,f,T,C,_,_,_,h0,_,_=>by
  show A7<=_;exact q69 h0
 | e::es,so,f,T,C,hf,hT,he,h0,hD,hc=>by
  obtain⟨s1,s2⟩:=zm.mp so;have ⟨m1,m2⟩:=he e zG;have he':∀x∈es,x.1∈ts/\x.2.1∈ts:=λx hx=>he x iP;show (if f e.1=f e.2.1 then kru f es else Yo e+kru jJ es)<=_
  by_cases z:f e.1=f e.2.1
  ·rw[gR]
   refine kmin es s2 f T C hf hT he' h0 (λc hcc=>?_) λx hx=>hc x iP;refine(hD c hcc).sub λx hx=>?_;rcases zR.mp hx with m|m
   ·exact .of MW
   ·obtain⟨y,hy,rfl⟩:=za.mp m
    obtain⟨y1,y2⟩:=yM.mp hy;rcases zI.mp y1 with rfl|y1
    ·exact((hf _ m1 _ m2).mp z).mono λw hw=>zM _ hw
    ·exact .of (zJ _ N2)
  ·rw[gE]
   have nr:¬Rch T e.1 e.2.1:=λr=>z ((hf _ m1 _ m2).mpr r);obtain⟨C1,c,C2,eC,n1,r1⟩:=qbj C T nr (hc e zG);have hcC:c∈C:=by rw[eC];simp
   have le:Yo e<=Yo c:=by
    by_cases q:Yo e<=Yo c
    ·exact q
    ·exfalso
     have fe:((e::es).filter λx=>decide (Yo x<=Yo c))=[]:=xS.mpr λx hx=>by
      rcases zI.mp hx with rfl|hx
      ·simpa using q
      ·have:=s1 x hx
       simp only[decide_eq_true_eq];omega
     have:=hD c hcC;rw[fe,yU,zn]at this;refine n1 (r1.sub λx hx=>?_);rcases zR.mp hx with m|m
     ·exact .of m
     ·rw[P7]
      exact this.mono λw hw=>zM _ hw
   have rc:Rch AT c.1 c.2.1:=by
    have up:∀{x y:Int},Rch ac0 x y->Rch AT x y:=λr=>r.mono λw hw=>by
     rcases zR.mp hw with m|m
     ·exact zM _ MW
     ·exact zJ _ m
    have ee:Rch AT e.1 e.2.1:=.of (by simp);rcases r1.one with h|⟨h1,h2⟩|⟨h1,h2⟩
    ·exact vN h n1
    ·exact((up h1).symm.trans ee).trans (up h2).symm
    ·exact((up h2).trans ee.symm).trans (up h1)
   have ih:=kmin es s2 jJ (T++[Lr]) (C1++C2) (hf.join hT m1 m2) (λx hx=>by
     rcases zR.mp hx with m|m
     ·exact hT x m
     ·rw[P7];exact⟨m1,m2⟩) he' (λx hx=>h0 x (by
     rw[eC];rcases zR.mp hx with m|m
     ·exact zM _ m
     ·exact zJ _ (zH _ m))) (λx hx=>by
     have xC:x∈C:=by
      rw[eC];rcases zR.mp hx with m|m
      ·exact zM _ m
      ·exact zJ _ (zH _ m)
     refine(hD x xC).mono λw hw=>?_;rcases zR.mp hw with m|m
     ·exact zM _ MW
     ·obtain⟨y,hy,rfl⟩:=za.mp m
      obtain⟨y1,y2⟩:=yM.mp hy;rcases zI.mp y1 with rfl|y1
      ·exact zM _ Vr
      ·exact zJ _ N2) (λx hx=>by
     refine(hc x iP).sub λw hw=>?_;rcases zR.mp hw with m|m
     ·exact .of (zM _ MW)
     ·obtain⟨y,hy,rfl⟩:=za.mp m
      rw[eC]at hy;rcases zR.mp hy with k|k
      ·exact .of (zJ _ (zy (zM _ k)))
      ·rcases zI.mp k with rfl|k
       ·refine rc.mono λw hw=>?_
        rcases zR.mp hw with m|m
        ·exact zM _ m
        ·rw[zO];exact zJ _ MW
       ·exact .of (zJ _ (zy (zJ _ k))))
   have su:(C.map Yo).sum=Yo c+((C1++C2).map Yo).sum:=by
    rw[eC,zO,yH,zL,zk,zO,yH];omega
   omega
structure Ms (T:List (Int×Int)) (es:List Eg) (m:Int):Prop where
 ex:∃C:List Eg,(∀c∈C,c∈es)/\C.Nodup/\(∀e∈es,Rch (T++C.map Xe) e.1 e.2.1)/\(C.map Yo).sum=m
 lo:∀C:List Eg,(∀c∈C,c∈es)->(∀e∈es,Rch (T++C.map Xe) e.1 e.2.1)->m<=(C.map Yo).sum
theorem zBK{ts:ac}:∀(es:dB)(f:cQ)(T:ah)(acc:dB),Tells ts (T++acc.map Xe) f->(∀e∈T,e.1∈ts/\e.2∈ts)->(∀e∈acc,e.1∈ts/\e.2.1∈ts)->(∀e∈es,e.1∈ts/\e.2.1∈ts)->∀e∈es,Rch (T++(es.foldl XJ nN).2.map Xe) e.1 e.2.1
 | [],_,_,_,_,_,_,_=>λe he=>by simp at he
 | e::es,f,T,acc,hf,hT,ha,he=>by
  have ⟨m1,m2⟩:=he e zG;have he':∀x∈es,x.1∈ts/\x.2.1∈ts:=λx hx=>he x iP;have inn:∀x∈T++acc.map Xe,x.1∈ts/\x.2∈ts:=λx hx=>by
   rcases zR.mp hx with m|m
   ·exact hT x m
   ·obtain⟨y,hy,rfl⟩:=za.mp m;exact ha y hy
  have keep:∀(es:dB)(g:cQ)(acc:dB),∀x∈acc,x∈(es.foldl XJ (g,acc)).2:=λes=>by
   induction es with
   | nil=>exact λg acc x hx=>hx
   | cons d es ih=>
    intro g acc x hx;show x∈(es.foldl XJ (XJ (g,acc) d)).2;unfold XJ
    split
    ·exact ih g acc x hx
    ·exact ih _ _ x (zM _ hx)
  intro x hx;show Rch (T++(es.foldl XJ (XJ nN e)).2.map Xe) x.1 x.2.1
  by_cases z:f e.1=f e.2.1
  ·have a:XJ nN e=nN:=vH z
   rw[a];rcases zI.mp hx with rfl|hx
   ·refine((hf _ m1 _ m2).mp z).mono λw hw=>?_
    rcases zR.mp hw with m|m
    ·exact zM _ m
    ·obtain⟨y,hy,rfl⟩:=za.mp m
     exact zJ _ (zy (keep es f acc y hy))
   ·exact zBK es f T acc hf hT ha he' x hx
  ·have a:XJ nN e=(jJ,acc++[e]):=vJ z
   rw[a];rcases zI.mp hx with rfl|hx
   ·exact .of (zJ _ (zy (f:=Xe) (keep es _ _ x (by simp))))
   ·refine zBK es _ T (acc++[e]) ?_ hT Iv he' x hx
    ·rw[zO,<- yB];exact hf.join inn m1 m2
    ·rcases zR.mp hy with m|m
     ·exact ha y m
     ·rw[P7];exact⟨m1,m2⟩
theorem qig{ts:ac}{T:ah}{f:cQ}{es:dB}(nd:es.Nodup)(hf:Tells ts T f)(hT:∀e∈T,e.1∈ts/\e.2∈ts)(he:∀e∈es,e.1∈ts/\e.2.1∈ts)(h0:∀e∈es,0<=Yo e):Ms T es ((Xd f pX).2.map Yo).sum:=by
 have pm:=qK (f:=Yo) (l:=es);have he':∀e∈Yt Yo es,e.1∈ts/\e.2.1∈ts:=λe h=>he e JI;refine⟨⟨(Xd f pX).2,λc hc=>pm.mem_iff.mp ((q0P f _).subset hc),(pm.nodup_iff.mpr nd).sublist (q0P f _),λe h=>?_,rfl⟩,λC hC hc=>?_⟩
 ·have:=zBK pX f T [] (by rw[yU,zn];exact hf) hT (by simp) he' e (pm.mem_iff.mpr h)
  exact this
 ·have:=q83 pX f []
  unfold Xd;rw[this,yU,wB,ZB];refine kmin (ts:=ts) _ q4X f T C hf hT he' (λc h=>h0 c (hC c h)) (λc h=>?_) (λe h=>hc e JI);exact .of (zJ _ (zy (f:=Xe) (yM.mpr ⟨pm.mem_iff.mpr (hC c h),by simp⟩)))
theorem dd{n x s:Int}(hx:0<=x/\x<n)(hs:0<=s/\s<n):((x-s)%n=x-s/\s<=x)\/((x-s)%n=x-s+n/\x<s):=by
 rw[qfD hx hs]
 by_cases z:s<=x
 ·rw[gR];exact .inl ⟨rfl,z⟩
 ·rw[gE];exact .inr ⟨rfl,∅⟩
def Sc(n:Int)(P:ac)(x y:Int):Prop:=x∈P/\y∈P/\∀z∈P,z≠x->y≠x/\(y-x)%n<=(z-x)%n
def InR(n:Int)(P:ac):Prop:=∀p∈P,0<=p/\p<n
theorem Sc.uniq{n:Int}{P:ac}(hn:SG){x y y':Int}(h:Sc n P x y)(h':Sc n P x y'):y=y':=by
 obtain⟨hx,hy,a⟩:=h;obtain⟨_,hy',b⟩:=h'
 by_cases z:y=x
 ·by_cases z':y'=x
  ·rw[z,z']
  ·exact vN z (a y' hy' z').1
 ·have b':=(b y hy z)
  have a':=(a y' hy' b'.1);have d1:=dd (hn y hy) KP;have d2:=dd (hn y' hy') KP;have:=hn x hx;have:=hn y hy;have:=hn y' hy';omega
theorem q5n{P:ac}(hP:P.Pairwise (· < ·)){n:Int}(hn:SG){k:Nat}(hk:abB):Sc n P IS CC:=by
 have hx:nxN P.length k<P.length:=by unfold nxN;split <;> omega
 rw[Pt,q0g hx];refine⟨Vu,Vu,λz hz ne=>?_⟩;obtain⟨j,hj,rfl⟩:=z8.mp hz;have jk:j≠k:=λq=>by subst q;exact ne rfl
 have up:∀{a b:Nat}(ha:a<P.length)(hb:b<P.length),a<b->P[a]<P[b]:=λha hb h=>yv.mp hP _ _ ha hb h;have b1:=hn _ (yC hk);have b2:=hn _ (yC hx);have b3:=hn _ (yC hj);have d1:=dd b2 b1;have d2:=dd b3 b1
 by_cases z:k+1<P.length
 ·have e:nxN P.length k=k+1:=vH z
  have lt:P[k]<P[gZ]:=up hk hx ∅;rcases Nat.lt_or_gt_of_ne jk with q|q
  ·have:=up hj hk q;omega
  ·rcases yD j (k+1)with r|r
   ·omega
   ·rcases wZ r with r|r
    ·have:P[gZ]=P[j]:=by congr 1;omega
     omega
    ·have:=up hx hj ∅;omega
 ·have e:nxN P.length k=0:=vJ z
  have q:j<k:=∅
  have:=up hj hk q;have lt:P[gZ]<P[k]:=up hx hk ∅;rcases Zj j with r|r
  ·have:P[gZ]=P[j]:=by congr 1;omega
   omega
  ·have:=up hx hj ∅;omega
theorem q4t{P:ac}(hP:P.Pairwise (· < ·)){n:Int}(hn:SG){e:Eg}:e∈egs n P↔Sc n P e.1 e.2.1/\e.2.2=glN n Lr:=by
 unfold egs;rw[qef,zi,za]
 constructor
 ·rintro⟨k,hk,rfl⟩
  exact⟨q5n hP hn (yO.mp hk),rfl⟩
 ·rintro⟨h1,h2⟩
  obtain⟨k,hk,ek⟩:=z8.mp h1.1;have s:=q5n hP hn hk;rw[Pt,ek]at s;refine⟨k,yO.mpr hk,?_⟩;have u:=Sc.uniq hn h1 s;show ((IS,CC,glN n (IS,CC)):Eg)=e;rw[Pt,ek,<- u];obtain⟨a,b,c⟩:=e;show (a,b,glN n (a,b))=(a,b,c);rw[show c=glN n (a,b)from h2]
theorem qjH{P:ac}(hP:P.Pairwise (· < ·))(n:Int):(egs n P).Nodup:=by
 have h:((egs n P).map λe=>e.1).Nodup:=by rw[qV];exact hP.imp λq=>∅
 exact(wg.mp h).imp λq r=>q (by rw[r])
theorem qao{P:ac}{n:Int}(hn:0<n):∀e∈egs n P,0<=Yo e:=λe he=>by
 unfold egs at he;obtain⟨p,_,rfl⟩:=za.mp he;show 0<=glN n p;unfold glN
 split
 ·omega
 ·exact wO _ ∅
theorem qkF{P:ac}(hP:P.Pairwise (· < ·)){n:Int}(hn:SG){p:Int}(hp:p∈P):∃a,Sc n P a p:=by
 obtain⟨k,hk,rfl⟩:=z8.mp hp
 by_cases z:k=0
 ·subst z
  have s:=q5n hP hn (k:=P.length-1) ∅;have:nxN P.length (P.length-1)=0:=vJ ∅;rw[this,Pt]at s;exact⟨_,s⟩
 ·have s:=q5n hP hn (k:=k-1) ∅
  have:nxN P.length (k-1)=k:=by unfold nxN;rw[J9];omega
  rw[this,Pt]at s;exact⟨_,s⟩
theorem qiy{P:ac}(hP:P.Pairwise (· < ·)){n:Int}(hn:SG){p:Int}(hp:p∈P):∃b,Sc n P p b:=by
 obtain⟨k,hk,rfl⟩:=z8.mp hp;have s:=q5n hP hn hk;rw[Pt]at s;exact⟨_,s⟩
def Wv(Z:Int)(T:ah)(E:dB)(a:rK)(w:Int):Prop :=
 ∃m,Ms (T++(E.filter λe=>a e != 0).map Xe) E m/\w=Z+(E.map λe=>Yo e*Y3 (a e)).sum+2*m
theorem Rch.img{X Y:ah}(ρ:cQ)(h:∀t∈X,Rch Y (ρ t.1) (ρ t.2)){x y:Int}(r:Rch X x y):Rch Y (ρ x) (ρ y):=by
 induction r with
 | refl=>exact .refl
 | step _ e ih=>
  rcases e with e|e
  ·exact ih.trans (h _ e)
  ·exact ih.trans (h _ e).symm
theorem q4R{α:Type}{f:mY}{l m:bJ}(p:l.Perm m):(l.map f).sum=(m.map f).sum:=by
 induction p with
 | nil=>rfl
 | cons x _ ih=>rw[zL,zL,zk,zk,ih]
 | swap x y l=>simp only[zL,zk];omega
 | trans _ _ a b=>exact a.trans b
theorem qkc{a b:Int}(h:Y3 a=Y3 b):(a != 0)=(b != 0):=by
 unfold Y3 at h
 by_cases z:a=0 <;> by_cases z':b=0
 ·rw[z,z']
 ·split at h <;> split at h <;> omega
 ·split at h <;> split at h <;> omega
 ·rw[bne_iff_ne.mpr z,bne_iff_ne.mpr z']
theorem qkX{Z w w':Int}{T T':ah}{E E':dB}{a a':rK}(h:Sw)(h':Wv Z T' E' a' w')(φ:Eg->Eg)(ρ:cQ)(pm:E'.Perm (E.map φ))(co:∀e∈E,Yo (φ e)=Yo e)(ab:∀e∈E,Y3 (a' (φ e))=Y3 (a e))(ti:∀e∈E,Xe (φ e)=(aad,P2)\/Xe (φ e)=(P2,aad))(kn:∀t∈T,Rch T' (ρ t.1) (ρ t.2)):w'<=w:=by
 obtain⟨m,⟨⟨C,c1,_,c3,c4⟩,_⟩,rfl⟩:=h;obtain⟨m',⟨_,lo⟩,rfl⟩:=h';have su:(E'.map λe=>Yo e*Y3 (a' e)).sum=(E.map λe=>Yo e*Y3 (a e)).sum:=by
  rw[q4R pm,zi]
  congr 1
  exact yI λe he=>by show Yo (φ e)*Y3 (a' (φ e))=_;rw[co e he,ab e he]
 have mem:∀e∈E,φ e∈E':=λe he=>pm.mem_iff.mpr (zy he);have tr:∀{Y:ah}(e:Eg),e∈E->Xe (φ e)∈Y->Rch Y aad P2:=λe he hy=>by
  rcases ti e he with q|q
  ·rw[q]at hy;exact .of hy
  ·rw[q]at hy;exact(Rch.of hy).symm
 have key:∀e∈E,Rch (T'++(E'.filter λe=>a' e != 0).map Xe++(C.map φ).map Xe) aad P2:=λe he=>(c3 e he).img ρ λt ht=>by
  rcases zR.mp ht with ht|ht
  ·rcases zR.mp ht with ht|ht
   ·exact(kn t ht).mono λx hx=>zM _ (zM _ hx)
   ·obtain⟨d,hd,rfl⟩:=za.mp ht
    obtain⟨d1,d2⟩:=yM.mp hd;refine tr d d1 (zM _ (zJ _ (zy (yM.mpr ⟨mem d d1,?_⟩))));rw[qkc (ab d d1)];exact d2
  ·obtain⟨d,hd,rfl⟩:=za.mp ht
   exact tr d (c1 d hd) (zJ _ (zy (zy hd)))
 have lo':=lo (C.map φ) (λc hc=>by obtain⟨d,hd,rfl⟩:=za.mp hc;exact mem d (c1 d hd)) λe he=>by
  obtain⟨d,hd,rfl⟩:=za.mp (pm.mem_iff.mp he);have k:=key d hd;rcases ti d hd with q|q
  ·rw[show (φ d).1=ρ d.1 from vn Prod.fst q,show (φ d).2.1=ρ d.2.1 from vn Prod.snd q];exact k
  ·rw[show (φ d).1=ρ d.2.1 from vn Prod.fst q,show (φ d).2.1=ρ d.1 from vn Prod.snd q];exact k.symm
 have cs:((C.map φ).map Yo).sum=(C.map Yo).sum:=by
  rw[zi]
  congr 1
  exact yI λc hc=>co c (c1 c hc)
 rw[su];omega
theorem q0D{n:Int}(h:0<n)(a:Int):0<=a%n/\a%n<n:=⟨wO a ∅,Zo a h⟩
theorem ad3{n:Int}(h:0<n)(s x y:Int):(y-s)%n=(x-s)%n+(y-x)%n\/(y-s)%n=(x-s)%n+(y-x)%n-n:=by
 have e:(y-s)%n=((x-s)%n+(y-x)%n)%n:=by rw[<- Int.add_emod];congr 1;omega
 have a:=q0D h (x-s);have b:=q0D h (y-x);generalize (x-s)%n=u at *;generalize (y-x)%n=v at *
 by_cases z:u+v<n
 ·exact .inl (e.trans (wA ∅ z))
 ·refine .inr (e.trans ?_)
  rw[show u+v=(u+v-n)+n*1 by omega,Int.add_mul_emod_self_left,wA ∅ ∅];omega
theorem em0{n x s:Int}(hx:0<=x/\x<n)(hs:0<=s/\s<n)(h:(x-s)%n=0):x=s:=by
 have:=dd hx hs;omega
theorem ss0(n s:Int):(s-s)%n=0:=by rw[ZC,Int.zero_emod]
theorem qcm{A B C n:Int}(c:B=A+C\/B=A+C-n)(h:A<=B)(r:C<n):B=A+C:=∅
theorem qkL{n x y:Int}(h:x≠y):glN n (x,y)=(y-x)%n:=vJ h
theorem qkZ{n x:Int}:glN n (x,x)=n:=vH rfl
theorem qil{n:Int}{Q:ac}(hQ:Q.Pairwise (· < ·))(hn:Pb){s g:Int}(hs:s∈Q)(hg:g∈Q){X:ah}(hX:∀e∈egs n Q,goN n s g e.1=true->Rch X e.1 e.2.1):Rch X s g:=by
 have n0:0<n:=by have:=hn s hs;omega
 have key:∀(k:Nat)(x:Int),x∈Q->((g-x)%n).toNat<=k->(x-s)%n<=(g-s)%n->Rch X x g:=λk=>by
  induction k with
  | zero=>
   intro x hx hk hw;have r:=q0D n0 (g-x);rw[em0 abD KP ∅];exact .refl
  | succ k ih=>
   intro x hx hk hw
   by_cases z:x=g
   ·rw[z];exact .refl
   ·obtain⟨y,sy⟩:=qiy hQ hn hx
    have a:=sy.2.2 g hg λr=>z r.symm;have v0:(g-x)%n≠0:=λq=>z (em0 abD KP q).symm;have y0:(y-x)%n≠0:=λq=>a.1 (em0 (hn y sy.2.1) KP q);have b1:=qcm (ad3 n0 s x g) hw (q0D n0 (g-x)).2;have b2:=qcm (ad3 n0 x y g) a.2 (q0D n0 (g-y)).2;have c3:=ad3 n0 s y g;have r1:=(q0D n0 (x-s)).1;have r3:=(q0D n0 (g-x)).1;have r4:=(q0D n0 (y-x)).1;have r5:=(q0D n0 (g-y)).1;have r6:=(q0D n0 (y-s)).2;have r:=hX (x,y,glN n (x,y)) ((q4t hQ hn).mpr ⟨sy,rfl⟩);have ih':=ih y sy.2.1;unfold goN at r;clear ih hX a hw;generalize (x-s)%n=A at *;generalize (g-s)%n=B at *;generalize (g-x)%n=C at *;generalize (y-x)%n=D' at *;generalize (g-y)%n=F at *;generalize (y-s)%n=G at *;have lt:A<B:=by clear c3;omega
    have k1:F.toNat<=k:=by clear c3;omega
    have gb:G<=B:=by
     clear hk k1;rcases c3 with c3|c3 <;> omega
    exact(r (vO lt)).trans (ih' k1 gb)
 refine key _ s hs cP ?_;rw[ss0];exact(q0D n0 _).1
theorem qas{α β γ:Type}(f:Th)(g:α->γ):∀l:List α,(l.map f).zip Pu=l.map λa=>(f a,g a)
 | []=>rfl
 | a::l=>by rw[zL,zL,List.zip_cons_cons,qas f g l];rfl
theorem qf5{α:Type}{f g:mY}:∀{l:bJ},(∀x∈l,f x<=g x)->(l.map f).sum<=(l.map g).sum
 | [],_=>yh _
 | x::l,h=>by
  rw[zL,zL,zk,zk];have:=h x zG;have:=qf5 (l:=l) λy hy=>h y abe;omega
theorem qeb{n h l x:Int}{bs:bX}{b:ag}(hw:gQ):Yl n h l (b::bs) x=Yl n h l bs x+(if b.2.2=1 then (if goN n b.1 b.2.1 x=true then -1 else 0)else (if goN n b.2.1 b.1 x=true then 1 else 0)):=by
 unfold Yl rts lfs;rw[yY,yY];rcases hw with w|w
 ·have e1:Lu=goN n b.1 b.2.1 x:=by rw[w];rfl
  have e2:JO=false:=by rw[w];rfl
  rw[e1,e2,vH w];cases goN n b.1 b.2.1 x
  ·simp
  ·simp only[if_true,zK,yG,if_false];omega
 ·have e1:Lu=false:=by rw[w];rfl
  have e2:JO=goN n b.2.1 b.1 x:=by rw[w];rfl
  rw[e1,e2,vJ (show ¬b.2.2=1 by rw[w];decide)];cases goN n b.2.1 b.1 x
  ·simp
  ·simp only[if_true,zK,yG,if_false];omega
noncomputable def St(h l:Int)(bs:bX):List Int:=Y6 cw
def WR(n h l:Int)(bs:bX)(c w:Int):Prop:=Wv (bs.map iQ).sum (bs.map two++om) bO aU w
structure RgO (n h l:Int) (bs:List (Int×Int×Int)):Prop where
 n1:1<=n
 n9:n<=10^39
 hh:0<=h/\h<n
 hl:0<=l/\l<n
 lb:bs.length<=20
 hb:∀b∈bs,(0<=b.1/\b.1<n)/\(0<=b.2.1/\b.2.1<n)/\(b.2.2=1\/b.2.2=-1)
theorem q0M{x h l:Int}{bs:bX}:x∈St h l bs↔x=h\/x=l\/∃b∈bs,x=b.1\/x=b.2.1:=by
 unfold St;rw[q3O];unfold plc;rw[zI,zI];refine or_congr_right (or_congr_right ⟨qje,?_⟩);rintro⟨b,hb,rfl|rfl⟩
 ·exact(qcp hb).1
 ·exact(qcp hb).2
section
variable{n h l:Int}{bs:List (Int×Int×Int)}(O:RgO n h l bs)
include O
theorem RgO.up:(St h l bs).Pairwise (· < ·):=q1i
theorem RgO.inr:InR n aq:=λp hp=>by
 rcases q0M.mp hp with rfl|rfl|⟨b,hb,rfl|rfl⟩
 ·exact O.hh
 ·exact O.hl
 ·exact(O.hb b hb).1
 ·exact(O.hb b hb).2.1
theorem RgO.len:(St h l bs).length<64:=by
 have a:(Y6 cw).length<=(plc h l oJ).length:=q3N _;have b:(plc h l oJ).length=2*bs.length+2:=by show (flat oJ).length+1+1=_;rw[q4U,zB]
 have:=O.lb;show (Y6 cw).length<64;omega
theorem RgO.bin:∀b∈bs,b.1∈St h l bs/\b.2.1∈St h l bs:=λb hb=>⟨q0M.mpr (.inr (.inr ⟨b,hb,bT⟩)),q0M.mpr (.inr (.inr ⟨b,hb,Ml⟩))⟩
end
theorem zipE{P:ac}{n:Int}(F:cQ):(egs n P).zip ab1=(egs n P).map λe=>(e,F e.1):=by
 have e:P.map F=(egs n P).map λe=>F e.1:=by
  conv=>lhs;rw[<- qV n P]
  rw[zi];rfl
 have z:=qas (λe:Eg=>e) (λe=>F e.1) abH;rw[List.map_id']at z;rw[e,z]
theorem qhl{P:ac}{n:Int}(F:cQ):lkT abH ab1=((egs n P).filter λe=>F e.1 != 0).map Xe:=by
 unfold lkT;rw[zipE,List.filter_map,zi];rfl
theorem qkQ{P:ac}{n:Int}(F:cQ)(K:dB):ewN abH ab1 K=((egs n P).map λe=>Yo e*Y3 (F e.1)).sum+2*(K.map Yo).sum:=by
 unfold ewN;rw[zipE,zi];rfl
theorem ok_Q{n h l:Int}{bs:bX}{Q:ac}(hQ:Q.Pairwise (· < ·))(hl:Q.length<64)(lb:iM)(mh:h∈Q)(ml:l∈Q)(mb:∀b∈bs,b.1∈Q/\b.2.1∈Q)(c:Int):Ok Q (bs.map two++om++((egs n Q).filter λe=>Yl n h l bs e.1+c != 0).map Xe):=by
 have el:(egs n Q).length=Q.length:=by have:=vn yZ (qV n Q);rwa [zB]at this
 refine⟨hQ.imp λq=>∅,λe m=>?_,hl,?_⟩
 ·rcases zR.mp m with m|m
  ·rcases zR.mp m with m|m
   ·obtain⟨b,hb',rfl⟩:=za.mp m
    exact mb b hb'
   ·rw[P7];exact⟨mh,ml⟩
  ·obtain⟨q,hq,rfl⟩:=za.mp m
   exact q0a q (yM.mp hq).1
 ·have a:=xW (λe:Eg=>Yl n h l bs e.1+c != 0) (egs n Q)
  rw[zE,zE,zB,zB];show bs.length+1+_<=1000;omega
section
variable{n h l:Int}{bs:List (Int×Int×Int)}(O:RgO n h l bs)
include O
theorem RgO.ok(c:Int):Ok aq (bs.map two++om++((egs n aq).filter λe=>Yl n h l bs e.1+c != 0).map Xe):=ok_Q O.up O.len O.lb (q0M.mpr bT) Tq O.bin c
theorem RgO.wv(c:Int){f:cQ}(hf:Tells aq (bs.map two++om++((egs n aq).filter λe=>Yl n h l bs e.1+c != 0).map Xe) f):
  WR n h l bs c ((bs.map iQ).sum+(((egs n aq).map λe=>Yo e*Y3 bA).sum+2*((Xd f jh).2.map Yo).sum)) :=
 ⟨_,qig (qjH O.up n) hf (O.ok c).inn q0a (qao (by have:=O.n1;omega)),(Int.add_assoc _ _ _).symm⟩
theorem RgO.ex(c:Int):∃w,WR n h l bs c w:=by
 obtain⟨_,_,f,_,_,_,_,_,hf⟩:=q9q (O.ok c);exact⟨_,O.wv c hf⟩
theorem RgO.weight(c:Int)(hc:-200<=c/\c<=200):∃w,qL eT=↥e8/\WR n h l bs c TW:=by
 have el:(egs n aq).length=(St h l bs).length:=by have:=vn yZ Q3;rwa [zB]at this
 have k:=O.ok c;have lk:=qhl (P:=St h l bs) (n:=n) λx=>Yl n h l bs x+c;rw[<- lk]at k;rw[<- qV n aq]at k;rw[Q3]at k;obtain⟨f,f1,f2⟩:=qd7 (es:=egs n aq) (ls:=(St h l bs).map λx=>Yl n h l bs x+c) O.lb (by rw[el];exact O.len) (λx hx=>by
  obtain⟨y,_,rfl⟩:=za.mp hx;have:=q39 (n:=n) (h:=h) (l:=l) (x:=y) O.lb;omega) (by rw[qV];exact k) (λe m=>by rw[qV];exact q0a e m)
 rw[qV,lk]at f1;rw[zi,qkQ]at f2;exact⟨_,f2,O.wv c f1⟩
end
theorem qeE{Z w w':Int}{T:ah}{E:dB}{a a':rK}(v:Sw)(v':Wv Z T E a' w')(nn:∀e∈E,0<=Yo e)(h0:∀e∈E,a e≠0)(hl:∀e∈E,Y3 (a e)<=Y3 (a' e)):w<=w':=by
 obtain⟨m,⟨_,lo⟩,rfl⟩:=v;obtain⟨m',⟨⟨C,c1,_,_,c4⟩,_⟩,rfl⟩:=v';have ml:=lo [] (by simp) λe he=>.of (zM _ (zJ _ (za.mpr ⟨e,yM.mpr ⟨he,by simpa using h0 e he⟩,rfl⟩)));rw[yU,wB]at ml;have m0:=q69 λc hc=>nn c (c1 c hc);have su:=qf5 (l:=E) (f:=λe=>Yo e*Y3 (a e)) (g:=λe=>Yo e*Y3 (a' e)) λe he=>Int.mul_le_mul_of_nonneg_left (hl e he) (nn e he);omega
theorem q7S{Z w w':Int}{T:ah}{E:dB}{a:rK}(v:Sw)(v':Wv Z T E a w'):w<=w':=qkX v' v id id (by rw[wj]) oE oE (λ_ _=>.inl rfl) λt ht=>.of ht
theorem rl2{n h l:Int}{bs:bX}(O:lG):∃(W:cQ) (B:ac),B=(St h l bs).map nh/\B≠[]/\(0<nT B/\nT B<=100)/\q0u bU=some (.fr ((zY rn).map λk:Nat=>Xw (bs.map iQ).sum W fM)) /\
  q0o bU=↥(.int (X7 ((zY rn).map λk:Nat=>(bs.map iQ).sum+W fM)))/\(∀k:Nat,k<nT B->WR n h l bs fM ((bs.map iQ).sum+W fM))/\∀c w,WR n h l bs c w->X7 ((zY rn).map λk:Nat=>(bs.map iQ).sum+W fM)<=w:=by
 have key:∀c:Int,∃w,-200<=c->c<=200->qL eT=↥e8/\WR n h l bs c TW:=λc=>by
  by_cases hc:-200<=c/\c<=200
  ·obtain⟨w,h1,h2⟩:=O.weight c hc
   exact⟨w,λ_ _=>TY⟩
  ·exact⟨0,λa b=>vN ⟨a,b⟩ hc⟩
 obtain⟨W,hW⟩:∃W:Int->Int,∀c:Int,-200<=c->c<=200->qL eT=↥(.int (W c))/\WR n h l bs c ((bs.map iQ).sum+W c):=⟨λc=>(key c).choose,λc=>(key c).choose_spec⟩;have TU:=qfT O.n1 O.n9 O.hh O.hl O.lb O.hb (P:=St h l bs) rfl (w:=W) λc h1 h2=>(hW c h1 h2).1;have hm:h∈St h l bs:=q0M.mpr bT;generalize hB:(St h l bs).map nh=B at TU ⊢;have B0:B≠[]:=λe=>by rw[<- hB]at e;rw[OC]at hm;simp at hm
 have Bb:∀b∈B,-21<=b/\b<=21:=λb hb'=>by
  rw[<- hB]at hb';obtain⟨x,_,rfl⟩:=za.mp hb';exact q39 O.lb
 obtain⟨r1,r2,r3,r4⟩:=rngT B0 Bb;have k0:zY rn≠[]:=λe=>by have:=vn yZ e;rw[zh]at this;exact vN this (by show ¬nT B=0;omega)
 have RL:=qeX (f:=λk:Nat=>loT B+bh) k0 (by rw[zh];omega) TU;obtain⟨q1,q2⟩:=q0Z (ns:=(zY rn).map λk:Nat=>(bs.map iQ).sum+W fM) λe=>k0 OC;refine⟨W,B,rfl,B0,DO,TU,RL,λk hk=>(hW _ ∅ ∅).2,λc w v=>?_⟩
 ·have mx:=(q1I B0)
  have mn:=(q0Z B0);have ends:loT B+(nT B:Int)=2-X7 B:=by
   have:=mx.2 _ mn.1;unfold nT loT;omega
  have inB:∀e∈egs n (St h l bs),Yl n h l bs e.1∈B:=λe he=>by rw[<- hB];exact zy (q0a e he).1
  have nn:=qao (P:=St h l bs) (n:=n) (by have:=O.n1;omega);have step:∀c0,loT B<=c0->c0<2-X7 B->(bs.map iQ).sum+W c0<=w->X7 ((zY rn).map λk:Nat=>(bs.map iQ).sum+W fM)<=w:=λc0 a b k=>by
   refine ZA (q2 _ (za.mpr ⟨(c0-loT B).toNat,yO.mpr ∅,rfl⟩)) ?_;rw[show loT B+((c0-loT B).toNat:Int)=c0 by omega];exact k
  by_cases z1:c<loT B
  ·refine step (loT B) (yh _) ∅ BF
   ·have:=mx.2 _ Nk
    show Yl n h l bs e.1+loT B≠0;unfold loT;omega
   ·have:=mx.2 _ Nk
    show Y3 (Yl n h l bs e.1+loT B)<=Y3 bA;unfold loT at z1 ⊢;unfold Y3;rw[J9,J9];omega
  ·by_cases z2:c<2-X7 B
   ·exact step c ∅ z2 (q7S (hW _ ∅ ∅).2 v)
   ·refine step (1-X7 B) ∅ ∅ BF
    ·have:=mn.2 _ Nk
     show Yl n h l bs e.1+(1-X7 B)≠0;omega
    ·have:=mn.2 _ Nk
     show Y3 (Yl n h l bs e.1+(1-X7 B))<=Y3 bA;unfold Y3;rw[Ez,Ez];omega
theorem qcY{kf:PF}{ds:aM}:∀k:Nat,vt cW k<=k/\∀j,j<=k->kn kf ds Ep<=kn kf ds j
 | 0=>⟨zQ _,λj hj=>by rw[show j=0 by omega];exact yh _⟩
 | k+1=>by
  obtain⟨h1,h2⟩:=qcY (kf:=kf) (ds:=ds) k;show (if kbt kf ds (k+1) Ep=true then k+1 else vt cW k)<=k+1/\∀j,j<=k+1->kn kf ds (if kbt kf ds (k+1) Ep=true then k+1 else vt cW k)<=kn kf ds j
  by_cases z:kn kf ds (k+1)<kn kf ds Ep
  ·rw[vH (vO z)]
   refine⟨cP,aag⟩
   by_cases e:j=k+1
   ·rw[e];exact yh _
   ·have:=h2 j ∅
    omega
  ·rw[vJ Kt]
   refine⟨∅,aag⟩
   by_cases e:j=k+1
   ·rw[e];omega
   ·exact h2 j ∅
theorem qhJ{Z:Int}{v:cQ}{c:Int}:qz [Xw Z v c]=↥(.int (Z+v c)):=by
 unfold qz q2S Xw;simp_arith[q07]
noncomputable def goD(m:ag):D:=.tup [dG, .int m.1,kA,.int m.2.2]
noncomputable def rE(e:Eg):Int×Int×Int:=(e.1,e.2.1,1)
noncomputable def lE(e:Eg):Int×Int×Int:=(e.2.1,e.1,-1)
noncomputable def emE(a:rK)(e:Eg):List ag:=zv (Y3 (a e)).toNat (if 0<a e then rE e else lE e)
noncomputable def emS(a:rK)(E K:dB):List ag:=E.flatMap Nt++K.flatMap λe=>mR
theorem qgV(e:Eg):q1h [OT]=↥(goD Mw):=by
 unfold q1h q53 egD;simp_arith[q07];rfl
theorem qhb(e:Eg):q1H [OT]=↥(goD Mx):=by
 unfold q1H q5d egD;simp_arith[q07];rfl
theorem qdc{α:Type}(d:α):∀n:Nat,(zv n [d]).flatten=zv n d
 | 0=>rfl
 | n+1=>by rw[yP,yo,qdc d n,yP];rfl
theorem q9r{a:rK}:∀{E:dB},(∀e∈E,Y3 (a e)<=100)->(E.flatMap Nt).length<=100*E.length
 | [],_=>yA _
 | e::E,h=>by
  have ih:=q9r (a:=a) (E:=E) λx hx=>h x iP;have t:=h e zG;have q:(emE a e).length<=100:=by unfold emE;rw[yT];omega
  rw[yq,zE,zK];omega
theorem qcc{K:dB}:(K.flatMap λe=>mR).length=2*K.length:=by
 induction K with
 | nil=>rfl
 | cons e K ih=>rw[yq,zE,ih,zK];simp only[zK,yu];omega
theorem qjt{n h l c:Int}{bs:bX}(O:lG)(hc:-30<=c/\c<=30):∃f:Int->Int,Tells aq (bs.map two++om++((egs n aq).filter λe=>Yl n h l bs e.1+c != 0).map Xe) f /\
  q0S LX=some (.fr ((emS aU bO (Xd f jh).2).map goD)):=by
 have el:(egs n aq).length=(St h l bs).length:=by have:=vn yZ Q3;rwa [zB]at this
 have k:=O.ok c;have lk:=qhl (P:=St h l bs) (n:=n) λx=>Yl n h l bs x+c;rw[<- lk]at k;have eF:=qV n aq;obtain⟨f,f1,f2⟩:=q78 (h:=h) (l:=l) (es:=egs n aq) (ls:=(St h l bs).map λx=>Yl n h l bs x+c) O.lb (by rw[el];exact O.len) (by rw[eF];exact k) (λe m=>by rw[eF];exact q0a e m);rw[eF,lk]at f1;refine PV;have re:q00 bU=some (.fr S4):=q8S O.n1 O.n9 O.hh O.hl O.lb O.hb;have rl:qH LX=some (.fr (((St h l bs).map λx=>Yl n h l bs x+c).map D.int)):=by
  have:=q5k (c:=c) O.n1 O.n9 O.hh O.hl O.lb O.hb;rw[this,zi]
  congr 2
  refine yI λx _=>?_;show D.int rN=D.int rP;rw[Int.add_comm]
 have zp:=zipE (P:=St h l bs) (n:=n) λx=>Yl n h l bs x+c;have ab:∀e∈egs n (St h l bs),Y3 bA<=100:=λe he=>by
  have:=q39 (n:=n) (h:=h) (l:=l) (x:=e.1) O.lb;unfold Y3;split <;> omega
 have Ol:=O.len;have kl:(Xd f jh).2.length<=64:=by
  have a1:=(q0P f jh).length_le;have a2:=(qK (f:=Yo) (l:=egs n aq)).length_eq;omega
 generalize (Xd f jh).2=K at *;generalize hls:(St h l bs).map (λx=>Yl n h l bs x+c)=ls at *;have lsl:ls.length=(egs n aq).length:=by rw[<- hls,zB,el]
 generalize egs n aq=E at *;have ez:zAY (E.map egD) kE=E.map λe=>D.tup [OT,.int bA]:=by
  rw[q5Q,zp,zi];rfl
 obtain⟨ω',e1,x8,x9,x10,rfl⟩:=qR (g:=gT 2 Nz) (b:=q2u) (λe:Eg=>D.tup [OT,.int bA]) E
  (λpre ω=>∃x8 x9 x10:Option W,ω=[↥aY,↥dA,↥dQ,↥ao,↥lQ,AG,↥JZ,some (.ow ((pre.flatMap jN).map goD)),x8,x9,x10])
  (λpre e post ω hd ⟨x8,x9,x10,hω⟩=>by
   subst hω;refine db;have he:e∈E:=by rw[hd];simp
   have pl:pre.length<=E.length:=by rw[hd,zE];omega
   have hpre:∀x∈pre,Y3 Tz<=100:=λx hx=>ab x (by rw[hd];exact zM _ hx);have e1:=q9r (a:=λe:Eg=>Yl n h l bs e.1+c) hpre;have ae:=ab e he;have gr:=qgV e;have gl:=qhb e;have ba:zBo [.int bA]=↥(.int (Y3 bA)):=rfl;have a0:0<=Y3 bA:=by unfold Y3;split <;> omega
   have hr:=λd:D=>qku (ds:=[d]) (k:=Y3 bA) a0 ∅ (by simp);have ea:(pre.flatMap jN).map goD++zv (Y3 bA).toNat (goD (if 0<Yl n h l bs e.1+c then rE e else lE e))=((pre++[e]).flatMap jN).map goD:=by
    rw[xj,ZD,zO];unfold emE;rw[List.map_replicate]
   have l1:∀d:D,((pre.flatMap jN).map goD).length+(zv (Y3 bA).toNat d).length<=1000000:=λd=>by rw[zB,yT];omega
   unfold q2u
   by_cases z:0<Yl n h l bs e.1+c
   ·have dz:decide Rn=true:=vO z
    rw[gR]at ea;simp_arith[dz,gr,ba,hr,qdc,q5C (l1 _),ea];exact nv
   ·have dz:decide Rn=false:=vQ z
    rw[gE]at ea;simp_arith[dz,gl,ba,hr,qdc,q5C (l1 _),ea];exact nv)
  (ω:=[↥aY,↥dA,↥dQ,↥ao,↥lQ,AG,↥JZ,pU,none,none,none]) pE
 have M1:=q9r (a:=λe:Eg=>Yl n h l bs e.1+c) ab;generalize hM:E.flatMap jN=M at *;obtain⟨ω2,e2,x8',rfl⟩:=qR (g:=gN 8) (b:=q2i) egD K
  (λpre ω=>∃x8:Option W,ω=[↥aY,↥dA,↥dQ,↥ao,↥lQ,AG,↥JZ,some (.ow ((M++pre.flatMap λe=>mR).map goD)),x8,x9,x10])
  (λpre e post ω hd ⟨x8,hω⟩=>by
   subst hω;refine db;have pl:pre.length<=K.length:=by rw[hd,zE];omega
   have gr:=qgV e;have gl:=qhb e;have l1:((M++pre.flatMap λe=>mR).map goD).length+[goD Mw,goD Mx].length<=1000000:=by
    rw[zB,zE,qcc];simp only[zK,yu];omega
   have ea:(M++pre.flatMap λe=>mR).map goD++[goD Mw,goD Mx]=(M++(pre++[e]).flatMap λe=>mR).map goD:=by
    rw[xj,ZD,<- yB,zO (l₂:=mR)];rfl
   unfold q2i;simp_arith[gr,gl,q5C l1,ea];exact bK)
  (ω:=[↥aY,↥dA,↥dQ,↥ao,↥lQ,AG,↥JZ,some (.ow (M.map goD)),x8,x9,x10]) ⟨x8,by rw[List.flatMap_nil,zn]⟩
 unfold q0S q2Q emS;rw[hM];simp_arith[re,rl,ez,e1,f2,e2]
noncomputable def sts(as:ah):List Int:=as.map (·.1)
noncomputable def gls(as:ah):List Int:=as.map (·.2)
theorem qaf:∀(a b:ac),PyData.eqvAll Ve Fz=decide (a=b)
 | [],[]=>rfl
 | [],_::_=>rfl
 | _::_,[]=>rfl
 | x::a,y::b=>by
  show (x==y&&PyData.eqvAll Ve Fz)=_;rw[qaf a b]
  by_cases z:x=y
  ·subst z
   simp
  ·have:(x==y)=false:=by simpa using z
   rw[this];simp[z]
theorem q9Q(a:ac):shp (.lst Dq)=true:=qct 2 (by decide) λd hd=>by
 obtain⟨m,_,rfl⟩:=za.mp hd;exact⟨rfl,by show 0<=2;decide⟩
theorem q6q(a b:ac):oEq false (.lst Dq) (.lst (b.map D.int))=↥(.bl (decide (a=b))):=by
 unfold oEq;rw[q9Q,q9Q];show some (R.sh (.bl (PyData.eqvAll Ve Fz)))=_;rw[qaf]
noncomputable def Y1(ls:cH):List Int:=ls.map Int.ofNat
theorem qiQ{as:ah}(hl:as.length<64):qQ [a8]=↥V5:=by
 unfold qQ q0F;have hl2:(as.map Ym).length<=1000000:=by rw[zB];omega
 have c1:=qA (i:=0) (f:=q0q) Ym (λp=>D.int p.1) as (ω:=FZ) (λp _=>by
  unfold q0q Ym;simp_arith[q07])
 have c2:=qA (i:=0) (f:=q0r) Ym (λp=>D.int p.2) as (ω:=FZ) (λp _=>by
  unfold q0r Ym;simp_arith[q07])
 have e1:(as.map λp=>D.int p.1)=(sts as).map D.int:=by unfold sts;rw[zi];rfl
 have e2:(as.map λp=>D.int p.2)=(gls as).map D.int:=by unfold gls;rw[zi];rfl
 rw[e1]at c1;rw[e2]at c2;have s1:=q66 (ns:=sts as) (by unfold sts;rw[zB];exact hl);have s2:=q66 (ns:=gls as) (by unfold gls;rw[zB];exact hl);have q:oEq false (.lst ((Yz (sts as)).map D.int)) (.lst ((Yz (gls as)).map D.int))=↥V5:=by
  rw[q6q,decide_eq_decide.mpr (q9s (l:=sts as) (m:=gls as))]
 simp_arith[WD hl2,inW,WJ,c1,c2,s1,s2,q]
noncomputable def XL(as:ah)(n:Nat):Int:=(as.getD n (0,0)).1
noncomputable def WH(as:ah)(n:Nat):Int:=(as.getD n (0,0)).2
inductive Wlk (as:List (Int×Int)):Int->List Nat->Int->Prop where
 | nil (a:Int):Wlk as a [] a
 | cons {a b:Int} {n:Nat} {r:List Nat} (h:XL as n=a) (t:Wlk as (WH as n) r b):Wlk as a (n::r) b
theorem Wlk.app{as:ah}{a b c:Int}{r q:cH}(h:Wlk as a r b)(h':Wlk as b q c):Wlk as a (r++q) c:=by
 induction h with
 | nil _=>exact h'
 | cons e _ ih=>exact .cons e (ih h')
theorem Wlk.snoc{as:ah}{a b:Int}{r:cH}{n:Nat}(h:Wlk as a r b)(e:XL as n=b):Wlk as a (r++[n]) PB:=h.app (.cons e (.nil _))
theorem Wlk.last{as:ah}:∀{r:cH}{a b:Int}{n:Nat},Wlk as a (r++[n]) b->b=WH as n/\Wlk as a r oY
 | [],a,b,n,h=>by
  cases h with
  | cons e t=>cases t;exact⟨rfl,by rw[<- e];exact .nil _⟩
 | m::r,a,b,n,h=>by
  cases h with
  | cons e t=>
   obtain⟨h1,h2⟩:=Wlk.last t;exact⟨h1,.cons e h2⟩
noncomputable def cS(as:ah)(U:cH)(v:Int):Nat:=U.countP λn=>decide (XL as n=v)
noncomputable def cD(as:ah)(U:cH)(v:Int):Nat:=U.countP λn=>decide (WH as n=v)
noncomputable def ind(v h:Int):Int:=if v=h then 1 else 0
def bal(as:ah)(U:cH)(h x:Int):Prop:=∀v,(cS as U v:Int)-cD as U v=ind v h-ind v x
structure HI (as:List (Int×Int)) (s:Int) (U T B:List Nat) (h:Int):Prop where
 all:(U++(T++B)).Perm (zY as.length)
 inv:∃x T0 T1,T=T0++T1/\Wlk as s T0 x/\Wlk as x T1 h/\Wlk as x B.reverse s/\bal as U h x
 shut:∀n∈B,∀m∈U,XL as m≠WH as n
theorem qim{as:ah}{U U':cH}{n:Nat}(h:O3)(v:Int):cS as U v=cS as U' v+if XL as n=v then 1 else 0:=by
 unfold cS;rw[h.countP_eq,wK];simp
theorem qiG{as:ah}{U U':cH}{n:Nat}(h:O3)(v:Int):cD as U v=cD as U' v+if WH as n=v then 1 else 0:=by
 unfold cD;rw[h.countP_eq,wK];simp
theorem HI.start{as:ah}{s:Int}{U:cH}(hU:U.Perm jx)(hb:∀v,cS as U v=cD as U v):HI as s U [] [] s :=
 ⟨by simpa using hU,⟨s,[],[],rfl,.nil _,.nil _,.nil _,λv=>by rw[hb v];omega⟩,λn hn=>by cases hn⟩
theorem HI.push{as:ah}{s h:Int}{U U' T B:cH}{n:Nat}(I:HI as s U T B h)(hn:O3)(hs:XL as n=h):HI as s U' (T++[n]) B PB:=by
 obtain⟨x,T0,T1,rfl,w0,w1,w2,b⟩:=I.inv;refine⟨?_,⟨x,T0,T1++[n],by rw[yB],w0,w1.snoc hs,w2,λv=>?_⟩,λk hk m hm=>I.shut k hk m (hn.mem_iff.mpr (zH _ hm))⟩
 ·refine xl ?_ I.all
  have h1:(U++DE).Perm ((n::U')++DE):=hn.append_right _;refine xl ?_ h1.symm;rw[yB (T0++T1) [n] B];have h2:(U'++((T0++T1)++([n]++B))).Perm (U'++([n]++DE)):=xM _ (by
   rw[<- yB,<- yB];exact List.Perm.append_right _ xX)
  refine h2.trans ?_;show (U'++(n::DE)).Perm (n::(U'++DE));exact wp
 ·have:=b v
  have e1:=qim (as:=as) hn v;have e2:=qiG (as:=as) hn v;unfold ind at this ⊢;rw[hs]at e1
  by_cases z1:v=h <;> by_cases z2:v=WH as n
  ·rw[vH z1.symm]at e1;rw[vH z2.symm]at e2;rw[vH z1]at this;rw[vH z2];omega
  ·rw[vH z1.symm]at e1;rw[vJ aae]at e2;rw[vH z1]at this;rw[vJ z2];omega
  ·rw[vJ aak]at e1;rw[vH z2.symm]at e2;rw[vJ z1]at this;rw[vH z2];omega
  ·rw[vJ aak]at e1;rw[vJ aae]at e2;rw[vJ z1]at this;rw[vJ z2];omega
theorem qbN{as:ah}{U:cH}{v:Int}(h:∀m∈U,XL as m≠v):cS as U v=0:=by
 unfold cS;rw[Ze];intro m hm;simpa using h m hm
theorem stuck{as:ah}{U:cH}{h x:Int}(b:bal as U h x)(hs:∀m∈U,XL as m≠h):h=x:=by
 have:=b h;rw[qbN hs]at this;unfold ind at this;rw[lW]at this
 by_cases z:h=x
 ·exact z
 ·rw[gE]at this;omega
theorem HI.pop{as:ah}{s h:Int}{U T B:cH}{n:Nat}(I:HI as s U (T++[n]) B h)(hs:∀m∈U,XL as m≠h):HI as s U T (B++[n]) oY:=by
 obtain⟨x,T0,T1,e,w0,w1,w2,b⟩:=I.inv;have hx:=stuck b hs;subst hx;have w:Wlk as s (T++[n]) h:=by rw[e];exact w0.app w1
 obtain⟨e1,e2⟩:=w.last;refine⟨?_,⟨XL as n,T,[],by rw[zn],e2,.nil _,?_,λv=>by have:=b v;omega⟩,λk hk m hm=>?_⟩
 ·refine xl (xM _ ?_) I.all
  rw[yB];exact xM _ xX
 ·rw[ZZ]
  exact .cons rfl (by rw[<- e1];exact w2)
 ·rcases zR.mp hk with y|y
  ·exact I.shut k y m hm
  ·cases zV.mp y
   rw[<- e1];exact hs m hm
structure Rnd (as:List (Int×Int)) (s:Int) (row U:List Nat):Prop where
 all:(U++row).Perm (zY as.length)
 walk:Wlk as s row s
 s0:∀m∈U,XL as m≠s
 shut:∀n∈row,∀m∈U,XL as m≠WH as n
 even:∀v,cS as U v=cD as U v
theorem HI.done{as:ah}{s h:Int}{U B:cH}(I:HI as s U [] B h)(hs:∀m∈U,XL as m≠h):Rnd as s B.reverse U:=by
 obtain⟨x,T0,T1,e,w0,w1,w2,b⟩:=I.inv;obtain⟨rfl,rfl⟩:=List.append_eq_nil_iff.mp e.symm;cases w0;cases w1;refine⟨?_,w2,hs,λn hn=>I.shut n (List.mem_reverse.mp hn),λv=>by have:=b v;omega⟩;have:=I.all;rw[yV]at this;exact(xM _ (List.reverse_perm B)).trans this
theorem Wlk.mem{as:ah}{V:Int->Prop}:∀{r:cH}{a b:Int},Wlk as a r b->V a->(∀n∈r,V PB)->∀n∈r,V oY
 | [],_,_,_,_,_,n,hn=>by cases hn
 | m::r,a,b,h,ha,hv,n,hn=>by
  cases h with
  | cons e t=>
   rcases zI.mp hn with rfl|hn
   ·rw[e];exact ha
   ·exact t.mem (hv m zG) (λk hk=>hv k (zH _ hk)) n hn
theorem Rnd.full{as:ah}{s:Int}{row U:cH}(R:Rnd as s row U)(hr:∀a∈as,Rch as s a.1):row.length=as.length:=by
 have hU:U=[]:=by
  cases U with
  | nil=>rfl
  | cons m U'=>
   exfalso
   let V:Int->Prop:=λv=>v=s\/∃n∈row,WH as n=v
   have out:∀v,V v->∀k∈m::U',XL as k≠v:=λv hv k hk=>by
    rcases hv with rfl|⟨n,hn,rfl⟩
    ·exact R.s0 k hk
    ·exact R.shut n hn k hk
   have inn:∀v,V v->∀k∈m::U',WH as k≠v:=λv hv k hk e=>by
    have h1:=qbN (as:=as) (out v hv);have h2:=R.even v;rw[h1]at h2;have:cD as (m::U') v=0:=h2.symm;unfold cD at this;rw[Ze]at this;exact this k hk ⇑e
   have row_of:∀(n:Nat),n<as.length->(V oY\/V PB)->n∈row:=λn hn hv=>by
    have:n∈(m::U')++row:=R.all.mem_iff.mpr (yO.mpr hn);rcases zR.mp this with y|y
    ·rcases hv with hv|hv
     ·exact vN rfl (out _ hv n y)
     ·exact vN rfl (inn _ hv n y)
    ·exact y
   have sv:∀n∈row,V oY:=R.walk.mem (V:=V) bT λn hn=>.inr ⟨n,hn,rfl⟩;have cl:∀c,Rch as s c->V c:=λc h=>h.inv V bT λb c hb e=>by
    rcases e with e|e
    ·obtain⟨n,hn,he⟩:=z8.mp e
     have es:XL as n=b/\WH as n=c:=by
      unfold XL WH;rw[zT,zD hn,he];exact bQ
     exact .inr ⟨n,row_of n hn (.inl (by rw[es.1];exact hb)),es.2⟩
    ·obtain⟨n,hn,he⟩:=z8.mp e
     have es:XL as n=c/\WH as n=b:=by
      unfold XL WH;rw[zT,zD hn,he];exact bQ
     rw[<- es.1];exact sv n (row_of n hn (.inr (by rw[es.2];exact hb)))
   have hm:m<as.length:=yO.mp (R.all.mem_iff.mp (by simp));have hrm:=hr _ (yC hm);have es:XL as m=(as[m]).1:=by unfold XL;rw[zT,zD hm];rfl
   exact out _ (cl _ (by rw[<- es]at hrm;exact hrm)) m zG rfl
 have:=R.all.length_eq;rw[hU,yV,zh]at this;exact this
noncomputable def cst(l:cH):List Int:=l.map λ(n:Nat)=>kP
structure WT (as:List (Int×Int)) (ks:List Int) (xss:List (List Int)) (U:List Nat):Prop where
 len:ks.length=xss.length
 nd:U.Nodup
 mem:∀(v k:Int),k∈Xk ks xss v↔∃n:Nat,k=n/\n∈U/\XL as n=v
 gn:∀v,(Xk ks xss v).Nodup
theorem q5O:∀{ks:ac}{xss:eS}(h v:Int),ks.length=xss.length->Xk ks nj v=if v=h then (Xk ks xss h).dropLast else Xk ks xss v
 | [],[],h,v,_=>by
  show ([]:List Int)=if v=h then ([]:List Int).dropLast else []
  split <;> rfl
 | [],_::_,_,_,hl=>by simp at hl
 | _::_,[],_,_,hl=>by simp at hl
 | k::ks,x::xss,h,v,hl=>by
  have ih:=q5O (ks:=ks) (xss:=xss) h v ⇑hl;unfold Xk at ih ⊢;show (Y0 Kg (if k=h then x.dropLast::xss else x::X0 ks xss h) v).getD []=if v=h then ((if k=h then some x else Y0 ks xss h).getD []).dropLast else (if k=v then some x else Y0 ks xss v).getD []
  by_cases z:k=h
  ·rw[gR,gR]
   show (if k=v then some x.dropLast else Y0 ks xss v).getD []=_
   by_cases y:k=v
   ·rw[KC,vH (by rw[<- y,z])];rfl
   ·rw[LM,vJ (λe=>y (by rw[z,e])),LM]
  ·rw[gE,gE]
   show (if k=v then some x else Y0 ks nj v).getD []=_
   by_cases y:k=v
   ·rw[KC,vJ (λe=>z (by rw[y,e])),KC]
   ·rw[LM,ih,LM]
theorem q8s:∀(ks:ac)(xss:eS)(h:Int),(X0 ks xss h).length=xss.length
 | [],_,_=>rfl
 | _::_,[],_=>rfl
 | k::ks,x::xss,h=>by
  show (if k=h then x.dropLast::xss else x::X0 ks xss h).length=_
  split
  ·rfl
  ·rw[zK,q8s,zK]
theorem q9H{l:ac}{k a:Int}(nd:l.Nodup)(e:l.getLast?=some k):a∈l.dropLast↔a∈l/\a≠k:=by
 have hl:l=l.dropLast++[k]:=by
  have hne:l≠[]:=λz=>by rw[z]at e;cases e
  have:=wP hne;rw[List.getLast?_eq_getLast hne]at e;rw[zr e]at this;exact this.symm
 rw[hl]at nd;have nd':=yd.mp nd
 constructor
 ·intro h
  exact⟨by rw[hl];exact zM _ h,λz=>nd'.2.2 a h k (by simp) z⟩
 ·rintro⟨h1,h2⟩
  rw[hl]at h1;rcases zR.mp h1 with y|y
  ·exact y
  ·exact vN (zV.mp y) h2
theorem WT.pop{as:ah}{ks:ac}{xss:eS}{U:cH}(W:WT as ks xss U){h:Int}{m:Nat}(e:(Xk ks xss h).getLast?=some jz):WT as ks nj (U.erase m):=by
 have hm:jz∈Xk ks xss h:=ZU e;obtain⟨n,en,hn,hs⟩:=(W.mem h m).mp hm;have:n=m:=∅
 subst this;refine⟨by rw[q8s];exact W.len,W.nd.erase _,λv k=>?_,λv=>?_⟩
 ·rw[q5O h v W.len]
  by_cases z:v=h
  ·rw[gR,q9H (W.gn h) e,W.mem h]
   constructor
   ·rintro⟨⟨n',rfl,h1,h2⟩,h3⟩
    exact⟨n',rfl,(W.nd.mem_erase_iff).mpr ⟨λq=>h3 (by rw[q]),h1⟩,by rw[z];exact h2⟩
   ·rintro⟨n',rfl,h1,h2⟩
    obtain⟨a,b⟩:=(W.nd.mem_erase_iff).mp h1;exact⟨⟨n',rfl,b,by rw[<- z];exact h2⟩,λq=>a ∅⟩
  ·rw[gE,W.mem v]
   constructor
   ·rintro⟨n',rfl,h1,h2⟩
    exact⟨n',rfl,(W.nd.mem_erase_iff).mpr ⟨λq=>z (by rw[<- h2,q,hs]),h1⟩,h2⟩
   ·rintro⟨n',rfl,h1,h2⟩
    exact⟨n',rfl,((W.nd.mem_erase_iff).mp h1).2,h2⟩
 ·rw[q5O h v W.len]
  split
  ·exact(W.gn h).sublist (List.dropLast_sublist _)
  ·exact W.gn v
theorem qbh{as:ah}{m:Nat}:(as.getD (jz).toNat (0,0)).1=XL as m/\(as.getD (jz).toNat (0,0)).2=WH as m:=by
 rw[yK];exact bQ
theorem q9P{as:ah}{s:Int}(hl:as.length<=9000){ks:ac}:∀(n:Nat)(xss:eS)(U T B:cH)(h:Int),HI as s U T B h->WT as ks xss U->2*U.length+T.length<n ->
  ∃row U',Xv as ks n xss (cst T) (cst B) h=some (cst row)/\Rnd as s row U'
 | 0,_,_,_,_,_,_,_,hn=>vN hn Ug
 | n+1,xss,U,T,B,h,I,W,hn=>by
  have tot:U.length+(T.length+B.length)=as.length:=by
   have:=I.all.length_eq;rw[zE,zE,zh]at this;exact this
  unfold Xv;cases e:(Xk ks xss h).getLast? with
  | some k=>
   obtain⟨m,rfl,hm,hs⟩:=(W.mem h k).mp (ZU e);have hlt:m<as.length:=yO.mp (I.all.mem_iff.mp (zM _ hm));have pm:=List.perm_cons_erase hm;have I':=I.push pm hs;have ul:U.length=(U.erase m).length+1:=by have:=pm.length_eq;rw[zK]at this;exact this
   obtain⟨row,U',r1,r2⟩:=q9P hl n nj (U.erase m) (T++[m]) B _ I' (W.pop e) (by rw[zE,zq];omega);refine aaa;show (if 0<=jz/\jz<as.length/\(cst T).length<1000000 then Xv as ks n nj (cst T++[jz]) (cst B) (as.getD (jz).toNat (0,0)).2 else none)=_;rw[vH ⟨∅,∅,by unfold cst;rw[zB];omega⟩,qbh.2];rw[show cst T++[jz]=cst (T++[m]) by unfold cst;rw[zO];rfl];exact r1
  | none=>
   have hem:Xk ks xss h=[]:=xi.mp e;have hs:∀m∈U,XL as m≠h:=λm hm z=>by
    have:jz∈Xk ks xss h:=(W.mem h m).mpr ⟨m,rfl,hm,z⟩;rw[hem]at this;cases this
   rcases List.eq_nil_or_concat T with rfl|⟨T0,m,rfl⟩
   ·refine⟨B.reverse,U,?_,I.done hs⟩
    show some (cst B).reverse=_;unfold cst;rw[Z9]
   ·rw[List.concat_eq_append]at I hn tot ⊢
    have hlt:m<as.length:=yO.mp (I.all.mem_iff.mp (zJ _ (zM _ (by simp))));have I':=I.pop hs;rw[zE,zq]at hn tot;obtain⟨row,U',r1,r2⟩:=q9P hl n xss U T0 (B++[m]) _ I' W ∅;refine aaa;have ec:cst (T0++[m])=cst T0++[jz]:=by unfold cst;rw[zO];rfl
    rw[ec];show (match (cst T0++[jz]).getLast? with
     | some k=>if 0<=k/\k<as.length/\(cst B).length<1000000 then Xv as ks n xss (cst T0++[jz]).dropLast (cst B++[k]) (as.getD k.toNat (0,0)).1 else none
     | none=>some (cst B).reverse)=_
    rw[List.getLast?_concat];show (if 0<=jz/\jz<as.length/\(cst B).length<1000000 then Xv as ks n xss (cst T0++[jz]).dropLast (cst B++[jz]) (as.getD (jz).toNat (0,0)).1 else none)=_;rw[vH ⟨∅,∅,by unfold cst;rw[zB];omega⟩,qbh.1,List.dropLast_concat];rw[show cst B++[jz]=cst (B++[m]) by unfold cst;rw[zO];rfl];exact r1
theorem q6o:∀{ks:ac}{xss:eS}(a b v:Int),ks.length=xss.length->a∈ks->Xk ks E7 v=if v=a then Xk ks xss v++[b]else Xk ks xss v
 | [],_,_,_,_,_,h=>by cases h
 | _::_,[],_,_,_,hl,_=>by simp at hl
 | k::ks,x::xss,a,b,v,hl,ha=>by
  unfold Xk;show (Y0 Kg (if k=a then RO::xss else x::WW ks xss a b) v).getD []=if v=a then ((if k=v then some x else Y0 ks xss v).getD [])++[b]else (if k=v then some x else Y0 ks xss v).getD []
  by_cases z:k=a
  ·rw[gR]
   show (if k=v then some RO else Y0 ks xss v).getD []=_
   by_cases y:k=v
   ·rw[KC,vH (by rw[<- y,z]),KC];rfl
   ·rw[LM,vJ (λe=>y (by rw[z,e])),LM]
  ·rw[gE]
   have ha':a∈ks:=(zI.mp ha).resolve_left λe=>z e.symm;have ih:=q6o (ks:=ks) (xss:=xss) a b v ⇑hl ha';unfold Xk at ih;show (if k=v then some x else Y0 ks E7 v).getD []=_
   by_cases y:k=v
   ·rw[KC,vJ (λe=>z (by rw[y,e])),KC]
   ·rw[LM,ih,LM]
theorem qa8:∀{ks:ac}{xss:eS}(a v:Int),ks.length=xss.length->Xk Pv RK v=Xk ks xss v
 | [],[],a,v,_=>by
  unfold Xk;show (if a=v then some []else none).getD []=_
  split <;> rfl
 | [],_::_,_,_,hl=>by simp at hl
 | _::_,[],_,_,hl=>by simp at hl
 | k::ks,x::xss,a,v,hl=>by
  have ih:=qa8 (ks:=ks) (xss:=xss) a v ⇑hl;unfold Xk at ih ⊢;show (if k=v then some x else Y0 Pv RK v).getD []=(if k=v then some x else Y0 ks xss v).getD []
  by_cases y:k=v
  ·rw[KC,KC]
  ·rw[LM,LM,ih]
theorem qhL(as:ah):∀n:Nat,n<=as.length->(byS as n).1.length=(byS as n).2.length/\∀v,Xk (byS as n).1 (byS as n).2 v=cst nH
 | 0,_=>⟨rfl,λv=>rfl⟩
 | n+1,hn=>by
  obtain⟨h1,h2⟩:=qhL as n ∅;have hlt:n<as.length:=∅
  have eb:byS as (n+1)=Xg Nu n oY:=by
   show (match as[n]? with|some a=>Xg Nu n a.1|none=>byS as n)=_;rw[J8];unfold XL;rw[zT,J8];rfl
  have er:∀v,cst ((zY (n+1)).filter λj=>decide Ly)=if v=XL as n then cst nH++[kP]else cst nH:=λv=>by
   rw[YI,Zn]
   by_cases z:v=XL as n
   ·rw[gR]
    have:([n].filter λj=>decide Ly)=[n]:=by rw[yY,vH (vO z.symm)];rfl
    rw[this];unfold cst;rw[zO];rfl
   ·rw[gE]
    have:([n].filter λj=>decide Ly)=[]:=by rw[yY,vJ ⇑(λe=>z e.symm)];rfl
    rw[this,zn]
  rw[eb];unfold Xg
  by_cases ha:XL as n∈(byS as n).1
  ·rw[vH ha]
   exact⟨by show (byS as n).1.length=(WW _ _ _ _).length;rw[q6X];exact h1,λv=>by
    show Xk (byS as n).1 (WW (byS as n).1 (byS as n).2 oY n) v=_;rw[q6o _ _ v h1 ha,er v,h2 v]⟩
  ·rw[vJ ha]
   have hl':((byS as n).1++[oY]).length=((byS as n).2++[[]]).length:=by rw[zE,zE,h1];rfl
   exact⟨by show ((byS as n).1++[oY]).length=(WW _ _ _ _).length;rw[q6X];exact hl',λv=>by
    show Xk S5 (WW S5 ((byS as n).2++[[]]) oY n) v=_;rw[q6o _ _ v hl' (by simp),qa8 _ v h1,er v,h2 v]⟩
theorem qjW{l:cH}(h:l.Nodup):(cst l).Nodup:=by
 unfold cst List.Nodup;rw[wg];exact h.imp λ{a b} z e=>z ∅
theorem qgi(as:ah):WT as (byS as as.length).1 (byS as as.length).2 jx:=by
 obtain⟨h1,h2⟩:=qhL as as.length cP;refine⟨h1,YC,λv k=>?_,λv=>by rw[h2 v];exact qjW (YC.filter _)⟩;rw[h2 v];unfold cst;rw[za]
 constructor
 ·rintro⟨n,hn,rfl⟩
  obtain⟨a,b⟩:=yM.mp hn;exact⟨n,rfl,a,of_decide_eq_true b⟩
 ·rintro⟨n,rfl,a,b⟩
  exact⟨n,yM.mpr ⟨a,vO b⟩,rfl⟩
theorem q6g{α:Type}(d:α):∀bs:List α,(zY bs.length).map (λk=>bs.getD k d)=bs:=λbs=>by
 apply List.ext_getElem
 ·rw[zB,zh]
 ·intro i h1 h2
  rw[xJ,List.getElem_range,zT,zD h2];rfl
theorem qeu(as:ah)(v:Int):cS as jx v=(sts as).count v/\cD as jx v=(gls as).count v:=by
 have h:∀f:Int×Int->Int,(zY as.length).countP (λn=>decide (f VS=v))=(as.map f).count v:=λf=>by
  have e:=q6g (0,0) as;have:(as.map f)=(zY as.length).map λn=>f VS:=by
   have:=vn (List.map f) e;rw[zi]at this;exact this.symm
  rw[this,List.count,List.countP_map];rfl
 exact⟨h (·.1),h (·.2)⟩
theorem qfA{as:ah}{s:Int}(hl:as.length<=9000)(hp:Eo):∃row U,Wk s as=some (cst row)/\Rnd as s row U:=by
 have hb:∀v,cS as jx v=cD as jx v:=λv=>by
  rw[(qeu as v).1,(qeu as v).2,hp.count_eq]
 obtain⟨row,U,r1,r2⟩:=q9P (s:=s) hl 100000 (byS as as.length).2 jx [] [] s (HI.start (.refl _) hb) (qgi as) (by rw[zh,yu];omega);exact⟨row,U,by unfold Wk;rw[vH hl];exact r1,r2⟩
structure Rg (as:List (Int×Int)):Prop where
 pm:(sts as).Perm (gls as)
 hg:∀p∈as,∀q∈as,Rch as p.1 q.1
theorem q9e{as:ah}{s:Int}{row:ac}(h:Wk s as=some row):q1S [rD,a8]=some (.fr LQ):=by
 show ((pairsOf Gv).bind λas=>(Wk s as).map λrow=>O.fr LQ)=_;rw[q40,yX,h];rfl
theorem qjV{as:ah}{s:Int}(hl:as.length<64)(hg:Rg as)(hs:∃p∈as,p.1=s):∃row:List Nat,q3f [rD,a8]=↥(.lst FL)/\row.Perm jx/\Wlk as s row s:=by
 have hm:=qiQ (as:=as) hl;rw[vO hg.pm]at hm;obtain⟨row,U,hr,R⟩:=qfA (s:=s) ∅ hg.pm;have hrf:=q9e hr;obtain⟨p,hp,rfl⟩:=hs;have ha:row.length=as.length:=R.full λq hq=>hg.hg p hp q hq;have e1:((((cst row).length:Nat):Int)==LW)=true:=by
  have:(cst row).length=row.length:=by unfold cst;rw[zB]
  simp only[beq_iff_eq];omega
 have hU:U=[]:=by
  have:=R.all.length_eq;rw[zE,zh]at this;exact yp ∅
 refine⟨row,?_,by have:=R.all;rw[hU,yV]at this;exact this,R.walk⟩;unfold q3f q6H;simp_arith[hm,hrf,e1]
theorem qaA{s:Int}:∀{P:ac},s∈P->∃i,W7 s P=some i/\P[i]?=some s
 | a::r,h=>by
  unfold W7
  by_cases z:a=s
  ·exact⟨0,vH z,by rw[z];rfl⟩
  ·obtain⟨i,h1,h2⟩:=qaA ((zI.mp h).resolve_left λe=>z e.symm)
   exact⟨i+1,by rw[gE,h1];rfl,h2⟩
theorem qjh{f g:FD}{ω:WSt}:fIdx f g ω=(f ω).bind λd=>(g ω).bind λc=>idxD d c:=rfl
theorem Wlk.split{as:ah}:∀{r q:cH}{a c:Int},Wlk as a (r++q) c->∃b,Wlk as a r b/\Wlk as b q c
 | [],_,a,_,h=>⟨a,.nil _,h⟩
 | n::r,q,a,c,h=>by
  cases h with
  | cons e t=>
   obtain⟨b,h1,h2⟩:=t.split;exact⟨b,.cons e h1,h2⟩
theorem qgC{α:Type}{xs:bJ}{k:Int}(h:V1):cutD xs none Kc=xs.take k.toNat:=by
 unfold cutD;have e:HT.sIx xs.length xs.length Kc=min k.toNat xs.length:=by
  have:=HT.q3b xs.length xs.length k.toNat;rw[show TR=k by omega]at this;exact this
 rw[HT.q4Z,e,Z1,wb,ZM];omega
theorem qgf{α:Type}{xs:bJ}{k:Int}(h:V1):cutD xs Kc none=xs.drop k.toNat:=by
 unfold cutD;have e:HT.sIx xs.length 0 Kc=min k.toNat xs.length:=by
  have:=HT.q3b xs.length 0 k.toNat;rw[show TR=k by omega]at this;exact this
 rw[HT.q4Z,e,xw (by rw[yN];omega)];rcases Zy k.toNat xs.length with z|z
 ·rw[ZK z]
 ·rw[Nat.min_eq_right z,wu,List.drop_of_length_le z]
theorem qhP{as x:ah}{n:Nat}(h:n<as.length):XL (as++x) n=XL as n/\WH (as++x) n=WH as n:=by
 unfold XL WH;rw[zT,zT,zd h];exact bQ
theorem Wlk.low{as x:ah}:∀{r:cH}{a b:Int},Wlk (as++x) a r b->(∀n∈r,n<as.length)->Wlk as a r b
 | [],_,_,h,_=>by cases h;exact .nil _
 | n::r,a,b,h,hl=>by
  cases h with
  | cons e t=>
   have sa:=qhP (x:=x) (hl n zG);rw[sa.1]at e;rw[sa.2]at t;exact .cons e (t.low λk hk=>hl k (zH _ hk))
theorem qiu{row:cH}{j n:Nat}(h:(cst row)[j]?=some kP):row[j]?=some n:=by
 unfold cst at h;rw[zX]at h;cases e:row[j]? with
 | none=>rw[e]at h;cases h
 | some m=>
  rw[e]at h;have:jz=n:=zr h;rw[show m=n by omega]
theorem qk1{as:ah}{h l:Int}(hl:as.length<63)(hg:Rg Sm):∃q:List Nat,q0t [dA,dQ,a8]=some (.fr ((cst q).map D.int))/\q.Perm jx/\Wlk as h q l:=by
 have hs:∃p∈as++[(l,h)],p.1=h:=by
  have m:h∈gls Sm:=za.mpr ⟨(l,h),by simp,rfl⟩;obtain⟨p,hp,e⟩:=za.mp (hg.pm.mem_iff.mpr m);exact⟨p,hp,e⟩
 have hn:(as++Ed).length=as.length+1:=by rw[zE,zq]
 obtain⟨row,hr,hp,hw⟩:=qjV (s:=h) ∅ hg hs;rw[hn]at hp;have mn:LW∈cst row:=za.mpr ⟨as.length,hp.mem_iff.mpr (yO.mpr QQ),rfl⟩;obtain⟨j,j1,j2⟩:=qaA mn;have j3:=qiu j2;obtain⟨jl,j4⟩:=zc.mp j3;have er:row=row.take j++as.length::row.drop (j+1):=by
  rw[<- j4,List.getElem_cons_drop,yy]
 have pm:(row.drop (j+1)++row.take j).Perm jx:=by
  have p1:(as.length::m8).Perm row:=by
   have:(row.take j++as.length::row.drop (j+1)).Perm (as.length::m8):=wp.trans (List.Perm.cons _ xX);rw[<- er]at this;exact this.symm
  have p2:(zY (as.length+1)).Perm (as.length::zY as.length):=by
   rw[YI];exact xX
  exact((p1.trans hp).trans p2).cons_inv
 have lt:∀n∈row.drop (j+1)++row.take j,n<as.length:=λn hn=>yO.mp (pm.mem_iff.mp hn);refine⟨m8,?_,pm,?_⟩
 ·unfold q0t q2O
  have ad:Xo a8 (.lst [.tup [dQ,dA]])=some (.fr ((as++Ed).map Ym)):=by
   rw[q7J (by rw[zB,zq];omega),zO];rfl
  have ix:idxD (.lst FL) (.int LW)=↥Mk:=by
   show (intsOf FL).bind _=_;rw[q0x,yX,j1];rfl
  have cl:(cst row).length=as.length+1:=by unfold cst;rw[zB,hp.length_eq,zh]
  have c1:=qgf (xs:=(cst row).map D.int) (k:=pV+1) ∅;have c2:=qgC (xs:=(cst row).map D.int) (k:=pV) ∅;have a2:Xo (.lst (((cst row).map D.int).drop (pV+1).toNat)) (.lst (((cst row).map D.int).take (j:Int).toNat))=some (.fr ((cst m8).map D.int)):=by
   rw[q7J (by rw[yN,zo,zB];omega),show (pV+1).toNat=j+1 by omega,show (j:Int).toNat=j by omega];unfold cst;rw[zO,zO,wm,wm,wk,wk]
  simp_arith[ad,hr,qjh,ix,qhh,c1,c2,a2]
 ·rw[er]at hw
  obtain⟨b,w1,w2⟩:=hw.split;cases w2 with
  | cons e t=>
   have s1:XL Sm as.length=l/\WH Sm as.length=h:=by
    unfold XL WH;rw[zT,zZ cP,wS];exact bQ
   rw[s1.1]at e;rw[s1.2]at t;subst e;exact(t.app w1).low lt
noncomputable def i1(p:Prop)[Decidable p]:Int:=if p then 1 else 0
noncomputable def dl(x:Int)(m:ag):Int:=(if m.1=x then cI else 0)-(if m.2.1=x then cI else 0)
noncomputable def crx(n x:Int)(m:ag):Int:=if m.2.2=1 then (if goN n m.1 m.2.1 x=true then cI else 0)else -(if goN n m.2.1 m.1 x=true then cI else 0)
theorem qgM{n:Int}{Q:ac}(hn:Pb){p x s g:Int}(sc:abY)(hs:s∈Q)(hg:g∈Q):(if s=x then cI else 0)-(if g=x then cI else 0)=(if goN n s g x=true then cI else 0)-(if goN n s g p=true then cI else 0):=by
 obtain⟨a1,a2,a3⟩:=sc
 by_cases xp:x=p
 ·have al:∀z∈Q,z=p:=λz hz=>Classical.byContradiction λq=>(a3 z hz q).1 xp
  rw[al s hs,al g hg,xp,ZC,ZC]
 have rs:=hn s hs;have n0:0<n:=∅
 have e0:(x-p)%n≠0:=λz=>xp (em0 abC (hn p a1) z);have bg:g=p\/(x-p)%n<=(g-p)%n:=(Classical.em (g=p)).imp_right λq=>(a3 g hg q).2;have bs:s=p\/(x-p)%n<=(s-p)%n:=(Classical.em (s=p)).imp_right λq=>(a3 s hs q).2;have pe:∀z:Int,z=p->(z-s)%n=(p-s)%n:=λz q=>by rw[q]
 have gq:=pe g;have sq:=pe s;have ca:=ad3 n0 s p x;have cg:=ad3 n0 s p g;have cs:=ad3 n0 s p s;have gx:(g-s)%n=(x-s)%n->g=x:=λq=>by
  have u1:=dd abD rs;have u2:=dd abC rs;have u3:=hn g hg;have u4:=hn x a2;omega
 have sx:(x-s)%n=0->s=x:=λq=>(em0 abC rs q).symm;have xs:s=x->(x-s)%n=0:=λq=>by rw[q];exact ss0 n x
 have xg:g=x->(g-s)%n=(x-s)%n:=λq=>by rw[q]
 have r1:=q0D n0 (x-s);have r2:=q0D n0 (g-s);have r3:=q0D n0 (p-s);have r4:=q0D n0 (x-p);have r5:=q0D n0 (g-p);have r6:=q0D n0 (s-p);have s0:=ss0 n s;unfold goN;simp only[decide_eq_true_eq];rw[s0]at sq cs;generalize (x-s)%n=V at *;generalize (g-s)%n=T at *;generalize (p-s)%n=U at *;generalize (x-p)%n=E at *;generalize (g-p)%n=G at *;generalize (s-p)%n=S at *;clear pe hn a1 a2 a3 hs hg
 by_cases z1:s=x
 ·have v0:=xs z1
  rw[vH z1]
  by_cases z2:g=x
  ·have:=xg z2
   rw[vH z2,vJ (show ¬V<T by omega),vJ (show ¬U<T by omega)];omega
  ·have t0:T≠V:=λq=>z2 (gx q)
   have hu:¬U<T:=by
    clear gx sx xs xg;rcases bg with q|q
    ·have:=gq q;omega
    ·omega
   rw[vJ z2,vH (show V<T by omega),vJ hu]
 ·have hV:V=U+E:=by
   have v0:V≠0:=λq=>z1 (sx q);clear gx xs xg sx cg bg gq;rcases bs with q|q
   ·have:=sq q;omega
   ·omega
  rw[vJ z1]
  by_cases z2:g=x
  ·have:=xg z2
   rw[vH z2,vJ (show ¬V<T by omega),vH (show U<T by omega)]
  ·have t0:T≠V:=λq=>z2 (gx q)
   rw[vJ z2]
   by_cases z3:U<T
   ·have:V<T:=by
     clear gx xs xg sx bs sq cs;rcases bg with q|q
     ·have:=gq q;omega
     ·omega
    rw[vH this,vH z3];rfl
   ·rw[vJ (show ¬V<T by omega),vJ z3]
theorem qgT{n:Int}{Q:ac}(hn:Pb){p x:Int}(sc:abY){m:ag}(h1:m.1∈Q)(h2:m.2.1∈Q)(hw:ph):dl x m=crx n x m-crx n p m:=by
 unfold dl crx;rcases hw with q|q
 ·rw[vH q,vH q];exact qgM hn sc h1 h2
 ·have q1:¬m.2.2=1:=∅
  rw[vJ q1,vJ q1];have:=qgM hn sc h2 h1;omega
theorem qh4{n h l x:Int}:∀{bs:bX},(∀b∈bs,b.2.2=1\/b.2.2=-1)->(bs.map BW).sum=(if goN n h l x=true then cI else 0)-Yl n h l bs x
 | [],_=>by unfold Yl rts lfs;simp
 | b::bs,hb=>by
  rw[zL,zk,qh4 (h:=h) (l:=l) λc hc=>hb c (zH _ hc),qeb (hb b zG)];unfold crx;rcases hb b zG with q|q
  ·rw[vH q,vH q];split <;> omega
  ·have q1:¬b.2.2=1:=∅
   rw[vJ q1,vJ q1];split <;> omega
theorem q9w{n:Int}{Q:ac}(hn:Pb){u v x:Int}(sc:Sc n Q u v)(ne:u≠v)(hx:x∈Q):(if goN n u v x=true then cI else 0)=if u=x then 1 else 0:=by
 obtain⟨a1,a2,a3⟩:=sc;have b1:=a3 x hx;have rx:=hn x hx;have ru:=hn u a1;have rv:=hn v a2;have d1:=dd rx ru;have d2:=dd rv ru;unfold goN;simp only[decide_eq_true_eq]
 split <;> split <;> omega
theorem q5R{f:Int×Int×Int->Int}{m:ag}:∀k:Nat,((zv k m).map f).sum=bh*f m
 | 0=>by simp
 | k+1=>by
  rw[yP,zL,zk,q5R k];have:((k+1:Nat):Int)*f m=bh*f m+f m:=by rw[Int.natCast_succ,Int.add_mul,Int.one_mul]
  omega
theorem qjZ{n x:Int}{a:rK}{e:Eg}:((emE a e).map BW).sum=a e*(if goN n e.1 e.2.1 x=true then cI else 0):=by
 unfold emE;rw[q5R]
 by_cases z:0<a e
 ·rw[gR]
  have e1:r8=a e:=by unfold Y3;rw[Ez];omega
  rw[e1];rfl
 ·rw[gE]
  have e1:r8=-(a e):=by unfold Y3;split <;> omega
  rw[e1];show -(a e)*(-(if goN n e.1 e.2.1 x=true then cI else 0))=_;rw[Int.neg_mul_neg]
theorem q7A{n x:Int}{a:rK}:∀E:List Eg,((E.flatMap Nt).map BW).sum=(E.map λe=>a e*(if goN n e.1 e.2.1 x=true then cI else 0)).sum
 | []=>rfl
 | e::E=>by rw[yq,zO,yH,q7A E,qjZ,zL,zk]
theorem cr_K{n x:Int}:∀K:List Eg,((K.flatMap λe=>mR).map BW).sum=0
 | []=>rfl
 | e::K=>by
  rw[yq,zO,yH,cr_K K,zL,zL,yU,zk,zk,wB];show (if goN n e.1 e.2.1 x=true then cI else 0)+(-(if goN n e.1 e.2.1 x=true then cI else 0)+0)+0=0;omega
theorem q73{f:cQ}{x:Int}:∀{E:dB},(E.map λe=>e.1).Nodup->x∈E.map EU->(E.map λe=>f e.1*(if e.1=x then cI else 0)).sum=f x
 | [],_,h=>by simp at h
 | e::E,nd,h=>by
  rw[zL,yk]at nd;rw[zL,zk]
  by_cases z:e.1=x
  ·have z0:(E.map λe=>f e.1*(if e.1=x then cI else 0))=E.map λ_=>A7:=yI λq hq=>by
    rw[vJ (λw=>nd.1 (by rw[z,<- w];exact zy hq)),Z4]
   have s0:∀L:List Eg,(L.map λ_=>A7).sum=0:=λL=>by
    induction L with
    | nil=>rfl
    | cons _ _ ih=>rw[zL,zk,ih];rfl
   rw[z0,s0,gR,z];omega
  ·rw[zL,zI]at h
   rw[q73 nd.2 (h.resolve_left λw=>z w.symm),gE];omega
theorem qfo{x:Int}:∀ms:List ag,(ms.map (dl x)).sum=((ms.map two).map (·.1)).count x-(((ms.map two).map (·.2)).count x:Int)
 | []=>rfl
 | m::ms=>by
  rw[zL,zk,qfo ms];simp only[zL,YJ];unfold dl two;have e1:(m.1==x)=decide (m.1=x):=rfl;have e2:(m.2.1==x)=decide (m.2.1=x):=rfl;simp only[beq_iff_eq]
  split <;> split <;> push_cast <;> omega
theorem qdx{n:Int}{Q:ac}(hn:Pb){p x:Int}(sc:abY):∀{ms:bX},(∀m∈ms,m.1∈Q/\m.2.1∈Q/\ph)->(ms.map (dl x)).sum=(ms.map BW).sum-(ms.map (crx n p)).sum
 | [],_=>rfl
 | m::ms,h=>by
  have h0:=h m zG;rw[zL,zk,zL,zk,zL,zk,qdx hn sc λq hq=>h q abf,qgT hn sc h0.1 h0.2.1 h0.2.2];omega
theorem qd4{n:Int}{Q:ac}{a:rK}{K:dB}(hK:∀e∈K,e∈egs n Q):∀m∈emS a (egs n Q) K,m.1∈Q/\m.2.1∈Q/\ph:=λm hm=>by
 have both:∀e∈egs n Q,∀m,(m=rE e\/m=lE e)->m.1∈Q/\m.2.1∈Q/\ph:=λe he m hm=>by
  have i:=q0a e he;rcases hm with rfl|rfl
  ·exact⟨i.1,i.2,bT⟩
  ·exact⟨i.2,i.1,Ml⟩
 rcases zR.mp hm with k|k
 ·obtain⟨e,he,k⟩:=yg.mp k
  have:=(xr.mp k).2;refine both e he m ?_
  split at this
  ·exact .inl this
  ·exact .inr this
 ·obtain⟨e,he,k⟩:=yg.mp k
  simp only[zI,zg,or_false]at k;exact both e (hK e he) m k
theorem qiv{n h l c:Int}{bs:bX}(O:lG){K:dB}(hK:∀e∈K,e∈egs n aq)(con:∀e∈egs n (St h l bs),Rch (bs.map two++om++((egs n aq).filter λe=>Yl n h l bs e.1+c != 0).map Xe++K.map Xe) e.1 e.2.1):
  Rg jX:=by
 have up:=O.up;have inr:=O.inr;have mh:h∈St h l bs:=q0M.mpr bT;have ml:l∈St h l bs:=q0M.mpr (.inr bT);have ei:=qd4 (a:=λe=>Yl n h l bs e.1+c) hK;have ain:∀m∈bs++emS (λe=>Yl n h l bs e.1+c) (egs n (St h l bs)) K,m.1∈St h l bs/\m.2.1∈St h l bs/\ph:=λm hm=>(zR.mp hm).elim (λk=>⟨(O.bin m k).1,(O.bin m k).2,(O.hb m k).2.2⟩) (ei m);have Ein:∀t∈(bs++emS (λe=>Yl n h l bs e.1+c) (egs n (St h l bs)) K).map two++[(l,h)],t.1∈St h l bs/\t.2∈St h l bs:=λt ht=>by
  rcases zR.mp ht with k|k
  ·obtain⟨m,hm,rfl⟩:=za.mp k;exact⟨(ain m hm).1,(ain m hm).2.1⟩
  ·rw[zV.mp k];exact⟨ml,mh⟩
 constructor
 ·refine List.perm_iff_count.mpr λx=>?_
  have c1:∀A:List gJ,sts (A++Ed)=A.map (·.1)++[l]:=λA=>by unfold sts;rw[zO];rfl
  have c2:∀A:List gJ,gls (A++Ed)=A.map (·.2)++[h]:=λA=>by unfold gls;rw[zO];rfl
  rw[c1,c2,wC,wC]
  by_cases hx:x∈St h l bs
  ·obtain⟨p,sc⟩:=qkF up inr hx
   have s1:=qdx inr sc ain;have s2:=qfo (x:=x) (bs++emS aU bO K);have cl:=qgT inr sc (m:=Qm) mh ml bT;have key:((bs++emS aU bO K).map BW).sum-((bs++emS aU bO K).map (crx n p)).sum=crx n x Qm-crx n p Qm:=by
    by_cases xp:x=p
    ·rw[xp];omega
    ·have all:∀y∈St h l bs,((bs++emS aU bO K).map (crx n y)).sum=crx n y Qm+c:=λy hy=>by
      unfold emS;rw[zO,yH,zO,yH,cr_K,q7A,qh4 (h:=h) (l:=l) λb hb=>(O.hb b hb).2.2];have z:((egs n aq).map λe=>bA*(if goN n e.1 e.2.1 y=true then cI else 0))=(egs n aq).map λe=>bA*(if e.1=y then cI else 0):=yI λe he=>by
       have se:=((q4t up inr).mp he).1;have ne:e.1≠e.2.1:=λw=>by
        have q1:x=e.1:=Classical.byContradiction λq=>(se.2.2 x hx q).1 w.symm;have q2:p=e.1:=Classical.byContradiction λq=>(se.2.2 p sc.1 q).1 w.symm;exact xp (q1.trans q2.symm)
       rw[q9w inr se ne hy]
      have sa:=q73 (f:=λz=>Yl n h l bs z+c) (E:=egs n aq) (x:=y) (by rw[qV];exact up.imp λq=>∅) (by rw[qV];exact hy);rw[z,sa];show _=(if cI=1 then (if goN n h l y=true then cI else 0)else _)+c;rw[lW];omega
     rw[all x hx,all p sc.1];omega
   have dh:dl x Qm=(if h=x then cI else 0)-(if l=x then cI else 0):=rfl;simp only[YJ,List.count_nil,beq_iff_eq];have a1:(if l=x then 1 else 0:Nat)=(if l=x then cI else 0):=by split <;> rfl
   have a2:(if h=x then 1 else 0:Nat)=(if h=x then cI else 0):=by split <;> rfl
   omega
  ·have z1:∀L:List Int,(∀y∈L,y∈St h l bs)->L.count x=0:=λL hL=>List.count_eq_zero.mpr λk=>hx (hL x k)
   rw[<- wC,<- wC,<- c1,<- c2,z1 _ λy hy=>?_,z1 _ λy hy=>?_]
   ·obtain⟨t,ht,rfl⟩:=za.mp hy;exact(Ein t ht).2
   ·obtain⟨t,ht,rfl⟩:=za.mp hy;exact(Ein t ht).1
 ·have eR:∀e∈egs n (St h l bs),Rch jX e.1 e.2.1:=λe he=>Rch.sub (λt ht=>by
   have inM:∀m∈bs++emS (λe=>Yl n h l bs e.1+c) (egs n (St h l bs)) K,Rch jX m.1 m.2.1:=λm hm=>.of (zM _ (zy (f:=two) hm));rcases zR.mp ht with k|k
   ·rcases zR.mp k with k|k
    ·rcases zR.mp k with k|k
     ·obtain⟨b,hb,rfl⟩:=za.mp k
      exact inM b (zM _ hb)
     ·rw[zV.mp k]
      exact(Rch.of (zJ _ zG)).symm
    ·obtain⟨q,hq,rfl⟩:=za.mp k
     obtain⟨hq,nz⟩:=yM.mp hq;have nz:Yl n h l bs q.1+c≠0:=by simpa using nz
     have pos:(Y3 (Yl n h l bs q.1+c)).toNat≠0:=by unfold Y3;split <;> omega
     by_cases z:0<Yl n h l bs q.1+c
     ·have m:rE q∈bs++emS aU bO K:=zJ _ (zM _ (yg.mpr ⟨q,hq,by
       unfold emE;rw[gR];exact xr.mpr ⟨pos,rfl⟩⟩))
      exact inM (rE q) m
     ·have m:lE q∈bs++emS aU bO K:=zJ _ (zM _ (yg.mpr ⟨q,hq,by
       unfold emE;rw[gE];exact xr.mpr ⟨pos,rfl⟩⟩))
      exact(inM (lE q) m).symm
   ·obtain⟨q,hq,rfl⟩:=za.mp k
    exact inM (rE q) (zJ _ (zJ _ (yg.mpr ⟨q,hq,zG⟩)))) (con e he)
  have hR:∀x∈St h l bs,Rch jX h x:=λx hx=>qil up inr mh hx λe he _=>eR e he;exact λp hp q hq=>(hR _ (Ein p hp).1).symm.trans (hR _ (Ein q hq).1)
def Ch:List ag->Int->Int->Prop
 | [],s,l=>s=l
 | b::r,s,l=>b.1=s/\Ch r b.2.1 l
def On(n:Int)(x:Int):Prop:=0<=x/\x<n
def OnB(n:Int)(b:ag):Prop:=On n b.1/\On n b.2.1/\gQ
noncomputable def mvR(m:bB):D:=match m.1 with
 | none=>goD m.2
 | some k=>.tup [bW, mB,kA,iy,mO]
noncomputable def Wo(bs:bX):List bB:=bs.zipIdx.map λp=>acC
theorem q4L(bs:bX):(Wo bs).map (·.2)=bs:=by
 unfold Wo;rw[zi];exact List.zipIdx_map_fst 0 bs
theorem qa0:∀(bs:bX)(k:Nat),WS k BI=(bs.zipIdx k).map λp=>D.tup Ec
 | [],_=>rfl
 | b::bs,k=>by
  rw[zL,List.zipIdx_cons,zL,<- qa0 bs (k+1)];rfl
theorem qdi{bs:bX}(hb:iM):q2B [ao]=some (.fr V8):=by
 unfold q2B q5F;have en:=qa0 bs 0;have kl:(bs.zipIdx.map λp=>D.tup Ec).length<=1000000:=by rw[zB,List.length_zipIdx];omega
 have cm:=q1j (g:=gT 2 fY) (c:=Y7) (f:=q77) (λw=>∃a b,w=rG) De (λp:ag×Nat=>D.tup Ec) (λp=>mvR acC) bs.zipIdx (ω:=MC) pS λp _ w hw=>by
  obtain⟨a,b,rfl⟩:=hw;exact S9
 rw[Iz]at cm;simp_arith[qcV,qcF,en,WD kl,inW,WJ,cm];unfold Wo;rw[zi];rfl
theorem qkk(m:bB):oSl BH (some (-3)) (some (-1))=↥(Ym abl):=by
 obtain⟨o,a,b,w⟩:=m;cases o <;> rfl
theorem qe8{A:bX}:∀{q:cH}{s l:Int},Wlk SK s q l->(∀k∈q,k<A.length)->Ch (q.map λk=>A.getD k QF) s l
 | [],_,_,h,_=>by cases h;rfl
 | k::q,s,l,h,hk=>by
  cases h with
  | cons e t=>
   have kl:=hk k zG;have g:(A.map two).getD k (0,0)=two (A.getD k QF):=by
    rw[zT,zT,zX,zD kl];rfl
   have e1:XL SK k=(A.getD k QF).1:=by unfold XL;rw[g];rfl
   have e2:WH SK k=(A.getD k QF).2.1:=by unfold WH;rw[g];rfl
   rw[e2]at t;exact⟨e1.symm.trans e,qe8 t λj hj=>hk j (zH _ hj)⟩
theorem qey{α:Type}(d:α){A:bJ}{q:cH}(h:q.Perm (zY A.length)):(q.map λk=>A.getD k d).Perm A:=by
 have e:=q6g d A;have:=h.map λk=>A.getD k d;rw[e]at this;exact this
theorem qjm{n h l c:Int}{bs:bX}(O:lG)(hc:-30<=c/\c<=30)(bt:q0W bU=↥lQ)(sh:∀f,Tells aq (bs.map two++om++((egs n aq).filter λe=>Yl n h l bs e.1+c != 0).map Xe) f->(emS aU bO (Xd f jh).2).length+bs.length<63):
  ∃(f:cQ) (ms:IU),Tells aq (bs.map two++om++((egs n aq).filter λe=>Yl n h l bs e.1+c != 0).map Xe) f/\q1u bU=some (.fr Qg) /\
   ms.Perm (Wo bs++(emS aU bO (Xd f jh).2).map λm=>Cj)/\Ch (ms.map (·.2)) h l:=by
 obtain⟨f,hf,em⟩:=qjt O hc;have hlen:=sh f hf;have ca:=qdi (bs:=bs) O.lb;have pmK:=qK (f:=Yo) (l:=egs n aq);have hK:∀e∈(Xd f (Yt Yo (egs n (St h l bs)))).2,e∈egs n aq:=λe he=>pmK.mem_iff.mp Rv;have con:∀e∈egs n (St h l bs),Rch (bs.map two++om++((egs n aq).filter λe=>Yl n h l bs e.1+c != 0).map Xe++(Xd f jh).2.map Xe) e.1 e.2.1:=λe he=>
  zBK jh f _ [] (by rw[yU,zn];exact hf) (O.ok c).inn (by simp) (λe he=>q0a e (pmK.mem_iff.mp he)) e (pmK.mem_iff.mpr he)
 have rg:=qiv O hK con;refine⟨f,?_⟩;generalize emS aU bO (Xd f jh).2=em' at *
 let A:List bB:=Wo bs++em'.map λm=>Cj
 have A2:A.map (·.2)=bs++em':=by
  show List.map (λm:Option Nat×ag=>m.2) (Wo bs++em'.map λm=>Cj)=_;rw[zO,q4L,zi]
  congr 1
  exact wj _
 have Al:A.length=bs.length+em'.length:=by
  have t:(A.map (·.2)).length=(bs++em').length:=vn yZ A2;rw[zB]at t;rw[t,zE]
 rw[<- A2]at rg;have rg':Rg ((A.map λm=>two m.2)++Ed):=by rw[zi]at rg;exact rg
 obtain⟨q,q1,q2,q3⟩:=qk1 (as:=A.map λm=>two m.2) (h:=h) (l:=l) (by rw[zB];omega) rg';rw[zB]at q2;have ql:∀k∈q,k<A.length:=λk hk=>yO.mp (q2.mem_iff.mp hk);refine⟨q.map λk=>A.getD k EF,hf,?_,qey _ q2,?_⟩
 ·have ad:Xo (.lst V8) (.lst (em'.map goD))=some (.fr SL):=by
   have cl:(Wo bs).length=bs.length:=by have:=vn yZ (q4L bs);rwa [zB]at this
   rw[q7J (by rw[zB,zB,cl];omega)];show _=some (R.fr ((Wo bs++em'.map λm=>Cj).map mvR));rw[zO,zi (l:=em')];rfl
  have k1:(A.map mvR).length<=1000000:=by rw[zB];omega
  have c1:=qA (i:=0) (f:=q3p) mvR (λm=>Ym abl) A (ω:=FZ) (λm _=>by
   have s:=qkk m;unfold q3p;simp_arith[s])
  have k2:((cst q).map D.int).length<=1000000:=by unfold cst;rw[zB,zB,q2.length_eq,zh];omega
  have c2:=qA (i:=0) (f:=q3I) (λk:Nat=>D.int bh) (λk=>mvR (A.getD k EF)) q (ω:=[none,↥(.lst SL)]) (λk hk=>by
   have kl:=ql k hk;have at':atI SL bh=some (mvR (A.getD k EF)):=by
    rw[q0n ∅ (by rw[zB];omega)];rw[zT,zD kl];simp
   unfold q3I;simp_arith[at'])
  have q1':q0t [dA,dQ,.lst Ob]=some (.fr (q.map λk:Nat=>D.int bh)):=by
   rw[zi]at q1;rw[show Ob=A.map (Ym ∘ λm=>two m.2)from rfl,q1];unfold cst;rw[zi];rfl
  have k2':(q.map λk:Nat=>D.int bh).length<=1000000:=by rw[zB,q2.length_eq,zh];omega
  clear_value A
  unfold q1u q4j;simp_arith[bt,ca,em,ad,WD k1,inW,WJ,c1,q1',WD k2',c2];rw[zi];rfl
 ·have w2:Wlk ((A.map (·.2)).map two) h q l:=by rw[zi];exact q3
  have:=qe8 w2 λk hk=>by rw[zB];exact ql k hk
  rw[zi];rw[show (q.map ((·.2) ∘ λk=>A.getD k EF))=q.map λk=>(A.map (·.2)).getD k QF from yI λk hk=>by
   show (A.getD k EF).2=_;rw[zT,zT,zX,zD (ql k hk)];rfl]
  exact this
theorem k_ne:∀(es:dB)(f:cQ)(acc:dB),(∀e∈acc,e.1≠e.2.1)->∀e∈(es.foldl XJ (f,acc)).2,e.1≠e.2.1
 | [],_,_,h,e,he=>h e he
 | q::es,f,acc,h,e,he=>by
  rw[ZF]at he
  by_cases z:f q.1=f q.2.1
  ·rw[show XJ nN q=nN by unfold XJ;simp[z]]at he
   exact k_ne es f acc h e he
  ·obtain⟨g,hg⟩:∃g,XJ nN q=(g,acc++[q]):=⟨_,by unfold XJ;rw[gE]⟩
   rw[hg]at he;refine k_ne es g (acc++[q]) (λx hx=>?_) e he;rcases zR.mp hx with k|k
   ·exact h x k
   ·rw[zV.mp k]
    exact λw=>z (by rw[w])
theorem qe7:∀(es:dB)(f:cQ)(acc:dB),(∀e∈es,f e.1=f e.2.1)->(es.foldl XJ nN).2=acc
 | [],_,_,_=>rfl
 | q::es,f,acc,h=>by
  have z:=h q zG;rw[ZF,show XJ nN q=nN by unfold XJ;simp[z]];exact qe7 es f acc λe he=>h e Kz
theorem qfe{n:Int}{Q:ac}(hn:Pb)(hQ:Q.Pairwise (· < ·)){e:Eg}(he:e∈egs n Q)(ne:e.1≠e.2.1):stN n Mw=Yo e/\stN n Mx=Yo e:=by
 have q:=((q4t hQ hn).mp he).2;rw[qkL ne]at q;unfold Yo;rw[q];unfold stN rE lE
 constructor
 ·show (e.2.1-e.1)*1%n=_
  rw[ZP]
 ·show (e.1-e.2.1)*-1%n=_
  congr 1;omega
theorem qhO{n:Int}{a:rK}{e:Eg}(h:a e≠0->stN n Mw=Yo e/\stN n Mx=Yo e):((emE a e).map iQ).sum=Yo e*Y3 (a e):=by
 unfold emE;rw[q5R]
 by_cases z:a e=0
 ·rw[z];show AY*_=Yo e*0;rw[Z4];exact Z5 _
 ·have e0:r8=Y3 (a e):=by unfold Y3;split <;> omega
  rw[e0]
  split
  ·rw[(h z).1,Int.mul_comm]
  ·rw[(h z).2,Int.mul_comm]
theorem qbm{n:Int}{a:rK}:∀{E:dB},(∀e∈E,a e≠0->stN n Mw=Yo e/\stN n Mx=Yo e)->((E.flatMap Nt).map iQ).sum=(E.map λe=>Yo e*Y3 (a e)).sum
 | [],_=>rfl
 | e::E,h=>by rw[yq,zO,yH,qbm λx hx=>h x iP,qhO (h e zG),zL,zk]
theorem qh5{n:Int}:∀{K:dB},(∀e∈K,stN n Mw=Yo e/\stN n Mx=Yo e)->((K.flatMap λe=>mR).map iQ).sum=2*(K.map Yo).sum
 | [],_=>rfl
 | e::K,h=>by
  have q:=h e zG;rw[yq,zO,yH,qh5 λx hx=>h x iP,zL,zL,yU,zk,zk,wB,q.1,q.2,zL,zk];omega
theorem q8b{n h l c R:Int}{bs:bX}(O:lG)(wr:WR n h l bs c R)(lo:∀c w,WR n h l bs c w->R<=w){e:Eg}(he:e∈egs n aq)(z:e.1=e.2.1):Yl n h l bs e.1+c=0:=by
 have se:=((q4t O.up O.inr).mp he);have all:∀x∈St h l bs,x=e.1:=λx hx=>Classical.byContradiction λq=>(se.1.2.2 x hx q).1 z.symm;have eh:=all h (q0M.mpr bT);have ell:=all l Tq;have eb:∀b∈bs,b.1=e.1/\b.2.1=e.1:=λb hb=>⟨all _ (O.bin b hb).1,all _ (O.bin b hb).2⟩;have go:∀y,goN n e.1 e.1 y=false:=λy=>by
  unfold goN;have:=wO (y-e.1) (show n≠0 by have:=O.n1;omega);rw[vQ];rw[ZC,Int.zero_emod];omega
 have l0:∀y,Yl n h l bs y=0:=λy=>by
  have r0:rts n bs y=[]:=xS.mpr λb hb=>by rw[(eb b hb).1,(eb b hb).2,go];simp
  have f0:lfs n bs y=[]:=xS.mpr λb hb=>by rw[(eb b hb).1,(eb b hb).2,go];simp
  unfold Yl;rw[eh,ell,go,r0,f0];rfl
 obtain⟨w0,v0⟩:=O.ex 0;have R0:=lo 0 w0 v0;obtain⟨m0,⟨_,lo0⟩,e0⟩:=v0;obtain⟨m,⟨⟨C,c1,_,_,c4⟩,_⟩,eR⟩:=wr;have eR:R=(bs.map iQ).sum+((egs n aq).map λe=>Yo e*Y3 bA).sum+2*m:=eR;have e0:w0=(bs.map iQ).sum+((egs n aq).map λe=>Yo e*Y3 TB).sum+2*m0:=e0;have n0:0<n:=by have:=O.n1;omega
 have nn:=qao (P:=St h l bs) n0;have mp:=q69 λx hx=>nn x (c1 x hx);have m00:=lo0 [] (by simp) λq hq=>by
  rw[all _ (q0a q hq).1,all _ (q0a q hq).2];exact .refl
 rw[yU,wB]at m00;have z0:((egs n aq).map λe=>Yo e*Y3 TB)=(egs n aq).map λ_=>A7:=yI λq _=>by rw[l0];exact Z4 _
 have s0:∀L:List Eg,(L.map λ_=>A7).sum=0:=λL=>by
  induction L with
  | nil=>rfl
  | cons _ _ ih=>rw[zL,zk,ih];rfl
 rw[z0,s0]at e0;have le:∀L:List Eg,(∀x∈L,x∈egs n aq)->e∈L->Yo e*Y3 bA<=(L.map λe=>Yo e*Y3 bA).sum/\0<=(L.map λe=>Yo e*Y3 bA).sum:=λL=>by
  have pos:∀x∈egs n (St h l bs),0<=Yo x*Y3 Tz:=λx hx=>Int.mul_nonneg (nn x hx) (by unfold Y3;split <;> omega);have p0:∀L:List Eg,(∀x∈L,x∈egs n aq)->0<=(L.map λe=>Yo e*Y3 bA).sum:=λL=>by
   induction L with
   | nil=>exact λ_=>yh _
   | cons y L ih=>
    intro hL;have a:=pos y (hL y zG);have b:=ih λx hx=>hL x iP;rw[zL,zk];omega
  induction L with
  | nil=>exact λ_ h=>by cases h
  | cons y L ih=>
   intro hL hm;have a:=pos y (hL y zG);have b:=p0 L λx hx=>hL x iP;refine⟨?_,p0 _ hL⟩;rw[zL,zk];rcases zI.mp hm with rfl|hm
   ·omega
   ·have:=(ih (λx hx=>hL x iP) hm).1
    omega
 have l1:=(le _ (λx hx=>hx) he).1;generalize ((egs n aq).map λe=>Yo e*Y3 bA).sum=SS at eR l1;have ce:Yo e=n:=by
  show e.2.2=n;rw[se.2,<- z];exact qkZ
 rw[ce]at l1;generalize Yl n h l bs e.1+c=A at *
 by_cases zA:A=0
 ·exact zA
 ·have:0<n*Y3 A:=Int.mul_pos n0 (by unfold Y3;split <;> omega)
  omega
theorem qg5{n h l c R:Int}{bs:bX}(O:lG)(wr:WR n h l bs c R)(lo:∀c w,WR n h l bs c w->R<=w){f:cQ}(hf:Tells aq (bs.map two++om++((egs n aq).filter λe=>Yl n h l bs e.1+c != 0).map Xe) f):
  (bs.map iQ).sum+((emS aU bO (Xd f jh).2).map iQ).sum=R:=by
 have w2:=O.wv c hf;have a1:=q7S wr w2;have a2:=q7S w2 wr;have pmK:=qK (f:=Yo) (l:=egs n aq);have hK:∀e∈(Xd f (Yt Yo (egs n (St h l bs)))).2,e∈egs n aq:=λe he=>pmK.mem_iff.mp Rv;unfold emS;rw[zO,yH,qbm λe he ne=>qfe O.inr O.up he λz=>ne (q8b O wr lo he z),qh5 λe he=>qfe O.inr O.up (hK e he) (k_ne _ f [] (by simp) e he)];omega
theorem q6J{B:Nat}{a:rK}:∀{E:dB},(∀e∈E,Y3 (a e)<=B)->(E.flatMap Nt).length<=B*E.length
 | [],_=>yA _
 | e::E,h=>by
  have ih:=q6J (a:=a) (E:=E) λx hx=>h x iP;have t:=h e zG;have q:(emE a e).length<=B:=by unfold emE;rw[yT];omega
  rw[yq,zE,zK,Nat.mul_succ];omega
theorem qeO{n h l:Int}{bs:bX}(x y:Int):Yl n h l bs x-Yl n h l bs y<=bs.length+1:=by
 have r:∀z,(rts n bs z).length<=bs.countP λb=>b.2.2==1:=λz=>by
  unfold rts;rw[<- wQ];exact ZN λb _ hb=>by rw[zu]at hb;exact hb.1
 have f:∀z,(lfs n bs z).length<=bs.countP λb=>b.2.2 == -1:=λz=>by
  unfold lfs;rw[<- wQ];exact ZN λb _ hb=>by rw[zu]at hb;exact hb.1
 have s:∀bs:List ag,(bs.countP λb=>b.2.2==1)+(bs.countP λb=>b.2.2 == -1)<=bs.length:=λbs=>by
  induction bs with
  | nil=>exact zQ _
  | cons b bs ih=>
   rw[wK,wK,zK];have:¬((b.2.2==1)=true/\(b.2.2 == -1)=true):=λk=>by
    have k1:=eq_of_beq k.1;have k2:=eq_of_beq k.2;omega
   split <;> split <;> first|omega|(exfalso;exact this ⟨by assumption,by assumption⟩)
 have s1:=s bs;have r1:=r y;have f1:=f x;unfold Yl
 split <;> split <;> omega
theorem qgd{n h l c:Int}{bs:bX}(O:lG)(b5:bs.length<=5)(s7:(St h l bs).length<=7)(hc:PQ){f:cQ}(hf:Tells aq (bs.map two++om++((egs n aq).filter λe=>Yl n h l bs e.1+c != 0).map Xe) f):
  (emS aU bO (Xd f jh).2).length+bs.length<63:=by
 have el:(egs n aq).length=(St h l bs).length:=by have:=vn yZ Q3;rwa [zB]at this
 have B0:(St h l bs).map nh≠[]:=λe=>by have m:h∈St h l bs:=q0M.mpr bT;rw[OC]at m;cases m
 obtain⟨x1,hx1,e1⟩:=za.mp (q1I B0).1;obtain⟨x2,hx2,e2⟩:=za.mp (q0Z B0).1;have mx:∀x∈St h l bs,Yl n h l bs x<=W8 du:=λx hx=>(q1I B0).2 _ (zy hx);have mn:∀x∈St h l bs,X7 du<=Yl n h l bs x:=λx hx=>(q0Z B0).2 _ (zy hx);have sp:=qeO (n:=n) (h:=h) (l:=l) (bs:=bs) x1 x2;rw[e1,e2]at sp;generalize W8 du=MX at *;generalize X7 du=MN at *;have kl:(Xd f jh).2.length<=7:=by
  have a1:=(q0P f jh).length_le;have a2:=(qK (f:=Yo) (l:=egs n aq)).length_eq;omega
 unfold emS;rw[zE,qcc]
 by_cases z:-MX<=c/\c <= -MN
 ·have s:=q6J (B:=6) (a:=λe=>Yl n h l bs e.1+c) (E:=egs n aq) λe he=>by
   have a:=mx _ (q0a e he).1;have b:=mn _ (q0a e he).1;unfold Y3;split <;> omega
  omega
 ·have s:=q6J (B:=7) (a:=λe=>Yl n h l bs e.1+c) (E:=egs n aq) λe he=>by
   have a:=mx _ (q0a e he).1;have b:=mn _ (q0a e he).1;unfold Y3;split <;> omega
  have k0:(Xd f jh).2=[]:=qe7 _ f [] λe he=>by
   have he:=(qK (f:=Yo) (l:=egs n aq)).mem_iff.mp he;have a:=mx _ (q0a e he).1;have b:=mn _ (q0a e he).1;refine(hf _ (q0a e he).1 _ (q0a e he).2).mpr (.of (zJ _ (za.mpr ⟨e,yM.mpr ⟨he,?_⟩,rfl⟩)));simp only[bne_iff_ne];omega
  rw[k0,yu];omega
theorem qdq{a b:cH}:(Y1 a).Perm (Y1 b)↔a.Perm b:=by
 refine⟨λh=>?_,λh=>h.map _⟩;have:=h.map ZV;unfold Y1 at this;rw[zi,zi]at this;have e:(ZV ∘ Int.ofNat)=id:=by funext k;rfl
 rw[e,wj,wj]at this;exact this
theorem qjX(n:Nat):(Y1 Jb).Pairwise (· <= ·):=by
 unfold Y1;rw[wg];exact(xx (n:=n)).imp λ{a b} h=>(by show VT<=(b:Int);omega)
theorem q8r(n:Nat):zAR 0 n=Y1 Jb:=by
 unfold zAR Y1;apply yI;intro k _;show A7+bh=bh;rw[ZB]
theorem qfL(a:cH)(n:Nat):decide (Yz (Y1 a)=Y1 Jb)=decide (a.Perm Jb):=by
 have e:Yz (Y1 Jb)=Y1 Jb:=q1K q1c (qjX n) qF;have:Yz (Y1 a)=Y1 Jb↔a.Perm Jb:=by
  rw[<- qdq,<- q9s,e]
 simp only[this]
theorem q8e(k:Nat):∀ls:List Nat,k∈ls->∃j,W7 bh (Y1 ls)=some j/\(Y1 ls).eraseIdx j=Y1 (ls.erase k)
 | [],h=>nomatch h
 | a::r,h=>by
  by_cases z:a=k
  ·subst z
   refine⟨0,lW,?_⟩;rw[List.erase_cons_head];rfl
  ·have hr:k∈r:=by
    rcases zI.mp h with y|y
    ·exact vN y.symm z
    ·exact y
   obtain⟨j,e1,e2⟩:=q8e k r hr;refine⟨j+1,?_,?_⟩
   ·show (if VT=bh then some 0 else (W7 bh (Y1 r)).map (·+1))=_
    rw[Ez,e1];rfl
   ·rw[List.erase_cons_tail ⇑z]
    show VT::(Y1 r).eraseIdx j=VT::Y1 (r.erase k);rw[e2]
theorem oInN(a:Int)(ns:ac):oIn true cM TL=↥(.bl (!decide (a∈ns))):=by
 have h:K0=true:=by
  rw[wR];simp only[zu,ym];exact⟨rfl,λx _=>rfl⟩
 show (if K0=true then some (R.sh (D.bl (!Hk.inD cM fq)))else none)=_;rw[vH h,q6C]
theorem qjJ(b:ag)(p q w:Int):oEq true (tri b) kU=↥(.bl (!(decide (b=(p,q,w))))):=by
 show some (R.sh (.bl (!(b.1==p&&(b.2.1==q&&(b.2.2==w&&true))))))=_
 congr 3
 obtain⟨x,y,z⟩:=b
 by_cases h1:x=p <;> by_cases h2:y=q <;> by_cases h3:z=w <;> simp[h1,h2,h3]
theorem qcv{w:Int}(h:w.natAbs<2^200):zAt e8 e8=↥(.int (w*w)):=qgt h h
theorem qlc{m:Int}{ns:ac}{i j:Nat}{ω:WSt}(h:W7 m ns=some j):remP i ω (some (.int m)) (some (some (.pw fq)))=some jG:=by
 show (intsOf fq).bind _=_;rw[q0x];show (W7 m ns).map _=_;rw[h];rfl
theorem qdW{bs:bX}{k:Nat}{b:ag}(h:bs[k]?=some b):atI BI bh=some (tri b):=by
 have hk:k<bs.length:=(zc.mp h).1;rw[q0n ∅ (by rw[zB];omega)];rw[zD hk]at h;simp only[yK,xJ,zr h]
noncomputable def Wc(m:bB):D:=match m.1 with
 | none=>.tup [dG, kA,iy]
 | some k=>.tup [bW, mB,kA,iy]
theorem q7g:shp dG=true:=⋯
theorem q64:shp bW=true:=⋯
theorem qhy(b:Bool):oEq b dG bW=some (.sh GW):=by
 show (if (shp dG&&shp bW)=true then _ else none)=_;rw[q7g,q64];cases b <;> rfl
theorem qkY{a b:Int}(h:a≠b):q2h [.tup [dG, cM,iz]]=some Ff:=by
 have s0:oEq true dG dG=some Km:=q3q q7g;have w0:=q1B (d:=.int a) rfl;have w1:=q1B (d:=.int b) rfl;have ne:UL=false:=by simpa using h
 unfold q2h q5W;simp_arith[s0,w0,w1];simp_arith[show Ph=true from rfl,s0,w0,w1,X6,ne]
theorem ql2{k a b:Int}:q2h [.tup [bW, kX,cM,iz]]=some Km:=by
 unfold q2h q5W;simp_arith[q07];simp_arith[show (ja==3)=false from rfl]
theorem qkS{bs:bX}{k:Nat}{b:ag}(h:bs[k]?=some b):q1V [ji,Mi]=some Ff:=by
 have kl:k<bs.length:=(zc.mp h).1;have s0:oEq true bW bW=some Km:=q3q q64;have c1:oSl ji Cg none=some (.sh (.tup ([bh,b.1,b.2.1].map D.int))):=rfl;have c2:oSl ji (some 2) none=some (.sh ac6):=rfl;have cm:=qA (i:=0) (f:=q1p) D.int Au [bh,b.1,b.2.1] (ω:=FZ) (λx _=>by
  have w:=q1B (d:=.int x) rfl;unfold q1p;simp_arith[w,X6])
 have k1:([bh,b.1,b.2.1].map D.int).length<=1000000:=by simp only[zL,yU,zK,yu];omega
 have ba:zAx [.lst ([bh,b.1,b.2.1].map λ_=>D.bl true)]=↥bY:=rfl;have at':atI gW bh=some (XY (two b)):=by
  rw[q0n ∅ (by rw[zB,zB];omega)];rw[zD kl]at h;simp only[yK,xJ,zr h]
 have eq:oEq false ac6 (XY (two b))=some Ff:=q54 rfl;have g1:decide (bh>=0)=true:=vO ∅;have g2:decide (bh<LV)=true:=vO ∅;have hf:q0l [ji,Mi]=some Ff:=by
  generalize [bh,b.1,b.2.1].map D.int=P at c1 cm k1;generalize [bh,b.1,b.2.1].map Au=Q at cm ba;unfold q0l q1z;simp_arith[s0,c1,WD k1,inW,WJ,cm,ba];simp_arith[show (ja==4)=true from rfl,s0,c1,WD k1,inW,WJ,cm,ba,zB,g1,g2]
 unfold q1V q4O;simp_arith[hf,c2,at',eq]
section
variable{n h l:Int}{bs:List (Int×Int×Int)}{ms:List (Option Nat×(Int×Int×Int))}
def zB1(n:Int)(bs:bX)(m:bB):Prop:=OnB n m.2/\By/\∀k,m.1=some k->bs[k]?=some m.2
theorem ql5{m:bB}(g:zB1 n bs m):q2F [Pz,Mi]=↥bY:=by
 obtain⟨o,b⟩:=m;obtain⟨_,g2,g3⟩:=g;unfold q2F q5j Wc;cases o with
 | none=>have e:=qkY (g2 rfl);simp_arith[e]
 | some k=>have e:=qkS (g3 k rfl);simp_arith[ql2,e]
theorem ql9{m:bB}(g:zB1 n bs m):q0v [aY,ao,BH]=↥bY:=by
 obtain⟨o,a,b,w⟩:=m;obtain⟨⟨g1,g2,g3⟩,_,g4⟩:=g;have wy:=qc1 (d:=.int w) rfl;have wt:zBl e8=true:=by
  show (w==1 || w == -1)=true;rcases g3 with z|z <;> rw[show w=_ from z] <;> rfl
 rw[wt]at wy;have pl:∀{x:Int},On n x->qG [aY,GU]=↥bY:=λ{x} hx=>by
  rw[q2E rfl];show some (O.sh (.bl (decide (0<=x)&&decide (x<n))))=_;rw[vO hx.1,vO hx.2];rfl
 unfold q0v q22 mvR goD;cases o with
 | none=>
  have p0:=pl g1;have p1:=pl g2;have i1:oIx (.tup [dG, cM,iz,e8]) IW=some (.sh e8):=rfl;simp_arith[i1,wy,qhy,p0,p1]
 | some k=>
  have i1:oIx (.tup [bW, mB,cM,iz,e8]) IW=some (.sh e8):=rfl;have sb:oEq false bW bW=some Ff:=q54 q64;have at':=qdW (g4 k rfl);have i2:atI [D.int a,iz,e8] 2=some e8:=rfl;have ww:(w==w)=true:=beq_self_eq_true w;simp_arith[i1,wy,sb,at',tri,i2,ww]
theorem qhq:∀{ms:IU}{h l:Int}{x0 x1 x2 x4:bS},Ch (ms.map (·.2)) h l->∃y,W9 N5 q52 Gr [x0,x1,x2,↥dA,x4]=some (.nx,[x0,x1,x2,↥dQ,y])
 | [],h,l,x0,x1,x2,x4,c=>by cases (show h=l from c);exact⟨x4,rfl⟩
 | m::ms,h,l,x0,x1,x2,x4,c=>by
  obtain⟨c1,c2⟩:=c;obtain⟨y,ih⟩:=qhq (x0:=x0) (x1:=x1) (x2:=x2) (x4:=↥Pz) c2;refine⟨y,?_⟩;have i1:oIx Pz (.int (-2))=↥kA:=by unfold Wc;cases m.1 <;> rfl
  have i2:oIx Pz IW=↥iy:=by unfold Wc;cases m.1 <;> rfl
  have e1:(m.2.1==h)=true:=by rw[show m.2.1=h from c1];exact beq_self_eq_true h
  have st:q52 [x0,x1,x2,↥dA,↥Pz]=some (.nx,[x0,x1,x2,↥iy,↥Pz]):=by
   unfold q52;simp_arith[i1,i2,e1]
  rw[zL,W9];simp only[e_gn,yX,xo,xq,st];exact ih
theorem q7O:∀ms:List bB,((ms.filter λm=>m.1.isSome).map λm=>D.int QM)=(Y1 (ms.filterMap (·.1))).map D.int
 | []=>rfl
 | (none,b)::ms=>by rw[xu (by simp),yb];exact q7O ms
 | (some k,b)::ms=>by rw[xt rfl,zL,q7O ms,yb];rfl
theorem qla(O:lG)(hb:Jh)(hz:ms.length<=1000)(g:∀m∈ms,zB1 n bs m)(c:Ch (ms.map (·.2)) h l)(pm:(ms.filterMap (·.1)).Perm Af):
  q0I [aY,dA,dQ,ao,ii]=↥bY:=by
 have ck:=q8c O.n9 O.hh O.hl O.lb O.hb;have ww:=q6x O.lb;have allT:∀xs:List bB,zAx [.lst DV]=↥bY:=λxs=>by
  have a:allB DV=some true:=by
   induction xs with
   | nil=>rfl
   | cons x xs ih=>rw[zL,allB,ih];rfl
  show (allB DV).map _=_;rw[a];rfl
 have k1:(ms.map mvR).length<=1000000:=by rw[zB];omega
 have k2:(ms.map Wc).length<=1000000:=by rw[zB];omega
 have cA:=qA (i:=0) (f:=q1T) mvR Au ms (ω:=FZ) (λm _=>by
  unfold q1T mvR goD;cases m.1 <;> simp_arith -implicitDefEqProofs [q07])
 have cB:=qA (i:=0) (f:=q1O) mvR Wc ms (ω:=FZ) (λm _=>by
  have s:oSl BH none (some (-1))=↥Pz:=by unfold mvR Wc goD;cases m.1 <;> rfl
  unfold q1O;simp_arith -implicitDefEqProofs [s])
 have cC:=qA (i:=0) (f:=q4T) Wc Au ms (ω:=[none,↥Mi]) (λm hm=>by
  have e:=ql5 (g m hm);unfold q4T;simp_arith -implicitDefEqProofs [e])
 have cE:=qA (i:=0) (f:=q21) mvR Au ms (ω:=[none,↥aY,↥ao]) (λm hm=>by
  have e:=ql9 (g m hm);unfold q21;simp_arith -implicitDefEqProofs [e])
 have cD:Xn je q37 q34 Gr FZ=some ((Y1 (ms.filterMap (·.1))).map D.int):=by
  have:=q1R (i:=0) (c:=q37) (f:=q34) (λm=>m.1.isSome) Wc (λm=>D.int QM) ms (ω:=FZ) (λm _=>by
   have sb:oEq false bW bW=some Ff:=q54 q64;obtain⟨o,b⟩:=m;unfold q37 q34 Wc;cases o with
   | none=>exact⟨by simp_arith -implicitDefEqProofs [qhy];rfl,λz=>by cases z⟩
   | some k=>exact⟨by simp_arith -implicitDefEqProofs [sb];rfl,λ_=>by simp_arith -implicitDefEqProofs [q07];rfl⟩)
  rw[this,q7O]
 have nl:(Y1 (ms.filterMap (·.1))).length<64:=by
  unfold Y1;rw[zB,pm.length_eq,zh];omega
 have e4:=q66 nl;have e5:zAE [.int LV]=some Of:=by
  rw[qc3 DO,yK,q8r]
 have eq:=q6q (Yz (Y1 (ms.filterMap (·.1)))) (Y1 Af);rw[qfL,vO pm]at eq;obtain⟨y,ld⟩:=qhq (x0:=↥dA) (x1:=↥dQ) (x2:=↥(.lst Gr)) (x4:=none) c;have ll:(l==l)=true:=beq_self_eq_true l;have le:q4m [dA,dQ,.lst Gr]=↥bY:=by
  unfold q4m q85;simp_arith -implicitDefEqProofs [ld,ll]
 have co:=q9V (h:=h) (l:=l) (bs:=bs.map two) (by rw[zB];omega);have it:q2C [dA,dQ,Mi,.lst Gr]=↥bY:=by
  unfold q2C q5f;simp_arith -implicitDefEqProofs [co,WD k2,inW,WJ,cC,allT,cD,zB,e5];simp_arith -implicitDefEqProofs [e4,eq,le]
 unfold q0I q26;simp_arith -implicitDefEqProofs [ck,ww,WD k1,inW,WJ,cA,allT,cB,it,cE]
end
noncomputable def rs(bs:bX)(n:Int)(s:Int×List Nat)(m:bB):Option (Int×List Nat):=match m.1 with
 | none=>if m.2.1=s.1/\0<=m.2.2.1/\m.2.2.1<n/\mQ/\m.2.2.1≠s.1 then some (m.2.2.1,s.2)else none
 | some k=>if m.2.1=s.1/\0<=m.2.2.1/\m.2.2.1<n/\mQ/\k∈s.2/\bs[k]?=some m.2 then some (m.2.2.1,s.2.erase k)else none
theorem q9m{n:Int}{bs:bX}:∀{ms:IU}{h l:Int}{ls:cH},Ch (ms.map (·.2)) h l->(∀m∈ms,OnB n m.2/\By/\∀k,m.1=some k->bs[k]?=some m.2)->(ms.filterMap (·.1)).Perm ls->ms.foldlM abt (h,ls)=some (l,[])
 | [],h,l,ls,c,_,p=>by
  cases (show h=l from c);rw[List.filterMap_nil]at p;rw[List.nil_perm.mp p];rfl
 | m::ms,h,l,ls,c,o,p=>by
  obtain⟨c1,c2⟩:=c;have c1:m.2.1=h:=c1;obtain⟨⟨_,o2,o3⟩,o4,o5⟩:=o m zG;have o':=λx hx=>o x iP;rw[YD];obtain⟨k,b⟩:=m;cases k with
  | none=>
   have e:rs bs n (h,ls) (none,b)=some (b.2.1,ls):=by
    unfold rs
    dsimp only at c1 ⊢
    rw[vH ⟨c1,o2.1,o2.2,o3,λz=>o4 rfl (c1.trans z.symm)⟩]
   rw[e];exact q9m c2 o' (by rw[yb]at p;exact p)
  | some k=>
   rw[yb]at p;obtain⟨p1,p2⟩:=List.cons_perm_iff_perm_erase.mp (show (k::ms.filterMap (·.1)).Perm ls from p);have e:rs bs n (h,ls) (Kc,b)=some (b.2.1,ls.erase k):=by
    unfold rs
    dsimp only at c1 ⊢
    rw[vH ⟨c1,o2.1,o2.2,o3,p1,o5 k rfl⟩]
   rw[e];exact q9m c2 o' p2
theorem qi9(bs:bX):(Wo bs).filterMap (·.1)=zY bs.length:=by
 unfold Wo;rw[wV,List.range_eq_range',<- List.zipIdx_map_snd 0 bs,<- List.filterMap_eq_map];rfl
theorem qkx(em:bX):(em.map λm=>nu).filterMap (·.1)=[]:=by
 induction em with
 | nil=>rfl
 | cons a r ih=>rw[zL,yb];exact ih
theorem qjg{bs:bX}{m:bB}(h:m∈Wo bs):∃k,m.1=some k/\bs[k]?=some m.2:=by
 unfold Wo at h;obtain⟨p,hp,rfl⟩:=za.mp h;exact⟨p.2,rfl,List.mem_zipIdx_iff_getElem?.mp hp⟩
theorem q9v{kf:PF}{ds:aM}:∀k j:Nat,j<vt cW k->kn kf ds Ep<kn kf ds j
 | 0,j,h=>vN h (xT j)
 | k+1,j,h=>by
  have ih:=q9v (kf:=kf) (ds:=ds) k;obtain⟨h1,h2⟩:=qcY (kf:=kf) (ds:=ds) k;have e:vt cW (k+1)=if kbt kf ds (k+1) Ep=true then k+1 else vt cW k:=rfl
  rw[e]at h ⊢
  by_cases z:kn kf ds (k+1)<kn kf ds Ep
  ·rw[vH (vO z)]at h ⊢
   have:=h2 j ∅;omega
  ·rw[vJ Kt]at h ⊢
   exact ih j h
theorem best66{n h l:Int}{bs:bX}(O:lG):∃c R,q0W bU=↥lQ/\q0o bU=↥(.int R)/\WR n h l bs c R/\(∀c w,WR n h l bs c w->R<=w)/\PQ /\
  ∃ts bt:List D,q0u bU=some (.fr ts)/\ts.length<=1000/\Xn je q7e q7b ts [none,Mq]=some (.int c::bt):=by
 obtain⟨W,B,hB,B0,⟨k0,k1⟩,tu,rl,wr,lo⟩:=rl2 O;generalize hZ:(bs.map iQ).sum=Z at *
 let ds:List D:=(zY rn).map λk:Nat=>Xw Z W fM
 have dl:ds.length=nT B:=by rw[zB,zh]
 have dg:∀j,j<nT B->ds[j]?=some (Xw Z W Nh):=λj hj=>by
  rw[zX,yn hj];rfl
 have ko:∀d∈ds,keyOk qz d=true:=λd hd=>by
  obtain⟨k,_,rfl⟩:=za.mp hd;unfold keyOk;rw[qhJ]
 have kk:∀j,j<nT B->kn (WL qz) ds j=Z+W Nh:=λj hj=>by
  unfold kn;rw[dg j hj];show WL qz (Xw Z W Nh)=_;unfold WL;rw[qhJ]
 obtain⟨i1,i2⟩:=qcY (kf:=WL qz) (ds:=ds) (nT B-1);have i3:=q9v (kf:=WL qz) (ds:=ds) (nT B-1);generalize hi:vt (kbt (WL qz) ds) (nT B-1)=i at i1 i2 i3;have il:i<nT B:=∅
 have mk:=qkN ko;have ix:zBk (WL qz) ds=i:=by unfold zBk;rw[dl,hi]
 rw[ix,dg i il]at mk;have Re:X7 ((zY rn).map λk:Nat=>Z+W fM)=Z+W AI:=by
  have q:=q0Z (ns:=(zY rn).map λk:Nat=>Z+W fM) λe=>by have:=vn yZ e;rw[zB,zh]at this;exact vN this (by show ¬nT B=0;omega)
  obtain⟨k,hk,e⟩:=za.mp q.1;have hk:=yO.mp hk;have a:=i2 k ∅;rw[kk i il,kk k hk]at a;have b:=q.2 _ (za.mpr ⟨i,yO.mpr il,rfl⟩);omega
 refine⟨loT B+jd,Z+W AI,?_,by rw[rl,Re],wr i il,λc w v=>by rw[<- Re];exact lo c w v,?_,ds,?_⟩
 ·have mk':mkR qz (some (.lst ((zY rn).map λk:Nat=>Xw Z W fM)))=↥(Xw Z W AI):=mk
  unfold q0W q45;simp_arith[tu,qjQ,mk'];rfl
 ·rw[<- hB]
  unfold nT loT at *;omega
 ·have cm:=q1R (i:=0) (c:=q7e) (f:=q7b) (λk:Nat=>Z+W fM==Z+W AI) (λk:Nat=>Xw Z W fM) (λk=>D.int fM) (zY rn) (ω:=[none,↥(.int (Z+W AI))]) (λk _=>by
   unfold q7e q7b Xw
   constructor
   ·simp_arith[q07]
   ·intro _;simp_arith[q07])
  have hd:((zY rn).filter λk:Nat=>Z+W fM==Z+W AI).head?=some i:=by
   rw[List.head?_filter];refine List.find?_range_eq_some.mpr ⟨beq_self_eq_true _,yO.mpr il,aag⟩;have a:=i3 j hj;rw[kk i il,kk j ∅]at a;have:¬Z+W Nh=Z+W AI:=∅
   simpa using this
  cases q:(zY rn).filter λk:Nat=>Z+W fM==Z+W AI with
  | nil=>rw[q]at hd;cases hd
  | cons a r=>
   rw[q]at hd;have ea:a=i:=zr hd;rw[q,zL,ea]at cm;exact⟨_,tu,by rw[dl];omega,cm⟩
theorem qkf{n:Int}(n0:0<n){m:bB}(hw:mQ):q04 [aY,kA,iy,mO]=↥(.int Ln):=qhj n0 hw
theorem qih{n:Int}(n0:0<n){ms:IU}(hl:ms.length<=1000)(hw:∀m∈ms,m.2.2.2=1\/m.2.2.2=-1):q0R [aY,ii]=↥(.int ((ms.map (·.2)).map iQ).sum):=by
 unfold q0R q2X;have k1:(ms.map mvR).length<=1000000:=by rw[zB];omega
 have cm:=qA (i:=0) (f:=q2q) mvR abb ms (ω:=KU) (λm hm=>by
  have s:=qkf n0 (hw m hm);have a3:atI (match m.1 with|none=>Fu|some k=>Cz) (-3)=some kA:=by cases m.1 <;> rfl
  have a2:atI (match m.1 with|none=>Fu|some k=>Cz) (-2)=some iy:=by cases m.1 <;> rfl
  have a1:atI (match m.1 with|none=>Fu|some k=>Cz) (-1)=some mO:=by cases m.1 <;> rfl
  obtain⟨o,p,q,w⟩:=m;unfold q2q mvR goD;cases o with
  | none=>dsimp only at *;simp_arith[a1,a2,a3,s]
  | some k=>dsimp only at *;simp_arith[a1,a2,a3,s])
 have s1:=q5M (λm:Option Nat×ag=>stN n m.2) ms;simp_arith[WD k1,inW,WJ,cm,s1];rw[zi];rfl
theorem qjE{n:Int}(n0:0<n){m:bB}(hw:mQ):q1d [aY,BH]=↥(.int Ln):=by
 obtain⟨o,p,q,w⟩:=m;have m1:=q0s (a:=q-p) n0;have m2:=q0s (a:=p-q) n0;have sl1:oSl AV (some (((4:Nat):Int)-3)) none=some (.sh kU):=rfl;have sl2:∀k:Int,oSl (.tup [bW, kX,Jm,MK,e8]) (some (((5:Nat):Int)-3)) none=some (.sh kU):=λ_=>rfl;unfold q1d q3d mvR goD stN
 dsimp only at hw ⊢
 rcases hw with z|z
 ·have zb:(w==1)=true:=by rw[z];rfl
  rw[z,ZP];cases o with
  | none=>dsimp only;simp_arith[<- z,sl1,zb,m1]
  | some k=>dsimp only;simp_arith[<- z,sl2,zb,m1]
 ·have zb:(w==1)=false:=by rw[z];rfl
  rw[show (q-p)*w=p-q by rw[z];omega];cases o with
  | none=>dsimp only;simp_arith[sl1,zb,m2]
  | some k=>dsimp only;simp_arith[sl2,zb,m2]
noncomputable def b2i(b:Bool):Int:=if b=true then 1 else 0
noncomputable def eR(n x:Int)(m:bB):Int:=match m.1 with
 | none=>b2i (m.2.2.2==1&&goN n m.2.1 m.2.2.1 x)
 | some _=>0
noncomputable def eL(n x:Int)(m:bB):Int:=match m.1 with
 | none=>b2i (m.2.2.2 == -1&&goN n m.2.2.1 m.2.1 x)
 | some _=>0
theorem qhV{n g0 g1 r l:Int}{x2:bS}(n0:0<n){m:bB}(hw:mQ):
  q0c [↥aY,↥jC,x2,some (.ow [.int r,dQ]),↥BH]=some (.nx,[↥aY,↥jC,x2,some (.ow [.int (r+eR n g0 m),.int (l+eL n g0 m)]),↥BH]):=by
 obtain⟨o,p,q,w⟩:=m;have a1:=q0s (a:=g0-p) n0;have a2:=q0s (a:=q-p) n0;have a3:=q0s (a:=g0-q) n0;have a4:=q0s (a:=p-q) n0;have gg:oEq false dG dG=some Ff:=q54 q7g;have bg:oEq false bW dG=some Km:=by
  show (if (shp bW&&shp dG)=true then _ else none)=_;rw[q7g,q64];rfl
 have s0:=λ(ω:WSt) (d:D)=>q7R (i:=3) (ω:=ω) (ds:=abM) (d:=d) (k:=0) (by decide) (show A7<2 by decide);have s1:=λ(ω:WSt) (d:D)=>q7R (i:=3) (ω:=ω) (ds:=abM) (d:=d) (k:=1) (by decide) (show cI<2 by decide);have i3:∀w:Int,atI [D.str "go", Jm,MK,e8] 3=some e8:=λ_=>rfl;cases o with
 | some k=>
  unfold q0c mvR eR eL
  dsimp only
  simp_arith[bg,Z3]
 | none=>
  unfold q0c mvR goD eR eL goN b2i
  dsimp only at hw ⊢
  rcases hw with z|z
  ·subst z
   by_cases c:(g0-p)%n<(q-p)%n
   ·have dc:decide ((g0-p)%n<(q-p)%n)=true:=vO c
    simp_arith[gg,i3,a1,a2,a3,a4,dc,s0,s1];simp
   ·have dc:decide ((g0-p)%n<(q-p)%n)=false:=vQ c
    simp_arith[gg,i3,a1,a2,a3,a4,dc,s0,s1];simp
  ·subst z
   by_cases c:(g0-q)%n<(p-q)%n
   ·have dc:decide ((g0-q)%n<(p-q)%n)=true:=vO c
    simp_arith[gg,i3,a1,a2,a3,a4,dc,s0,s1];simp
   ·have dc:decide ((g0-q)%n<(p-q)%n)=false:=vQ c
    simp_arith[gg,i3,a1,a2,a3,a4,dc,s0,s1];simp
theorem qiS{n g0 g1:Int}(n0:0<n){ms:IU}(hw:∀m∈ms,m.2.2.2=1\/m.2.2.2=-1):q0L [aY,jC,ii]=some (.fr [.int (ms.map abI).sum,.int (ms.map abJ).sum]):=by
 unfold q0L q2o;simp_arith[q07];obtain⟨ω',e,x4,rfl⟩:=qR (g:=gN 4) (b:=q0c) mvR ms
  (λpre ω=>∃x4:Option W,ω=[↥aY,↥jC,↥ii,o8,x4])
  (λpre m post ω hd ⟨x4,hω⟩=>by
   subst hω;refine db;have hm:m∈ms:=by rw[hd];simp
   have st:=qhV (g0:=g0) (g1:=g1) (r:=(pre.map abI).sum) (l:=(pre.map abJ).sum) (x2:=↥ii) n0 (hw m hm);have su:∀f:Option Nat×ag->Int,((pre++[m]).map f).sum=(pre.map f).sum+f m:=λf=>by
    rw[zO,yH];simp
   rw[su,su];show W2 (q0c [↥aY,↥jC,↥ii,o8,↥BH]) _;rw[st];exact bK)
  (ω:=[↥aY,↥jC,↥ii,some (.ow [Oc,Oc]),none]) Om
 simp_arith[e]
noncomputable def abx(n x:Int)(m:ag):Int:=if m.2.2=1 then (if goN n m.1 m.2.1 x=true then cI else 0)else (if goN n m.2.1 m.1 x=true then cI else 0)
theorem qe0{n x:Int}:∀{em:bX},(∀m∈em,m.2.2=1\/m.2.2=-1)->((em.map λm=>nu).map GK).sum-((em.map λm=>nu).map GL).sum=(em.map BW).sum/\((em.map λm=>nu).map GK).sum+((em.map λm=>nu).map GL).sum=(em.map KS).sum
 | [],_=>bQ
 | m::em,h=>by
  obtain⟨i1,i2⟩:=qe0 (n:=n) (x:=x) (em:=em) λy hy=>h y abe;have w:=h m zG;simp only[zL,zk];have e:eR n x Cj-eL n x Cj=crx n x m/\eR n x Cj+eL n x Cj=abx n x m:=by
   obtain⟨p,q,v⟩:=m;unfold eR eL crx abx b2i
   dsimp only at w ⊢
   generalize goN n p q x=u;generalize goN n q p x=t;rcases w with rfl|rfl <;> cases u <;> cases t <;> simp
  omega
theorem qdJ{n x:Int}{bs:bX}:((Wo bs).map GK).sum=0/\((Wo bs).map GL).sum=0:=by
 unfold Wo
 induction bs.zipIdx with
 | nil=>exact bQ
 | cons a r ih=>
  simp only[zL,zk];have e1:eR n x acD=0:=rfl;have e2:eL n x acD=0:=rfl;rw[e1,e2];omega
theorem qb9{n x:Int}{a:rK}:∀E:List Eg,((E.flatMap Nt).map KS).sum=(E.map λe=>Y3 (a e)*(if goN n e.1 e.2.1 x=true then cI else 0)).sum
 | []=>rfl
 | e::E=>by
  have q:((emE a e).map KS).sum=Y3 (a e)*(if goN n e.1 e.2.1 x=true then cI else 0):=by
   unfold emE;rw[q5R];have e1:r8=Y3 (a e):=by unfold Y3;split <;> omega
   rw[e1]
   by_cases z:0<a e
   ·rw[gR];rfl
   ·rw[gE];rfl
  rw[yq,zO,yH,qb9 E,q,zL,zk]
theorem ab_K{n x:Int}:∀K:List Eg,((K.flatMap λe=>mR).map KS).sum=2*(K.map λe=>if goN n e.1 e.2.1 x=true then cI else 0).sum
 | []=>rfl
 | e::K=>by
  rw[yq,zO,yH,ab_K K,zL,zL,yU,zk,zk,wB,zL,zk];show (if goN n e.1 e.2.1 x=true then cI else 0)+((if goN n e.1 e.2.1 x=true then cI else 0)+0)+_=_;omega
theorem qdC{x:Int}:∀{K:dB},(K.map λe=>e.1).Nodup->(K.map λe=>if e.1=x then cI else 0).sum=0\/(K.map λe=>if e.1=x then cI else 0).sum=1
 | [],_=>.inl rfl
 | e::K,nd=>by
  rw[zL,yk]at nd;rw[zL,zk]
  by_cases z:e.1=x
  ·have z0:(K.map λe=>if e.1=x then cI else 0)=K.map λ_=>A7:=yI λq hq=>by
    rw[vJ λw=>nd.1 (by rw[z,<- w];exact zy hq)]
   have s0:∀L:List Eg,(L.map λ_=>A7).sum=0:=λL=>by
    induction L with
    | nil=>rfl
    | cons _ _ ih=>rw[zL,zk,ih];rfl
   rw[z0,s0,gR];exact .inr rfl
  ·rw[gE]
   have:=qdC (x:=x) nd.2;omega
theorem qfO{n h l c:Int}{bs:bX}(O:lG){K:dB}(kn:(K.map λe=>e.1).Nodup)(hK:∀e∈K,e∈egs n aq/\e.1≠e.2.1)(hz:∀e∈egs n (St h l bs),e.1=e.2.1->Yl n h l bs e.1+c=0){x:Int}(hx:x∈St h l bs){ms:IU}(pm:ms.Perm (Wo bs++(emS aU bO K).map λm=>Cj)):
  (ms.map GK).sum-(ms.map GL).sum=c+Yl n h l bs x/\((ms.map GK).sum+(ms.map GL).sum-Y3 rN=0\/(ms.map GK).sum+(ms.map GL).sum-Y3 rN=2):=by
 rw[q4R (f:=eR n x) pm,q4R (f:=eL n x) pm,zO,zO,yH,yH,qdJ.1,qdJ.2];obtain⟨r1,r2⟩:=qe0 (n:=n) (x:=x) (em:=emS aU bO K) λm hm=>(qd4 (λe he=>(hK e he).1) m hm).2.2;have gp:∀e∈egs n (St h l bs),∀y:Int,(e.1=e.2.1->y=0)->y*(if goN n e.1 e.2.1 x=true then cI else 0)=y*(if e.1=x then cI else 0):=λe he y hy=>by
  by_cases w:e.1=e.2.1
  ·rw[hy w,Z5,Z5]
  ·rw[q9w O.inr ((q4t O.up O.inr).mp he).1 w hx]
 have nd:((egs n aq).map λe=>e.1).Nodup:=by rw[qV];exact O.up.imp λq=>∅
 have mx:x∈(egs n aq).map λe=>e.1:=by rw[qV];exact hx
 have c1:((emS aU bO K).map BW).sum=Yl n h l bs x+c:=by
  unfold emS;rw[zO,yH,cr_K,q7A,yI λe he=>gp e he _ (hz e he),q73 (f:=λz=>Yl n h l bs z+c) nd mx,Z3]
 have c2:((emS aU bO K).map KS).sum=Y3 rP+2*(K.map λe=>if e.1=x then cI else 0).sum:=by
  unfold emS;rw[zO,yH,ab_K,qb9,yI λe he=>gp e he _ (λw=>by rw[hz e he w];rfl),q73 (f:=λz=>Y3 (Yl n h l bs z+c)) nd mx]
  congr 2
  congr 1
  refine yI λe he=>?_;exact q9w O.inr ((q4t O.up O.inr).mp (hK e he).1).1 (hK e he).2 hx
 have k1:=qdC (x:=x) kn;rw[Int.add_comm c];omega
theorem wr3{x0 x1 x2 x3 x4 x6 x7 x8:bS}(xs:ac)(x5:bS):∃y,W9 Q8 q1x lV Nw=some (.nx,N9):=by
 obtain⟨ω',e,y,rfl⟩:=qR (g:=gN 5) (b:=q1x) D.int xs (λ_ ω=>∃y,ω=N9)
  (λpre x post ω _ ⟨y,hω⟩=>by
   subst hω;refine db;have e:q1Z [GU]=↥bY:=rfl;unfold q1x;simp_arith[e];exact bK)
  (ω:=Nw) bK
 exact⟨y,e⟩
theorem qjF{n here there:Int}{bs:bX}{ls ls':cH}{m:bB}(h:rs bs n (here,ls) m=some (there,ls')):
  ∃y5 y6 y7 y8:Option W,q0H [.sh aY,.sh ao,.pw oV,.sh (.int here),.sh BH]=some (.int there,[↥aY,↥ao,some (.pw S6),Cq,↥BH,y5,y6,y7,y8]):=by
 obtain⟨o,p,q,w⟩:=m;have sq:w=1\/w=-1->(w*w==1)=true/\zAt e8 e8=↥(.int (w*w)):=λh=>by
  rcases h with rfl|rfl
  ·exact⟨rfl,qcv (by decide)⟩
  ·exact⟨rfl,qcv (by decide)⟩
 have g3:∀x0 x1 x2 x3 x4 x5,gT 3 Gw kU [x0,x1,x2,x3,x4,x5,none,none,none]=some [x0,x1,x2,x3,x4,x5,↥Jm,↥MK,↥e8]:=λ_ _ _ _ _ _=>rfl;unfold rs at h;cases o with
 | none=>
  dsimp only at h
  split at h
  ·rename_i z
   obtain⟨rfl,z1,z2,z3,z4⟩:=z;obtain⟨rfl,rfl⟩:q=there/\ls=ls':=by cases h;exact bQ
   obtain⟨s1,s2⟩:=sq z3;have e1:oEq true dG dG=some Km:=q3q q7g;have c1:oSl AV Cg none=some (.sh (.tup ([p,q,w].map D.int))):=rfl;obtain⟨y,run⟩:=wr3 (x0:=some (.sh aY)) (x1:=some (.sh ao)) (x2:=some (.pw oV)) (x3:=some (.sh Jm)) (x4:=some (.sh AV)) (x6:=none) (x7:=none) (x8:=none) [p,q,w] none;have l1:decide (ja<4)=false:=rfl;have l2:decide (ja>5)=false:=rfl;have l3:ja-4=0:=rfl;have l4:ja-3=1:=rfl;have l5:(ja==4)=true:=rfl;have h2:decide (q<0)=false:=vQ ∅;have h3:decide (q>=n)=false:=vQ ∅;have h5:(q==p)=false:=by simpa using z4
   simp only[zL,yU]at c1 run;unfold q0H q1W mvR goD;simp_arith[l1,l2,l3,l4,l5,e1,c1,run,g3,s2,h2,h3,s1,h5];exact aa9
  ·cases h
 | some k=>
  dsimp only at h
  split at h
  ·rename_i z
   obtain⟨rfl,z1,z2,z3,z4,z5⟩:=z;obtain⟨rfl,rfl⟩:q=there/\ls.erase k=ls':=by cases h;exact bQ
   obtain⟨s1,s2⟩:=sq z3;have e1:oEq true bW bW=some Km:=q3q q64;have c1:oSl rV Cg none=some (.sh (.tup ([bh,p,q,w].map D.int))):=rfl;have c2:oSl rV (some 2) none=some (.sh kU):=rfl;obtain⟨y,run⟩:=wr3 (x0:=some (.sh aY)) (x1:=some (.sh ao)) (x2:=some (.pw oV)) (x3:=some (.sh Jm)) (x4:=some (.sh rV)) (x6:=none) (x7:=none) (x8:=none) [bh,p,q,w] none;have l1:decide (lT<4)=false:=rfl;have l2:decide (lT>5)=false:=rfl;have l3:lT-4=1:=rfl;have l4:lT-3=2:=rfl;have l5:(lT==4)=false:=rfl;have h2:decide (q<0)=false:=vQ ∅;have h3:decide (q>=n)=false:=vQ ∅;have ki:decide (bh∈Y1 ls)=true:=vO (by unfold Y1;exact za.mpr ⟨k,z4,rfl⟩);have ni:=oInN bh (Y1 ls);have at':=qdW z5;have tn:=qjJ (p,q,w) p q w;rw[vO rfl]at tn;obtain⟨i,r1,r2⟩:=q8e k ls z4;have pr:=λω=>qlc (i:=2) (ω:=ω) r1;rw[r2]at pr;rw[ki]at ni;simp only[zL,yU]at c1 run;unfold q0H q1W mvR;simp_arith[l1,l2,l3,l4,l5,e1,c1,c2,run,g3,s2,h2,h3,s1,ni,at',tn,pr];exact aa9
  ·cases h
theorem zBU{n:Int}{bs:bX}{x0 x1 x2 x3 x4:bS}(h0:x0=↥aY)(h3:x3=↥ao):∀{ms:IU}{here there:Int}{ls ls':cH}{x7:bS},ms.foldlM abt (here,ls)=some (there,ls') ->
  ∃y7,W9 (gN 7) q1P Qg [x0,x1,x2,x3,x4,some (.ow oV),Cq,x7]=some (.nx,[x0,x1,x2,x3,x4,some (.ow S6),↥(.int there),y7])
 | [],_,_,_,_,x7,h=>by cases h;exact⟨x7,rfl⟩
 | m::ms,here,there,ls,ls',x7,h=>by
  rw[YD]at h;obtain⟨⟨t,lt⟩,e1,e2⟩:=bnd h;obtain⟨y5,y6,y7,y8,e⟩:=qjF e1;obtain⟨z,ih⟩:=zBU (x1:=x1) (x2:=x2) (x4:=x4) h0 h3 (x7:=↥BH) e2;refine⟨z,?_⟩;have st:q1P [x0,x1,x2,x3,x4,some (.ow oV),Cq,↥BH]=some (.nx,[x0,x1,x2,x3,x4,some (.ow ((Y1 lt).map D.int)),TZ,↥BH]):=by
   subst h0 h3;unfold q1P;simp_arith[e,isN]
  rw[zL,W9];simp only[e_gn,yX,xo,xq,st];exact ih
theorem qib{n home last:Int}{bs:bX}{ms:IU}(hb:Jh)(h:ms.foldlM abt (home,Af)=some (last,[])):
  q1v [aY,.int home,.int last,ao,ii]=↥bY:=by
 have e5:zAE [.int LV]=some Of:=by
  rw[qc3 DO,yK,q8r]
 obtain⟨y,key⟩:=zBU (x0:=↥aY) (x1:=↥(.int home)) (x2:=↥(.int last)) (x3:=↥ao) (x4:=↥ii) rfl rfl (x7:=none) h;have en:oEq false (.lst ((Y1 []).map D.int)) jR=↥bY:=(q6q (Y1 []) []).trans (by rw[vO (show Y1 []=[]from rfl)]);have ll:(last==last)=true:=beq_self_eq_true last;unfold q1v q4d;simp_arith -implicitDefEqProofs [zB,e5,key,en,ll]
theorem qk6{h l:Int}{bs:bX}{ps:ac}(h7:ps.length=7)(mh:h∈ps)(ml:l∈ps)(mb:∀b∈bs,b.1∈ps/\b.2.1∈ps):(St h l bs).length<=7:=by
 have nd:(St h l bs).Nodup:=(q1i (ns:=plc h l oJ)).imp λq=>∅
 have:=List.Nodup.length_le_of_subset nd (l₂:=ps) λx hx=>by
  rcases q0M.mp hx with rfl|rfl|⟨b,hb,rfl|rfl⟩
  ·exact mh
  ·exact ml
  ·exact(mb b hb).1
  ·exact(mb b hb).2
 omega
theorem qgz(ns:ac)(hl:ns.length<=63):q5Z [ky]=↥bY:=by
 obtain⟨n,sz,n1,n9⟩:=qjc (ns:=ns);obtain⟨ps,me,h7,hps⟩:=qg2 (ns:=ns) n1;obtain⟨bs,bo,mb,b5⟩:=qeC (ps:=ps) h7 hl;obtain⟨p0,p1,r,e0⟩:∃p0 p1 r,ps=p0::p1::r:=by
  match ps,h7 with
  | p0::p1::r,_=>exact⟨p0,p1,r,rfl⟩
 have n0:0<n:=∅
 have m0:p0∈ps:=by rw[e0];simp
 have m1:p1∈ps:=by rw[e0];simp
 have hbs:∀b∈bs,OnB n b:=λb hb=>⟨hps _ (mb b hb).1,hps _ (mb b hb).2.1,(mb b hb).2.2⟩;have O:RgO n p0 p1 bs:=⟨n1,n9,hps p0 m0,hps p1 m1,∅,hbs⟩;have i0:atI jy 0=some J1:=by rw[e0,q0n (by decide) (by simp;omega)];rfl
 have i1:atI jy 1=some J0:=by rw[e0,q0n (by decide) (by simp;omega)];rfl
 obtain⟨c,R,bt,rl,wr,lo,cb,ts,bts,tu,tl9,cm9⟩:=best66 O;have cr:-30<=c/\c<=30:=by
  have B0:(St p0 p1 bs).map (Yl n p0 p1 bs)≠[]:=λe=>by have m:p0∈St p0 p1 bs:=q0M.mpr bT;rw[OC]at m;cases m
  obtain⟨x1,_,e1⟩:=za.mp (q1I B0).1;obtain⟨x2,_,e2⟩:=za.mp (q0Z B0).1;have a1:=q39 (n:=n) (h:=p0) (l:=p1) (x:=x1) (bs:=bs) ∅;have a2:=q39 (n:=n) (h:=p0) (l:=p1) (x:=x2) (bs:=bs) ∅;rw[e1]at a1;rw[e2]at a2;omega
 have few:=λ(f:cQ) hf=>qgd O b5 (qk6 h7 m0 m1 λb hb=>⟨(mb b hb).1,(mb b hb).2.1⟩) cb (f:=f) hf;obtain⟨f,mt,hf,rt,pt,ct⟩:=qjm O cr bt few;have fw:=few f hf;have tl:=qg5 O wr lo hf;have ts':((mt.map (·.2)).map iQ).sum=R:=by
  rw[q4R (pt.map (·.2)),zO,q4L,zi (l:=emS _ _ _),zO,yH,<- tl]
  congr 2
  congr 1
  exact wj _
 have one:=λe he z=>q8b O wr lo (e:=e) he z;have pK:=qK (f:=Yo) (l:=egs n Dv);have sK:=q0P f UR;have hK:∀e∈(Xd f (Yt Yo (egs n (St p0 p1 bs)))).2,e∈egs n Dv:=λe he=>pK.mem_iff.mp (sK.subset he);have nK:∀e∈(Xd f (Yt Yo (egs n (St p0 p1 bs)))).2,e.1≠e.2.1:=k_ne _ f [] (by simp);have ndK:((Xd f UR).2.map λe=>e.1).Nodup:=by
  refine(sK.map _).nodup ((pK.map _).nodup_iff.mpr ?_);rw[qV];exact O.up.imp λq=>∅
 have gs:=λx (hx:x∈St p0 p1 bs)=>qfO (c:=c) O ndK (λe he=>⟨hK e he,nK e he⟩) one hx pt;have inO:∀x∈St p0 p1 bs,On n x:=λx hx=>O.inr x hx;have good:∀m∈mt,OnB n m.2/\By/\∀k,m.1=some k->bs[k]?=some m.2:=λm hm=>by
  rcases zR.mp (pt.mem_iff.mp hm)with k|k
  ·obtain⟨j,j1,j2⟩:=qjg k
   exact⟨hbs _ (zw j2),λz=>(by rw[j1]at z;cases z),λk hk=>by rw[j1]at hk;cases hk;exact j2⟩
  ·obtain⟨q,hq,rfl⟩:=za.mp k
   have i:=qd4 hK q hq;refine⟨⟨inO _ i.1,inO _ i.2.1,i.2.2⟩,fJ,λk hk=>by cases hk⟩;have both:∀e:Eg,e.1≠e.2.1->(q=rE e\/q=lE e)->q.1≠q.2.1:=λe ne h=>by
    rcases h with rfl|rfl
    ·exact ne
    ·exact λz=>ne z.symm
   rcases zR.mp hq with k|k
   ·obtain⟨e,he,k⟩:=yg.mp k
    have k2:=xr.mp k;refine both e (λz=>k2.1 ?_) ?_
    ·show (Y3 (Yl n p0 p1 bs e.1+c)).toNat=0
     rw[one e he z];rfl
    ·have:=k2.2
     split at this
     ·exact .inl this
     ·exact .inr this
   ·obtain⟨e,he,k⟩:=yg.mp k
    simp only[zI,zg,or_false]at k;exact both e (nK e he) k
 have wt:∀m∈mt,m.2.2.2=1\/m.2.2.2=-1:=λm hm=>(good m hm).1.2.2;have pmf:(mt.filterMap (·.1)).Perm Af:=by
  have:=pt.filterMap (·.1);rw[List.filterMap_append,qi9,qkx,zn]at this;exact this
 have run:=q9m ct good pmf;have ml:mt.length<=63:=by
  have:=pt.length_eq;have cl:(Wo bs).length=bs.length:=by have:=vn yZ (q4L bs);rwa [zB]at this
  rw[zE,zB,cl]at this;omega
 have it:=qla O ∅ ∅ good ct pmf;have dz:=qib ∅ run;have k1:(mt.map mvR).length<=1000000:=by rw[zB];omega
 have cm:=qA (i:=0) (f:=qaB) mvR abb mt (ω:=KU) (λm hm=>by
  have s:=qjE n0 (wt m hm);unfold qaB;simp_arith -implicitDefEqProofs [s])
 have su:=q5M (λm:Option Nat×ag=>stN n m.2) mt;have su2:(mt.map λm:Option Nat×ag=>stN n m.2).sum=R:=by rw[<- ts',zi];rfl
 rw[su2]at su;have r1:=qih n0 ∅ wt;rw[ts']at r1;have bl:∀ds:List D,zBt [gK]=some Et:=λ_=>rfl;have ne:=q3q (qfB bs);have rg:=q6G n9 O.hh O.hl O.lb O.hb;have rk:=q5k (c:=c) n1 n9 O.hh O.hl O.lb O.hb;have zz:(R==R)=true:=beq_self_eq_true R;have t9:ts.length<=1000000:=∅
 have a9:atI (D.int c::bts) 0=some lQ:=by rw[q0n (by decide) (by rw[zK];omega)];rfl
 have Pl:(St p0 p1 bs).length<=1000:=(stp p0 p1 (bs:=bs.map two) (by rw[zB];omega)).len;have rg:qX [aY,J1,J0,ao]=some (.fr ((rnd Dv).map XY)):=rg;have rk:qH [aY,J1,J0,ao,lQ]=some (.fr ((St p0 p1 bs).map λx=>D.int Tx)):=rk;generalize St p0 p1 bs=P at *;have rr:rg1I (some [.int ((rnd P).length:Int)])=some (upTo 0 P.length):=by
  rw[qbP,ql3 ∅,yK]
 have st:∀(i:Nat),i<P.length->∀x12 x13 x14:Option W,W2 (q75 [↥ky,↥aY,Fj,↥ao,↥J1,↥J0,↥ao,Fk,Mq,Ev,RE,RD,↥(.int jd),x13,x14])
   (λω=>∃x12 x13 x14:Option W,ω=cT):=λi hi x12 x13 x14=>by
  have a1:atI AC jd=some (.tup [.int QC,.int (P.getD KL 0)]):=by
   have g:=qbW hi;have hl:=(zc.mp g).1;rw[q0n ∅ (by rw[zB];omega)];rw[zD hl]at g;simp only[yK,xJ,zr g];rfl
  have gi:P.getD i 0=P[i]:=by rw[zT,zD hi];rfl
  have a2:atI jv jd=some (.int (c+Yl n p0 p1 bs QC)):=by
   rw[q0n ∅ (by rw[zB];omega),gi];simp only[yK,xJ]
  obtain⟨g1,g2⟩:=gs QC (by rw[gi];exact yC hi);have em:=qiS (g0:=P.getD i 0) (g1:=P.getD KL 0) n0 wt;generalize P.getD i 0=x at *;generalize P.getD KL 0=y at *;generalize c+Yl n p0 p1 bs x=dk at *;generalize (mt.map GK).sum=rv at *;generalize (mt.map GL).sum=lv at *;have ba:zBo [.int dk]=↥(.int (Y3 dk)):=rfl;have nz:oIn true (.int (rv+lv-Y3 dk)) (.tup [Oc,.int 2])=↥i9:=by
   rcases g2 with z|z <;> rw[z] <;> rfl
  have eq:(rv-lv==dk)=true:=by rw[g1];exact beq_self_eq_true dk
  unfold q75;have gl:∀ω:WSt,gTl 2 L0 (.lst [.int rv,.int lv]) ω=some ((ω.set 13 ↥(.int rv)).set 14 ↥(.int lv)):=λ_=>rfl;simp_arith -implicitDefEqProofs [a1,a2,em,gl,ba,nz,eq];exact nv
 obtain⟨ω',lp,y12,y13,y14,rfl⟩:=q8A (g:=gN 12) (b:=q75) 0 P.length (λ_ ω=>∃x12 x13 x14:Option W,ω=cT)
  (λi ω hi ⟨x12,x13,x14,hω⟩=>by
   subst hω;refine db;rw[ZB];exact st i hi x12 x13 x14)
  (ω:=[↥ky,↥aY,Fj,↥ao,↥J1,↥J0,↥ao,Fk,Mq,Ev,RE,RD,none,none,none]) pE
 unfold q5Z qde;simp_arith -implicitDefEqProofs [sz,me,bo,i0,i1,bl,rt,ne,dz,it,WD k1,inW,WJ,cm,su,r1,rl,zz,tu,WD t9,cm9,rg,a9,rk,zB,rr,lp]
theorem qkq{l:ZG}{w:vX}{K:zC}{h:ve}{mg:bH}{fa:vC}(X:K.In h)(G:h.Ns vT mg)(hfa:mg "law" = some K7){f0:vC}{f1:vC}{f2:vC}{f3:vC}{f4:vC}{f5:vC}{f6:vC}{f7:vC}{f8:vC}{f9:vC}{f10:vC}{f11:vC}{f12:vC}{f13:vC}{f14:vC}{f15:vC}{f16:vC}{f17:vC}{f18:vC}{f19:vC}{f20:vC}{f21:vC}{f22:vC}{f23:vC}{f24:vC}{f25:vC}{f26:vC}{f27:vC}{f28:vC}{f29:vC}{f30:vC}{f31:vC}{f32:vC}{f33:vC}{f34:vC}{f35:vC}{f36:vC}{f37:vC}{f38:vC}{f39:vC}{f40:vC}{f41:vC}{f42:vC}{f43:vC}{f44:vC}{f45:vC}{f46:vC}{f47:vC}{f48:vC}{f49:vC}{f50:vC}{f51:vC}{f52:vC}{f53:vC}{f54:vC}{f55:vC}{f56:vC}{f57:vC}{f58:vC}{f59:vC}(D0:Fd K "is_whole" q4V f0)(D1:Fd K "is_box" q6U f1)(D2:Fd K "is_errand" q42 f2)(D3:Fd K "check_errand" q2d f3)(D4:Fd K "stops" q7M f4)(D5:Fd K "neighbours" q3k f5)(D6:Fd K "group_of" q50 f6)(D7:Fd K "groups" q6T f7)(D8:Fd K "cost" qan f8)(D9:Fd K "group_numbers" q1Y f9)(D10:Fd K "with_two_joined" q1q f10)(D11:Fd K "forest" q6S f11)(D12:Fd K "is_way" q6R f12)(D13:Fd K "has_place" q43 f13)(D14:Fd K "is_ring_box" q2T f14)(D15:Fd K "is_ring" q5z f15)(D16:Fd K "check_ring" q3w f16)(D17:Fd K "without_ways" q2p f17)(D18:Fd K "steps" q7U f18)(D19:Fd K "ring_gaps" q3X f19)(D20:Fd K "gap_length" q3H f20)(D21:Fd K "ring_edges" q3D f21)(D22:Fd K "goes_over" q47 f22)(D23:Fd K "bare_lack" q4c f23)(D24:Fd K "ring_lacks" q3i f24)(D25:Fd K "ring_forest" q2Z f25)(D26:Fd K "empty_weight" q2s f26)(D27:Fd K "turns" q7y f27)(D28:Fd K "ring_least" q3o f28)(D29:Fd K "numbers_by_start" q0y f29)(D30:Fd K "as_many_begin_as_end" q0G f30)(D31:Fd K "round_from" q1f f31)(D32:Fd K "row_of" q6Q f32)(D33:Fd K "row_between" q32 f33)(D34:Fd K "is_go" q7K f34)(D35:Fd K "has_carry_form" q1E f35)(D36:Fd K "is_carry" q4W f36)(D37:Fd K "is_move" q5s f37)(D38:Fd K "leads" q7C f38)(D39:Fd K "is_tour" q5b f39)(D40:Fd K "keeps_to_ring" q1J f40)(D41:Fd K "is_ring_tour" q28 f41)(D42:Fd K "ring_length" q2P f42)(D43:Fd K "turn_weight" q31 f43)(D44:Fd K "best_turn" q3V f44)(D45:Fd K "carries" q5o f45)(D46:Fd K "go_right" q4P f46)(D47:Fd K "go_left" q5G f47)(D48:Fd K "empty_moves" q2W f48)(D49:Fd K "ring_tour" q3T f49)(D50:Fd K "_law_cell" q44 f50)(D51:Fd K "_law_size" q3Y f51)(D52:Fd K "_law_menu" q4f f52)(D53:Fd K "_law_boxes" q3B f53)(D54:Fd K "_law_whole" q3A f54)(D55:Fd K "_law_moved" q3u f55)(D56:Fd K "_law_does" q49 f56)(D57:Fd K "_law_steps" q3F f57)(D58:Fd K "_law_empties" q2e f58)(D59:Fd K "law" q5Y f59)(z_isinstance:yQ K vT "isinstance" = some none)(z_bool:yQ K vT "bool" = some none)(z_int:yQ K vT "int" = some none)(z_len:yQ K vT "len" = some none)(z_tuple:yQ K vT "tuple" = some none)(z_list:yQ K vT "list" = some none)(z_all:yQ K vT "all" = some none)(z_sorted:yQ K vT "sorted" = some none)(z_set:yQ K vT "set" = some none)(z_enumerate:yQ K vT "enumerate" = some none)(z_zip:yQ K vT "zip" = some none)(z_abs:yQ K vT "abs" = some none)(z_sum:yQ K vT "sum" = some none)(z_min:yQ K vT "min" = some none)(z_max:yQ K vT "max" = some none)(z_range:yQ K vT "range" = some none)(z_reversed:yQ K vT "reversed" = some none)(i_int:ab6)(i_bool:IsT K .bl)(i_tuple:CU)(i_list:Gc): ∃fd:vL,(∀(s:vF)(v:vB),sC s fd ⟨[v],[]⟩ [("script", v)])/\∀base:ve,K.In base->base.Ns vT mg->FnOk l.prog w K mg base CX0 11 fa fd CN (spD K 1 q5Z):=by
 have e:=hfa.symm.trans (wM X G D59.1);cases e;obtain⟨d0,F0⟩:=D0.2;obtain⟨d1,F1⟩:=D1.2;obtain⟨d2,F2⟩:=D2.2;obtain⟨d3,F3⟩:=D3.2;obtain⟨d4,F4⟩:=D4.2;obtain⟨d5,F5⟩:=D5.2;obtain⟨d6,F6⟩:=D6.2;obtain⟨d7,F7⟩:=D7.2;obtain⟨d8,F8⟩:=D8.2;obtain⟨d9,F9⟩:=D9.2;obtain⟨d10,F10⟩:=D10.2;obtain⟨d11,F11⟩:=D11.2;obtain⟨d12,F12⟩:=D12.2;obtain⟨d13,F13⟩:=D13.2;obtain⟨d14,F14⟩:=D14.2;obtain⟨d15,F15⟩:=D15.2;obtain⟨d16,F16⟩:=D16.2;obtain⟨d17,F17⟩:=D17.2;obtain⟨d18,F18⟩:=D18.2;obtain⟨d19,F19⟩:=D19.2;obtain⟨d20,F20⟩:=D20.2;obtain⟨d21,F21⟩:=D21.2;obtain⟨d22,F22⟩:=D22.2;obtain⟨d23,F23⟩:=D23.2;obtain⟨d24,F24⟩:=D24.2;obtain⟨d25,F25⟩:=D25.2;obtain⟨d26,F26⟩:=D26.2;obtain⟨d27,F27⟩:=D27.2;obtain⟨d28,F28⟩:=D28.2;obtain⟨d29,F29⟩:=D29.2;obtain⟨d30,F30⟩:=D30.2;obtain⟨d31,F31⟩:=D31.2;obtain⟨d32,F32⟩:=D32.2;obtain⟨d33,F33⟩:=D33.2;obtain⟨d34,F34⟩:=D34.2;obtain⟨d35,F35⟩:=D35.2;obtain⟨d36,F36⟩:=D36.2;obtain⟨d37,F37⟩:=D37.2;obtain⟨d38,F38⟩:=D38.2;obtain⟨d39,F39⟩:=D39.2;obtain⟨d40,F40⟩:=D40.2;obtain⟨d41,F41⟩:=D41.2;obtain⟨d42,F42⟩:=D42.2;obtain⟨d43,F43⟩:=D43.2;obtain⟨d44,F44⟩:=D44.2;obtain⟨d45,F45⟩:=D45.2;obtain⟨d46,F46⟩:=D46.2;obtain⟨d47,F47⟩:=D47.2;obtain⟨d48,F48⟩:=D48.2;obtain⟨d49,F49⟩:=D49.2;obtain⟨d50,F50⟩:=D50.2;obtain⟨d51,F51⟩:=D51.2;obtain⟨d52,F52⟩:=D52.2;obtain⟨d53,F53⟩:=D53.2;obtain⟨d54,F54⟩:=D54.2;obtain⟨d55,F55⟩:=D55.2;obtain⟨d56,F56⟩:=D56.2;obtain⟨d57,F57⟩:=D57.2;obtain⟨d58,F58⟩:=D58.2;obtain⟨_,F59⟩:=D59.2;obtain⟨_,_,kV,dc,pm,an,cd,ct,_,rfl,_,_⟩:=F59.ex;have y_isinstance:=yF X G z_isinstance;have y_bool:=yF X G z_bool;have y_int:=yF X G z_int;have y_len:=yF X G z_len;have y_tuple:=yF X G z_tuple;have y_list:=yF X G z_list;have y_all:=yF X G z_all;have y_sorted:=yF X G z_sorted;have y_set:=yF X G z_set;have y_enumerate:=yF X G z_enumerate;have y_zip:=yF X G z_zip;have y_abs:=yF X G z_abs;have y_sum:=yF X G z_sum;have y_min:=yF X G z_min;have y_max:=yF X G z_max;have y_range:=yF X G z_range;have y_reversed:=yF X G z_reversed;refine⟨xO "law" "law" (Xz q5Y) (Xc q5Y) (Yi q5Y) .none kV dc pm an cd ct,λs v=>.of_eq rfl,λbase _ _=>?_⟩;have C0:=qm l.prog w base X G D0 F0 (qaR F0 y_isinstance y_bool y_int i_int i_bool) λ_ _ _ _ _ _ us hl=>match us,hl with|[_],_=>rfl
 have C1:=qm l.prog w base X G D1 F1 (qeA F1 C0 y_len y_isinstance y_tuple i_tuple) λ_ _ _ _ _ _ us hl=>match us,hl with|[_],_=>rfl
 have C2:=qm l.prog w base X G D2 F2 (qaw F2 C0 C1 y_isinstance y_list y_all i_list) λ_ _ _ _ _ _ us hl=>match us,hl with|[_,_,_],_=>rfl
 have C3:=qm l.prog w base X G D3 F3 (q7w F3 C2) λ_ _ _ _ _ _ us hl=>match us,hl with|[_,_,_],_=>rfl
 have C4:=qm l.prog w base X G D4 F4 (qgn F4 C3 y_sorted y_set) λ_ _ _ _ _ _ us hl=>match us,hl with|[_,_,_],_=>rfl
 have C5:=qm l.prog w base X G D5 F5 (q91 F5) λ_ _ _ _ _ _ us hl=>match us,hl with|[_,_],_=>rfl
 have C6:=qm l.prog w base X G D6 F6 (qaN F6 y_sorted) λ_ _ _ _ _ _ us hl=>match us,hl with|[_,_],_=>rfl
 have C7:=qm l.prog w base X G D7 F7 (qel F7 C5 C6 y_sorted) λ_ _ _ _ _ _ us hl=>match us,hl with|[_,_],_=>rfl
 have C8:=qm l.prog w base X G D8 F8 (qi6 F8) λ_ _ _ _ _ _ us hl=>match us,hl with|[_],_=>rfl
 have C9:=qm l.prog w base X G D9 F9 (q6K F9 y_enumerate) λ_ _ _ _ _ _ us hl=>match us,hl with|[_],_=>rfl
 have C10:=qm l.prog w base X G D10 F10 (q5A F10) λ_ _ _ _ _ _ us hl=>match us,hl with|[_,_,_],_=>rfl
 have C11:=qm l.prog w base X G D11 F11 (qdQ F11 C9 C7 C8 C10 y_sorted) λ_ _ _ _ _ _ us hl=>match us,hl with|[_,_,_],_=>rfl
 have C12:=qm l.prog w base X G D12 F12 (qdX F12 C0) λ_ _ _ _ _ _ us hl=>match us,hl with|[_],_=>rfl
 have C13:=qm l.prog w base X G D13 F13 (q9i F13 C0) λ_ _ _ _ _ _ us hl=>match us,hl with|[_,_],_=>rfl
 have C14:=qm l.prog w base X G D14 F14 (q7E F14 C12 C13 y_len y_isinstance y_tuple i_tuple) λ_ _ _ _ _ _ us hl=>match us,hl with|[_,_],_=>rfl
 have C15:=qm l.prog w base X G D15 F15 (qdh F15 C13 C0 C14 y_all y_isinstance y_list i_list) λ_ _ _ _ _ _ us hl=>match us,hl with|[_,_,_,_],_=>rfl
 have C16:=qm l.prog w base X G D16 F16 (q92 F16 C15) λ_ _ _ _ _ _ us hl=>match us,hl with|[_,_,_,_],_=>rfl
 have C17:=qm l.prog w base X G D17 F17 (q7c F17) λ_ _ _ _ _ _ us hl=>match us,hl with|[_],_=>rfl
 have C18:=qm l.prog w base X G D18 F18 (qfV F18) λ_ _ _ _ _ _ us hl=>match us,hl with|[_,_,_,_],_=>rfl
 have C19:=qm l.prog w base X G D19 F19 (qae F19 C16 C4 C17 y_list y_zip) λ_ _ _ _ _ _ us hl=>match us,hl with|[_,_,_,_],_=>rfl
 have C20:=qm l.prog w base X G D20 F20 (q97 F20 C18) λ_ _ _ _ _ _ us hl=>match us,hl with|[_,_],_=>rfl
 have C21:=qm l.prog w base X G D21 F21 (q96 F21 C19 C20) λ_ _ _ _ _ _ us hl=>match us,hl with|[_,_,_,_],_=>rfl
 have C22:=qm l.prog w base X G D22 F22 (q9W F22 C18) λ_ _ _ _ _ _ us hl=>match us,hl with|[_,_,_,_],_=>rfl
 have C23:=qm l.prog w base X G D23 F23 (q9u F23 C22 y_len) λ_ _ _ _ _ _ us hl=>match us,hl with|[_,_,_,_,_],_=>rfl
 have C24:=qm l.prog w base X G D24 F24 (q9a F24 C19 C23) λ_ _ _ _ _ _ us hl=>match us,hl with|[_,_,_,_,_],_=>rfl
 have C25:=qm l.prog w base X G D25 F25 (q82 F25 C11 C17 y_zip) λ_ _ _ _ _ _ us hl=>match us,hl with|[_,_,_,_,_],_=>rfl
 have C26:=qm l.prog w base X G D26 F26 (q7l F26 C8 C25 y_zip y_abs y_sum) λ_ _ _ _ _ _ us hl=>match us,hl with|[_,_,_,_,_],_=>rfl
 have C27:=qm l.prog w base X G D27 F27 (qgo F27 C21 C24 C18 C26 y_sum y_min y_max y_range) λ_ _ _ _ _ _ us hl=>match us,hl with|[_,_,_,_],_=>rfl
 have C28:=qm l.prog w base X G D28 F28 (q98 F28 C27 y_min) λ_ _ _ _ _ _ us hl=>match us,hl with|[_,_,_,_],_=>rfl
 have C29:=q59 (P:=l.prog) (w:=w) (mg:=mg) (base:=base) F29 y_enumerate;have C30:=qm l.prog w base X G D30 F30 (q3K F30 y_sorted) λ_ _ _ _ _ _ us hl=>match us,hl with|[_],_=>rfl
 have C31:=qm l.prog w base X G D31 F31 (q8X F31 C29 (wM X G D29.1) F29.kp (F29.binds (ps:=CP) λ_ _ _ _ _ _ us hl=>match us,hl with|[_],_=>rfl) y_list y_reversed) λ_ _ _ _ _ _ us hl=>match us,hl with|[_,_],_=>rfl
 have C32:=qm l.prog w base X G D32 F32 (qeP F32 C30 C31 y_len) λ_ _ _ _ _ _ us hl=>match us,hl with|[_,_],_=>rfl
 have C33:=qm l.prog w base X G D33 F33 (q7T F33 C32 y_len) λ_ _ _ _ _ _ us hl=>match us,hl with|[_,_,_],_=>rfl
 have C34:=qm l.prog w base X G D34 F34 (qgl F34 C0 y_len y_isinstance y_tuple i_tuple) λ_ _ _ _ _ _ us hl=>match us,hl with|[_],_=>rfl
 have C35:=qm l.prog w base X G D35 F35 (q6e F35 C0 y_len y_isinstance y_tuple y_all i_tuple) λ_ _ _ _ _ _ us hl=>match us,hl with|[_,_],_=>rfl
 have C36:=qm l.prog w base X G D36 F36 (qb5 F36 C35) λ_ _ _ _ _ _ us hl=>match us,hl with|[_,_],_=>rfl
 have C37:=qm l.prog w base X G D37 F37 (qdm F37 C36 C34) λ_ _ _ _ _ _ us hl=>match us,hl with|[_,_],_=>rfl
 have C38:=qm l.prog w base X G D38 F38 (qfP F38) λ_ _ _ _ _ _ us hl=>match us,hl with|[_,_,_],_=>rfl
 have C39:=qm l.prog w base X G D39 F39 (qcL F39 C3 C37 C38 y_all y_isinstance y_list y_sorted y_len y_range i_list) λ_ _ _ _ _ _ us hl=>match us,hl with|[_,_,_,_],_=>rfl
 have C40:=qm l.prog w base X G D40 F40 (q6p F40 C12 C13) λ_ _ _ _ _ _ us hl=>match us,hl with|[_,_,_],_=>rfl
 have C41:=qm l.prog w base X G D41 F41 (q71 F41 C16 C39 C17 C40 y_isinstance y_tuple y_all y_list i_list i_tuple) λ_ _ _ _ _ _ us hl=>match us,hl with|[_,_,_,_,_],_=>rfl
 have C42:=qm l.prog w base X G D42 F42 (q81 F42 C18 y_sum) λ_ _ _ _ _ _ us hl=>match us,hl with|[_,_],_=>rfl
 have C43:=qm l.prog w base X G D43 F43 (q7H F43) λ_ _ _ _ _ _ us hl=>match us,hl with|[_],_=>rfl
 have C44:=qm l.prog w base X G D44 F44 (q9t F44 C43 C27 y_min) λ_ _ _ _ _ _ us hl=>match us,hl with|[_,_,_,_],_=>rfl
 have C45:=qm l.prog w base X G D45 F45 (qdf F45 y_enumerate) λ_ _ _ _ _ _ us hl=>match us,hl with|[_],_=>rfl
 have C46:=qm l.prog w base X G D46 F46 (qaV F46) λ_ _ _ _ _ _ us hl=>match us,hl with|[_],_=>rfl
 have C47:=qm l.prog w base X G D47 F47 (qdo F47) λ_ _ _ _ _ _ us hl=>match us,hl with|[_],_=>rfl
 have C48:=qm l.prog w base X G D48 F48 (q7B F48 C21 C24 C46 C47 C25 y_zip y_abs) λ_ _ _ _ _ _ us hl=>match us,hl with|[_,_,_,_,_],_=>rfl
 have C49:=qm l.prog w base X G D49 F49 (q9S F49 C44 C45 C48 C33) λ_ _ _ _ _ _ us hl=>match us,hl with|[_,_,_,_],_=>rfl
 have C50:=qm l.prog w base X G D50 F50 (qaC F50 y_len) λ_ _ _ _ _ _ us hl=>match us,hl with|[_,_],_=>rfl
 have C51:=qm l.prog w base X G D51 F51 (q9p F51 C50) λ_ _ _ _ _ _ us hl=>match us,hl with|[_],_=>rfl
 have C52:=qm l.prog w base X G D52 F52 (qa6 F52 C50 y_range) λ_ _ _ _ _ _ us hl=>match us,hl with|[_,_],_=>rfl
 have C53:=qm l.prog w base X G D53 F53 (q93 F53 C50) λ_ _ _ _ _ _ us hl=>match us,hl with|[_,_],_=>rfl
 have C54:=qm l.prog w base X G D54 F54 (q8V F54 y_isinstance y_bool y_int i_int i_bool) λ_ _ _ _ _ _ us hl=>match us,hl with|[_],_=>rfl
 have C55:CalW _ _ _ _ _ _ _ _ _ _ _ _:=⟨q95 (P:=l.prog) (w:=w) (mg:=mg) (base:=base) F55 C54 y_len y_isinstance y_tuple i_tuple,wM X G D55.1,F55.kp,F55.binds (ps:=iW) λ_ _ _ _ _ _ us hl=>match us,hl with|[_,_,_,_,_],_=>rfl⟩;have C56:=qm l.prog w base X G D56 F56 (q9B F56 C55 y_isinstance y_list y_len y_range i_list) λ_ _ _ _ _ _ us hl=>match us,hl with|[_,_,_,_,_],_=>rfl
 have C57:=qm l.prog w base X G D57 F57 (q8Z F57 y_len) λ_ _ _ _ _ _ us hl=>match us,hl with|[_,_],_=>rfl
 have C58:=qm l.prog w base X G D58 F58 (q7t F58) λ_ _ _ _ _ _ us hl=>match us,hl with|[_,_,_],_=>rfl
 exact qjR F59 C51 C52 C53 C49 C56 C41 C57 C28 C42 C27 C19 C24 C58 y_list y_sum y_len y_range y_abs
theorem walk{l:ZG}{q:vS}{loose:dM}{XP:Sj}{YP:RQ}{d:DefRec}{K:Params->zC}(hn:l.most=some 63)(hdf:HA)(hY:∀(w:vX)(h:ve),YP w h->(K w.params).In h)(F:∀(w:vX)(mg:bH)(fa:vC)(h:ve),(K w.params).In h->h.Ns vT mg->mg d.name=some K7 ->
   ∃fd:vL,(∀(s:vF)(u:vB),sC s fd RB [("script", u)])/\∀base:ve,(K w.params).In base->base.Ns vT mg->FnOk l.prog w EN mg base CX0 11 fa fd CN (spD EN 1 q5Z)) :
  YV q loose XP YP l.row.toRowW d [] Cr :=
 L2.qcA (n:=63) (k:=11) (x := "script") (CX:=λ_=>CX0) (sp:=λw=>spD EN 1 q5Z) hn (by decide) hdf ⟨rfl,by decide,by decide⟩ hY F
  (λ_ H a ns hl _ hS=>⟨H,[ky],Ff,qgz ns hl,rfl,io,⟨dJ,[],rfl,⟨a,rfl,hS⟩,rfl⟩,λ_ _ _ _ y=>y⟩) λ_ _ _ _ _ z=>z
end Kx
end
namespace PySem.W.Fast
def tw2022788272779725056:=0
def tw4366281674923690331:=0
def tw4619966955242611252:=0
def tw15596627373118522007:=0
def tw16829313087736514946:=0
def tw3079265916109444532:=0
def tw3687991632279649764:=0
def tw14351593745249456153:=0
def tw8974665094488487057:=0
def tw11328534538326358388:=0
def tw17193959554497173993:=0
def tw6218513673972592730:=0
def tw7960598171673681291:=0
def tw10155158675104803259:=0
def tw5600321579625244675:=0
def tw6295419629728739285:=0
def tw14745890972832184437:=0
def tw11075608593415746382:=0
def tw9427478038664220654:=0
def tw12855230706175272548:=0
def tw16218361757016375337:=0
def tw4766442709174206027:=0
def tw14817639904301400393:=0
def tw7897480053854889417:=0
def tw11507416442912760337:=0
def tw14013425020971753320:=0
def tw11779997736616636702:=0
def tw14625415358068478169:=0
def tw11869677068407146459:=0
def tw8117126234936355590:=0
def tw15298771867275497407:=0
def tw1458023366878763859:=0
def tw7290842773915026596:=0
def tw18229279418378298445:=0
def tw18015156462229745507:=0
def tw4887101394383786138:=0
def tw13240572125078298354:=0
def tw14883201057522508633:=0
def tw6390849344200476119:=0
def tw6254300018887833538:=0
def tw15814832121761028319:=0
def tw5484872602376526169:=0
def tw13795404538896886677:=0
def tw16033578686126467783:=0
def tw14342075862371811265:=0
def tw2674612400050112324:=0
def tw10964810777686701037:=0
def tw17456815228422686280:=0
def tw12401109360125382016:=0
def tw14409266102787564736:=0
def tw2445656454513566462:=0
def tw6777042093711668949:=0
def tw905327762438631063:=0
def tw15778776843425405698:=0
def tw17404772466666607909:=0
def tw1266210380849710139:=0
def tw6798861499567829842:=0
def tw5701882912002362114:=0
def tw2901017919414755289:=0
def tw7279195398026362459:=0
def tw14181543834841822449:=0
def tw17797274306534151909:=0
def tw16405349631125431568:=0
def tw9534311654433314826:=0
def tw14015581118974439497:=0
def tw7190999193445122586:=0
def tw643468972094171362:=0
def tw1360550313788311509:=0
def tw754493020786208059:=0
def tw5767122663917281800:=0
def tw92265253037923179:=0
def tw4212546751289814343:=0
def tw1764896749834610646:=0
def tw13257534962034815979:=0
def tw13118924705729713139:=0
def tw15684677040152548047:=0
def tw2547950880676705187:=0
def tw13726219746277500404:=0
def tw1845583538228696801:=0
def tw6441737949394700040:=0
def tw4322361922637293206:=0
def tw1019857927156856186:=0
def tw12176883804991652045:=0
def tw8649469615273000687:=0
def tw17341186862617500159:=0
def tw11234526632536957645:=0
def tw9194529809664513196:=0
def tw17266750736367584865:=0
def tw1909574815731928518:=0
def tw17494567845201495930:=0
def tw13371725710658912076:=0
def tw633208308048272474:=0
def tw12406235930761486463:=0
def tw14030315257211209494:=0
def tw15684663815629420620:=0
def tw10971617353601486350:=0
def tw15432629979800408580:=0
def tw7441484642694585146:=0
def tw6469794710780742826:=0
def tw14091355665593850012:=0
def tw9028063236594931286:=0
def tw7844612675823406291:=0
def tw16375612567915334294:=0
def tw6631587317587019581:=0
def tw2109443975935712839:=0
def tw13771171317467968435:=0
def tw7617788340881064815:=0
def tw7080188630997896974:=0
def tw11358494523773402056:=0
def tw6661651175632321512:=0
def tw8008928196266966456:=0
def tw14879018727886477102:=0
def tw8264614903167161231:=0
def tw11972773453713670936:=0
def tw18042531498110442920:=0
def tw12756966723575636819:=0
def tw12486506250595053263:=0
def tw9018163691716448523:=0
def tw9189358401748294120:=0
def tw16450707592821076527:=0
def tw4092272455798496180:=0
def tw15624654047196266612:=0
def tw3134089784828849335:=0
def tw1196416388430669934:=0
def tw4790600276516665822:=0
def tw7374968710476421559:=0
def tw485022186418905021:=0
def tw6831709824635062342:=0
def tw1645512078517847258:=0
def tw11803569681578947211:=0
def tw2053399766905771195:=0
def tw17096161707220648116:=0
def tw10829182247370986229:=0
def tw15732046516122795155:=0
def tw658843940467211546:=0
def tw17802071222137018123:=0
def tw4450494736217027687:=0
def tw5637379123501210420:=0
def tw5362189184883615850:=0
def tw5972457076788228785:=0
def tw4951426904546320476:=0
def tw889578637421575659:=0
def tw6831869495763127445:=0
def tw13220803493027866761:=0
def tw7675420221896518264:=0
def tw12636187618562633371:=0
def tw2844540134625762071:=0
def tw14247824088556955616:=0
def tw16880067199017056095:=0
def tw13452289885089497782:=0
def tw6590737406692883298:=0
def tw856891317410025980:=0
def tw8688510911479357636:=0
def tw14128702089984722449:=0
def tw8726179497289325580:=0
def tw13061508165823581731:=0
def tw1957736138676129532:=0
def tw11360668284623955437:=0
def tw8712157094803360003:=0
def tw7470315400062612484:=0
def tw14566565783698432567:=0
def tw12035838949344870963:=0
def tw2700673205485299183:=0
def tw18117821057119883574:=0
def tw4834674730156169118:=0
def tw5607795155208536182:=0
def tw12556324703289009178:=0
def tw2580330353481041759:=0
def tw17594095362992721597:=0
def tw12896701304143557332:=0
def tw17625537259000233774:=0
def tw2022842467148790140:=0
def tw1942081966442221744:=0
def tw2315804433330598242:=0
def tw2387001181039579188:=0
def tw4427280279414392163:=0
def tw4034181381666641343:=0
def tw9674667681141206627:=0
def tw11670793649580321261:=0
def tw2685240326088239081:=0
def tw3067865930244777149:=0
def tw5344342549078457409:=0
def tw17580887760745163841:=0
def tw15427701213077141662:=0
def tw1223883292694340152:=0
def tw2322350819998151668:=0
def tw15137820370341220526:=0
def tw11060574616881607093:=0
def tw8411552950395944108:=0
def tw8133112963896414298:=0
def tw13723387560978119577:=0
def tw15765838613151563111:=0
def tw14690481498793405225:=0
def tw11672689654586426531:=0
def tw16581614448037819067:=0
def tw12349232234667441359:=0
def tw12558146396233148426:=0
def tw5486039411062791855:=0
def tw6533386650092341908:=0
def tw17076003183293006708:=0
def tw3732494633884156827:=0
def tw10850989387195520821:=0
def tw6361843922542767708:=0
def tw16382976548888415659:=0
def tw16849597242597876783:=0
def tw10860229570212436188:=0
def tw1651053618068852126:=0
def tw5619778632329975373:=0
def tw18349226918200963747:=0
def tw9714476390184713767:=0
def tw13840214546638633030:=0
def tw10778253377667124332:=0
def tw530485737455316794:=0
def tw367999199314754335:=0
def tw4925536329345556659:=0
def tw9299211931508529125:=0
def tw4503777218022518670:=0
def tw15373290929128511513:=0
def tw6349705006499565636:=0
def tw6809235249084724933:=0
def tw15229184559362690433:=0
def tw11965532563562100762:=0
def tw1283613969001044491:=0
def tw8404323825624470737:=0
def tw10057334228128931298:=0
def tw6988423329410031431:=0
def tw15859487139629269906:=0
def tw4581888815929496983:=0
def tw2071011157409938898:=0
def tw15597648819954297794:=0
def tw9867156053861381277:=0
def tw9339247592499618130:=0
def tw7676374890697637650:=0
def tw15046489146704331599:=0
def tw10787204424857790820:=0
def tw4363038555228560121:=0
def tw2457301413040164848:=0
def tw15839194218173132033:=0
def tw13743822390951911615:=0
def tw16668053880102634796:=0
def tw10671862155985916786:=0
def tw11438528136284962570:=0
def tw13504091816098879941:=0
def tw15587880067830792742:=0
def tw17876620092615754617:=0
def tw7215481881116425114:=0
def tw4622404098780791192:=0
def tw5049093820351071160:=0
def tw264251835484711744:=0
def tw8759092139884344634:=0
def tw16502898899248875723:=0
def tw15035000417056971779:=0
def tw11108569731448535957:=0
def tw13633007007396801090:=0
def tw1931767758578063182:=0
def tw9731271828183660599:=0
def tw13182872251036425216:=0
def tw18019244742716289962:=0
def tw17086441021459549518:=0
def tw11739575569045406256:=0
def tw8356955276650158932:=0
def tw366347461740688420:=0
def tw11971925159655430446:=0
def tw13993176324930201607:=0
def tw7266483546384719899:=0
def tw5659205413942650155:=0
def tw8164853308466230424:=0
def tw8880805812274005635:=0
def tw3095414786671886356:=0
def tw3954743002271631931:=0
def tw354263391199382402:=0
def tw15358602104479638547:=0
def tw6943654110627018351:=0
def tw303772671954291765:=0
def tw11558916733980979341:=0
def tw17463472379697176352:=0
def tw5287248330400295453:=0
def tw16043021649802911529:=0
def tw13050234658609475976:=0
def tw17246188509518542098:=0
def tw309072143832333336:=0
def tw18102224643548238309:=0
def tw13014221979017408842:=0
def tw11564305040807775156:=0
def tw15187086413844549565:=0
def tw2558666634306039090:=0
def tw37909179638004411:=0
def tw11720590181258234975:=0
def tw6411190037286365013:=0
def tw11719334862489296042:=0
def tw15959141441738050603:=0
def tw8966294145876788868:=0
def tw11566516327880340275:=0
def tw8630969626676918899:=0
def tw8914667890304214669:=0
def tw2653432150364661049:=0
def tw2697643375304845474:=0
def tw6815134351456173001:=0
def tw5625403388565564623:=0
def tw2738683625195927588:=0
def tw1115163566795908157:=0
def tw15041340859770613135:=0
def tw3752319570620003850:=0
def tw8804397040396134540:=0
def tw10109203209458610682:=0
def tw14413496229726863993:=0
def tw212129271834013962:=0
def tw12141391321906758850:=0
def tw17879105983614774206:=0
def tw2287852069831435170:=0
def tw4441799351309014141:=0
def tw1753445670965451199:=0
def tw15162287256281994864:=0
def tw5608260589414419891:=0
def tw11398342784288325867:=0
def tw16663694169119574905:=0
def tw13743334153726320754:=0
def tw18281192407083402599:=0
def tw1071177775794356125:=0
def tw2179616171691941030:=0
def tw7733451209774333558:=0
def tw5261063739594325429:=0
def tw7105174631198142320:=0
def tw6878964165673714220:=0
def tw5139364060723504686:=0
def tw10409687061689619133:=0
def tw14085018349160644782:=0
def tw10864426551030814449:=0
def tw7494917094745653027:=0
def tw6698588908755804239:=0
def tw16123994132093804719:=0
def tw5188919784341183907:=0
def tw9700975659437241628:=0
def tw233955929926013697:=0
def tw9978052735479690954:=0
def tw1628157696336320480:=0
def tw12411666646388413509:=0
def tw4647876182033453999:=0
def tw18091003352267845638:=0
def tw166350235041239117:=0
def tw6516385204060948154:=0
def tw15395992873022892607:=0
def tw17785312982532304427:=0
def tw9752174081858728522:=0
def tw12193796603736251383:=0
def tw702023016244295229:=0
def tw26409137457660667:=0
def tw6371043770408895534:=0
def tw17811752886252778298:=0
def tw15838421099378035771:=0
def tw13807734705571041433:=0
def tw9588153767521836875:=0
def tw4521075279462828186:=0
def tw9224142645653437594:=0
def tw16613360744776422132:=0
def tw7452848686328788016:=0
def tw16056654569756574485:=0
def tw14309862951262783940:=0
def tw11103331368095683955:=0
def tw1797409042934386083:=0
def tw16491695634004804706:=0
def tw15255367226127978040:=0
def tw4565119755804667316:=0
def tw491223876428146008:=0
def tw10193709683673800980:=0
def tw2309202479209556263:=0
def tw13111838471296025707:=0
def tw5602092729054092049:=0
def tw5344437211692039182:=0
def tw14634033862055518510:=0
def tw2508417950159292237:=0
def tw14864808180615827533:=0
def tw4851648680003468060:=0
def tw10251331556701158931:=0
def tw12587401608026565012:=0
def tw8743830485802537847:=0
def tw8193844811836311519:=0
def tw11232283697390385283:=0
def tw11838532172296788023:=0
def tw8048854990816531577:=0
def tw4883112902058303912:=0
def tw7672548312939974278:=0
def tw11627529516678422287:=0
def tw11194303739481968554:=0
def tw8617753327648681295:=0
def tw13142126132483143972:=0
def tw15334190339533761593:=0
def tw9657029714168229043:=0
def tw10664762847438182926:=0
def tw323801055533108429:=0
def tw13859757184668801296:=0
def tw4881133207108941850:=0
def tw10028508378479558280:=0
def tw3500703589605179542:=0
def tw12692487189343368263:=0
def tw665409244308239774:=0
def tw3845751286315969962:=0
def tw9845325238602315180:=0
def tw2535785236161839787:=0
def tw6863446009972524625:=0
def tw6280164869970051889:=0
def tw18281385634137256767:=0
def tw5174837942583268120:=0
def tw6194097422742159871:=0
def tw15267105182958787703:=0
def tw5003352160844626529:=0
def tw13880548049617204473:=0
def tw15841594804332392626:=0
def tw830373995009912047:=0
def tw3649892030334700469:=0
end PySem.W.Fast
open PySem PySem.W PyProof.Rows
set_option maxRecDepth 100000 in
set_option maxHeartbeats 0 in
theorem PySem.Challenge.cw_hookrail_k66_a_ring_tour_walked_holds : PySem.Challenge.rw_hookrail_k66_a_ring_tour_walked.Holds := by
 w_on;o_law;k_head;(case hw=>w_witness2)
 k_fill
 refine Kx.walk (l:=PySem.Challenge.rw_hookrail_k66_a_ring_tour_walked) rfl rfl (λw h Y=>YM Y) ?F
 case F =>
  intro w mg fa h KX G hmg;refine' Kx.qkq KX G hmg ?D0 ?D1 ?D2 ?D3 ?D4 ?D5 ?D6 ?D7 ?D8 ?D9 ?D10 ?D11 ?D12 ?D13 ?D14 ?D15 ?D16 ?D17 ?D18 ?D19 ?D20 ?D21 ?D22 ?D23 ?D24 ?D25 ?D26 ?D27 ?D28 ?D29 ?D30 ?D31 ?D32 ?D33 ?D34 ?D35 ?D36 ?D37 ?D38 ?D39 ?D40 ?D41 ?D42 ?D43 ?D44 ?D45 ?D46 ?D47 ?D48 ?D49 ?D50 ?D51 ?D52 ?D53 ?D54 ?D55 ?D56 ?D57 ?D58 ?D59 ?z_isinstance ?z_bool ?z_int ?z_len ?z_tuple ?z_list ?z_all ?z_sorted ?z_set ?z_enumerate ?z_zip ?z_abs ?z_sum ?z_min ?z_max ?z_range ?z_reversed ?i_int ?i_bool ?i_tuple ?i_list
  (case D0|D1|D2|D3|D4|D5|D6|D7|D8|D9|D10|D11|D12|D13|D14|D15|D16|D17|D18|D19|D20|D21|D22|D23|D24|D25|D26|D27|D28|D29|D30|D31|D32|D33|D34|D35|D36|D37|D38|D39|D40|D41|D42|D43|D44|D45|D46|D47|D48|D49|D50|D51|D52|D53|D54|D55|D56|D57|D58|D59=>(refine' Hk.ql7 ?a ?l ?c ?k;(case a=>k_is);(case l=>k_is);(case c=>k_is);(case k=>k_is)))
  (case z_isinstance|z_bool|z_int|z_len|z_tuple|z_list|z_all|z_sorted|z_set|z_enumerate|z_zip|z_abs|z_sum|z_min|z_max|z_range|z_reversed=>k_is)
  (case i_int=>intro t ht;cases t <;> first|(exact absurd rfl ht)|rfl|k_is)
  (case i_bool=>intro t ht;cases t <;> first|(exact absurd rfl ht)|rfl|k_is)
  (case i_tuple=>intro t ht;cases t <;> first|(exact absurd rfl ht)|rfl|k_is)
  (case i_list=>intro t ht;cases t <;> first|(exact absurd rfl ht)|rfl|k_is)
#print axioms PySem.Challenge.cw_hookrail_k66_a_ring_tour_walked_holds
