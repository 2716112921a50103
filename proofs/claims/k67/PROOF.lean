import PyProof.Rows.All
import Wide.All
import OpenK.AllK
import Wide.FinOn
import Lean
import PyProof.EqAt
import PyProof.EqKinds
import PyProof.TupleCall
import PySem.SetOps
import KE.KDictSum
import KE.KDictList
import PyProof.ZipIter
import KE.KFind
import PyProof.MaxThree
import PyProof.Rows.IntMath
import PyProof.EnumMake
import PyProof.Rows.EnumRows
import KE.KDictLaws
import PyProof.DictWalks
import PyProof.Rows.SortRuns
import KE.KSortKey
import KE.KMinKey
import PyProof.WalkInts
import PySem.Challenge.RW_hookrail_k67_whole_no_ring_tour_is_short
open Array renaming length_toList→zW,getElem?_toList→zn,getElem?_eq_getElem→yI,getElem?_eq_none→yj,toArray_toList→xS,size_push→ZV,getElem?_push→Zo,forIn_toList→Z3,toList_push→YD,toList→Ym
open Bool renaming and_eq_true→zv,false_eq_true→yF,false_ne_true→yM,or_false→wV,and_false→wk,false_and→Ze,and_eq_true_iff→Zh,false_or→Zv,not_true→Zw,true_and→Zy,true_or→YH,not_false→Yg,and_true→Yl
open Int renaming toNat_natCast→yc,le_refl→yd,zero_add→xm,emod_nonneg→xw,le_of_lt→wH,emod_eq_of_lt→wI,mul_one→wX,mul_le_mul_of_nonneg_left→wY,sub_self→wg,emod_lt_of_pos→wx,le_trans→ZP,mul_zero→ZQ,toNat→Zm,toNat_of_nonneg→Zt,reducePow→Zx,add_assoc→Zz,le_antisymm→YS,reduceToNat→YV
open List renaming length_map→zB,getElem?_eq_getElem→zD,length_append→zE,mem_append_right→zF,mem_cons_self→zG,mem_cons_of_mem→zH,mem_append_left→zI,mem_cons→zK,mem_append→zL,length_cons→zM,map_append→zN,map_cons→zO,size_toArray→zP,mem_singleton→zR,getElem?_set_ne→zS,mem_map→zT,getD_eq_getElem?_getD→zV,range→zY,getElem?_map→zZ,sum_cons→za,getElem?_append_right→zc,getElem_mem→zd,getElem?_eq_some_iff→ze,getElem?_append_left→zg,length_singleton→zi,map_map→zj,length_range→zk,mem_filter→zm,append_nil→zo,not_mem_nil→zq,length_take→zr,pairwise_cons→zt,mem_map_of_mem→zu,mem_iff_getElem→zw,replicate→z8,getElem?_eq_none→yA,append_assoc→yB,mem_range→yC,mem_of_getElem?→yD,map_congr_left→yK,length_drop→yN,filter_cons→yO,nil_append→yP,sum_append→yR,map_nil→yS,replicate_succ→yT,length_set→yV,length_replicate→yX,pairwise_iff_getElem→yY,nodup_cons→yZ,nodup_append→yg,length→yh,getElem?_set_self→yi,filterMap_cons→yk,getElem?_replicate→yl,perm_ext_iff_of_nodup→ym,length_zip→yo,getElem?_range→yq,flatten_cons→yr,eq_nil_of_length_eq_zero→yt,all_eq_true→yv,mem_flatMap→yw,length_nil→yy,getElem?_zip_eq_some→yz,take_append_drop→y9,mem_iff_getElem?→xA,lookup_cons→xB,getElem?_take→xD,ext_getElem?→xE,getElem?_cons_succ→xF,flatMap_cons→xG,filter_eq_self→xI,length_reverse→xJ,map_eq_nil_iff→xK,getElem?_drop→xN,getElem?_cons_zero→xT,nodup_nil→xV,getElem_map→xX,pairwise_lt_range→xY,filter_eq_nil_iff→xZ,sum_nil→xa,find?_cons→xb,all_cons→xf,length_filter_le→xh,perm_append_comm→xi,pairwise_map→xj,pairwise_append→xk,drop_eq_getElem_cons→xn,getElem?_eq_none_iff→xo,getLast?_eq_none_iff→xq,flatMap_append→xr,any_cons→xt,filter_cons_of_pos→xz,filter_cons_of_neg→wA,map_id→wB,take_of_length_le→wE,count_append→wJ,eraseIdxIfInBounds_toArray→wK,getElem_inj→wM,perm_middle→wN,take_length→wO,drop_length→wP,map_fst_zip→wQ,mem_flatten→wR,nodup_range→wS,countP_cons→wT,perm_cons_erase→wZ,of_mem_zip→wb,dropLast_concat_getLast→wc,countP_eq_length_filter→wd,length_pos_iff→we,length_eraseIdx_of_lt→wm,drop_zero→wp,set_cons_succ→wq,set_cons_zero→wu,mem_replicate→wz,reverse_cons→w9,foldl_append→ZB,map_take→ZD,map_drop→ZE,take_append_getElem→ZF,length_erase_of_mem→ZG,eraseIdx_cons_succ→ZH,pairwise_singleton→ZJ,cons_append→ZK,range_succ_eq_map→ZM,all_map→ZN,zipWith→ZO,flatMap_singleton→ZR,foldl_cons→ZT,forIn_cons→ZW,range_succ→ZZ,dropLast_eq_take→Za,take_eq_take_iff→Zc,countP_mono_left→Zd,drop_drop→Zi,reverse_reverse→Zj,mem_of_getLast?→Zk,erase_cons_head→Zl,reverse_append→Zp,replicate_zero→Zs,countP_eq_zero→Zu,mem_filterMap→Z0,filterMap_map→Z1,filter_append→Z5,map_singleton→Z6,foldlM_append→Z7,take_sublist→YA,getElem_take→YB,take_add_one→YF,filter_congr→YL,map_reverse→YQ,take_left'→YT,drop_left'→YU,count_cons→YW,foldl→YY,forIn_nil→Yb,take_take→Yd,drop_take→Ye,take_zero→Yf,drop_left→Yh
open List.Nodup renaming length_le_of_subset→wU
open List.Pairwise renaming nil→wC,sublist→wL
open List.Perm renaming append_left→xO,refl→xU,trans→xv
open List.Sublist renaming refl→YK
open List.cons renaming inj→Yk
open Nat renaming le_refl→zQ,ne_of_lt→zx,lt_of_lt_of_le→yE,zero_le→yG,lt_or_ge→yH,le_trans→yL,lt_succ_of_lt→yW,lt_succ_self→ya,le_of_lt→yb,le_succ→yx,lt_irrefl→xL,ne_of_gt→xl,not_lt_zero→xu,lt_of_le_of_lt→xx,zero_add→wG,sub_self→wf,eq_or_lt_of_le→wo,le_succ_of_le→ZA,lt_trichotomy→ZC,add_sub_cancel_left→ZI,min_le_left→ZX,min_eq_left→ZY,add_one_ne_zero→Zq,zero_ne_add_one→Zr,eq_zero_or_pos→Z2,add_sub_cancel→Z4,lt_trans→YC,le_total→YG,sub_zero→YJ,min_le_right→YN,reduceEqDiff→YR,not_lt→Ya
open Option renaming bind_some→yf,isSome_iff_exists→yu,map_some→xH,map_eq_some_iff→wF,isSome_map→YI,getD_none→YO,map→Yc,none→Yn
open Option.some renaming inj→zy
open PySem.Heap renaming get?_push_of_some→zJ,lt_size→zU,get?_push_size→zX,get?_update_other→zh,size_push→ye,get?_update_self→y8,SameBut→xP,size_update→xW,get?_some_iff→xy
open PySem.Heap.IsSliceOf renaming new→Yo
open PySem.Heap.SameBut renaming update→Zn,refl→YE
open PySem.W renaming Frag→zC,mg_none_of→yJ,nsIn→yU,kia_one→yn,keepIn→xM,fnOf→xR,mg_of→wW,codeIn→wj,methodObj→w8,cellsFrom_some→ZL,instObj→ZS,OpenLaw→ZU,lookIn→Zf,kitOne→Zg,kitx_list→Z8,kitx_dict→Z9,plainGet→YM,findIn→YX,kIn_of→YZ,WalkO→Yi,kf_at→Yj
open PyProof.Rows renaming arrOf→vW,wpS_bind→vt,seqObj→v4,IntsAre→uH,wpS_pure→uL,Keyed→ur,SortedTo→ut,SortSt→ux,wpS_forRange→u9,AllBare→tG,SBase→tH,listUpdate_at→tK,subscriptTail_builtinR→tS,envOfC→tY,K_mirror_equal→tq,wpS_reverse→tt,mirror_perm→tz,subscriptTail→t8,numOf→t9,args_tuple_getitem→sB,plain_sorted→sG,entry_sorted→sH,kind_sorted→sM,NonInc→sW,wpS_mono→sX
open PySem renaming wpAny_bind→vA,Value→vB,Addr→vF,Shared→vH,wpAny_pure→vJ,starEach→vK,wpAny→vL,FuncData→vN,Expr→vP,Program→vQ,mainGlobals→vS,backTo→vU,wpAny_holding→vX,World→vY,wpAny_ite_split→vZ,keywordEach→vc,Around→ve,Heap→vf,bootBuiltins→vg,sizeLine_eq→vh,wpAny_newObj_type→vi,Stmt→vn,wpAny_mono→vo,wpAny_Call_Name_kw→vp,wpAny_call_entry→vq,swapsWith→vz,builtinLookup_eq_fast→v3,backToKw→v5,wpAny_setState_of→v6,codeAny_builtin→v7,plainId_quiet→v8,wpAny_updateSeq→v9,foldedSetIterable→uA,attributeBase→uB,argBest→uC,behindInMarks→uD,wpAny_truthy_bool→uE,Keyword→uF,wpAny_setField_rec→uG,wpAny_seqItems→uI,sysModules→uJ,typeLookup_type→uK,compareOp→uM,assignEach→uN,pyNext→uO,wpAny_passesOwn→uP,binaryOp→uQ,wpAny_isInstance→uR,wpAny_field→uS,rawInt→uT,codeAny→uU,codeAny_mono→uV,wpAny_rule→uW,NameKind→uX,wpAny_specialOf→uY,wpAny_attempt→uZ,wpAny_pyIter_list→ua,wpAny_tryCatch→ub,wpAny_typeOf→uc,scanBound→ud,cLine→ue,call_meets→uf,tupleKind_room_in1→ug,sliceBounds→uh,updateSeq→ui,wpAny_letGo→uj,isSubtype_type→uk,IsPair→um,wpAny_nextOf_list_item→uo,Scope→uu,typeLookup→uv,pickOrder→uw,wpAny_newList→uy,ZipApart→uz,wpAny_execs_nil→u0,letOwnedTupleGo→u5,intKind→u6,getItem→u7,setNext→u8,wpAny_fieldsOf→tD,firstArgMember→tE,isSubtype_stop→tF,wpAny_standAt→tI,wpAny_comprehension_free→tJ,tupleKind→tL,PassesOwn→tM,seqIndex?→tN,wpAny_askSetting→tO,wpAny_pyIter_zip→tP,IsPart→tQ,wpAny_isTrue_Compare1→tU,wpAny_nextOf_list_end→tV,wpAny_pyNext_zip_item→tW,Result→tX,wpAny_of_eq→tZ,wpAny_newTuple→tf,codeAny_extend_loopS→tj,wpAny_pyNext_zip_end→tm,callerA→t4,valueAt→t5,swapsWithSole→t6,swappedStores→t7,wpAny_call→sA,GenState→sC,BindsTo→sD,slotArgs→sF,call_meetsIn→sI,Paired→sJ,CmpOp→sK,seqIndex_of→sL,atKey→sN,hashInt→sO,standAt→sP,isTrue→sR,pyIter→sS,argsOk→sT,raiseNew→sU,numAt_eq→sV
noncomputable def vC:=@if_pos
noncomputable def vG:=@if_neg
noncomputable def vM:=@absurd
noncomputable def vO:=@decide_eq_true
noncomputable def vT:=@decide_eq_false
noncomputable def vm:=@congrArg
set_option Elab.async false
section
local macro_rules|`(∅)=>`(by omega)
local macro_rules|`(⋯)=>`(by decide +kernel)
local macro_rules|`(↥$x)=>`(some (.sh $x))
local macro_rules|`(⇑$x)=>`(by simpa using $x)
local macro_rules|`(tactic|omega)=>`(tactic|lia)
set_option compiler.extract_closed false
set_option hygiene false
def pW:List Char->List Char|' '::r=>pW r|r=>r
def pC(c:Char):Bool:=c.isAlphanum||"_'.!?₀₁₂₃".toList.contains c||(c.val>=913&&c.val<=969&&c.val != 955)
def pF(e:Lean.Term):List String->Lean.Term|[]=>e|s::r=>pF ⟨Lean.mkNode ``Lean.Parser.Term.proj #[e,Lean.mkAtom ".",if s.front.isDigit then Lean.mkNode `fieldIdx #[Lean.mkAtom s] else Lean.mkIdent (.mkSimple s)]⟩ r
def pN(l:List String):Lean.Term:=let a:=l.takeWhile (!·.front.isDigit);pF (Lean.mkIdent (a.foldl (λn s=>.str n s) .anonymous)) (l.drop a.length)
mutual
def pT:Nat->Nat->List Char->Lean.MacroM (Lean.Term×List Char)
 | 0,_,_=>Lean.Macro.throwUnsupported
 | n+1,p,s=>do
  let(a,s)<-match pW s with
   | '('::r=>do
    let(a,r)<-pT n 0 r
    let(a,r)<-match pW r with
     | ')'::r=>pure (a,r)
     | ':'::r=>do let(b,r)<-pT n 0 r;pure (<-`(($a : $b)),(pW r).tail)
     | ','::r=>do let(l,r)<-pL n #[] r;pure (<-`(($a,$l,*)),r)
     | _=>Lean.Macro.throwUnsupported
    pure (let w:=r.takeWhile pC;match r with
     | '.'::_=>(pF a ((String.ofList w.tail).splitOn "."),r.drop w.length)
     | _=>(a,r))
   | '⟨'::r=>do let(l,r)<-pL n #[] r;pure (<-`(⟨$l,*⟩),r)
   | '['::r=>do let(l,r)<-pL n #[] r;pure (<-`([$l,*]),r)
   | '"'::r=>let w:=r.takeWhile (·!='"');pure (Lean.Syntax.mkStrLit (String.ofList w),r.drop (w.length+1))
   | '¬'::r=>do let(b,r)<-pT n 40 r;pure (<-`(¬$b),r)
   | '-'::r=>do let(b,r)<-pT n 75 r;pure (<-`(-$b),r)
   | '@'::r=>let w:=r.takeWhile pC;pure (⟨Lean.mkNode ``Lean.Parser.Term.explicit #[Lean.mkAtom "@",pN ((String.ofList w).splitOn ".")]⟩,r.drop w.length)
   | '∅'::r=>do pure (<-`(∅),r)
   | '⋯'::r=>do pure (<-`(⋯),r)
   | '↥'::r=>do let(b,r)<-pT n 1024 r;pure (<-`(↥$b),r)
   | '⇑'::r=>do let(b,r)<-pT n 1024 r;pure (<-`(⇑$b),r)
   | 'λ'::r=>do
    let w:=r.takeWhile (λc=>pC c||c==' ')
    let xs:=(((String.ofList w).splitOn " ").filter (·!="")).toArray.map λx=>if x=="_" then (⟨Lean.mkNode ``Lean.Parser.Term.hole #[Lean.mkAtom "_"]⟩:Lean.Term) else pN [x]
    let(b,r)<-pT n 0 (r.drop (w.length+2))
    pure (<-`(fun $xs* =>$b),r)
   | s=>let w:=s.takeWhile pC;let r:=s.drop w.length;match w with
    | []=>Lean.Macro.throwUnsupported
    | ['_']=>do pure (<-`(_),r)
    | ['P','r','o','p']=>do pure (<-`(Prop),r)
    | ['?','_']=>do pure (<-`(?_),r)
    | '.'::w=>match (String.ofList w).splitOn "." with
     | x::l=>do pure (pF (<-`(.$(Lean.mkIdent (.mkSimple x)))) l,r)
     | _=>Lean.Macro.throwUnsupported
    | c::_=>pure (if c.isDigit then Lean.Syntax.mkNumLit (String.ofList w) else pN ((String.ofList w).splitOn "."),r)
  if p>1023 then pure (a,s) else do let(a,s)<-pA n a #[] s;pO n p a s
def pA:Nat->Lean.Term->Array Lean.Term->List Char->Lean.MacroM (Lean.Term×List Char)
 | 0,_,_,_=>Lean.Macro.throwUnsupported
 | n+1,f,l,s=>do
  let r:=pW s
  let e:=if l.isEmpty then f else Lean.Syntax.mkApp f l
  match r with
   | '('::q=>do
    let w:=q.takeWhile pC
    match q.drop w.length with
     | ':'::'='::q=>do
      let(a,q)<-pT n 0 q
      pA n f (l.push ⟨Lean.mkNode ``Lean.Parser.Term.namedArgument #[Lean.mkAtom "(",pN [String.ofList w],Lean.mkAtom ":=",a,Lean.mkAtom ")"]⟩) (pW q).tail
     | _=>do let(a,s)<-pT n 1024 r;pA n f (l.push a) s
   | c::_=>if "⟨[\"@∅⋯↥⇑".toList.contains c||pC c then do let(a,s)<-pT n 1024 r;pA n f (l.push a) s else if c=='λ' then do let(a,s)<-pT n 1024 r;pure (Lean.Syntax.mkApp f (l.push a),s) else pure (e,s)
   | []=>pure (e,[])
def pO:Nat->Nat->Lean.Term->List Char->Lean.MacroM (Lean.Term×List Char)
 | 0,_,_,_=>Lean.Macro.throwUnsupported
 | n+1,p,a,s=>do
  let g(k q:Nat)(r:List Char)(f:Lean.Term->Lean.MacroM Lean.Term):=if k<p then pure (a,s) else do let(b,r)<-pT n q r;pO n p (<-f b) r
  match pW s with
   | '-'::'>'::r=>g 25 25 r λb=>`($a->$b)
   | '\\'::'/'::r=>g 30 30 r λb=>`($a\/$b)
   | '/'::'\\'::r=>g 35 35 r λb=>`($a/\$b)
   | '×'::r=>g 35 35 r λb=>`($a×$b)
   | '&'::'&'::r=>g 35 36 r λb=>`($a&&$b)
   | '='::'='::r=>g 50 51 r λb=>`($a==$b)
   | '='::r=>g 50 51 r λb=>`($a=$b)
   | '≠'::r=>g 50 51 r λb=>`($a≠$b)
   | '<'::'='::r=>g 50 51 r λb=>`($a<=$b)
   | '<'::r=>g 50 51 r λb=>`($a<$b)
   | '∈'::r=>g 50 51 r λb=>`($a∈$b)
   | ':'::':'::r=>g 67 67 r λb=>`($a :: $b)
   | '+'::'+'::r=>g 65 66 r λb=>`($a++$b)
   | '+'::r=>g 65 66 r λb=>`($a+$b)
   | '-'::r=>g 65 66 r λb=>`($a-$b)
   | '*'::r=>g 70 71 r λb=>`($a*$b)
   | _=>pure (a,s)
def pL:Nat->Array Lean.Term->List Char->Lean.MacroM (Array Lean.Term×List Char)
 | 0,_,_=>Lean.Macro.throwUnsupported
 | n+1,l,s=>match pW s with
  | '⟩'::r=>pure (l,r)
  | ']'::r=>pure (l,r)
  | ')'::r=>pure (l,r)
  | ','::r=>pL n l r
  | s=>do let(a,r)<-pT n 0 s;pL n (l.push a) r
end
def tB(c:Char):String:=match c with
|'A'=>r#"Aa s1 _ _ (s0 _ _ h1)
Ab kvsOf ks eS
Ac Yq A3 Y1
Ad T++[KC]++C1.map Xd
Ag .done (.ret .none)
Ah ((0:Nat):Int)
Ai λp hp=>?_
Aj λa ha=>?_
Ak xR name qual params body scope dV kV doc pm an cdv ct
Am vF×Obj
An XD.toE (XE.toD (q4z hr.units nN (XE.toD (Yt pB af))))
Ao ⟨∅,∅⟩
Ap λj fs hj=>?_
Aq λh e=>⟨oI',e,hoc,hod⟩
Ar min xs.size ys.size<=sizeLine
As Y8 G H
At XE.toD (qN af (XE.toV (qU RQ af)))
Au XE.toD (Yt gu (XE.toV (qU (XE.toV (q0a pB af)) af)))
Av X.env.kindOf x=some .cell\/X.env.kindOf x=some .free
Aw WV (Pn ws vs) H
Ax Fun K x qual st f fd
Ay 0<=b.1/\b.1<n
Az .ref b
AA ⟨us,[]⟩
AB some i
AC s1.heap.objs.size+1
AD q9h hu AQ (pv 5) Mn Ss
AE Yp (XE.toD (q72 q1e q4p rfl z19 q0v (qm l7 qp))) Yv
AF XE.toD (Yt l7 af)
AG X.mg x=none
AH St->Hp->Prop
AI SetTable.below xs j
AJ Room k0 X.A
AK .int i t
AL .int b.1
AM λe=>(u6 prog w).is x e.2
AN zAE s.heap z TI TO (uT t) f1
AO upd (zAo H ts us ws) S kh
AQ pv 2
AR nT B
AS I.base.keep b o e n hb hx
AT λb o e n hb hx=>?_
AU λb hb=>(hf b hb).1
AV ys.length<=sizeLine
AW vK pK X.env=[bW,im]
AX qeF (hW _ ∅ ∅).2 v nn (λe he=>?_) λe he=>?_
AY qc (qq (i:=4) qJ.nd rfl (Or.inl rfl) (XD.toE bp))
AZ no.ow i ds
A3 dOf (Ys 8)
A4 bs.map tri
A5 X.fn x3=true\/X.env.scope.names.lookup x3=some .local
A6 X.fn x2=true\/X.env.scope.names.lookup x2=some .local
A7 PySem.Fin->vH->Prop
A8 List W
A9 (0:Int)"#
|'B'=>r#"Ba .tup [x,y]
Bc ⟨⟨_,hS,rfl⟩,PySem.F.args_list_init_2 _ _,?_⟩
Bd ⟨rfl,I.turnedL (t':=s.toks) JT hf⟩
Be λvs H Q E h=>?_
Bf y1.mono x2.gg
Bg some jB
Bh hn x hx
Bi hb pins s1 σ H1 _ I1 q1
Bj egs n Q
Bk Yz oIx aE cn
Bl Xi Ws (Yq bY Y1)
Bm SetTable.below t.place slot
Bn List Int×List D
Bo .type T
Bp .type "list"
Bq .dT kvs
Br .builtin "list.extend.loop" ⟨[gC,iR,res],[]⟩
Bs .Name "sorted" p
Bt ⟨vs,h1,h2,h3,h4,h5,Ph,Ph⟩
Bu ↥(.lst fA)
Bv yG _
Bw dOf fB
Bx Yq bh Y1
By Yq bA Y1
Bz Yp jM Yv
BA Y2 K H ds vs
BB Sum.inl k
BC Option vB
BD IntKeys a₀
BE Gl X "range"
BF (xs.toList.take j).drop l++xs.toList.drop (j+1)
BG λf vs=>PySem.call f vs
BH λe s'=>R (.error e) s'
BI vV 6
BJ inD n l&&ds.all (zB2 n)
BK ha q2 pins s σ H _ I h
BL fr H
BM apart pins a kS e1 ks e
BN [D.str "box", oT,j8,iu,lV]
BO ["things", "ties"]
BP ["boxes"]
BQ Y2 X.K G ds xs
BR KV kvs vs
BS .int lo t
BT .int hi u
BU .Call (.Attribute o "extend" apos) [e] [] cpos
BV q21 go gd gf ?_
BW inB b (zF _ hb)
BX es.map λe=>e.1
BY Yw n h l bs x+c
BZ SqT.of iW
B1 .Name "range" p
B2 (p,w)::P.zip vs
B3 σ.set i nE
B4 λe=>z (Sum.inl.inj e)
B5 λe=>vI e.2
B6 λ_=>true
B8 λ_ _=>true
B9 zBu M frees wi g tc te"#
|'C'=>r#"Ca zBE (tBM K "list" X7 (Xf 4) abi)
Cb zBE (tBM K "list" X7 (Xf 3) abi)
Cc vK [eZ] X.env=(false,eval eZ X.env)::vK [] X.env
Cd vK [e8] X.env=(false,eval e8 X.env)::vK [] X.env
Ce vK [e1] X.env=(false,eval e1 X.env)::vK [] X.env
Cf vG ∅
Cg v4 "list" vs.toArray n
Ci pins++[(it,oI),(a,oS)]
Cj es.map Yx
Ck a==uJ
Cl a.map D.int
Cm [.Name x2 q5,.Name x3 q6]
Cn ["size", "boxes", "move"]
Co Yu st
Cp XY M frees fi fg fc fe
Cq I.base.free b o e n hx
Cr FnOk X.prog X.w X.K X.mg X.base CX0 k f fd ps sp
Cs Around.under_plainId PySem.F.plain_extend_loop _
Ct .lst (kn.map Yx)
Cu .int (kf d)
Cv .Call (.Attribute cF "append" a2) [e1] [] c2
Cw (x1.trans x2).trans x3
Cy (plc h l bs).map D.int
Cz (T0++T1)++B
CA ⟨_,_,_,_,rfl⟩
CB vK [b] X.env=[im]
CC vK [a] X.env=[bW]
CD (toString "min" ++ toString ".loop" : String)
CF s.heap.get? it=some (WP (.int slot 0) i a n ep)
CG [some (W.sh pG),↥bb,none,none,none,none,none]
CH ["start", "arcs"]
CI X.mg "zip" = none
CJ FnOk X.prog X.w X.K X.mg X.base CX k f fd ps sp
CK .ref I
CL .int b.2.2
CM ⟨none,none,none,rfl⟩
CN λj ds hj=>?_
CO λi i1 i2=>?_
CP λb z1 z2=>?_
CQ zBv (Wa m) ds
CS zBO M frees σ
CT xs.map λ_=>D.bl true
CU vD 5
CV v6 go gd gf ?_
CW uD op b=false
CY u8 a slot i ep
CZ some (.ref Kj)"#
|'D'=>r#"Da qd (q0O q hn)
Db (p.1,WH (Xe is p.2) ω)
Dc [.int (p.2:Int),tri p.1]
De [(l,h)]
Df TP X pins σ Q
Dg List vn
Dh InR n Q
Di Ext G H G' H'
Dj .ok (.ret res)
Dk .int ds.length
Dl .Dict [] [] q1
Dm (sts as).Perm (gls as)
Dn ⟨l,b,vs,us,rfl,rfl,oY,x1.gh _ _ r6,f1,f2⟩
Do some k
Dp (.nx,ω)
Dq .lst c9
Ds .fr ds
Dt ⟨σ',H',I.unwish,q⟩
Du λj ks fs hj=>?_
Dv xc c74 hr (Yp cO o8)
Dw upd H p jj
Dx start N vs
Dy plc h l bs
Dz o2.free no (T2.gl l n1).1 (T2.gl l n1).2
DA (none,0,0,0)
DB m.2.2.2=1\/m.2.2.2=-1
DC inW M frees ω
DD hl pins s σ H _ I h
DE hi pins s σ H _ I h
DF ZSt h0 S z TI TO i1 i2 l1 l2 xs ys ts s.heap
DG X.mg "enumerate" = none
DH Or.inr rfl
DI K w.params
DJ It->Hp->Prop
DK .dic ks ds
DL .Slice lo hi none p2
DM .Return (some e) pos
DN ((XJ (a e)).toNat:Int)
DO λe=>e.1
DP zU e
DQ zAa td (X9 5)
DR uC eM j
DS thn (ha pins s σ H Q I h) λc s1 e=>?_
DU sb2.extBut _ _ n2 Eu
DV s.heap.get? it=some (WP abD i a n ep)
DW (ds.length:Int)
DX cutD ds lo hi
DY ["move"]
DZ ["arcs"]"#
|'E'=>r#"Ea Yq aq Y1
Eb Yp iO Yv
Ec XR af
Ed Wf ks xss a b
Ee WP (.int (slot 0:Nat) 0) 0 a es.size ep
Ef PE X b tb
Eh L2.start N vs
Ei Array ur
Ej Array Nat
Ek (0,0,0)
El .tup ds
Em .int 1 v
En .Call (.Name "enumerate" ep) [o0] [] ec
Eo (r5.mono x1.gg).app (Y2.cons y1 Y2.nil)
Ep λh' c' kp e=>fin its r' hz h' c' kp e
Er vOf (Yz oDiv aT mD)
Es v4 "list" ks e
Et typeOf jU=pure (.type "method_descriptor")
Eu sb1.extBut _ _ n1 e
Ev sIx items.size 0 lo
Ew e=x\/H e=some (.own x)
Ex [some pG,some v1,none,none,none,none,none]
Ey [D.str "go", j8,iu,lV]
Ez Wv Z T E a w
EA SqL.of h1
EB Option vP
EC D.pys (b.map D.int)
ED (.nx,ω.set i (some (.ow (ds.set j d))))
EE .lst (xs.map V.int)
EF .int ys.length
EG .bl EM
EH .Call (.Name "enumerate" p) [a] [] pos
EI (xs.filter q).map F
EJ (q0M f _).subset he
EK (cst row).map D.int
EL zJ _ e
EM zAc (tyD d) c
EN vz bJ OM spos.line X.env=pure true
EO vC ∅
EQ ta σ H λx H1=>tb σ H1 λy H2=>R x y H2
ER tH a₀ st
ES nrem<=a₀.size
ET b<P.length
EU a<P.length
EV [none]
EW ["script"]
EX XE.toD (xc c34 hr (Yp cO (Yp nZ Yv)))
EY XE.toD (xc c34 hr (Yp cO (Yp eN Yv)))
EZ OpR X (uM op) r
E1 ⟨.bl _,H,I,rfl,q⟩
E2 zY bs.length
E3 zBK xs lo hi
E4 xc c14 hr gO
E5 vOf Fq
E6 upd H p o
E7 upd H a o
E8 upd G l (.frz ob (.dK (kvsOf ks0 vs)))
E9 some true"#
|'F'=>r#"Fa some (.bl p)
Fb s.heap.get? t=some ot
Fc s.heap.IsList l items
Fe ps.zip us
Ff now.ow i ds'
Fg neC b o e hx
Fh ms.map Wl
Fi k=true->stepW I μ (μ ω) J (fb ω)
Fj dOf Fp
Fk dOf acv
Fl dOf (Yz oIx bR aq)
Fm dOf (Yz oIx bR aW)
Fn as.map Yx
Fo ["size", "home", "last", "boxes", "gap"]
Fp Yz oIx bY aq
Fq Yz oIx aE aW
Fs Yp (vD 8) Yv
Ft XE.toV (q0a BI af)
Fu Option Int->Hp->Prop
Fv I.hok.fresh Qd
Fw Builtin.List.listLengthHint (.ref r)
Fx .Subscript o i pos
Fy .Subscript a b pos
Fz .Assign [dX] e pos
FB (Xn f pre).1 e.1==(Xn f pre).1 e.2.1
FC λG0 H0 G ω σ H out ω' E o ec kk=>?_
FF x.above y c (PySem.mem_of_lookup h)
FH some 1
FJ (d,ω.set i (some (.ow ds.dropLast)))
FK Xf 2
FL XE.toD (qU (XE.toV (q0a pC af)) af)
FN WP (.int (slot i) 0) i a es.size ep
FP .ow ds
FQ (.nx,ω.set i (some (.ow (ds++ds'))))
FR .int e.1
FU .bl b
FV ⟨j,∅,h2⟩
FX ⟨_,jt,rfl,_,rfl⟩
FY ⟨.int _,H,I.kept (t':=tk) hk,cf,q⟩
FZ ↥(.int here)"#
|'G'=>r#"Ga ω.set i ↥(B x)
Gb λi ks ds' hi=>vM hi (now.od i ks ds')
Gc λi d h=>?_
Ge λH i s hi=>?_
Gf x2.hh _ _ r2
Gg w.params.followText "set-order" = true
Gh some ds
Gi some (W.sh bw)
Gj some (.sh (Yx e))
Gk some (.od ks' es)
Gm s1.heap.objs.size+4
Gn q59 I.hok eb
Go q1G rfl
Gp q02.mpr O6
Gq pv i hN hv hd hcd
Gr ks.zip vs.toArray
Gs (ks,ds)
Gu ks++[k]
Gv keyOk m
Gw k<as.length
Gx its.toArray.size+its2.toArray.size
Gy items.size<=sizeLine
Gz intKind_is _ _ _ _
GA d.params.defaults=[]
GB crx n x
GC b::bs
GD ["c", "size", "home", "last", "boxes"]
GE Xx bA
GF Xt P.length i (t+1)
GG XX Yv
GH XE.toD (Yt eJ eW)
GJ XE.toD (Yt (XE.toV (Yt gu BI)) af)
GK X.env.scope.names.lookup x=some .local
GL X.A.units+1<ue
GM Wh Y1
GN WA X pins H kS
GO Str->Option uX
GP Room (k+2) X.A
GQ Own K G0 F G ω σ H
GR Option Nat->ux->Prop
GT Option Bool
GU OpV X.K r o
GV Obj.putSet es' t'
GW List V->Hp->VK->Prop
GX List (Key×vB)
GY HOk X.prog X.w H' h'
GZ H p=some dJ
G7 Gl X "list"
G8 GS ts es gs hs
G9 ForInStep.yield r"#
|'H'=>r#"Hb .ref sl
Hc (.nx,ω.set i (some (.ow (ds++es))))
Hd .lst us
He .lst (ls.map zAv)
Hf .int (kn kf ds 0) t2
Hg .Name x q
Hh (XF ns).map V.int
Hi (XB ks).map D.int
Hj λ_=>rfl
Hl zAM .tup aE
Hm uS hz rfl (x:=.bool false) rfl ?_
Ho tOp r ta tb
Hq tD e rfl ?_
Hr kvsOf ks vs
Hs fC (.int 7)
Ht .str x
Hu .sh cZ
Hv ⟨o,e⟩
Hw ⟨_,rfl,∅,∅⟩
Hz ⟨[],H,I,.nil,h⟩
HA λy hy=>?_
HB λx y H Q=>r x y H Q\/r' x y H Q
HC λb ob q=>zJ _ q
HD λG0 H0 G ω σ H d ω' Q ow e k=>?_
HE zS ne
HF xI.mpr jP
HG uo a1 b1 hx λh₂ c1 sb2=>vJ ?_
HH some (.ow ((plc h l pre).map D.int))
HJ some (.od F (WK F))
HK putK kvs p.1 p.2
HL h h' tk d _ ys hk (zU hS') y1 y2
HM ds.length=xs.length
HN [s1.heap.objs.size]
HP [rJ,none,none,none]
HQ ["arcs", "numbers", "number", "arc"]
HR Yz o f g
HS Yq de Y1
HV Yp lF Yv
HX Yp dN (Yp eN (Yp eN (Yp kg Yv)))
HY Xg f a b
HZ (Sum.inl:Int->Key)"#
|'I'=>r#"Ib Option vF
Ic .sh .non
Id .int (-1)
Ie .frz ob (.dK Ab)
Ig .Call (.Name "min" p) [e] ar pos
Ih ⟨a,vs,h1,e _ _ h2,RM⟩
Ii ⟨[ib],[]⟩
Ij zY n
Ik xs.length-1
Il x13.trans (Ext.hide x3.gh hn _)
Im vz e none pos.line X.env=pure false
Io uB o "append" X.env kr=eval o X.env
Ip t6 [tg] e pos.line X.env=pure false
Iq a2.extBut sb2.extBut D.i12.symm
Ir Yq (dOf (Xi zAP (Yq dU Y1))) Y1
Is WF _
Iu List (TE×TE)
Iv Gl X "sorted"
Iw .ref D
Ix .int x
Iy .inr rfl
Iz .fr ((cutD ns lo hi).map D.int)
IA .List [] q4
IB .Call (.Name "zip" p) pK [] pos
IC (wM T.nd).mp (j2.trans i2.symm)
ID ⟨e,?_⟩
IE λx1 x2=>x1++x2
IF λw hw=>q6k rx fx r fs w ⇑hw
IG λp=>D.int (c+Yw n h l bs p.1)
IH λi j hij hj=>?_
II λ_ _=>.inl rfl
IJ λ_ _ q=>zJ _ q
IK zBd s₁.heap H
IL (x,NameKind.free)
IM wpS_get ?_
IN vOf (Yz oDiv gz (fC (.int 6)))
IO vA U1
IP upd H2 p (.dK (kvsOf [k] [v]))
IQ u8 a (slot es.size) es.size ep
IR tz _ _ _ _
IS qcq hz ht λh' f1' hz1 sb1=>?_
IT qc (q2a Qq)
IU q63 hd h2 h4
IV q0b fa ha3
IW pm.mem_iff.mp h
IX (n,NameKind.cell)
IY k<P.length
IZ inB b (zI _ hb)"#
|'J'=>r#"Ja hr.mono hk
Jb hm b _ q λz=>z
Jc h1.trans z
Jd f AK (.int j u)
Je ds.length<=1000000
Jf dOf (Ys 7)
Jg c+Yw n h l bs x
Jh b.2.2 == -1&&goN n b.2.1 b.1 x
Ji [(dS, fh)]
Jj ["home", "last", "boxes", "thing"]
Jk Z.keep b o hb e
Jl Xt P.length i t
Jm XD.toE (XE.toD (xc c50 hr aX))
Jn Str.ofString "__length_hint__"
Jo SqL X.K H p ys\/SqT X.K H p ys
Jp .tup (k.map kV)
Jq .lst ka
Jr .lst jX
Js .int oZ
Jt .int i::vs
Ju .int (b-a)
Jv (P.drop 1++P.take 1).map D.int
Jw λb o z y=>hs'.extBut b o z y
Jx λG0 H0 G ω σ H r Q ow e kk=>?_
Jy λG0 H0 G ω σ H r Q o er kk=>?_
Jz zD hlt
JA ua (items:=its.toArray) lx ?_
JB uS hz rfl (x:=.ref TI) rfl ?_
JC sub hz
JD s2.trans s5
JE qr jM
JF q0H oE z21 rfl z9 rfl z19 q0v
JG k::ks
JH fa ω
JI eqU x
JJ [rJ,none,y2.map W.sh,y3.map W.sh]
JK PySem.F.args_dict_get_3 _ _ _
JL .vw ds
JM .sh (.tup [.int p,.int q,jw])
JN (.nx,w)
JO .dK []
JP ⟨NO,H2,I2,.cons r1 r2,q2⟩
JQ ⟨G,ig,o⟩
JR λz=>?_
JS λi ds h=>vM h AZ
JT λb o hb e=>?_
JU λG0 H0 G ω σ H r Q ow e k=>?_
JV λG0 H0 G ω σ H ds Q o e k=>?_
JW zH _ he
JX zCG zAH
JY vs.length<64
JZ vC y
J0 um s.heap TI O3 O2
J1 uQ .Add
J2 uB o "pop" X.env kr=eval o X.env
J3 ts.map λ_=>[]
J4 some fK
J5 s0.trans x2.gg
J6 rF==0&&dC==1&&dB==items.size
J7 qc (qj (vE 2))
J8 (out,ω')
J9 ks.length<1000000"#
|'K'=>r#"Ka (items.size:Int)
Kb hr pos pins s1 σ H1 _ I1 q1
Kc h2 G0 H0 G ω σ H d Q o e k
Kd gT 2 fV
Ke ds.length<1000000
Kf ["number", "box"]
Kg Y2 K G es us
Kh XE.toV (XX kt)
Ki Vw K G H d v
Kj F.pin i
Kk A.units+1<ue
Kl .type "list_reverseiterator"
Km .ref fa
Kn (.nx,ω')
Ko .builtin "min"
Kp ⟨⟨o,e,ex.1⟩,λa e2=>?_⟩
Kq ⟨G2,UI,q2.mono s0⟩
Kr λi s hi go' A' Q' E' q=>?_
Ks λb u z=>?_
Kt λG0 H0 G ω σ H b Q o e k=>?_
Ku ys.size-1
Kv xL _
Kw upd H p (.lst (xs.set j v))
Ky uB o name X.env kr=eval o X.env
Kz sub x c e
KA qd hm
KB q04 e
KC (e.1,e.2.1)
KD b2.extBut sb2.extBut D.l2i1
KF b.2.2==1&&goN n b.1 b.2.1 x
KG a++b
KH [some (.ref A0),none,none,none]
KI Xf i
KJ Xc as j=v
KK XD.toE Yr
KL XD X e f
KM Option R
KN List eI
KO List cq
KP InR n P
KQ .od ks ds
KR .lst accv
KS .Compare a [.NotEq] [b] pos
KU (zh _ _ nia.symm).trans qi3
KW (a₀.toList.take x).drop b
KY ⟨bK,r1,p,_,rfl,g,_,rfl,?_⟩
KZ ⟨[nH, a],[]⟩
K0 λu s2 he=>?_
K1 λm hm=>?_
K2 wpS_lift (uW ⟨rfl,?_⟩)
K3 vG y
K4 upd H5 D (.lst (acc++[v]))
K5 upd (zAo H1 ts xs ys) S kh
K6 some (.ow Lf)
K7 some (.od (kkP pre) (vvP pre))
K8 row.map D.int
K9 qr (XE.toD (xc c42 hr aX))"#
|'L'=>r#"La qd (na q)
Lb (ls.length:Int)
Lc kn kf ds (j+1)<kn kf ds DR
Ld k _ G1 H1 x1 rfl
Le h0.objs.size<=s.heap.objs.size
Lf ds.eraseIdx n
Lg (bs.length:Int)
Lh (as.length:Int)
Li [bI,cu,cQ,av,mU]
Lj ["edge", "lack"]
Lk Yz oDiv dU gZ
Ll XD X k fk
Lm XD X e fd
Ln (Sum.inr a:Key)
Lo SqL.of iW
Lp SqL K H p ys\/SqT K H p ys
Lq PT X a tA
Lr PE X o td
Ls Option dD
Lu Moved.eq_with hm
Lv List D->Option R
Lw I.freeC x c e
Lx Gl X "enumerate"
Ly Env0 P w K mg base A outer s H
Lz 0<=l/\l<n
LA 0<=h/\h<n
LB .lst gR
LC .lst (xs++zs)
LD .int (zAG ns)
LE ⟨t,rfl⟩
LF ⟨px,⟨_,EL,rfl,n,rfl⟩⟩
LG ⟨d,rfl⟩
LH ⟨H,I,q⟩
LI λj k es fs m hj hk sj sk=>?_
LJ zS ne'
LK vG hb
LL ts.map λ_=>([]:List Int)
LM rE e
LN lE e
LO holding [v] (call fh [v])
LP e.hh _ _ h2
LQ ds.length+ds'.length<=1000000
LR dOf (fSl aE pNo (pAt cn))
LS [none,none]
LT Xj p
LU SeqAt.canLay_of_shaped h4
LV SeqAt.canLay_of_shaped h3
LW PySem.F.typeCall_list_1 _
LX KT H kvs xs
LY Int->Int->V
LZ H a=some cV
L0 .fr ((Xn f pc).2.map egD)
L1 .Constant (.bool b) j pos
L3 (xs.toList.take j).drop l
L4 ⟨z.1,ht _ _ z.2.1,z.2.2⟩
L5 ⟨v,H,I,r,h⟩
L6 ⟨dd.typeIs,λb q=>?_,hd⟩
L7 ⟨_,ho2,rfl⟩
L8 λx hx=>?_
L9 λ_ q=>q"#
|'M'=>r#"Ma zx hlt
Mb zR.mp m
Mc zI _ m
Md xs++ys
Me wpS_ltK b1 h0 ∅ ∅ ?_
Mf vR ((atI Fn k).map R.sh)
Mg vK pK X.env=bW::vK [b] X.env
Mh uO ib
Mi ts.map V.ref
Mj some (.ow (gs.map gD++[oG]))
Mk s _ _ h3
Ml qm pB qp
Mm q4N ry
Mn q3p qA
Mo q0p I hg hm hv ?_ hn hdb
Mp putK kvs k v
Mq nmP (k+1) gs
Mr lo+hi
Mt ks.map D.int
Mu inB e he
Mw ho pins s1 σ H1 _ I1 q1
Mx hi pins s1 σ H1 _ I1 q1
My hf pins s2 σ H2 _ I2 q2
Mz he pins s1 σ H1 _ I1 q1
MA h pos pins s σ H _ I hq
MB fe ω
MC eval a X.env
MD (d,ω')
ME byS as n
MF [↥(egD x.1),↥(.int x.2)]
MG ["things", "knots", "edges"]
MH ["script", "k"]
MI (["c", "weight"]:List Str)
MJ Yz oIx aT aq
MK Yz oIx aT aW
ML Yt eJ af
MM Yq fj Y1
MO Yq aG Y1
MP Yp dN Yv
MQ Yp Nh Yv
MR Y4 (gN 8) (Y4 (gN 9) Xv)
MS Y4 (gN 2) (Y4 (gN 3) Xv)
MT Y3 (Wa m) ds
MU Y0 qH gM
MW XI X tg iter fi
MY Wi kvs k
MZ V->Hp->VK->Prop
M0 PI X tg iter wi
M3 Obj.mapSeq f
M4 FnScope N ps Co
M5 F.args_list_extend_2 _ _
M6 Array DictEntry
M7 .own a
M8 .int (WC ns)
M9 .fr ((XB p.1).map D.int)"#
|'N'=>r#"Na .For tg iter body [] pos
Nb .Compare a [.Lt] [b] pos
Nc .Compare a [.Eq] [b] pos
Nd ((m7,dH,glN n (m7,dH)):Eg)
Nf λi j ds' es l hi=>vM hi Ff
Ng zu (zm.mpr ⟨y1,y2⟩)
Nh vD 6
Ni qh (i:=8) q00.nd rfl aF
Nj pv 0
Nk h n st hB n1 n2 n3 same
Nl dOf (Xi zAP (Yq du Y1))
Nm bubble (vW st2) j (j-l)
Nn bs.map λp=>D.int (f p)
No ["numbers", "one", "other"]
Np Yp (XE.toD (q07 af)) Yv
Nq SqL.of hq
Nr A.map λm=>Yx V3
Nt .fr ((XF Dy).map D.int)
Nu .fr ((XB ns).map D.int)
Nv .Attribute o "pop" apos
Nw (bs.map two++fq).map Yx
Nx (((hi-lo).toNat:Nat):Int)
Ny ⟨rfl,l,l,rfl,c2,c4,c5⟩
Nz ⟨q,hq⟩
NA ⟨_,rfl,r1⟩
NB ⟨_,jt,rfl⟩
NC ⟨_,hz,rfl⟩
ND ⟨_,ho,rfl⟩
NE σ.set 6 dO
NF λk=>D.int (Z+v (f k))
NG λc v hc q=>k c v ?_ q
NH λ_ _ _ q=>q
NI zF _ (zF _ (q34 z eo))
NJ zF _ (zF _ (q34 hb e))
NK yw.mpr ⟨two b,zu h,?_⟩
NL y2.after x1
NM xK.mp e
NO x::xs
NP vOf (Wh lI)
NQ some (9+bz)
NR s.heap.IsListIter i2 l2 k2
NS s.heap.IsListIter i1 l1 k1
NT r.append r2
NU qy h1 qA hs
NV q9T rfl z40 (Yp jM HV)
NW q0c n ao
NX hx.rep s
NY h.objs.size<=a
NZ g1.trans g2
N0 g.map D.int
N1 fs.lookup f
N2 frs X.stack
N3 es++[(p,q)]
N4 egD e
N5 ds.map λd=>D.bl (q d)
N6 dOf (Y0 qH (Yq Bw Y1))
N7 b=p\/b∈ls
N8 [bK]
N9 ["some", "boxes", "cells"]"#
|'O'=>r#"Oa ["size"]
Ob ["box"]
Oc Y8 H H'
Od Y7 xs vs
Oe Y7 xs us
Of XT X a f
Og U.Perm (n::U')
Oh Room (k+1) X.A
Oi P.map D.int
Oj Option (vB×Nat)->vH->Prop
Om Ok ts es
Oo List Key
Op Int×List Nat
Oq Int->Int->Prop
Os Int->Int->Bool
Ot Gl X "zip"
Ou .type "zip"
Ov .lst nO
Ow .lst lU
Ox .Attribute o name apos
Oy -1-zAG dn<=c/\c<=1-WC dn
Oz (zY bs.length).map zAv
OA (a2.endLine==c2.line)=true
OB ((0+1+1+1:Nat):Int)==3
OC ⟨G2,_,_,_,_,_,S2,run⟩
OD λd hd=>q9X (b5 d hd)
OE zI _ ht
OF zH _ hq
OG zF _ zG
OH zF _ (zF _ (zH _ zG))
OI zD hj
OJ vs++dvs
OK uC eM k
OL t7 [tg] e X.env=pure none
OM some dX
ON some Ds
OO qv hk
OP q3P rfl
OQ l.map g
OR ks++[a]
OS eOf (dOf (Y0 q06 br))
OT ["home", "last", "moves"]
OU XE.toD (xc c39 hr Bz)
OV X8 ω
OW Wl m
OX WU as n
OY W7 f ks
OZ Str×vB
O0 .type "StopIteration"
O1 .tup vs
O2 .ref i2
O3 .ref i1
O4 .ref _
O5 (.nx,p.2)
O6 .inr bD
O7 .builtin "isinstance"
O8 (hs.2 b (zx pO)).trans e1
O9 ⟨m',hm,σ3,H3,I3,w3⟩"#
|'P'=>r#"Pa ⟨f,f1,?_⟩
Pb ⟨_,rfl,r⟩
Pc ⟨[dF],[]⟩
Pd ⟨G0,H0,G,ω,d,o,e,k⟩
Pe ω.set i cW
Pf ρ e.2.1
Pg λω ds e=>?_
Ph λk es hk=>?_
Pi λj es hj=>?_
Pj zY es.size
Pk z.sameBut hs (cne y c e)
Pm upd H l pF
Po uH ks.toList (ds.map kf)
Pp some (d,r)
Pq some (.ow (ds++[d]))
Pr share i ω
Ps q0b fa ha0
Pt q02.mpr bD
Pu ow.keep x1
Pv l.most=some n
Pw (its.toArray.size:Int)
Px hm _ (zd ∅)
Py hf _ k rfl rfl k0 k1
Pz hc pins s σ H _ I h
PB (h,l,1)
PD h pins s σ H _ I hw
PF ft ω
PH fk ω
PJ fC cR
PL entry n ds
PM emE a
PN call fh us
PP bs.length<=30
PQ ([]:List vF)
PR ([]:List Am)
PU ["start", "goal", "way"]
PV ["home", "last", "arcs"]
PX Xx (dOf (Y0 q16 br))
PY Xl st
PZ XE.toD (XL eJ Xk Ec)
P0 SetTable.below t.place j
P2 J.stop i H'/\Q Iw H'
P3 I1.kept (t':=s1.toks) hk
P4 .ref s3.heap.objs.size
P5 .While c body [] pos
P6 .BoolOp .And [a] pos
P7 .BinOp a .Mult b pos
P8 .Assign [dX] bJ spos
P9 ((sIx n n hi:Nat):Int)"#
|'Q'=>r#"Qa ((m.1.getD 0:Nat):Int)
Qb ⟨.int o7,H,jR,cf,q⟩
Qc ↥(.lst (B.map D.int))
Qd yx _
Qe ya _
Qf x-rW
Qg vOf (Yz oDiv bY mD)
Qh vJ (wpAny_throw ?_)
Qi tupleItemsOf_ ht ?_
Qj storeName X.env x u
Qk s0.heap.objs.size+4
Ql s0.heap.objs.size+3
Qm s0.heap.objs.size+2
Qn s0.heap.objs.size+1
Qo qW (qF (XE.toV E4))
Qp q9j h2 qan qaq q9L ht
Qq pv 4
Qr pv 1
Qs intBits_le_64 h1 h2
Qt gN 4
Qu es.size=n
Qv a==b
Qw a' e
Qx [v,ov,iv]
Qy Yq (dOf (W0 aq)) Y1
Qz Y2.ints _
QA Xr w
QB XD X a fa
QC PA X iV t
QD Own X.K G0 H0 G ω σ H
QE List Bool
QF List (V×V)->Hp->Prop
QG 0<Yw n h l bs e.1+c
QH .int (kn kf ds DR) tb
QI .Dict [Do] [e] dpos
QJ .Call pS [eZ] [] q1
QK .Call pS [e8] [] q1
QL .Call Bs [e] ar pos
QM .Call B1 [a] [] pos
QN .BoolOp .Or [a] pos
QO (ls++[q]).map V.ref
QP (ls++[l]).map V.ref
QQ (S2.keep x1).setH _
QR ((0+1+1+1+1:Nat):Int)
QS ⟨q31 t _,rfl,xU _⟩
QT ⟨[u],[]⟩
QU ⟨[a],[]⟩
QV ⟨.bl _,H,I,rfl,?_⟩
QW λp=>egD (egN n p)
QX λi=>bs.getD i false
QY λi ds h=>?_
QZ zg ⇑y
Q0 zc ⇑y
Q2 zR.mp k
Q3 zH _ m
Q4 xss++[[]]
Q5 x++[b]
Q6 vvP kc
Q7 vY->vf->Prop
Q8 vOf fB
Q9 vC hb"#
|'R'=>r#"Ra v6 go gd T.fits fP
Rb v6 go gd T.fits ?_
Rc upd H x o
Rf upTo i (j-i).toNat
Rh u8 a (slot i) i ep
Ri ts.length-F.length
Rj trT K zB4
Rk tX->vH->Prop
Rl s.heap.get? tp=some ot
Rm qc q95
Rn q5O (xc c37 hr aX)
Ro q5O (xc c23 hr ny)
Rp q4z hr.units Nj lF
Rq q2y n0
Rr q0a l7 af
Rs ns.length<64
Rt (none,m)
Ru model P w
Rv kv.1=k
Rw ks.map kV
Rx kkP kc
Ry k _ G1 H1 x1 (qaj _ _)
Rz h5.mono e.gg
RA fitsIndex_both h1 h2
RB es.zip ls
RC es.length<64
RD ds.length-1
RE dOf (Yz oIx bR cn)
RF bO->vf->Prop
RG a₀.toList.take x
RH a₀.toList.take n
RI as++De
RJ [none,↥bI]
RK [none,none,none,↥bI]
RM Y2.mono e h3
RN XU (Ys 2)
RO XE.toV jh
RQ XE.toV (q0a gu af)
RS XD.toV X4
RT XD.toE (XE.toD Dv)
RU SqL.of Aa
RV Rch T x y
RW PIE X pins σ tg R
RX List ur
RY List kN
RZ List jd
R1 Key×V
R3 Itz K a b
R4 ForInStep.yield ok
R5 B++[k]
R6 A.map two
R7 A.map mvR
R8 .ref s1.heap.objs.size
R9 .ok .next"#
|'S'=>r#"Sb .int 0
Sd .inl h
Se .ext (setP w S ns)
Sf .dK (putK kvs k z)
Sg .Constant kE j pos
Sh .Constant Ht j pos
Si .Call B1 pK [] pos
Sj .BoolOp op [a] pos
Sk .Assign [tg] e pos
Sl .Assign [iw] e pos
Sm (uN es X.env).length=n
Sn (p.filter _).length_eq
So (egs n ao).map egD
Sq (byS as n).1++[og]
Sr ⟨u,r1,r2.mono s1⟩
Ss ⟨rfl,rfl,rfl,rfl⟩
Su ⟨_,rfl,oW,rfl,Hj⟩
Sv ⟨_,es',ep',hL,r'⟩
Sw ⟨G5,ω3,o5,JD,f2⟩
Sz ⟨G4,ω3,o4,gg,e1⟩
SA λv _=>v=.bl true
SB λj y v' e1 e2 e3=>?_
SC λhab=>vM ⋯ hab
SD α->β
SE x2.gg.trans x2.gh
SF wpAny_load hS' ?_
SG upd H l (.lst oa)
SH some (.od Gd (WK Gd))
SJ s1.heap.objs.size+3
SK s1.heap.objs.size+2
SL q0n hN hi hx h1 hs hf
SM ns.map PyData.int
SN k _ _ (Ne.symm s1) e2
SO k _ G H dv (hg _ i j)
SQ fin h' ys sb S' p
SR entry N.length ds
ST e _ _ h
SU Yw n h l ms e.1+c
SW Yw n h l bs x.1+c
SX Yw n h l bs e.1+0
SY Y0 q0k (Yq au Ea)
SZ XE.toV (qU Ft af)
S4 XE.toV (Yt pC af)
S5 XE.toV (Yt gu af)
S6 XE.toD (Yt oE af)
S7 WD Z W (loT B+oZ)
S8 SqL.of (x1.gh _ _ f1)
S9 Dr n p0 bs ms here ls"#
|'T'=>r#"Ta D->Int
Tc 0<=k
Td .tup [iU, cY,gG,jw]
Te .tup (p.1.map kV)
Tf .Subscript o2 o3 q5
Tg .Subscript o i pos'
Th .BinOp a op b pos
Ti ((k.toNat:Nat):Int)
Tj (egs n P).map egD
Tk (bs.map dy).sum+w
Tl ⟨i,j,rfl,rfl,kq⟩
Tm ⟨h1,h2⟩
Tn λx=>D.int (x+c)
To λq=>Yx (Xd q.1)
Tp λi x v e1 e2 e3=>?_
Tq λi ds' hi=>vM hi Ff
Tr λc hc=>(hf' c hc).1
Ts λb hb=>inm b BW
Tt zm.mpr ⟨he,?_⟩
Tu yL (q6e xs lo hi) hz
Tv yA ∅
Tw xu _
Tx xs.map B
Tz x.hh _ _ hl
TB wpAny_handled ?_
TC vF->Prop
TD vC (h1.symm.trans e)
TF truthy v
TH stat fr5
TJ qy (pv 6) qA rfl
TK qL.mem_iff.mp ht
TL q9a s.heap I.big
TM q4v hQ n
TN pv 7
TQ ps.length=7
TR ow.ext.hh.free hpn
TV ob.data=.dict es0 ep
TW ns.map WData.int
TX none::is
TY nmP k gs
T7 loT B+mX
T8 ks.toList.zip vs
T9 kV k"#
|'U'=>r#"Ua its.toArray.size-1
Ub hout b y
Uc getElem?_pos xs j hs
Ud gN i
Ue gN 5
Uf args_list_sort _
Ug a2.trans qE.symm
Uh (["gap"]:List Str)
Ui (["arc"]:List Str)
Uk Yq pX Y1
Ul Yq bA HS
Um Yq aG gM
Uo Yq aG (Yq bh By)
Up Yp dN gO
Uq Yp dN (Yp iO Bz)
Ur Y7 vs us
Us Xy.no no.pw
Ut Xh (WM (vOf MU))
Uu Xh (WM (vOf Hl))
Uv Xf 1
Uw X.wish E
Ux WS X.K r op
Uy Rep K H d v
Uz RelV x u
UA RelV v u
UB Nat->Int
UC L2.Inv X pins σ H s
UD IsTup s.heap t items
UE Int->Int->D
UF I1.hok.fresh hle
UG G p=none
UH G a=some fO
UI Ext.refl s1
UJ D.pys Cl
UK Array BC
UL .inl e
UM .frz o u
UN .Tuple es x1 pos
UO .IfExp c a b pos
UP .Dict [] [] dpos
UQ (zA8 bs).map mvR
UR (hs.2 b nc).trans e1
US ⟨h1,h2.step e'⟩
UT λb z=>vM z (noA b)
UU λb u e=>zJ _ e
UV λb o e=>zJ _ e
UW zd _
UX zU e1
UY zF _ (zR.mpr rfl)
UZ zAn (Y0 q0l nv)
U0 zAn (Y0 q0J br)
U1 vX ?_
U2 vJ h
U3 vC h1
U4 uj ?_
U5 uW ?_
U6 uO iR
U7 setItem ov iv v
U8 s.heap.objs.size<=a
U9 s.heap.IsList l2 ys"#
|'V'=>r#"Va s.heap.IsList l1 xs
Vb q::qs
Vc q4o hN i3 l3 f3
Vd putSet_of es' t' gd
Ve op==CmpOp.NotIn
Vf mirror eV _ _ _
Vg kvs.length<sizeLine
Vh ks.length=vs.length
Vi fr H3
Vj fC iU
Vk I1.laid (t':=s1.toks) UU cL ?_
Vl fC cZ
Vm f v u
Vn dOf (Y0 q03 By)
Vo call jU (v::us)
Vp assign dX X.env
Vq as.getD n (0,0)
Vr ["thing", "beside"]
Vs Xx bh
Vt WG ts
Vu WE x&&ys.all WE
Vv I.ok.noex b o e
Vx Ext.hide s hp _
Vy .ok f
Vz (.nx,ω.set i rf)
VA .lst xs.reverse
VB .bl (decide Dm)
VC .Tuple es k pos
VD .Tuple Cm kx tp
VE (r.drop pi).take fF
VF ⟨v,u,h1,h2,h4⟩
VG ⟨row,U',?_,r2⟩
VH ⟨ob,h1,h2.2.1⟩
VI ρ e.1
VJ λq=>z2 q.symm
VL λq=>z1 q.symm
VM λl hl=>?_
VN λi v=>v=val i
VO λe=>D.int e.1
VP λe he=>t e JW
VQ λ_ _ _=>False
VR λ_ _ _ _ n=>n
VS zB2 n d
VT zAT CX X E
VU x1.gg.trans g2
VW x1.gg.trans JD
VX x-(0+1)
VY wj K cdv qual=true
VZ w=1\/w=-1
V0 w8 fh (.ref y)
V1 upTo 0 j.toNat
V2 typeIs_str s z t
V3 two m.2
V4 ts.map Value.ref
V5 trk h H
V6 tCB r t
V7 some ws
V8 some j9
V9 some Gs"#
|'a'=>r#"aa List Int
ac ⟨rfl,rfl,rfl,⋯,rfl,⋯,⋯⟩
af XD.toV Yr
ag Int×Int×Int
ah List fW
ai model X.prog X.w
aj Inv X pins σ H s
am model prog w
ao St h l bs
aq fC a9
ar [⟨some dS,.Name x p2,p3⟩]
au dOf (Ys 0)
av .lst A4
ay List Am
az vK iV X.env=bV::vK es X.env
aA ["size", "home", "last", "boxes"]
aC (x==("__debug__" : Str))=false
aE vOf (Ys 0)
aF Or.inl rfl
aG dOf a8
aH .ref s.heap.objs.size
aK RfS K G0 H0 G s as p t b ks ls xss T B h y σ H
aN λe=>Yw n h l bs e.1+c
aO List D
aS vB->vH->Prop
aT vOf a8
aV WB X N scope C s H fp
aW fC Sb
aX Yp cO Uq
a8 Ys 1
a9 .int 1
aaa some (.sh p.1)
aab some (.rt r,w)
aac shp d=true
aad s2.trans o2.gh
aae ret Value.none
aaf repA ks vs k v
aag q0R (vD 7) q67
aah plD d=true
aai (p.1:Int)
aaj ot.data=.seq ps nt
aak o.ext.hh.free e2
aal (none,a₀.size)
aam hnext _ _ _ ?_
aan args_sorted1 _
aao [none,↥bI,↥LT]
aap ["script", "some"]
aaq ["script", "size"]
aar ["key", "default"]
aas Wf ks xss a' b
aat WI N.length ws
aau T.lst j l xs e2 e5
aav Loc X.env.scope x3
aaw Loc X.env.scope x2
aax FnScope N ps scope
aay Ext.refl ow.gh
aaz Binds X.K fd ps ds
aaA Array vB->Array vB
aaB Array eI->vH->Prop
aaC AP X pins σ Q
aaD .int o7 s.toks
aaE .int ns.length
aaF .int ((b-a)*w)
aaG .cons ry' .nil
aaH .builtin "sum"
aaI .builtin "max"
aaJ .builtin "len"
aaK .builtin "all"
aaL .builtin "abs"
aaM (ds++[d]).length-1
aaN ⟨z,H,I,rw',q⟩
aaO ⟨rfl,rfl,rfl⟩
aaP ⟨f3,f1,f4,f5⟩
aaQ λz=>vM rfl z
aaR λj ks' es hj=>?_
aaS zAl is m g ω
aaT vK [e1] X.env
aaU uI hTI rfl ?_
aaV ow.gh.free hp
aaW o.ext.gg.trans s1
aaX no.od i ks ds
aaY m-(0+1)
aaZ i<P.length
aa0 hn x a2
aa1 hn g hg
aa2 hn a ha
aa3 h5 ω r q2
aa4 gos++bs
aa5 eval jg X.env
aa6 egs n P
aa7 c1 d hd
aa8 c1 c hc
aa9 [cu,cQ,kL]
aba [assign tg X.env]
abb ["size", "boxes"]
abc Yy q.1*XJ q.2
abd Xi op g
abe Xa is=true
abf XZ 4 GM
abg XZ 4 (eOf Fl)
abh X.mg "min" = none
abi Wm (Xf 6) zAH
abj W9 H a y o
abk Value.int a t
abl Sum.inl n
abm Sum.inl k'
abn (Sum.inl h:Key)
abo Sc n Q p x
abp Room k X.A
abq Rch es a c
abr P.map F
abt Itt K a
abu Itl K a
abv ItemsOf.nil _
abw Ite K a
abx Hp->Prop
aby H a=some o
abz (0,.none)
abA .tup ys
abB .tup [kE,w1']
abC .str x t
abD .ref tp
abE .ref kS
abF .int p0
abG .int e.2
abH .int (XJ q.2)
abI .cons ru .nil
abJ .If c a b pos
abK ((0+i:Nat):Int)
abL ⟨zH _ h1,Aj⟩
abM ⟨os,hos,hcs⟩
abN ⟨o,e,ex.2.1⟩
abO ⟨[],rfl,rfl⟩
abP λk z hk=>?_
abQ λa=>f (g a)
abR λ_ _ _ e=>e
abS δ e&&a e==0
abT ys.map D.int
abU (y.length:Int)
abV xc c69 hr Fs
abW xc c68 hr Fs
abX xc c56 hr aX
abY xc c31 hr gO
abZ xc c14 hr MP
ab0 x3.gh _ _ h1
ab1 x1.gh _ _ e2
ab2 vc kws X.env
ab3 vK [b] X.env
ab4 v9 hS rfl ?_
ab5 uI qa rfl ?_
ab6 uI hS rfl fP
ab7 uI gt gtd ?_
ab8 (some p.2,p.1)
ab9 (sizeLine:Nat)
aca qc9 x1.hh r2
acb putK kvs k y
acd pre++[(k,g)]
ace ow0.ow i ds'
acf ow.gh.free hpn
acg op==CmpOp.In
ach o1.gh _ _ r1
aci no2.ow i ds'
acj lr=Sum.inl k
ack (kV kv.1,kv.2)
acl g.map λ_=>v
acm eval e X.env
acn eval b X.env
aco call jL [dF]
acp call Bp [aH]
acq [cu,cQ,av,Ov,Jq]
acr Yz oIx sZ aq
acs Yz oIx sZ aW
act Yz oIx du aW
acu Yz oIx bY mw
acv Yz oIx bY aW
acw X.A.handled=none
acx T++C1.map Xd
acy K_bubble hjs ∅
acz Itk a ob kvs
acA (0,Value.none)
acB .tup [x1,y1]
acC .tup [kE,x1]
acD .tup [AL,oi]
acE .int 5
acF .int (glN n p)
acG .ins C dx fs
acH .inr (wH lt)
acI .inl z
acJ .List es pos
acK .Expr gE pos
acL (h y).mpr zG"#
|'b'=>r#"bb .lst Fn
bc uZ (wpAny_callSpecial?_slot (name:=Str.ofString "__next__") hT F.slotSetNext (vq F.slotSetNext hT F.entSetNext ?_ (F.argsSetNext _)))
be X.fn x=true\/X.env.scope.names.lookup x=some .local
bh dOf (Ys 2)
bp XE.toD (Yt (XE.toV (Yt gu (vV 8))) af)
br Yq au Uo
bu List V
bv XE.toD ML
bw .lst cj
bz (k:Int)
bA dOf (Ys 3)
bD .inl rfl
bE XU (eOf (fC l5))
bF Yw n h l bs e.1+c
bG .Call (.Name x p) iV [] pos
bH List vB
bI .int n
bJ .ListComp elt [⟨tg,iter,ifs,0⟩] scope pos
bK .ref p
bL List D->Option O
bN List α
bO Str->Option vB
bP List ag
bQ vK [] X.env
bR vOf (Yz oIx aT (vOf (Ys 8)))
bV (false,eval e X.env)
bW (false,eval a X.env)
bY vOf (Ys 2)
bZ Own K G0 H0 G ω σ H"#
|'c'=>r#"cc Option W
cf ⟨_,rfl⟩
ci egs n ao
cj ts.map D.int
cn fC (.int 2)
cq Option Nat×ag
cu .int h
cv qc (qj (XD.toE Xw))
cw ↥(.lst Cj)
cz λG0 H0 G ω σ H out ω' E o e k=>?_
cF .Call (.Attribute o1 "setdefault" a1) [e0,IA] [] c1
cG plc h l nQ
cH ⟨rfl,rfl⟩
cI X.calm=true
cJ List Nat
cL zQ _
cM Int->Int
cO vD 0
cP FnOk X.prog X.w X.K X.mg X.base CX0 k f fd ps (spD X.K 1 m)
cQ .int l
cR .str "box"
cT EP X pins σ Q
cU .ref l
cV .dK kvs
cW some FP
cX ha pins s σ H _ I h
cY .int a
cZ .bl true
c9 ns.map V.int"#
|'d'=>r#"da ⟨_,rfl,?_⟩
db ⟨rfl,I.turned (t':=s.toks) (λb o hb e=>eb b o hb e) f0 f1 f3 f4 f5⟩
de dOf (Ys 4)
df List Eg
di qM (XW.toT (q18 (qW (qF (XE.toV rj))) (q18 (WY hr.units lC af) (q1J (WY hr.units gK RS))))) cv qz
dj .dic ts (nbD ts es)
dk WB X N scope P1.objs.size s2 H2 fp
dn (St h l bs).map mG
dq λG0 H0 G ω σ H r Q o e k=>?_
du vOf (Ys 3)
dv Ext.refl s
dw ([]:List Str)
dy stN n
dB sIx items.size items.size hi-sIx items.size 0 lo
dC (1:Int)
dD Out×WSt
dE A.handled=none
dF .ref a
dH P.getD eu 0
dI List Str
dJ .lst xs
dM o.data=.set es ep t
dN vD 1
dO some kY
dQ ⟨_,q17 (q2o PySem.F.plainAttrs_list PySem.F.slot_list_append PySem.F.type_list_append q0L ho NU hbase hfew hline hs hplain) hsw,nC⟩
dS Str.ofString "key"
dU vOf (Ys 4)
dW Tab G H0 H p ks ls xss
dX .Name x pos'
dY x1.trans x2"#
|'e'=>r#"eu nxN P.length k
eA List vF
eB λG0 H0 G ω σ H d Q o e k=>?_
eG [cu,cQ,av,.lst So,.lst ((St h l bs).map λx=>D.int BY)]
eI Int×vB
eJ vV 0
eK uZ (wpAny_callSpecial?_slot (name:=Str.ofString "__next__") hT PySem.F.slot_zip_next (vq PySem.F.slot_zip_next hT PySem.F.entry_zip_next ?_ (PySem.F.args_zip_next_1 _)))
eL λr s'=>r=.ok (.ret m8)/\OldK s₁.heap s'.heap/\s'.os=s₁.os/\tG s'.gens
eM kbt kf ds
eN XE.toD (Yt pC af)
eO List aa
eQ vi (vJ ⟨_,rfl, "set_iterator", _,NB,F.slotSetNext.lookup,?_⟩)
eS ls.map V.ref
eT b.2.2=1\/b.2.2=-1
eU List D->WSt->Option WSt
eV vW st'
eW XE.toV (q07 af)
eX XV X a f
eY Option D
eZ .Call (.Name "zip" p2) pK [] q2
e8 .Call (.Name "range" p2) [a] [] q2"#
|'f'=>r#"ff apos.endLine==cpos.line
fh .ref f
fj vOf (Ys 5)
fm vG z
fq [(h,l)]
fu ["home", "last", "boxes"]
fw Array vB
fz some (.pw es)
fA ps.map D.int
fB Yz oIx aE aq
fD v4 "list" vs.toArray 0
fE Option Int
fF HT.sIx xs.length xs.length hi-HT.sIx xs.length 0 lo
fG vC z
fH t.fits es.size=true
fI oEq false
fJ List R1
fK .lst ds
fL Ne.symm hb
fM some bK
fN λ_=>?_
fO .lst vs
fP vJ ?_
fQ ha pos pins s σ H _ I h
fT Yq au MO
fU Yp cO MP
fV Y4 jN (Y4 (gN 1) Xv)
fW Int×Int
fX ⟨Ext.refl sg,rfl,Gc,λi ds h=>vM h (no0.ow i ds),λi j ds es l h=>vM h (no0.ow i ds),λi ks ds h=>vM h (no0.od i ks ds),Xy.no no0.pw⟩
fY vK [e] X.env
fZ k==NameKind.free&&env.scope.kind == .function&&env.kindOf n==some .cell"#
|'g'=>r#"gc ["size", "home", "last", "boxes", "c"]
ge Inv X BM σ H s
gj s.heap.get? a=some o
gk ⟨_,e,rfl⟩
gm [bI,cu,cQ,av]
gu vV 1
gz vOf (Ys 6)
gB I.ok.hd hc
gC .ref S
gE .Call (.Attribute o "append" apos) [e] [] cpos
gF v8 PySem.F.plain_extend_loop _
gG .int b
gH ⟨ok.mod,ok.kind,ok.glob,ok.blt,ok.above,ok.inj,ok.has,ok.cab,ok.hd,ok.frames,ok.stk,ok.exf,ok.bs,ok.bsz,ok.noex,ok.exfs,ok.funs,ok.frf⟩
gK XE.toV ML
gL .fresh 0 0 QA
gM Yq au Y1
gO Yp cO Yv
gQ List iG
gR (bs.map two).map Xj
gU w.params.setOrder a ep
gW o.keep x1
gX zH _ hx
gY vK es X.env
gZ fC (.int 3)
g7 ["start", "arcs", "waiting", "trail", "backwards", "here", "number"]
g8 Cal X.prog X.w X.K X.mg X.base k f fd x ps 1 m
g9 some (.ow es)"#
|'h'=>r#"h9 X.A.units+64<ue"#
|'i'=>r#"ib .ref it
ie [Gi,cw,none,none,none]
ig Y8.refl _
ii (x==("__classdict__" : Str))=false
im (false,eval b X.env)
io dOf Fq
ip ["thing", "boxes"]
iq zBN 3 (zAQ (Yq PJ (Yq A3 (Yq Fm (Yq Fl (Yq RE Y1))))))
ir XE.toV (qx qu q0g rfl z15 q0i (qm gu qp))
iu .int m.2.2.1
iw .Subscript o k pos'
iy ["home", "last", "boxes", "edges", "lacks"]
iz XV X b g
iB upd H s.heap.objs.size (.tup [kE,x])
iC λx=>x.1.isSome
iD vc ar X.env
iE λG0 H0 G ω σ H ds R o e k=>?_
iF xR x qual (X6 st) PY Co .none kV doc pm an cdv ct
iG Option Nat
iH bs.length<=20
iI Loc X.env.scope x
iJ revObj l (Ka-1)
iK qb3 (kpos:=p3) (nm:=some dS) (qbr (v:=.ref f) hx c.2.1 rfl hd) qdL pos pins s1 σ H1 (λzs H2=>zs=[fh]/\H2=H1) I1 cH
iL Option vB->vH->Prop
iM List (κ×V)
iO vD 2
iP λG2 H i x H' d s0 s1 hd hy=>?_
iQ ((HT.sIx items.size 0 lo:Nat):Int)==0&&dC==1&&(HT.sIx items.size items.size hi-HT.sIx items.size 0 lo)==items.size
iR .ref z
iU .str "go"
iV e::es
iW s _ _ h1
iX loT B+bz
iY Y3 Yy ci
iZ .tup [cR, oT,AL,oi]
i9 λi=>ns.getD i 0"#
|'j'=>r#"jb V->Option Int->Option Int->Hp->VK->Prop
jc List vP
jd List Key×vF×vB
je Binds X.K fd ps []
jf .ref s2.heap.objs.size
jg .Name x pos
jh qx qu q0g rfl z15 q0i (qm pC qp)
ji dOf (Ys 5)
jj .frz ob cV
jm zY as.length
jn ns.map D.int
jo (m:Int)
jp PE X o KI
jq λj k fs gs m hj hk sj sk=>?_
jr zAx CX P w K mg base N qual scope f cdv A outer s H E
jt zX _ rfl
ju upd H s.heap.objs.size Ba
jv Xg f (f e.1) (f e.2.1)
jw .int w
jx ⟨AT,AT,I.base.free,λb o e hx=>?_,I.base.tups,I.base.frzs,I.base.tbls⟩
jy emE λe=>Yw n h l bs e.1+c
jz HOk P w H h
jA (.nx,ω.set i (some (.od (WN ks k) (putA ks ds k d))))
jB .pw ds
jC .lst []
jD vK [a] X.env=bW::vK [] X.env
jE oEq true
jF b∈X.ex\/X.s₀.heap.objs.size<=b
jG List W->Option nG
jH BlkOk X N M frees scope
jI (bs++emS aN ci K).map two++De
jJ (DY:List Str)
jK .dK Hr
jL .builtin "sorted"
jM vD 3
jN gN 0
jO λcdv A outer s H vs Q E hr h=>?_
jP λ_ _=>rfl
jQ ho pins s σ H _ I h
jR I.tok _
jS ⟨_,qy h1 h3 hs,JV⟩
jT vC rfl
jU .builtin id
jV .ListComp elt [⟨target,iter,ifs,0⟩] scope pos
jW uz z TI TO i1 i2 l1 l2
jX gs.map gD
jY bs.map two++fq
jZ RgO n h l bs
j0 Bool->Hp->Prop
j5 qw 0
j8 .int m.2.1
j9 some KQ"#
|'k'=>r#"ka ls.map D.int
kc nmP 0 gs
kd ["moves", "here", "there", "side"]
kg XE.toD (q72 q1e q4p rfl z19 q0v (qm oE qp))
kh .lst Mi
ki .Tuple elts kx tpos
kj λb o hb q=>(zh _ _ fL).trans q
kq k _ G H dv rfl
kr eval o X.env
kt Yp Yr Np
ku List k8
kw .ref t
ky (n:Int)
kA SetTable.grown es1.size
kC .Compare a [op] [b] pos
kD Yq aG (Yq Fk (Yq Fj (Yq Nl Y1)))
kE .int i
kG Ext.refl o.gh
kH (.nx,p.2.set i aaa)
kI .int (as.getD k.toNat (0,0)).2
kJ .int (as.getD k.toNat (0,0)).1
kK (x,y,u+v)
kL .lst (bs.map Xj)
kM Yp cO (Yp dN (Yp iO (Yp jM HV)))
kN Nat×List Int
kO x ≠ "__name__" 
kP vc [] X.env
kQ tM ai X.A X.env X.xe
kR kvs.any λkv=>decide Rv
kT Xy K H0 G ω σ H
kU XE.toD (xc c14 hr (Yp bv Yv))
kW Option cc
kX Option aO
kY .int k
kZ .BoolOp .And (a::b::rest) pos
k5 λv s₁=>vL ai X.A acn (λu s₂=>vL ai X.A Vm Q X.xe s₂) X.xe s₁
k6 .lst (cells.map D.int)
k7 α->Int
k8 List Key×V
k9 vo DE (λv s1 h1=>vo h1 (λitv s2 h2=>?_) λ_ _ q=>q) λ_ _ q=>q"#
|'l'=>r#"lc (Oa:List Str)
lf Around.under_plainId PySem.F.plain_min_loop _
lg .BoolOp .Or (a::b::rest) pos
lh ⟨cU,r1,.inl pZ,h2 G0 H0 G ω σ H d _ ow q λv G1 H1 x1 y1=>?_⟩
lm (∅:0<P.length)
lr (Sum.inl k':Key)
lu List V->Hp->Prop
lw I.hok.fresh cL
lx ⟨_,e,rfl,n,rfl⟩
lA some cU
lB [.int p.1,.int p.2]
lC XE.toV (qx qu q0g rfl z15 q0i (qm eJ qp))
lD X.mg "range" = none
lF vD 4
lG q5q (qZ j5 (qZ (qw 1) q2E))
lH [↥Jr,K7,↥oT,↥(.lst N0),x4]
lI Yq aq Qy
lJ List (Str×vF)
lK D->D->Option R
lL spliced ((false,eval _ X.env)::vU q1 bQ)
lM he pins s σ H _ I h
lN ds.zip xs
lO binT ha hb I h λv u s2 x y H2 I2 rx ry q=>ho pins s2 σ H2 x y v u Q I2 rx ry q
lP Yq au (Yq aG (Yq bh Ul))
lR λb hb=>?_
lT upd H p JO
lU ms.map mvR
lV .int m.2.2.2
lW (x,p,u)
lX vW st
lY fd ω
lZ ["size", "home", "last", "boxes", "thing"]
l5 .bl false
l6 .BoolOp .And (b::rest) pos
l7 vV 4
l8 k<xs.toList.length
l9 k _ _ bD e"#
|'m'=>r#"ma ex++St h l bs
mf (Sum.inl k:Key)
mq vq PyProof.Rows.slot_tuple_getitem ht.typeIs entry_tuple_getitem ?_ (sB _ _)
mw vOf (W0 aq)
mB vK [e] X.env=bV::vK [] X.env
mC row.drop (j+1)++row.take j
mD fC (.int 4)
mF [Gi,cw,none,none,x4.map W.sh]
mG Yw n h l bs
mH X5 ks xss h
mI ω.set i ↥d
mJ bs.map two++fq++lkT es ls
mK ["size", "gap"]
mL (Lj:List Str)
mM .scr ns
mN .BoolOp .Or (b::rest) pos
mO λa b=>f a<=f b
mP vz e OM pos.line X.env=pure false
mQ some (.ow [])
mR WA X pins H a
mS Array eI
mT (.rt Ds,ω)
mU .int c
mV (zY n).filter λj=>decide KJ
mW v8 PySem.F.plain_min_loop _
mX (i:Int)
mY (f,acc)
mZ ["thing"]
m6 PE X a ta
m7 P.getD k 0
m8 .bool true
m9 λG0 H0 G ω σ H out ω' E ow e kk=>?_"#
|'n'=>r#"nc zx (yE DP (I.ok.cab x c hfn hc))
ng s.heap.objs.size+1
nh p.2==NameKind.free
nj k0==NameKind.free&&env.scope.kind == .function&&env.kindOf n==some .cell
nu ["size", "thing"]
nv Yq au (Yq aG Bx)
ny Yp cO (Yp dN Eb)
nA .lst ((zAW i (j-i).toNat).map V.int)
nB xs.map D.int
nC λG0 H0 G ω σ H out ω' E ow e k=>?_
nD tY qual scope s.heap.objs.size f cd
nE some v
nF X.mg "sorted" = none
nG D×WSt
nH .type "set"
nJ (.nx,ω.set i (some (.pw (ds++[d]))))
nK (.nx,ω.set i Pq)
nL .Call (.Name "reversed" p2) [a] [] q2
nM v4 "tuple" vs.toArray 0
nN pv 3
nO es.map egD
nQ bs.map two
nR [LM,LN]
nU (.rt (.sh d),ω)
nV x1.gg.trans x2.gg
nW q61 c.1 Ja hg c.2.1 c.2.2.1 c.2.2.2 .nil zBU h1 hdb he hpl
nX (p,y,v)
nY ["edge"]
nZ XE.toD (Yt gu af)
n8 0<=b.2.1/\b.2.1<n"#
|'o'=>r#"oa (XB ns).map V.int
oe λj e hj=>?_
og Xc as n
oi .int b.2.1
oj vOf (Xi Ws (Yq aT Y1))
om vOf (Xi Ws (Yq aE Y1))
oo m.2.2=1\/m.2.2=-1
oq (PU:List Str)
ou Eg->Int
ox A.deeper (PyProof.Rows.envOfC qual Co s.heap.objs.size f cdv)
oy (.nx,ω.set i (some (.od [k] [d])))
oz .int (kn kf ds (j+1)) t2
oB .dic ks OY
oC .Call (.Attribute (.Subscript o4b e1b q8) "append" a2) [e0b] [] c2
oD ⟨(hb C s H fp).1.can,(hb C s H fp).2.1.can,(hb C s H fp).2.2.can⟩
oE vV 3
oG .lst oV
oH ⟨"tuple", _,PyProof.Rows.slot_tuple_getitem.lookup,ht.typeIs,?_⟩
oJ qbQ (qF (XE.toV (xc c44 hr (Yp dN (Yp bv (Yp bv Eb))))))
oK q3C λ_ _ _=>rfl
oM (Ob:List Str)
oN Y9 X.prog X.w
oO Y4 jN (Y4 (gN 1) (Y4 (gN 2) Xv))
oP (Sum.inl n:Key)
oQ (Sum.inl a:Key)
oR HT.sIx xs.length 0 lo=0/\HT.sIx xs.length xs.length hi=xs.length
oT .int bz
oU (zAW lo (hi-lo).toNat).map V.int
oV (XB F).map D.int
oW ⟨_,_,rfl⟩
oX λl hl=>k _ G _ (Ext.hide s hl _) ⟨l,us,rfl,hl,s.free hl,qg,h2⟩
oY x1.hh _ _ r2
oZ (j:Int)
o7 g i j
o8 Yp Yr Yv"#
|'p'=>r#"pc Y3 Yy es
ph List (κ×vB)
pi HT.sIx xs.length 0 lo
pj Gl X x
pk D.pys ds
pr .Call (.Attribute (.Subscript o4 e0 q7) "append" a1) [e1] [] c1
px ⟨_,jt,rfl,rfl⟩
pz ⟨_,_,_,rfl⟩
pA λb o hb e=>(sb.2 b hb).trans e
pB vV 5
pC vV 2
pD X.mg "list" = none
pE .tup xs
pF .lst ys
pG .int s
pH ⟨λ_=>∅,λ_=>∅⟩
pI vU pos fY=bV::vU pos bQ
pJ [some 3,none,none,none]
pK [a,b]
pM V->List V->Hp->VK->Prop
pN λi ks ds h=>vM h aaX
pO yE DP I.ok.above
pP WSt->Prop
pQ PE X e te
pR I1.hok.fresh cL
pS .Name "list" p1
pT .Call (.Name "set" p2) [a] [] q2
pU ((sIx n 0 lo:Nat):Int)
pV λ_ _=>False
pW some d
pX dOf (Ys 6)
pY Y9 P w
pZ ⟨rfl,vs,SqL.of r2⟩
p8 zAI s.heap a QA xs"#
|'r'=>r#"rf some (.od [] [])
rh q2t nN (Xu (Yp X4 (Yp (vD 8) (Yp bp (Yp bp (Yp bp Yv))))))
rj q0H eJ z17 rfl z9 rfl z16 q3j
rm [FR,.int e.2.1,.int e.2.2]
rn ["size", "start", "goal", "way"]
rq ["size", "start", "goal", "gap"]
rA ["size", "moves"]
rB Wb scope.names X.env.cells []
rC Vis X.env.scope x
rD .call Km Pc
rF ((sIx items.size 0 lo:Nat):Int)
rG vJ ⟨_,rfl,U2⟩
rH vB->vB->Sem vB
rJ some (W.sh bb)
rK Y2 K G ds vs
rL Unit->vH->Prop
rM RelV y u
rN List Env
rO List (Str×uX)
rP Bool->vH->Prop
rQ .UnaryOp .Not a pos
rS λ_=>D.bl true
rT xR x x (X6 st) PY Co .none kV doc pm an cdv ct
rV s.heap.IsSliceOf sl vl vu .none
rW neq+1
rX ms.map two++fq
rZ PySem.F.args_tuple_add_2 _ _
r8 CalW X.prog X.w X.K X.mg X.base k f fd x ps (e::es).length m
r9 ⟨this.1,this.2.1⟩"#
|'s'=>r#"sd ⟨_,e0,rfl,n0,rfl⟩
sf ↥(.lst (E.map egD))
si λb hb=>⟨sub _ (O.bin b hb).1,sub _ (O.bin b hb).2⟩
sn some cW
sr [z,TI,TO,i1,i2,l1,l2]
ss Option V
sw Around.under_plainId PyProof.Rows.F.plain_set_update_loop _
sY ⟨o.ext.gg,Y6 o.ext.gh h2 _,Y6 o.ext.hh h3 _,o.ext.new⟩
sZ vOf (Yz oIx aT gz)"#
|_=>""
local macro_rules|`($x:ident)=>do
 let s:=x.getId.toString
 if s.length>3 then Lean.Macro.throwUnsupported
 match ((tB s.front).splitOn "\n").find? (·.startsWith (s++" ")) with
 |some l=>return (<-pT 999 0 (l.toList.drop (s.length+1))).1
 |none=>Lean.Macro.throwUnsupported
set_option linter.all false
set_option maxRecDepth 100000
namespace L2
open PySem PySem.Spec PyProof.Rows
noncomputable abbrev Key:=Sum Int Str
noncomputable def zAh:Key->vB->Bool
 | .inl k,v=>Value.isInt k v
 | .inr x,v=>Value.isStrOf x v
noncomputable def keyH(w:vY):Key->Int
 | .inl k=>sO k
 | .inr x=>hashStr w x
theorem qV:∀{k:Key}{v:vB},zAh k v=true->(∃i t,k=Sum.inl i/\v=Value.int i t)\/(∃x t,k=Sum.inr x/\v=Value.str x t)
 | .inl i,v,h=>by
  obtain⟨t,e⟩:=Value.isInt_shape (k:=i) (v:=v) h;exact .inl ⟨i,t,rfl,e⟩
 | .inr x,v,h=>by
  obtain⟨t,e⟩:=Value.isStrOf_shape (x:=x) (v:=v) h;exact .inr ⟨x,t,rfl,e⟩
theorem qeP(i:Int)(t:Tok):zAh (.inl i) AK=true:=by simp[zAh,Value.isInt]
theorem qei(x:Str)(t:Tok):zAh (.inr x) abC=true:=by simp[zAh,Value.isStrOf]
theorem qjx(a b:Int):decide (oQ=Sum.inl b)=Qv:=by
 by_cases e:a=b
 ·subst e;simp
 ·have h:¬oQ=Sum.inl b:=λq=>e (Sum.inl.inj q)
  rw[vT h];exact(beq_eq_false_iff_ne.mpr e).symm
theorem qjy(a b:Str):decide (Ln=Sum.inr b)=decide (a=b):=by
 by_cases e:a=b
 ·subst e;simp
 ·have h:¬Ln=Sum.inr b:=λq=>e (Sum.inr.inj q)
  rw[vT h,vT e]
theorem qkl(a:Int)(b:Str):decide (oQ=Sum.inr b)=false:=vT (λq=>nomatch q)
theorem qjU(a:Str)(b:Int):decide (Ln=Sum.inl b)=false:=vT (λq=>nomatch q)
noncomputable def Y9(prog:vQ)(w:vY):PySem.KeyKind prog w Key where
 is:=zAh
 hash:=keyH w
 inj:=λv a b ha hb=>by
  rcases qV ha with⟨i,t,rfl,rfl⟩|⟨x,t,rfl,rfl⟩
  ·rcases qV hb with⟨j,u,rfl,e⟩|⟨y,u,rfl,e⟩
   ·injection e with e1 _;rw[e1]
   ·exact nomatch e
  ·rcases qV hb with⟨j,u,rfl,e⟩|⟨y,u,rfl,e⟩
   ·exact nomatch e
   ·injection e with e1 _;rw[e1]
 byValue:=λk v h=>by
  rcases qV h with⟨i,t,rfl,rfl⟩|⟨x,t,rfl,rfl⟩ <;> rfl
 pyHash:=λhv h=>by
  rcases qV hv with⟨i,t,rfl,rfl⟩|⟨x,t,rfl,rfl⟩
  ·exact wpAny_pyHash_int h
  ·exact wpAny_pyHash_str h
 eqBool:=λhu hv h=>by
  rcases qV hu with⟨i,t,rfl,rfl⟩|⟨x,t,rfl,rfl⟩
  ·rcases qV hv with⟨j,u,rfl,rfl⟩|⟨y,u,rfl,rfl⟩
   ·rw[qjx]at h;exact wpAny_eqBool_int h
   ·rw[qkl]at h;exact SeqAt.EqAt.int_str i t y u _ _ _ _ h
  ·rcases qV hv with⟨j,u,rfl,rfl⟩|⟨y,u,rfl,rfl⟩
   ·rw[qjU]at h;exact SeqAt.EqAt.str_int x t j u _ _ _ _ h
   ·rw[qjy]at h;exact wpAny_eqBool_str h
 «strs»:=λk x t v h=>by
  rcases qV h with⟨i,u,rfl,e⟩|⟨y,u,rfl,e⟩
  ·exact nomatch e
  ·injection e with e1 _
   subst e1;cases v <;> rfl
theorem qb0(prog:vQ)(w:vY)(i:Int)(t:Tok):(Y9 prog w).is (.inl i) AK=true:=qeP i t
theorem qaF(prog:vQ)(w:vY)(x:Str)(t:Tok):(Y9 prog w).is (.inr x) abC=true:=qei x t
inductive V where
 | non|bl (b:Bool)|int (i:Int)|str (x:Str)|byt (b:Array UInt8)|flt (b:UInt64)|ref (a:vF)|ty (n:String)
 deriving DecidableEq
def RelV:V->vB->Prop
 | .non,u=>u=Value.none
 | .bl b,u=>u=Value.bool b
 | .int i,u=>∃t,u=Value.int i t
 | .str x,u=>∃t,u=Value.str x t
 | .byt b,u=>∃t,u=Value.bytes b t
 | .flt b,u=>∃t,u=Value.float b t
 | .ref a,u=>u=Value.ref a
 | .ty n,u=>u=Value.type n
abbrev Y7:List V->List vB->Prop:=sJ RelV
theorem Y7.length{xs:bu}{us:bH}(r:Oe):xs.length=us.length:=Paired.length r
theorem Y7.get:∀{xs:bu}{us:bH}{i:Nat}{x:V},Y7 xs us->xs[i]?=some x->∃u,us[i]?=some u/\RelV x u
 | _,_,_,_,.nil,e=>by simp at e
 | _,_,0,_,.cons r _,e=>by simp at e;subst e;exact Pb
 | _,_,i+1,x,.cons _ t,e=>by
  obtain⟨u,h1,h2⟩:=Y7.get (i:=i) (x:=x) t ⇑e;exact⟨u,by simpa using h1,h2⟩
theorem Y7.set{x:V}{u:vB}(r:Uz):∀{xs:bu}{us:bH}(i:Nat),Y7 xs us->Y7 (xs.set i x) (us.set i u)
 | _,_,_,.nil=>.nil
 | _,_,0,.cons _ t=>.cons r t
 | _,_,i+1,.cons q t=>.cons q (Y7.set r i t)
theorem Y7.append:∀{xs ys:bu}{us ws:bH},Y7 xs us->Y7 ys ws->Y7 Md (us++ws)
 | _,_,_,_,.nil,s=>s
 | _,_,_,_,.cons r t,s=>.cons r (Y7.append t s)
theorem Y7.take:∀{xs:bu}{us:bH}(n:Nat),Y7 xs us->Y7 (xs.take n) (us.take n)
 | _,_,0,_=>.nil
 | _,_,_+1,.nil=>.nil
 | _,_,n+1,.cons r t=>.cons r (Y7.take n t)
theorem Y7.drop:∀{xs:bu}{us:bH}(n:Nat),Y7 xs us->Y7 (xs.drop n) (us.drop n)
 | _,_,0,r=>r
 | _,_,_+1,.nil=>.nil
 | _,_,n+1,.cons _ t=>Y7.drop n t
def zAk:Option V->Option vB->Prop
 | some v,some u=>RelV v u
 | none,none=>True
 | _,_=>False
def KV{κ:Type}:List (κ×V)->List (κ×vB)->Prop:=sJ λ(p:κ×V) (q:κ×vB)=>p.1=q.1/\RelV p.2 q.2
noncomputable def kV:Key->V
 | .inl i=>.int i
 | .inr x=>.str x
inductive HO where
 
 | lst (xs:List V)
 
 | tup (xs:List V)
 
 | dK (kvs:List (Key×V))|dT (kvs:List (List Key×V))
 
 | set (S:Int->Bool) (n:Nat)
 
 | ins (C dx:vF) (fs:List (Str×V))
 
 | own (x:vF)
 
 | xd (fs:List (Str×V))
 
 | met (f x:vF)
 
 | rng (lo hi:Int)
 
 | frz (o:Obj) (u:HO)
 
 | tbl (ps:Array vB)
 
 | ext (φ:vf->Prop)
noncomputable abbrev Hp:=vF->Option HO
noncomputable def upd(H:Hp)(a:vF)(o:HO):Hp:=λb=>if b=a then some o else H b
theorem qg{H:Hp}{a:vF}{o:HO}:upd H a o a=some o:=by unfold upd;rw[jT]
theorem qd{H:Hp}{a b:vF}{o:HO}(h:b≠a):upd H a o b=H b:=by unfold upd;rw[vG h]
theorem qlk{H:Hp}{a b:vF}{o u:HO}(h:aby)(h':H b=some u)(d:o≠u):a≠b:=by
 intro e;subst e;rw[h]at h';exact d (zy h')
theorem q0O{H:Hp}{a b:vF}{o:HO}(h:aby)(h':H b=none):a≠b:=by
 intro e;subst e;rw[h]at h';cases h'
section
variable(P:vQ)(w:vY)
def XH(H:Hp)(h:vf)(a:vF):HO->Prop
 | .lst xs=>xs.length<=sizeLine/\∃(its:bH) (n:Nat),Y7 xs its/\h.get? a=some { cls:=.type "list", data:=.seq its.toArray n }
 | .tup xs=>xs.length<=sizeLine/\∃its:List vB,Y7 xs its/\IsTup h a its.toArray
 | .dK kvs=>kvs.length<=sizeLine/\Ck=false/\∃vs,KV kvs vs/\h.DictOf pY a vs
 | .dT kvs=>kvs.length<=sizeLine/\Ck=false/\∃xs:List jd,
   sJ (λ(p:k8) (q:jd)=>p.1=q.1/\H q.2.1=some Te/\RelV p.2 q.2.2) kvs xs /\
   ∃o es ep,h.get? a=some o/\o.ExactDict/\o.data=.dict es ep/\es.toList=xs.map (entryOfKey (tL pY))/\(xs.map (·.1)).Nodup
 | .set S n=>h.SetOf (u6 P w) a S n
 | .ins C dx fs=>H dx=some M7/\fs.length<=1000/\dx≠a/\h.get? a=some (ZS C dx) /\
   ∃mA,h.Ns1 dx mA/\(∀f,zAk N1 (mA f))/\PySem.Within mA (fs.map (·.1))
 | .own _=>∃o,h.get? a=some o
 | .xd fs=>∃mA,h.Ns1 a mA/\∀f,zAk N1 (mA f)
 | .rng lo hi=>∃t u v,h.get? a=some { cls:=.type "range", data:=.fields #[BS,BT,Em] }
 | .frz o u=>h.get? a=some o/\XH H h a u
 | .tbl ps=>h.get? a=some { cls:=.none,data:=.fields ps }
 | .met f x=>h.get? a=some (w8 fh (.ref x))
 | .ext φ=>φ h/\(∃o,h.get? a=some o)/\∀h1 h2:vf,φ h1->(∀o,h1.get? a=some o->h2.get? a=some o)->φ h2
def HOk(H:Hp)(h:vf):Prop:=∀a o,H a=some o->XH P w H h a o
end
section
variable{P:vQ}{w:vY}{H H':Hp}{h h':vf}{a:vF}{o:HO}
theorem XH.lt(x:XH P w H h a o):a<h.objs.size:=by
 cases o with
 | lst xs=>obtain⟨_,_,_,_,e⟩:=x;exact zU e
 | tup xs=>obtain⟨_,_,_,p⟩:=x;exact p.lt
 | dK kvs=>obtain⟨_,_,_,_,o,_,_,e,_⟩:=x;exact zU e
 | dT kvs=>obtain⟨_,_,_,_,o,_,_,e,_⟩:=x;exact zU e
 | set S n=>obtain⟨o,_,_,_,e,_⟩:=x;exact zU e
 | ins C dx fs=>obtain⟨_,_,_,e,_⟩:=x;exact zU e
 | own y=>obtain⟨_,e⟩:=x;exact zU e
 | xd fs=>obtain⟨_,⟨_,_,_,e,_⟩,_⟩:=x;exact zU e
 | rng lo hi=>obtain⟨_,_,_,e⟩:=x;exact zU e
 | frz ob u=>obtain⟨e,_⟩:=x;exact zU e
 | tbl ps=>exact zU (show h.get? a=some _ from x)
 | met f y=>exact zU (show h.get? a=some _ from x)
 | ext φ=>obtain⟨_,⟨_,e⟩,_⟩:=x;exact zU e
theorem Paired.mapP{α β:Type}{F G:α->β->Prop}:∀{l₁:bN}{l₂:List β},sJ F l₁ l₂->(∀a b,F a b->G a b)->sJ G l₁ l₂
 | _,_,.nil,_=>.nil
 | _,_,.cons r t,f=>.cons (f _ _ r) (Paired.mapP t f)
theorem XH.stay(x:XH P w H h a o)(k:∀b u,(b=a\/H b=some M7)->h.get? b=some u->h'.get? b=some u)(ho:∀b,H b=some M7->H' b=some M7)(ht:∀b xs,H b=some pE->H' b=some pE):XH P w H' h' a o:=by
 induction o with
 | lst xs=>obtain⟨z,its,n,r,e⟩:=x;exact⟨z,its,n,r,l9⟩
 | tup xs=>obtain⟨z,its,r,ob,e,c⟩:=x;exact⟨z,its,r,ob,l9,c⟩
 | dK kvs=>obtain⟨z,y,vs,r,ob,es,ep,e,c⟩:=x;exact⟨z,y,vs,r,ob,es,ep,l9,c⟩
 | dT kvs=>
  obtain⟨z,y,xs,r,ob,es,ep,e,c⟩:=x;exact⟨z,y,xs,Paired.mapP r λp q z=>L4,ob,es,ep,l9,c⟩
 | set S n=>obtain⟨ob,es,ep,t,e,c⟩:=x;exact⟨ob,es,ep,t,l9,c⟩
 | ins C dx fs=>
  obtain⟨d,z,ne,e,mA,⟨od,es,ep,e2,c⟩,r⟩:=x;exact⟨ho _ d,z,ne,l9,mA,⟨od,es,ep,k _ _ (.inr d) e2,c⟩,r⟩
 | own y=>obtain⟨ob,e⟩:=x;exact⟨ob,l9⟩
 | xd fs=>obtain⟨mA,⟨od,es,ep,e,c⟩,r⟩:=x;exact⟨mA,⟨od,es,ep,l9,c⟩,r⟩
 | rng lo hi=>obtain⟨t,u,v,e⟩:=x;exact⟨t,u,v,l9⟩
 | frz ob u ih=>obtain⟨e,q⟩:=x;exact⟨l9,ih q⟩
 | tbl ps=>
  have e:h.get? a=some { cls:=.none,data:=.fields ps }:=x;show h'.get? a=some { cls:=.none,data:=.fields ps };exact k a _ bD e
 | met f y=>
  have e:h.get? a=some V0:=x;show h'.get? a=some V0;exact k a _ bD e
 | ext φ=>obtain⟨p,⟨o,e⟩,st⟩:=x;exact⟨st _ _ p λo q=>k _ _ bD q,⟨o,l9⟩,st⟩
theorem HOk.lt(x:jz)(e:aby):a<h.objs.size:=(x a o e).lt
theorem HOk.fresh(x:jz)(e:NY):H a=none:=by
 cases q:H a with
 | none=>rfl
 | some u=>exact vM (yE (x.lt q) e) Kv
theorem HOk.kept(x:jz)(k:∀b u,h.get? b=some u->h'.get? b=some u):HOk P w H h':=λa o e=>
 (x a o e).stay (λb u _ q=>k b u q) L9 λ_ _ q=>q
theorem HOk.laid(x:jz)(k:∀b u,h.get? b=some u->h'.get? b=some u)(hp:NY)(new:XH P w E7 h' a o):HOk P w E7 h':=λb u e=>by
 have hn:=x.fresh hp
 by_cases hb:b=a
 ·subst hb;rw[qg]at e;cases e;exact new
 ·rw[qd hb]at e
  exact(x b u e).stay (λc v _ q=>k c v q) (λc q=>by rw[Da];exact q) λc xs q=>by rw[Da];exact q
end
def Rd(H:Hp)(a:vF)(u:HO):Prop:=H a=some u\/∃o,H a=some UM
theorem Rd.ok{P:vQ}{w:vY}{H:Hp}{h:vf}{a:vF}{u:HO}(r:Rd H a u)(x:jz):XH P w H h a u:=by
 rcases r with r|⟨o,r⟩
 ·exact x a u r
 ·obtain⟨_,q⟩:=x a _ r
  exact q
def Mut:Option HO->Prop
 | some (.lst _)=>True
 | some (.dK _)=>True
 | some (.dT _)=>True
 | some (.set _ _)=>True
 | some (.ins _ _ _)=>True
 | some (.ext _)=>True
 | _=>False
section
variable{P:vQ}{w:vY}{H:Hp}{h h':vf}{x e:vF}{o':HO}
theorem HOk.write(ok:jz)(mu:Mut (H x))(he:Ew)(k:∀b u,b≠e->h.get? b=some u->h'.get? b=some u)(heo:∃u,h'.get? e=some u)(new:XH P w (upd H x o') h' x o'):HOk P w (upd H x o') h':=λb u q=>by
 have nown:∀c y,H c=some (.own y)->c≠x:=λc y r z=>by subst z;rw[r]at mu;exact mu
 have ntup:∀c xs,H c=some pE->c≠x:=λc xs r z=>by subst z;rw[r]at mu;exact mu
 by_cases hb:b=x
 ·subst hb;rw[qg]at q;cases q;exact new
 ·rw[qd hb]at q
  by_cases hbe:b=e
  ·have q':H b=some (.own x):=by
    rcases he with z|z
    ·exact vM (hbe.trans z) hb
    ·rw[hbe];exact z
   rw[q]at q';cases q';obtain⟨v,hv⟩:=heo;exact⟨v,by rw[hbe];exact hv⟩
  ·refine(ok b u q).stay (λc v hc r=>k c v ?_ r) (λc r=>by rw[qd (nown c b r)];exact r) λc xs r=>by rw[qd (ntup c xs r)];exact r
   rcases hc with rfl|hc
   ·exact hbe
   ·rintro rfl
    rcases he with z|z
    ·exact nown c b hc z
    ·rw[hc]at z;cases z;exact hb rfl
end
structure Un (fs ex:List vF) (H H':Hp) (h h':vf):Prop where
 keep:∀b o,h.get? b=some o->H b=none->b∉fs->b∉ex->h'.get? b=some o
 slot:∀b o,h.get? b=some o->H b=none->b∈fs->b∉ex->∃sl,h'.get? b=some { o with slots:=sl }
 free:∀b o,h.get? b=some o->H b=none->b∉ex->H' b=none
 there:∀b o,h.get? b=some o->b∉ex->∃o',h'.get? b=some o'
 tups:∀b xs,H b=some (.tup xs)->H' b=some (.tup xs)
 frzs:∀b o u,H b=some (.frz o u)->H' b=some (.frz o u)
 tbls:∀b ps,H b=some (.tbl ps)->∃more,H' b=some (.tbl (ps++more))
section
variable{fs fs' ex ex':List vF}{H H1 H2:Hp}{h h1 h2 h':vf}{a x e:vF}{o:HO}
theorem Un.any(u:Un fs ex H H1 h h1){b:vF}{ob:Obj}(q:h.get? b=some ob)(n:H b=none)(hx:b∉ex):∃sl,h1.get? b=some { ob with slots:=sl }:=by
 by_cases hb:b∈fs
 ·exact u.slot b ob q n hb hx
 ·exact⟨ob.slots,u.keep b ob q n hb hx⟩
theorem Un.kept(k:∀b u,h.get? b=some u->h'.get? b=some u):Un fs ex H H h h' :=
 ⟨λb ob q _ _ _=>k b ob q,λb ob q _ _ _=>⟨ob.slots,k b ob q⟩,λ_ _ _ n _=>n,λb ob q _=>⟨ob,k b ob q⟩,λ_ _ q=>q,NH,λ_ ps q=>⟨#[],by rw[q];simp⟩⟩
theorem Un.refl:Un fs ex H H h h:=Un.kept λ_ _ q=>q
theorem Un.laid(k:∀b u,h.get? b=some u->h'.get? b=some u)(hp:NY)(hn:H a=none):Un fs ex H E7 h h' where
 keep:=λb u q _ _ _=>k b u q
 slot:=λb u q _ _ _=>⟨u.slots,k b u q⟩
 free:=λb u q n _=>by rw[qd (zx (yE (zU q) hp))];exact n
 there:=λb u q _=>⟨u,k b u q⟩
 tups:=λb xs q=>by rw[Da];exact q
 frzs:=λb u xs q=>by rw[Da];exact q
 tbls:=λb ps q=>⟨#[],by rw[Da,q];simp⟩
theorem Un.write(mu:Mut (H x))(he:Ew)(k:∀b u,b≠e->h.get? b=some u->h'.get? b=some u)(heo:∃u,h'.get? e=some u):Un fs ex H Rc h h':=by
 have hx:∀b,H b=none->b≠x:=λb n z=>by subst z;rw[n]at mu;exact mu
 have hb:∀b,H b=none->b≠e:=λb n z=>by
  subst z;rcases he with r|r
  ·exact hx b n r
  ·rw[n]at r;cases r
 have hm:∀b u,H b=some u->¬Mut (some u)->b≠x:=λb u q nm z=>by subst z;rw[q]at mu;exact nm mu
 refine⟨λb u q n _ _=>k b u (hb b n) q,λb u q n _ _=>⟨u.slots,k b u (hb b n) q⟩,λb u q n _=>by rw[qd (hx b n)];exact n,λb u q _=>?_,
  λb xs q=>by rw[qd Jb];exact q,λb u xs q=>by rw[qd Jb];exact q,λb ps q=>⟨#[],by rw[qd Jb,q];simp⟩⟩
 by_cases hbe:b=e
 ·subst hbe;exact heo
 ·exact⟨u,k b u hbe q⟩
end
noncomputable def trk(h:vf)(H:Hp):List vF:=(zY h.objs.size).filter λa=>(H a).isSome
noncomputable def zBd(h:vf)(H:Hp):vf:=PySem.W.hideAll h V5
theorem qe2(h:vf)(H:Hp):(zBd h H).objs.size=h.objs.size:=PySem.W.hideAll_size _ _
theorem qfL{h:vf}{H:Hp}{b:vF}{o:Obj}(e:h.get? b=some o)(n:H b=none):(zBd h H).get? b=some o :=
 PySem.W.hideAll_get _ e λhm=>by
  have q:(H b).isSome=true:=(zm.mp hm).2;rw[n]at q;simp at q
theorem qiz{h:vf}{H:Hp}{b:vF}{o:Obj}(e:(zBd h H).get? b=some o):h.get? b=some o/\H b=none:=by
 have e':h.get? b=some o:=PySem.W.of_hideAll V5 e;refine⟨e',?_⟩;cases q:H b with
 | none=>rfl
 | some x=>
  have hm:b∈trk h H:=zm.mpr ⟨yC.mpr (zU e'),by simp[q]⟩;have z:(zBd h H).get? b=none:=PySem.W.hideAll_none V5 hm;rw[z]at e;cases e
noncomputable def zBq(g h:vf)(L:vF):List Am:=(zY h.objs.size).filterMap λa=>if a=L\/(g.get? a).isSome=true then none else (h.get? a).map λo=>(a,o)
noncomputable def rest(g h:vf)(L d:vF):List Am:=(zBq g h L).filter λp=>decide (p.1≠d)
structure Mod (K:zC) (mg:Str->Option vB) (base:vf):Prop where
 kin:K.In base
 glob:base.Ns vS mg
 blt:∃mb,base.Ns builtinsNs mb/\∀x:Str,x ≠ "__name__" -> mb x=vg x
 nolimit:base.NoLimit
structure Cx where
 prog:vQ
 w:vY
 K:zC
 mg:Str->Option vB
 base:vf
 A:ve
 N:List Str
 s₀:vH
 H₀:Hp
 env:Env
 outer:List Env
 stack:List Env
 ex:List vF
 fn:Str->Bool
 calm:Bool
 pn:List (vF×Obj)
 xe:vB->vH->Prop
noncomputable def frs(l:rN):List vF:=l.filterMap (·.frame)
noncomputable abbrev Cx.fs(X:Cx):List vF:=frs X.outer
def Vis(sc:uu)(x:Str):Prop:=sc.names.lookup x=some .local\/sc.names.lookup x=some .cell\/sc.names.lookup x=some .free
def Loc(sc:uu)(x:Str):Prop:=sc.names.lookup x=some .local\/sc.names.lookup x=some .cell
def Look(env:Env)(h:vf)(m:bO)(x:Str)(u:vB):Prop :=
 (env.kindOf x=some .local/\m x=some u)\/((env.kindOf x=some .cell\/env.kindOf x=some .free)/\∃c,env.cells.lookup x=some c/\h.IsCell c (some u))
structure Cx.Ok (X:Cx):Prop where
 mod:Mod X.K X.mg X.base
 kind:X.env.scope.kind=.function
 glob:X.env.globals=vS
 blt:X.env.builtins=builtinsNs
 above:X.s₀.heap.objs.size<=X.env.locals
 inj:∀x y c,X.env.cells.lookup x=some c->X.env.cells.lookup y=some c->x=y
 has:∀x,(X.env.kindOf x=some .cell\/X.env.kindOf x=some .free)->∃c,X.env.cells.lookup x=some c
 cab:∀x c,X.fn x=true->X.env.cells.lookup x=some c->X.s₀.heap.objs.size<=c
 hd:X.calm=true->X.A.handled=none
 frames:X.A.frames=some X.stack
 stk:X.stack=X.outer\/(X.stack=X.env::X.outer/\X.env.frame=some X.env.locals)
 exf:∀b∈X.ex,b≠X.env.locals/\∀x c,X.env.cells.lookup x=some c->c≠b
 bs:∀b o,X.base.get? b=some o->X.s₀.heap.get? b=some o/\X.H₀ b=none
 bsz:X.base.objs.size<=X.s₀.heap.objs.size
 noex:∀b o,X.base.get? b=some o->b∉X.ex
 exfs:∀b∈X.ex,b∉X.fs
 funs:X.s₀.heap.FunFrames X.base X.outer
 frf:∀b∈X.fs,X.H₀ b=none
structure Inv (X:Cx) (pins:List (vF×Obj)) (σ:List (Option V)) (H:Hp) (s:vH):Prop where
 ok:X.Ok
 os:s.os=X.s₀.os
 bare:tG s.gens
 base:Un X.fs X.ex X.H₀ H X.s₀.heap s.heap
 loc:∃m,s.heap.Ns X.env.locals m/\∀(i:Nat)(x:Str)(v:V),X.N[i]?=some x->σ[i]?=some (some v)->Vis X.env.scope x->∃u,RelV v u/\Look X.env s.heap m x u
 cell:∀x c,X.env.cells.lookup x=some c->∃v,s.heap.IsCell c v
 free:H X.env.locals=none
 freeC:∀x c,X.env.cells.lookup x=some c->H c=none
 pin:∀p∈X.pn++pins,s.heap.get? p.1=some p.2/\H p.1=none/\p.1≠X.env.locals/\p.1∉X.fs/\∀v,p.2.data≠.cell v
 hok:HOk X.prog X.w H s.heap
 len:σ.length=X.N.length
section
variable{X:Cx}{pins:List (vF×Obj)}{σ:List (Option V)}{H H':Hp}{s:vH}{h':vf}
theorem Cx.Ok.nofr(ok:X.Ok){b:vF}{o:Obj}(e:X.base.get? b=some o):b∉X.fs:=λhb=>by
 have:=(ok.funs.mem hb).1;rw[e]at this;cases this
theorem Inv.bs(I:aj):∀b o,X.base.get? b=some o->s.heap.get? b=some o/\H b=none:=λb o e=>
 ⟨I.base.keep b o (I.ok.bs b o e).1 (I.ok.bs b o e).2 (I.ok.nofr e) Vv,I.base.free b o (I.ok.bs b o e).1 (I.ok.bs b o e).2 Vv⟩
theorem Inv.bk(I:aj):∀b o,X.base.get? b=some o->s.heap.get? b=some o:=λb o e=>(I.bs b o e).1
theorem Inv.mod(I:aj):Mod X.K X.mg X.base:=I.ok.mod
theorem Inv.kIn(I:aj):X.K.In s.heap:=I.ok.mod.kin.keeps I.bk
theorem Inv.lt(I:aj):X.env.locals<s.heap.objs.size:=let ⟨_,hn,_⟩:=I.loc;hn.lt
theorem Inv.sz(I:aj):X.s₀.heap.objs.size<=s.heap.objs.size:=yL I.ok.above (yb I.lt)
theorem Inv.nofs(I:aj){a:vF}(h:U8):a∉X.fs:=λhb=>by
 obtain⟨_,o,ho,_⟩:=I.ok.funs.mem hb;exact vM (yE (zU ho) (yL I.sz h)) Kv
theorem Inv.cne(I:aj):∀x c,X.env.cells.lookup x=some c->c≠X.env.locals:=λx c e z=>by
 obtain⟨v,o,ho,hd⟩:=I.cell x c e;obtain⟨m,⟨o',es,ep,ho',hd',_⟩,_⟩:=I.loc;rw[z,ho']at ho;cases ho;rw[hd']at hd;cases hd
theorem Inv.funs(I:aj):s.heap.FunFrames X.base X.outer:=by
 have all:∀(l:rN),(∀b∈frs l,b∈X.fs)->X.s₀.heap.FunFrames X.base l->s.heap.FunFrames X.base l:=by
  intro l
  induction l with
  | nil=>intro _ _;trivial
  | cons env r ih=>
   intro hs hl;obtain⟨hk,⟨L,o,hf,hn,ho,hd⟩,hr⟩:=hl;have hL:L∈X.fs:=hs L (by unfold frs;rw[yk,hf];exact zG);obtain⟨sl,e⟩:=I.base.slot L o ho (I.ok.frf L hL) hL λz=>I.ok.exfs L z hL;exact⟨hk,⟨L,_,hf,hn,e,hd⟩,ih (λb hb=>hs b (by unfold frs;rw[yk,hf];exact zH _ hb)) hr⟩
 exact all X.outer (λ_ hb=>hb) I.ok.funs
theorem Inv.stack(I:aj):s.heap.FunFrames X.base X.stack:=by
 rcases I.ok.stk with e|⟨e,hf⟩
 ·rw[e];exact I.funs
 ·rw[e]
  obtain⟨m,hn,_⟩:=I.loc;refine .cons (by rw[I.ok.kind];decide) hf hn ?_ I.funs;exact Heap.get?_none_of_le (yL I.ok.bsz I.ok.above)
theorem Inv.stkSub(I:aj):∀b∈frs X.stack,b∈X.env.locals::X.fs:=λb hb=>by
 rcases I.ok.stk with e|⟨e,hf⟩
 ·rw[e]at hb;exact zH _ hb
 ·rw[e]at hb
  unfold frs at hb;rw[yk,hf]at hb;exact hb
theorem Inv.stkFree(I:aj):∀b∈frs X.stack,H b=none:=λb hb=>by
 rcases zK.mp (I.stkSub b hb)with e|hb
 ·rw[e];exact I.free
 ·obtain⟨_,o,ho,_⟩:=I.ok.funs.mem hb
  exact I.base.free b o ho (I.ok.frf b hb) λz=>I.ok.exfs b z hb
theorem Inv.step{g':Array sC}{t':Nat}{d':Drawn}{ch:eA}(I:aj)(hch:∀b∈ch,jF/\b≠X.env.locals/\(∀x c,X.env.cells.lookup x=some c->c≠b)/\∀p∈X.pn++pins,p.1≠b)(keep:∀b o,b≠X.env.locals->b∉X.fs->b∉ch->s.heap.get? b=some o->H b=none->h'.get? b=some o)(slot:∀b o,b≠X.env.locals->b∈X.fs->b∉ch->s.heap.get? b=some o->H b=none->∃sl,h'.get? b=some { o with slots:=sl })(free:∀b o,b∉ch->s.heap.get? b=some o->H b=none->H' b=none)(there:∀b o,b∉ch->s.heap.get? b=some o->∃o',h'.get? b=some o')(tups:∀b xs,H b=some pE->H' b=some pE)(frzs:∀b o u,H b=some UM->H' b=some UM)(tbls:∀b ps,H b=some (.tbl ps)->∃more,H' b=some (.tbl (ps++more)))(ns:∀m,s.heap.Ns X.env.locals m->h'.Ns X.env.locals m)(hok:GY)(hg:tG g'):
  Inv X pins σ H' { s with heap:=h',gens:=g',drawn:=d',toks:=t' }:=by
 have neL:∀b o,X.s₀.heap.get? b=some o->b≠X.env.locals:=λb o e=>zx pO;have neC:∀b o,X.s₀.heap.get? b=some o->b∉X.ex->b∉ch:=λb o e hx hb=>by
  rcases (hch b hb).1 with z|z
  ·exact hx z
  ·exact vM (yE DP z) Kv
 have cellK:∀x c,X.env.cells.lookup x=some c->∀v,s.heap.IsCell c v->h'.IsCell c v:=λx c e v ⟨o,ho,hd⟩=>by
  have nch:c∉ch:=λz=>(hch c z).2.2.1 x c e rfl
  by_cases hc:c∈X.fs
  ·obtain⟨sl,q⟩:=slot c o (I.cne x c e) hc nch ho Lw
   exact⟨_,q,hd⟩
  ·exact⟨o,keep c o (I.cne x c e) hc nch ho Lw,hd⟩
 refine⟨I.ok,I.os,hg,⟨AT,AT,λb o e n hx=>?_,λb o e hx=>?_,λb xs e=>tups b xs (I.base.tups b xs e),λb o xs e=>frzs b o xs (I.base.frzs b o xs e),λb ps e=>?_⟩,?_,λx c e=>?_,?_,λx c e=>?_,Ai,hok,I.len⟩
 ·exact keep b o (neL b o e) hb Fg AS Cq
 ·obtain⟨sl,e1⟩:=I.base.slot b o e n hb hx
  obtain⟨sl',e2⟩:=slot b _ (neL b o e) hb Fg e1 Cq;exact⟨sl',e2⟩
 ·obtain⟨o',e1⟩:=I.base.there b o e hx
  exact free b o' Fg e1 Cq
 ·obtain⟨o',e1⟩:=I.base.there b o e hx
  exact there b o' Fg e1
 ·obtain⟨m1,e1⟩:=I.base.tbls b ps e
  obtain⟨m2,e2⟩:=tbls b _ e1;exact⟨m1++m2,by rw[e2,Array.append_assoc]⟩
 ·obtain⟨m,hn,hl⟩:=I.loc
  refine⟨m,ns m hn,Tp⟩;obtain⟨u,r,l⟩:=hl i x v e1 e2 e3;refine⟨u,r,?_⟩;rcases l with l|⟨k,c,e,z⟩
  ·exact .inl l
  ·exact .inr ⟨k,c,e,cellK x c e _ z⟩
 ·obtain⟨v,z⟩:=I.cell x c e
  exact⟨v,cellK x c e v z⟩
 ·obtain⟨m,⟨o,_,_,ho,_⟩,_⟩:=I.loc
  exact free _ o (λz=>(hch _ z).2.1 rfl) ho I.free
 ·obtain⟨v,o,ho,hd⟩:=I.cell x c e
  exact free c o (λz=>(hch c z).2.2.1 x c e rfl) ho Lw
 ·obtain⟨e,n,ne,nf,d⟩:=I.pin p hp
  have nch:p.1∉ch:=λz=>(hch p.1 z).2.2.2 p hp rfl;exact⟨keep p.1 p.2 ne nf nch e n,free p.1 p.2 nch e n,ne,nf,d⟩
theorem Inv.un{t':Nat}(I:aj)(u:Un X.fs [] H H' s.heap h')(hok:GY):Inv X pins σ H' { s with heap:=h',toks:=t' }:=by
 obtain⟨m,⟨o,es,ep,ho,r⟩,_⟩:=id I.loc;obtain⟨sl,hL⟩:=u.any ho I.free (by simp);exact I.step (g':=s.gens) (d':=s.drawn) (ch:=[]) (λ_ z=>nomatch z) (λb o _ hb _ e n=>u.keep b o e n hb (by simp)) (λb o _ hb _ e n=>u.slot b o e n hb (by simp)) (λb o _ e n=>u.free b o e n (by simp)) (λb o _ e=>u.there b o e (by simp)) u.tups u.frzs u.tbls (λm' hm=>by
  obtain⟨o',es',ep',ho',r'⟩:=hm;rw[ho]at ho';cases ho';exact Sv) hok I.bare
theorem Inv.call{g':Array sC}{t':Nat}{d':Drawn}{ch:eA}(I:aj)(u:Un N2 ch H H' s.heap h')(hok:GY)(hg:tG g')(hch:∀b∈ch,jF/\b≠X.env.locals/\(∀x c,X.env.cells.lookup x=some c->c≠b)/\∀p∈X.pn++pins,p.1≠b):
  Inv X pins σ H' { s with heap:=h',gens:=g',drawn:=d',toks:=t' }:=by
 obtain⟨m,⟨o,es,ep,ho,r⟩,_⟩:=id I.loc;obtain⟨sl,hL⟩:=u.any ho I.free λz=>(hch _ z).2.1 rfl;exact I.step (ch:=ch) hch (λb o hL hb hc e n=>u.keep b o e n (λz=>(zK.mp (I.stkSub b z)).elim hL hb) hc) (λb o _ _ hc e n=>u.any e n hc) (λb o hc e n=>u.free b o e n hc) (λb o hc e=>u.there b o e hc) u.tups u.frzs u.tbls (λm' hm=>by
  obtain⟨o',es',ep',ho',r'⟩:=hm;rw[ho]at ho';cases ho';exact Sv) hok hg
theorem Inv.turned{t':Nat}{it:vF}(I:aj)(k:∀b o,b≠it->s.heap.get? b=some o->h'.get? b=some o)(hn:H it=none)(hL:it≠X.env.locals)(h1:it∈X.ex\/X.s₀.heap.objs.size<=it)(h2:∀x c,X.env.cells.lookup x=some c->c≠it)(h3:∀p∈X.pn++pins,p.1≠it):Inv X pins σ H { s with heap:=h',toks:=t' }:=by
 have nit:∀b u,H b=some u->b≠it:=λb u e z=>by rw[z,hn]at e;cases e
 refine I.step (g':=s.gens) (d':=s.drawn) (ch:=[it]) lR (λb o _ _ hc e _=>k b o (λz=>hc (by simp[z])) e) (λb o _ _ hc e _=>⟨o.slots,k b o (λz=>hc (by simp[z])) e⟩) VR
  (λb o hc e=>⟨o,k b o (λz=>hc (by simp[z])) e⟩) (λ_ _ e=>e) abR (λb ps e=>⟨#[],by rw[e];simp⟩) K1 (λb u e=>?_) I.bare
 ·have e:b=it:=by simpa using hb
  subst e;exact⟨h1,hL,h2,h3⟩
 ·obtain⟨o,es,ep,ho,r⟩:=hm
  exact⟨o,es,ep,k _ o (Ne.symm hL) ho,r⟩
 ·refine(I.hok b u e).stay NG L9 λ_ _ q=>q
  rcases hc with z|z
  ·rw[z];exact nit b u e
  ·exact nit c _ z
theorem Inv.tok(I:aj)(t:Nat):Inv X pins σ H { s with toks:=t }:=I.un (h':=s.heap) (t':=t) Un.refl I.hok
theorem Inv.kept{t':Nat}(I:aj)(k:∀b u,s.heap.get? b=some u->h'.get? b=some u):Inv X pins σ H { s with heap:=h',toks:=t' }:=I.un (Un.kept k) (I.hok.kept k)
theorem Inv.laid{a:vF}{o:HO}{t':Nat}(I:aj)(k:∀b u,s.heap.get? b=some u->h'.get? b=some u)(hp:U8)(new:XH X.prog X.w E7 h' a o):
  Inv X pins σ E7 { s with heap:=h',toks:=t' }:=I.un (Un.laid k hp (I.hok.fresh hp)) (I.hok.laid k hp new)
theorem Inv.write{x e:vF}{o:HO}{t':Nat}(I:aj)(mu:Mut (H x))(he:Ew)(k:∀b u,b≠e->s.heap.get? b=some u->h'.get? b=some u)(heo:∃u,h'.get? e=some u)(new:XH X.prog X.w Rc h' x o):Inv X pins σ Rc { s with heap:=h',toks:=t' }:=I.un (Un.write mu he k heo) (I.hok.write mu he k heo new)
theorem Inv.pins_of{pins':ay}(I:aj)(h:∀p∈pins',s.heap.get? p.1=some p.2/\H p.1=none/\p.1≠X.env.locals/\p.1∉X.fs/\∀v,p.2.data≠.cell v):Inv X pins' σ H s :=
 ⟨I.ok,I.os,I.bare,I.base,I.loc,I.cell,I.free,I.freeC,λp hp=>(zL.mp hp).elim (λz=>I.pin p (zI _ z)) (h p),I.hok,I.len⟩
theorem q9f{N:dI}(hN:N.Nodup){i j:Nat}{x:Str}(a:N[i]?=some x)(b:N[j]?=some x):i=j:=by
 obtain⟨h1,e1⟩:=ze.mp a;obtain⟨h2,e2⟩:=ze.mp b;exact(wM hN).mp (e1.trans e2.symm)
theorem q8E{M:Model}{A:ve}{E:aS}{i:Nat}{x:Str}{v:V}{u:vB}{Q:rL}(I:aj)(hN:X.N.Nodup)(hi:X.N[i]?=some x)(hx:iI)(r:UA)(h:∀s',Inv X pins B3 H s'->(∃a,xP a s.heap s'.heap/\(a=X.env.locals\/X.env.cells.lookup x=some a))->Q () s')(hf:be:=by first|exact .inl rfl|exact .inr rfl|assumption):vL M A Qj Q E s:=by
 obtain⟨m,hn,hl⟩:=id I.loc;have hcls:(X.env.scope.kind == .class || (X.env.scope.kind == .module&&X.env.locals != X.env.globals))=false:=by rw[I.ok.kind];rfl
 have hiσ:i<σ.length:=by rw[I.len];exact(ze.mp hi).1
 have cne:=I.cne;have tracked:∀{a:vF}{h':vf},(∃o,s.heap.get? a=some o/\H a=none)->xP a s.heap h'->HOk X.prog X.w H h':=λ{a h'} ha hs b ob e=>by
  obtain⟨_,_,hfree⟩:=ha;refine(I.hok b ob e).stay (λc w' hc q=>(hs.2 c ?_).trans q) L9 λ_ _ q=>q;rintro rfl;rcases hc with rfl|hc
  ·rw[hfree]at e;cases e
  ·rw[hfree]at hc;cases hc
 rcases hx with hk|hk
 ·refine wpAny_storeName_local hk hn (λh' hn' hs=>?_) hcls
  obtain⟨oL,_,_,hoL,_⟩:=id hn;refine h _ ⟨I.ok,I.os,I.bare,jx,⟨_,hn',SB⟩,λy c e=>?_,I.free,I.freeC,Ai,tracked ⟨oL,hoL,I.free⟩ hs,by simpa using I.len⟩ ⟨_,hs,bD⟩
  ·exact(hs.2 b (zx pO)).trans AS
  ·obtain⟨sl,e1⟩:=I.base.slot b o e n hb hx
   exact⟨sl,O8⟩
  ·obtain⟨o',e1⟩:=I.base.there b o e hx
   exact⟨o',O8⟩
  ·by_cases hj:j=i
   ·subst hj
    rw[hi]at e1;cases e1;rw[yi hiσ]at e2;cases e2;exact⟨u,r,.inl ⟨hk,by simp⟩⟩
   ·rw[zS (Ne.symm hj)]at e2
    obtain⟨u',r',q⟩:=hl j y v' e1 e2 e3;refine⟨u',r',?_⟩;rcases q with⟨k,e⟩|⟨k,c,e,z⟩
    ·refine .inl ⟨k,?_⟩
     have:y≠x:=λe=>hj (q9f hN e1 (e▸hi));simp[this,e]
    ·exact .inr ⟨k,c,e,Pk⟩
  ·obtain⟨w',z⟩:=I.cell y c e
   exact⟨w',Pk⟩
  ·obtain⟨e,n,ne,nf,d⟩:=I.pin p hp
   exact⟨(hs.2 p.1 ne).trans e,n,ne,nf,d⟩
 ·have hfn:X.fn x=true:=by
   rcases hf with z|z
   ·exact z
   ·rw[z]at hk;cases hk
  obtain⟨c,hc⟩:=I.ok.has x (.inl hk);obtain⟨w',z⟩:=I.cell x c hc;refine wpAny_storeName_cell I.ok.kind hk hc z (λh' hc' hs=>?_);obtain⟨oc,hoc,hocd⟩:=id z;refine h { s with heap:=h' } ⟨I.ok,I.os,I.bare,jx,⟨m,hn.sameBut hs (Ne.symm (cne x c hc)),SB⟩,λy c' e=>?_,I.free,I.freeC,Ai,tracked ⟨oc,hoc,I.freeC x c hc⟩ hs,by simpa using I.len⟩ ⟨c,hs,.inr hc⟩
  ·exact(hs.2 b nc).trans AS
  ·obtain⟨sl,e1⟩:=I.base.slot b o e n hb hx
   exact⟨sl,UR⟩
  ·obtain⟨o',e1⟩:=I.base.there b o e hx
   exact⟨o',UR⟩
  ·by_cases hj:j=i
   ·subst hj
    rw[hi]at e1;cases e1;rw[yi hiσ]at e2;cases e2;exact⟨u,r,.inr ⟨.inl hk,c,hc,hc'⟩⟩
   ·rw[zS (Ne.symm hj)]at e2
    obtain⟨u',r',q⟩:=hl j y v' e1 e2 e3;refine⟨u',r',?_⟩;rcases q with q|⟨k,c',e,z'⟩
    ·exact .inl q
    ·refine .inr ⟨k,c',e,z'.sameBut hs ?_⟩
     rintro rfl;exact hj (q9f hN e1 (I.ok.inj _ _ _ e hc▸hi))
  ·by_cases hcc:c'=c
   ·subst hcc;exact⟨_,hc'⟩
   ·obtain⟨w2,z2⟩:=I.cell y c' e
    exact⟨w2,z2.sameBut hs hcc⟩
  ·obtain⟨e,n,ne,nf,d⟩:=I.pin p hp
   refine⟨(hs.2 p.1 ?_).trans e,n,ne,nf,d⟩;intro q;rw[q,hoc]at e;have q':oc=p.2:=zy e;exact d w' (by rw[<- q'];exact hocd)
theorem qao{M:Model}{A:ve}{E:aS}{i:Nat}{x:Str}{v:V}{u:vB}{Q:rL}(I:aj)(hN:X.N.Nodup)(hi:X.N[i]?=some x)(hx:iI)(r:UA)(h:∀s',Inv X pins B3 H s'->Q () s')(hf:be:=by first|exact .inl rfl|exact .inr rfl|assumption):vL M A Qj Q E s :=
 q8E I hN hi hx r (λs' I' _=>h s' I') hf
theorem Inv.call'{s':vH}{ch:eA}(I:aj)(ho:s'.os=s.os)(u:Un N2 ch H H' s.heap s'.heap)(hok:HOk X.prog X.w H' s'.heap)(hg:tG s'.gens)(hch:∀b∈ch,jF/\b≠X.env.locals/\(∀x c,X.env.cells.lookup x=some c->c≠b)/\∀p∈X.pn++pins,p.1≠b):Inv X pins σ H' s':=by
 obtain⟨h',g',d',t',o'⟩:=s';have e:o'=s.os:=ho;subst e;exact I.call (g':=g') (t':=t') (d':=d') u hok hg hch
end
abbrev XK:=vB->Option vF->Hp->Prop
noncomputable abbrev St:=List ss
abbrev VK:=V->Hp->Prop
abbrev TE:=St->Hp->VK->Prop
abbrev TT:=St->Hp->j0->Prop
abbrev TA:=St->Hp->lu->Prop
structure Ends where
 nx:St->Hp->Prop
 rt:VK
 bk:St->Hp->Prop:=λ_ _=>False
 ct:St->Hp->Prop:=λ_ _=>False
abbrev TS:=Ends->St->Hp->Prop
def EP(X:Cx)(pins:ay)(σ:St)(Q:VK)(u:vB)(s':vH):Prop:=∃v H',Inv X pins σ H' s'/\RelV v u/\Q v H'
def TP(X:Cx)(pins:ay)(σ:St)(Q:j0)(b:Bool)(s':vH):Prop:=∃H',Inv X pins σ H' s'/\Q b H'
def AP(X:Cx)(pins:ay)(σ:St)(Q:lu)(us:bH)(s':vH):Prop:=∃vs H',Inv X pins σ H' s'/\Y7 vs us/\Q vs H'
def SP(X:Cx)(pins:ay)(D:Ends)(f:Flow)(s':vH):Prop :=
 match f with
 | .next=>∃σ' H',Inv X pins σ' H' s'/\D.nx σ' H'
 | .brk=>∃σ' H',Inv X pins σ' H' s'/\D.bk σ' H'
 | .cont=>∃σ' H',Inv X pins σ' H' s'/\D.ct σ' H'
 | .ret u=>∃v σ' H',Inv X pins σ' H' s'/\RelV v u/\D.rt v H'
def PE(X:Cx)(e:vP)(t:TE):Prop :=
 ∀(pins:ay)(s:vH)(σ:St)(H:Hp)(Q:VK),Inv X pins σ H s->t σ H Q->vL ai X.A acm cT X.xe s
def PT(X:Cx)(e:vP)(t:TT):Prop :=
 ∀(pins:ay)(s:vH)(σ:St)(H:Hp)(Q:j0),Inv X pins σ H s->t σ H Q->vL ai X.A (sR e X.env acm) Df X.xe s
def PW(X:Cx)(e:vP)(t:TT):Prop :=
 ∀(whole:Sem vB)(pins:ay)(s:vH)(σ:St)(H:Hp)(Q:j0),Inv X pins σ H s->t σ H Q->vL ai X.A (sR e X.env whole) Df X.xe s
theorem PW.pt{X:Cx}{e:vP}{t:TT}(h:PW X e t):PT X e t:=h _
def PA(X:Cx)(es:jc)(t:TA):Prop :=
 ∀(pos:Pos)(pins:ay)(s:vH)(σ:St)(H:Hp)(Q:lu),Inv X pins σ H s->t σ H Q->vL ai X.A (spliced (vU pos gY)) aaC X.xe s
def PS(X:Cx)(st:vn)(t:TS):Prop :=
 ∀(pins:ay)(s:vH)(σ:St)(H:Hp)(D:Ends),Inv X pins σ H s->t D σ H->vL ai X.A (exec st X.env) (SP X pins D) X.xe s
def PSs(X:Cx)(st:Dg)(t:TS):Prop :=
 ∀(pins:ay)(s:vH)(σ:St)(H:Hp)(D:Ends),Inv X pins σ H s->t D σ H->vL ai X.A (execs st X.env) (SP X pins D) X.xe s
theorem thn{α:Type}{t:Sem α}{Q Q':α->vH->Prop}{M:Model}{A:ve}{E:aS}{s:vH}(h:vL M A t Q E s)(hQ:∀a s,Q a s->Q' a s):vL M A t Q' E s:=vo h hQ λ_ _ x=>x
section
variable{X:Cx}
theorem bin{a b:vP}{ta tb:TE}(ha:m6)(hb:Ef){pins:ay}{s:vH}{σ:St}{H:Hp}{R:V->V->Hp->Prop}(I:aj)(h:EQ){α:Type}{Q:α->vH->Prop}{f:vB->vB->Sem α}(hf:∀v u s2 x y H2,Inv X pins σ H2 s2->RelV x v->RelV y u->R x y H2->vL ai X.A Vm Q X.xe s2):
  vL ai X.A MC k5 X.xe s:=by
 refine thn cX λv s1 ⟨x,H1,I1,r1,q1⟩=>?_;refine thn Bi λu s2 ⟨y,H2,I2,r2,q2⟩=>?_;exact hf v u s2 x y H2 I2 r1 r2 q2
noncomputable def Xf(i:Nat):TE:=λσ H Q=>∃v,σ[i]?=some nE/\Q v H
noncomputable def tC(v:V):TE:=λ_ H Q=>Q v H
theorem qjN{i:Nat}{x:Str}{pos:Pos}(hN:X.N[i]?=some x)(hv:rC)(hd:aC:=by decide)(hcd:ii:=by decide):PE X jg KI:=by
 intro pins s σ H Q I h;obtain⟨v,e,h⟩:=h;obtain⟨m,hn,hl⟩:=I.loc;obtain⟨u,r,l⟩:=hl i x v hN e hv;have fin:EP X pins σ Q u s:=L5;rcases l with⟨hk,hm⟩|⟨hk,c,hc,hcell⟩
 ·exact wpAny_Name (wpAny_loadName_local I.ok.kind hk hn hm fin) hd
 ·rcases hk with hk|hk
  ·exact wpAny_Name (wpAny_loadName_cell I.ok.kind hk hc hcell fin) hd
  ·exact wpAny_Name (wpAny_loadName_free I.ok.kind hk hc hcell fin hcd) hd
theorem qkw{i j pos}:PE X Sg (tC kE):=λ_ _ _ H _ I h=>wpAny_Constant_int ⟨kE,H,jR,cf,h⟩
theorem qlh{b j pos}:PE X L1 (tC FU):=λ_ _ _ H _ I h=>Constant_bool ⟨FU,H,I,rfl,h⟩
theorem qkO{x j pos}:PE X Sh (tC Ht):=λ_ _ _ H _ I h=>Calls.Constant_str ⟨Ht,H,jR,cf,h⟩
def Gl(X:Cx)(x:Str):Prop:=X.env.kindOf x=some .globalImplicit
theorem qcn{E:aS}{pins:ay}{s:vH}{σ:St}{H:Hp}{x:Str}{u:vB}{pos:Pos}{Q:aS}(I:aj)(hg:pj)(hm:X.mg x=some u)(h:Q u s)(hd:aC:=by decide):vL ai X.A aa5 Q E s :=
 Calls.Name_function_global I.ok.kind hg (Calls.loadGlobal_global (by rw[I.ok.glob];exact I.mod.glob.keeps I.bk) hm h) hd
theorem q0p{E:aS}{pins:ay}{s:vH}{σ:St}{H:Hp}{x:Str}{u:vB}{pos:Pos}{Q:aS}(I:aj)(hg:pj)(hm:AG)(hv:vg x=some u)(h:Q u s)(hn:kO:= by decide)(hd:aC:=by decide):vL ai X.A aa5 Q E s:=by
 obtain⟨mb,h1,h2⟩:=I.mod.blt;exact Calls.Name_function_global I.ok.kind hg (Calls.loadGlobal_builtin (by rw[I.ok.glob];exact I.mod.glob.keeps I.bk) hm (by rw[I.ok.blt];exact h1.keeps I.bk) ((h2 x hn).trans hv) h) hd
theorem qbr{x:Str}{v:V}{u:vB}{pos:Pos}(hg:pj)(hm:X.mg x=some u)(r:UA)(hd:aC:=by decide):PE X jg (tC v) :=
 λ_ _ _ H _ I h=>qcn I hg hm L5 hd
theorem qiE{x:Str}{v:V}{u:vB}{pos:Pos}(hg:pj)(hm:AG)(hv:vg x=some u)(r:UA)(hn:kO:= by decide)(hd:aC:=by decide):PE X jg (tC v) :=
 λ_ _ _ H _ I h=>q0p I hg hm hv L5 hn hd
variable{a b:vP}{ta tb:TE}{pos:Pos}
def PC(X:Cx)(op:sK)(a b:vP)(t:TE):Prop :=
 ∀(pins:ay)(s:vH)(σ:St)(H:Hp)(Q:VK),Inv X pins σ H s->t σ H Q ->
  vL ai X.A MC (λv s₁=>vL ai X.A acn (λu s₂=>vL ai X.A (uM op v u) cT X.xe s₂) X.xe s₁) X.xe s
theorem zBg(b:vP){op:sK}(h:op≠.In)(h2:op≠.NotIn):uD op b=false:=by
 have e1:acg=false:=by cases op <;> first|rfl|exact vM rfl h
 have e2:Ve=false:=by cases op <;> first|rfl|exact vM rfl h2
 cases b <;> simp[uD,e1,e2]
noncomputable def tB(t:TE):TT:=λσ H Q=>t σ H λx H1=>∃c,x=.bl c/\Q c H1
theorem qkF{op:sK}{t:TE}(h:PC X op a b t)(h1:CW:=by first|exact zBg _ (by decide) (by decide)|rfl):PT X kC (tB t):=by
 intro pins s σ H Q I hw;refine tU (thn PD λv s1 h1=>thn h1 λu s2 h2=>thn h2 λc s3 ⟨x,H1,I1,r1,q1⟩=>?_) h1;obtain⟨d,rfl,q⟩:=q1;cases r1;exact uE ⟨H1,I1,q⟩
variable{tA tB':TT}{rest:List vP}
noncomputable def tAnd(t u:TT):TT:=λσ H Q=>t σ H λc H1=>if c=true then u σ H1 Q else Q false H1
noncomputable def tOr(t u:TT):TT:=λσ H Q=>t σ H λc H1=>if c=true then Q true H1 else u σ H1 Q
noncomputable def tNot(t:TT):TT:=λσ H Q=>t σ H λc H1=>Q (!c) H1
theorem qiC(ha:Lq):PW X P6 tA:=by
 intro wh pins s σ H Q I h;refine isTrue_and DS;cases c with
 | true=>exact isTrue_and_nil e
 | false=>exact e
theorem qdN(ha:Lq):PW X QN tA:=by
 intro wh pins s σ H Q I h;refine isTrue_or DS;cases c with
 | false=>exact isTrue_or_nil e
 | true=>exact e
theorem qjJ(ha:Lq)(hb:PW X l6 tB'):PW X kZ (tAnd tA tB'):=by
 intro wh pins s σ H Q I h;refine isTrue_and (thn cX λc s1 ⟨H1,I1,q1⟩=>?_);cases c with
 | true=>exact hb wh pins s1 σ H1 Q I1 q1
 | false=>exact⟨H1,I1,q1⟩
theorem qgS(ha:Lq)(hb:PW X mN tB'):PW X lg (tOr tA tB'):=by
 intro wh pins s σ H Q I h;refine isTrue_or (thn cX λc s1 ⟨H1,I1,q1⟩=>?_);cases c with
 | true=>exact⟨H1,I1,q1⟩
 | false=>exact hb wh pins s1 σ H1 Q I1 q1
theorem qks(ha:Lq):PT X rQ (tNot tA):=by
 intro pins s σ H Q I h;exact isTrue_not (ha pins s σ H (λc H1=>Q (!c) H1) I h)
noncomputable def tAndV(ta tb:TE):TE:=λσ H Q=>ta σ H λx H1=>∃c,x=.bl c/\if c=true then tb σ H1 Q else Q l5 H1
noncomputable def tOrV(ta tb:TE):TE:=λσ H Q=>ta σ H λx H1=>∃c,x=.bl c/\if c=true then Q cZ H1 else tb σ H1 Q
noncomputable def tNotV(ta:TE):TE:=λσ H Q=>ta σ H λx H1=>∃c,x=.bl c/\Q (.bl (!c)) H1
theorem qkV{op}{t:TE}(h:PE X a t):PE X Sj t:=λpins s σ H Q I hw=>BoolOp_one (h pins s σ H Q I hw)
theorem qk3(ha:m6)(hb:PE X l6 tb):PE X kZ (tAndV ta tb):=by
 intro pins s σ H Q I h;refine BoolOp_and (thn cX λv s1 ⟨x,H1,I1,r1,q1⟩=>?_);obtain⟨c,rfl,q1⟩:=q1;cases r1;refine uE ?_;cases c with
 | true=>exact hb pins s1 σ H1 Q I1 q1
 | false=>exact⟨l5,H1,I1,rfl,q1⟩
theorem ql2(ha:m6)(hb:PE X mN tb):PE X lg (tOrV ta tb):=by
 intro pins s σ H Q I h;refine BoolOp_or (thn cX λv s1 ⟨x,H1,I1,r1,q1⟩=>?_);obtain⟨c,rfl,q1⟩:=q1;cases r1;refine uE ?_;cases c with
 | false=>exact hb pins s1 σ H1 Q I1 q1
 | true=>exact⟨cZ,H1,I1,rfl,q1⟩
theorem qjF(ha:m6):PE X rQ (tNotV ta):=by
 intro pins s σ H Q I h;refine UnaryOp_ (thn cX λv s1 ⟨x,H1,I1,r1,q1⟩=>?_);obtain⟨c,rfl,q1⟩:=q1;cases r1;exact not_of (uE ⟨.bl (!c),H1,I1,rfl,q1⟩)
noncomputable def tIf(t:TT)(ta tb:TE):TE:=λσ H Q=>t σ H λc H1=>if c=true then ta σ H1 Q else tb σ H1 Q
theorem qgG{c:vP}(hc:PT X c tA)(ha:m6)(hb:Ef):PE X UO (tIf tA ta tb):=by
 intro pins s σ H Q I h;refine wpAny_IfExp (thn Pz λd s1 ⟨H1,I1,q1⟩=>?_);cases d with
 | true=>exact ha pins s1 σ H1 Q I1 q1
 | false=>exact hb pins s1 σ H1 Q I1 q1
end
def SqL(K:zC)(H:Hp)(a:vF)(xs:bu):Prop :=
 Rd H a dJ \/
  ∃(o:Obj) (its:fw) (n:Nat),K.lookup a=some o/\o.cls=.type "list" /\ o.dict=none/\o.data=.seq its n/\its.size<=sizeLine/\Y7 xs its.toList
def SqT(K:zC)(H:Hp)(a:vF)(xs:bu):Prop :=
 Rd H a pE \/
  ∃(o:Obj) (its:fw) (n:Nat),K.lookup a=some o/\o.cls=.type "tuple" /\ o.data=.seq its n/\its.size<=sizeLine/\Y7 xs its.toList
noncomputable def absV:vB->Option V
 | .none=>some .non
 | .bool b=>some FU
 | .int i _=>some kE
 | .str x _=>some Ht
 | .bytes b _=>some (.byt b)
 | .float b _=>some (.flt b)
 | .ref a=>some dF
 | .type n=>some (.ty n)
 | _=>none
theorem RelV.abs{x:V}{u:vB}(r:Uz):absV u=some x:=by
 cases x with
 | non=>cases r;rfl
 | bl _=>cases r;rfl
 | int _=>obtain⟨t,rfl⟩:=r;rfl
 | str _=>obtain⟨t,rfl⟩:=r;rfl
 | byt _=>obtain⟨t,rfl⟩:=r;rfl
 | flt _=>obtain⟨t,rfl⟩:=r;rfl
 | ref _=>cases r;rfl
 | ty _=>cases r;rfl
theorem RelV.inj{x y:V}{u:vB}(r:Uz)(q:rM):x=y:=zy (r.abs.symm.trans q.abs)
theorem Y7.inj:∀{xs ys:bu}{us:bH},Y7 xs us->Y7 ys us->xs=ys
 | _,_,_,.nil,.nil=>rfl
 | _,_,_,.cons r t,.cons r' t'=>by rw[r.inj r',Y7.inj t t']
section
variable{X:Cx}{pins:List (vF×Obj)}{σ:St}{H:Hp}{s:vH}{a:vF}{xs ys:List V}
theorem SqL.of{K:zC}(h:H a=some dJ):SqL K H a xs:=.inl Sd
theorem SqT.of{K:zC}(h:H a=some pE):SqT K H a xs:=.inl Sd
theorem Inv.list(I:aj)(h:SqL X.K H a xs):∃its:List vB,Y7 xs its/\PlainL s.heap a its.toArray/\xs.length<=sizeLine:=by
 rcases h with h|⟨o,its,n,hk,hc,hd,hs,hz,r⟩
 ·obtain⟨z,its,n,r,e⟩:=h.ok I.hok
  exact⟨its,r,⟨_,n,e,rfl,rfl,rfl⟩,z⟩
 ·refine⟨its.toList,r,⟨o,n,I.kIn a o hk,hc,hd,by simpa using hs⟩,?_⟩
  have e:=r.length;simp only[zW]at e;omega
theorem Inv.tuple(I:aj)(h:SqT X.K H a xs):∃its:List vB,Y7 xs its/\IsTup s.heap a its.toArray/\xs.length<=sizeLine:=by
 rcases h with h|⟨o,its,n,hk,hc,hs,hz,r⟩
 ·obtain⟨z,its,r,p⟩:=h.ok I.hok
  exact⟨its,r,p,z⟩
 ·refine⟨its.toList,r,⟨o,I.kIn a o hk,hc,n,by simpa using hs⟩,?_⟩
  have e:=r.length;simp only[zW]at e;omega
theorem Inv.list_inj(I:aj)(h:SqL X.K H a xs)(h':SqL X.K H a ys):xs=ys:=by
 obtain⟨its,r,⟨o,n,e,_,_,d⟩,_⟩:=I.list h;obtain⟨its',r',⟨o',n',e',_,_,d'⟩,_⟩:=I.list h';rw[e]at e';cases e';rw[d]at d';injection d' with d1 _;have:its=its':=by simpa using vm Ym d1
 subst this;exact r.inj r'
theorem Inv.tuple_inj(I:aj)(h:SqT X.K H a xs)(h':SqT X.K H a ys):xs=ys:=by
 obtain⟨its,r,⟨o,e,_,n,d⟩,_⟩:=I.tuple h;obtain⟨its',r',⟨o',e',_,n',d'⟩,_⟩:=I.tuple h';rw[e]at e';cases e';rw[d]at d';injection d' with d1 _;have:its=its':=by simpa using vm Ym d1
 subst this;exact r.inj r'
end
noncomputable abbrev Cx.wish(X:Cx)(E:aS):Cx:={ X with xe:=E }
noncomputable abbrev Cx.nox(X:Cx):Cx:=X.wish λ_ _=>False
theorem Cx.Ok.wish{X:Cx}(ok:X.Ok)(E:aS):(X.wish E).Ok :=
 gH
theorem Cx.Ok.unwish{X:Cx}{E:aS}(ok:(X.wish E).Ok):X.Ok :=
 gH
section
variable{X:Cx}{pins:List (vF×Obj)}{σ:St}{H:Hp}{s:vH}{E:vB->vH->Prop}
theorem Inv.wish(I:aj)(E:aS):Inv Uw pins σ H s:=⟨I.ok.wish E,I.os,I.bare,I.base,I.loc,I.cell,I.free,I.freeC,I.pin,I.hok,I.len⟩
theorem Inv.unwish(I:Inv Uw pins σ H s):Inv X pins σ H s:=⟨I.ok.unwish,I.os,I.bare,I.base,I.loc,I.cell,I.free,I.freeC,I.pin,I.hok,I.len⟩
theorem SP.unwish{D:Ends}{f:Flow}{s':vH}(h:SP Uw pins D f s'):SP X pins D f s':=by
 cases f with
 | next=>obtain⟨σ',H',I,q⟩:=h;exact Dt
 | brk=>obtain⟨σ',H',I,q⟩:=h;exact Dt
 | cont=>obtain⟨σ',H',I,q⟩:=h;exact Dt
 | ret u=>obtain⟨v,σ',H',I,r,q⟩:=h;exact⟨v,σ',H',I.unwish,r,q⟩
theorem PSs.nox{st:Dg}{t:TS}(h:PSs X.nox st t):PSs X st t:=λpins s σ H D I hw=>
 vo (h pins s σ H D (I.wish _) hw) (λ_ _ q=>q.unwish) λ_ _ z=>False.elim z
end
section
variable{X:Cx}{st:vn}{rest:List vn}{t u:TS}{e:vP}{te:TE}{pos:Pos}
noncomputable def tNext:TS:=λD σ H=>D.nx σ H
noncomputable def zAp(t u:TS):TS:=λD σ H=>t { D with nx:=u D } σ H
theorem qih:PSs X [] tNext:=λ_ _ σ H _ I h=>u0 ⟨σ,H,I,h⟩
theorem qO(h1:PS X st t)(h2:PSs X rest u):PSs X (st::rest) (zAp t u):=by
 intro pins s σ H D I h;refine wpAny_execs_cons (thn (h1 pins s σ H { D with nx:=u D } I h) λf s1 q=>?_);cases f with
 | next=>
  obtain⟨σ',H',I',q⟩:=q;exact h2 pins s1 σ' H' D I' q
 | ret v=>exact q
 | brk=>exact q
 | cont=>exact q
theorem q0W(h1:PS X st t):PSs X [st] t:=by
 intro pins s σ H D I h;refine wpAny_execs_cons (thn (h1 pins s σ H D I h) λf s1 q=>?_);cases f with
 | next=>exact u0 q
 | ret v=>exact q
 | brk=>exact q
 | cont=>exact q
theorem Inv.quiet{pins:ay}{σ:St}{H:Hp}{s:vH}(I:aj):interactive X.env=false:=by simp[interactive,I.ok.kind]
noncomputable def zBE(te:TE):TS:=λD σ H=>te σ H λ_ H1=>D.nx σ H1
theorem q17(he:pQ)(hs:Im:=by rfl):PS X (.Expr e pos) (zBE te):=by
 intro pins s σ H D I h;exact wpAny_Expr_any (thn lM λv s1 ⟨x,H1,I1,r1,q1⟩=>⟨σ,H1,I1,q1⟩) I.quiet hs
noncomputable def tRet(te:TE):TS:=λD σ H=>te σ H D.rt
theorem q5A(he:pQ):PS X DM (tRet te):=by
 intro pins s σ H D I h;exact wpAny_Return_some (thn lM λv s1 ⟨x,H1,I1,r1,q1⟩=>⟨x,σ,H1,I1,r1,q1⟩)
noncomputable def tIfS(c:TT)(t u:TS):TS:=λD σ H=>c σ H λb H1=>if b=true then t D σ H1 else u D σ H1
theorem qhg{c:vP}{a b:Dg}{tc:TT}(hc:PT X c tc)(ha:PSs X a t)(hb:PSs X b u):PS X abJ (tIfS tc t u):=by
 intro pins s σ H D I h;refine wpAny_If (thn Pz λd s1 ⟨H1,I1,q1⟩=>?_);cases d with
 | true=>exact ha pins s1 σ H1 D I1 q1
 | false=>exact hb pins s1 σ H1 D I1 q1
noncomputable def tNever:TS:=λ_ _ _=>False
theorem qgF:PS X st tNever:=λ_ _ _ _ _ _ h=>h.elim
end
abbrev TG:=V->St->Hp->AH->Prop
abbrev TGs:=List V->St->Hp->AH->Prop
def PG(X:Cx)(target:vP)(t:TG):Prop :=
 ∀(pins:ay)(s:vH)(σ:St)(H:Hp)(v:V)(u:vB)(Q:AH),Inv X pins σ H s->RelV v u->t v σ H Q ->
  vL ai X.A (assign target X.env u) (λ_ s'=>∃σ' H',Inv X pins σ' H' s'/\Q σ' H') X.xe s
def PGs(X:Cx)(ts:jc)(t:TGs):Prop :=
 ∀(pins:ay)(s:vH)(σ:St)(H:Hp)(vs:bu)(us:bH)(Q:AH),Inv X pins σ H s->Y7 vs us->t vs σ H Q ->
  vL ai X.A (assignInOrder ((uN ts X.env).map (·.2)) us) (λ_ s'=>∃σ' H',Inv X pins σ' H' s'/\Q σ' H') X.xe s
abbrev TSet:=V->V->V->Hp->abx->Prop
def PSet(X:Cx)(t:TSet):Prop :=
 ∀(pins:ay)(s:vH)(σ:St)(H:Hp)(o i v:V)(ov iv u:vB)(Q:abx),Inv X pins σ H s->RelV o ov->RelV i iv->RelV v u->t o i v H Q ->
  vL ai X.A (setItem ov iv u) (λ_ s'=>∃H',Inv X pins σ H' s'/\Q H') X.xe s
section
variable{X:Cx}{pos:Pos}
noncomputable def X9(i:Nat):TG:=λv σ H Q=>Q B3 H
theorem q4o{i:Nat}{x:Str}(hN:X.N.Nodup)(hi:X.N[i]?=some x)(hx:iI)(hf:be:=by first|exact .inl rfl|exact .inr rfl|assumption):PG X jg (X9 i):=by
 intro pins s σ H v u Q I r h;exact wpAny_assign_Name (qao I hN hi hx r (λs' I'=>⟨_,H,I',h⟩) hf)
noncomputable def gNil:TGs:=λvs σ H Q=>vs=[]/\Q σ H
noncomputable def gCons(t:TG)(u:TGs):TGs:=λvs σ H Q=>∃v r,vs=v::r/\t v σ H λσ' H'=>u r σ' H' Q
theorem qcF:PGs X [] gNil:=by
 intro pins s σ H vs us Q I r h;obtain⟨e,h⟩:=h;subst e;cases r;exact assignInOrder_nil ⟨σ,H,I,h⟩
theorem q6U{e:vP}{es:jc}{t:TG}{u:TGs}(h1:PG X e t)(h2:PGs X es u)(hs:(uN iV X.env).map (·.2)=assign e X.env::(uN es X.env).map (·.2):=by rfl):PGs X iV (gCons t u):=by
 intro pins s σ H vs us Q I r h;obtain⟨v,vr,e1,h⟩:=h;subst e1;cases r with
 | cons r rr=>
  rw[hs];refine assignInOrder_cons (thn (h1 pins s σ H _ _ _ I r h) λ_ s1 ⟨σ1,H1,I1,q1⟩=>?_);exact h2 pins s1 σ1 H1 _ _ Q I1 rr q1
noncomputable def gTup(K:zC)(n:Nat)(t:TGs):TG:=λv σ H Q=>∃a xs,v=.ref a/\SqT K H a xs/\xs.length=n/\t xs σ H Q
theorem qfo{es:jc}{k:Nat}{t:TGs}{n:Nat}(hc:cI)(h:PGs X es t)(hn:Sm:=by rfl)(hst:(uN es X.env).findIdx? (·.1)=none:=by rfl):PG X VC (gTup X.K n t):=by
 intro pins s σ H v u Q I r hw;obtain⟨a,xs,e1,hq,hl,hw⟩:=hw;subst e1;cases r;obtain⟨its,rv,ht,hz⟩:=I.tuple hq;refine assign_Tuple_tuple gB ht (by simp[hn,<- hl,rv.length]) hst λh' hx=>?_;have I1:Inv X pins σ H { s with heap:=h' }:=I.kept (t':=s.toks) λb o e=>hx b o (zx DP) e;exact h pins _ σ H xs _ Q I1 ⇑rv hw
noncomputable def gSub(to ti:TE)(t:TSet):TG:=λv σ H Q=>to σ H λo H1=>ti σ H1 λi H2=>t o i v H2 λH3=>Q σ H3
theorem qjX{o i:vP}{to ti:TE}{t:TSet}(ho:PE X o to)(hi:PE X i ti)(hs:PSet X t)(ha:∀v,assign Fx X.env v=(do
   let ov <- holding [v] (eval o X.env)
   let iv <- holding [v,ov] (eval i X.env)
   sP pos
   holding Qx U7
   release Qx []):=by intro _;rfl):PG X Fx (gSub to ti t):=by
 intro pins s σ H v u Q I r h;rw[ha];refine vA (vX (thn jQ λov s1 ⟨x,H1,I1,r1,q1⟩=>?_));refine vA (vX (thn Mx λiv s2 ⟨y,H2,I2,r2,q2⟩=>?_));refine vA (tI (vA (vX (thn (hs pins s2 σ H2 x y v ov iv u _ I2 r1 r2 r q2) λ_ s3 ⟨H3,I3,q3⟩=>?_))));exact wpAny_release ⟨σ,H3,I3,q3⟩
noncomputable def zAa(te:TE)(g:TG):TS:=λD σ H=>te σ H λx H1=>g x σ H1 D.nx
theorem qdy{tg e:vP}{te:TE}{g:TG}(he:pQ)(hg:PG X tg g)(hs:Ip:=by rfl)(hw:OL:=by rfl)(h1:(uN [tg] X.env).map (·.2)=aba:=by rfl):PS X Sk (zAa te g):=by
 intro pins s σ H D I h;refine wpAny_Assign_stores (thn lM λv s1 ⟨x,H1,I1,r1,q1⟩=>?_) hs hw;rw[h1];exact thn (hg pins s1 σ H1 x v _ I1 r1 q1) λ_ s2 q=>q
theorem q0n{i:Nat}{x:Str}{e:vP}{te:TE}{pos':Pos}(hN:X.N.Nodup)(hi:X.N[i]?=some x)(hx:iI)(he:pQ)(hs:mP:=by rfl)(hf:be:=by first|exact .inl rfl|exact .inr rfl|assumption):
  PS X Fz (zAa te (X9 i)):=by
 intro pins s σ H D I h;refine wpAny_Assign_Name (thn lM λv s1 ⟨y,H1,I1,r1,q1⟩=>?_) hs;exact qao I1 hN hi hx r1 (λs2 I2=>⟨_,H1,I2,q1⟩) hf
end
section
variable{X:Cx}{pos:Pos}
noncomputable def zA7(c:TT)(tb:TS):TS:=λD σ H=>∃W:Nat->St->Hp->Prop,(∃m,W m σ H)/\∀m σ H,W m σ H ->
 c σ H λb H1=>if b=true then ∃N:St->Hp->Prop,(∀σ' H',N σ' H'->∃m',m'<m/\W m' σ' H')/\tb { D with nx:=N,ct:=N,bk:=D.nx } σ H1 else D.nx σ H1
theorem qam{c:vP}{body:Dg}{tc:TT}{tb:TS}(hp:kQ)(hc:PT X c tc)(hb:PSs X body tb):PS X P5 (zA7 tc tb):=by
 intro pins s σ H D I h;obtain⟨W,⟨m0,w0⟩,turn⟩:=h;refine wpAny_While (codeAny_whileLoop (λn s'=>∃σ' H',Inv X pins σ' H' s'/\W n σ' H') ?_ m0 ⟨σ,H,I,w0⟩);rintro n s1 ⟨σ1,H1,I1,w1⟩;refine uP hp (thn (hc pins s1 σ1 H1 _ I1 (turn n σ1 H1 w1)) λb s2 ⟨H2,I2,q2⟩=>?_);cases b with
 | true=>
  obtain⟨N,hN,q2⟩:=q2;rw[jT];refine uP hp (thn (hb pins s2 σ1 H2 _ I2 q2) λf s3 q3=>?_);cases f with
  | next=>
   obtain⟨σ3,H3,I3,n3⟩:=q3;obtain⟨m',hm,w3⟩:=hN σ3 H3 n3;exact O9
  | cont=>
   obtain⟨σ3,H3,I3,n3⟩:=q3;obtain⟨m',hm,w3⟩:=hN σ3 H3 n3;exact O9
  | brk=>exact q3
  | ret v=>exact q3
 | false=>
  rw[vG yM];exact u0 ⟨σ1,H2,I2,q2⟩
end
structure It where
 go:Nat->Hp->Prop
 yld:Nat->Hp->V->Hp->Prop
 stop:Nat->Hp->Prop
def WA(X:Cx)(pins:ay)(H:Hp)(b:vF):Prop :=
 H b=none/\b≠X.env.locals/\b∉X.fs/\jF/\(∀x c,X.env.cells.lookup x=some c->c≠b)/\∀p∈X.pn++pins,p.1≠b
theorem Inv.fpOk{X:Cx}{pins:ay}{σ:St}{H H':Hp}{s:vH}{b:vF}(I:aj)(hb:s.heap.objs.size<=b)(hn:H' b=none):WA X pins H' b:=by
 refine⟨hn,xl (yE I.lt hb),I.nofs hb,.inr (yL I.sz hb),λx c e z=>?_,λp hp z=>?_⟩
 ·obtain⟨v,q⟩:=I.cell x c e
  exact vM (yE q.lt (by rw[z];exact hb)) Kv
 ·exact vM (yE (zU (I.pin p hp).1) (by rw[z];exact hb)) Kv
structure Turn (P:vQ) (w:vY) (K:zC) (tg:vP) (J:It) (fp:List vF) (it:vF) (tn:Nat->vf->Prop):Prop where
 mem:it∈fp
 obj:∀i h,tn i h->∀b∈fp,∃o,h.get? b=some o/\∀v,o.data≠.cell v
 keep:∀i h h',tn i h->(∀b∈fp,∀o,h.get? b=some o->h'.get? b=some o)->tn i h'
 item:∀(X:Cx),X.prog=P->X.w=w->X.K=K->X.calm=true->∀(i:Nat)(pins:List (vF×Obj))(s:vH)(σ:St)(H:Hp)(E:vB->vH->Prop),Inv X pins σ H s->(∀b∈fp,WA X pins H b)->tn i s.heap->J.go i H ->
  vL (model P w) X.A (uO (.ref it)) (λr s1=>∃u,r=some u /\
   vL (model P w) X.A (u5 tg (.ref it) u) (λ_ s2=>∃x H',Inv X pins σ H' s2/\RelV x u/\J.yld i H x H'/\tn (i+1) s2.heap/\∀b∈fp,H' b=none) E s1) E s
 done:∀(X:Cx),X.prog=P->X.w=w->X.K=K->X.calm=true->∀(i:Nat)(pins:List (vF×Obj))(s:vH)(σ:St)(H:Hp)(E:vB->vH->Prop),Inv X pins σ H s->(∀b∈fp,WA X pins H b)->tn i s.heap->J.stop i H ->
  vL (model P w) X.A (uO (.ref it)) (λr s1=>r=none/\Inv X pins σ H s1) E s
 self:∀(A:ve)(i:Nat)(s:vH)(Q:vB->vH->Prop)(E:vB->vH->Prop),tn i s.heap->Q (.ref it) s->vL (model P w) A (sS (.ref it)) Q E s
abbrev TI:=St->Hp->DJ->Prop
def PIE(X:Cx)(pins:ay)(σ:St)(tg:vP)(R:DJ)(itv:vB)(s2:vH):Prop :=
 ∃(it:vF) (fp:eA) (tn:Nat->vf->Prop) (J:It) (H':Hp),itv=.ref it/\Inv X pins σ H' s2/\Turn X.prog X.w X.K tg J fp it tn/\tn 0 s2.heap/\(∀b∈fp,WA X pins H' b)/\R J H'
def PI(X:Cx)(tg iter:vP)(wi:TI):Prop :=
 ∀(pins:ay)(s:vH)(σ:St)(H:Hp)(R:DJ),Inv X pins σ H s->wi σ H R ->
  vL ai X.A (eval iter X.env) (λv s1=>vL ai X.A (sS v) RW X.xe s1) X.xe s
theorem q93{M:Model}{A:ve}{E:aS}{s:vH}{tg:vP}{it:vF}{u:vB}{o:Obj}{n:String}{vs:fw}{Q:rL}(ho:s.heap.get? it=some o)(hc:o.cls=.type n)(hd:o.data=.fields vs)(hn:["enumerate", "zip", "dict_itemiterator", "dict_reverseitemiterator", "odict_iterator", "itertools.zip_longest", "itertools.pairwise"].contains n=false)(hQ:Q () s):vL M A (u5 tg ib u) Q E s:=by
 unfold u5;cases tg <;> first
  | exact vJ hQ
  | (cases u <;> first
    | exact vJ hQ
    | (refine vA (wpAny_load ho ?_)
       rw[hc,hd];show vL M A (if (["enumerate", "zip", "dict_itemiterator", "dict_reverseitemiterator", "odict_iterator", "itertools.zip_longest", "itertools.pairwise"].contains n&&vs[0]?==some (uT _))=true then _ else _) Q E s;rw[vG (by intro h;rw[hn,Ze]at h;cases h)];exact vJ hQ))
noncomputable def Itl(K:zC)(a:vF):It :=
 ⟨λi H=>∃xs x,SqL K H a xs/\xs[i]?=some x,λi H x H'=>H'=H/\∀xs,SqL K H a xs->xs[i]?=some x,λi H=>∃xs,SqL K H a xs/\xs.length<=i⟩
noncomputable def Itt(K:zC)(a:vF):It :=
 ⟨λi H=>∃xs x,SqT K H a xs/\xs[i]?=some x,λi H x H'=>H'=H/\∀xs,SqT K H a xs->xs[i]?=some x,λi H=>∃xs,SqT K H a xs/\xs.length<=i⟩
noncomputable def Itr(lo:Int)(n:Nat):It:=⟨λi _=>i<n,λi H x H'=>H'=H/\x=.int (lo+i),λi _=>n<=i⟩
theorem qfa{P:vQ}{w:vY}{K:zC}{tg:vP}(a it:vF):Turn P w K tg abu [it] it (λi h=>h.IsListIter it a i) where
 mem:=by simp
 obj:=λi h st b hb=>by
  have e:b=it:=by simpa using hb
  subst e;obtain⟨o,e,c,d⟩:=st;exact⟨o,e,λv z=>by rw[d]at z;cases z⟩
 keep:=λi h h' st k=>st.at λo e=>k it (by simp) o e
 item:=by
  intro X hP hw hK hc i pins s σ H E I hf st hg;subst hP hw hK;obtain⟨xs,x,hq,hx⟩:=hg;obtain⟨its,rv,p,hz⟩:=I.list hq;obtain⟨u,hu,ru⟩:=rv.get hx;obtain⟨f0,f1,f2,f3,f4,f5⟩:=hf it (by simp);refine wpAny_pyNext_list_item st p.isList (x:=u) ⇑hu λh' st' sb=>?_;have I1:Inv X pins σ H { s with heap:=h' }:=I.turned (t':=s.toks) pA f0 f1 f3 f4 f5;obtain⟨o,e,c,d⟩:=id st';exact⟨u,rfl,q93 (s:={ s with heap:=h' }) e c d (by decide) ⟨x,H,I1,ru,⟨rfl,λys hy=>by rw[I.list_inj hy hq];exact hx⟩,st',AU⟩⟩
 done:=by
  intro X hP hw hK hc i pins s σ H E I hf st hg;subst hP hw hK;obtain⟨xs,hq,hx⟩:=hg;obtain⟨its,rv,p,hz⟩:=I.list hq;obtain⟨f0,f1,f2,f3,f4,f5⟩:=hf it (by simp);have hl:=rv.length;exact wpAny_pyNext_list_end gB st p.isList (by simp;omega) λh' eb=>db
 self:=λ_ _ _ _ _ st h=>wpAny_pyIter_listiter st h
theorem qcI{P:vQ}{w:vY}{K:zC}{tg:vP}(a it:vF):Turn P w K tg abt [it] it (λi h=>h.IsTupleIter it a i) where
 mem:=by simp
 obj:=λi h st b hb=>by
  have e:b=it:=by simpa using hb
  subst e;obtain⟨o,e,c,d⟩:=st;exact⟨o,e,λv z=>by rw[d]at z;cases z⟩
 keep:=λi h h' st k=>st.at λo e=>k it (by simp) o e
 item:=by
  intro X hP hw hK hc i pins s σ H E I hf st hg;subst hP hw hK;obtain⟨xs,x,hq,hx⟩:=hg;obtain⟨its,rv,p,hz⟩:=I.tuple hq;obtain⟨u,hu,ru⟩:=rv.get hx;obtain⟨f0,f1,f2,f3,f4,f5⟩:=hf it (by simp);refine wpAny_pyNext_tuple_item st (show s.heap.IsTuple a its.toArray from p) (x:=u) ⇑hu λh' st' sb=>?_;have I1:Inv X pins σ H { s with heap:=h' }:=I.turned (t':=s.toks) pA f0 f1 f3 f4 f5;obtain⟨o,e,c,d⟩:=id st';exact⟨u,rfl,q93 (s:={ s with heap:=h' }) e c d (by decide) ⟨x,H,I1,ru,⟨rfl,λys hy=>by rw[I.tuple_inj hy hq];exact hx⟩,st',AU⟩⟩
 done:=by
  intro X hP hw hK hc i pins s σ H E I hf st hg;subst hP hw hK;obtain⟨xs,hq,hx⟩:=hg;obtain⟨its,rv,p,hz⟩:=I.tuple hq;obtain⟨f0,f1,f2,f3,f4,f5⟩:=hf it (by simp);have hl:=rv.length;exact wpAny_pyNext_tuple_end gB st (show s.heap.IsTuple a its.toArray from p) (by simp;omega) λh' eb=>db
 self:=λ_ _ _ _ _ st h=>wpAny_pyIter_tupleiter st h
theorem qd2{P:vQ}{w:vY}{K:zC}{tg:vP}(it:vF)(lo:Int)(n:Nat):Turn P w K tg (Itr lo n) [it] it (λi h=>IsRangeIter h it (lo+(i:Nat)*1) (ky-(i:Nat)) 1) where
 mem:=by simp
 obj:=λi h st b hb=>by
  have e:b=it:=by simpa using hb
  subst e;exact⟨_,st,λv z=>by
   have z':Data.fields _=Data.cell v:=z;cases z'⟩
 keep:=λi h h' st k=>k it (by simp) _ st
 item:=by
  intro X hP hw hK hc i pins s σ H E I hf st hg;subst hP hw hK;obtain⟨f0,f1,f2,f3,f4,f5⟩:=hf it (by simp);have W:=Walks.range (prog:=X.prog) (w:=X.w) gB it lo 1 n;refine W.item i s _ _ hg st λv h' tk hv st' kk=>?_;obtain⟨t,rfl⟩:=hv;have I1:Inv X pins σ H { s with heap:=h',toks:=tk }:=I.turned (λb o hb e=>kk b o (by simpa using hb) e) f0 f1 f3 f4 f5;refine⟨_,rfl,q93 (s:={ s with heap:=h',toks:=tk }) (n := "range_iterator") st' rfl rfl (by decide) ⟨.int (lo+i),H,I1,⟨t,?_⟩,cH,st',AU⟩⟩;rw[wX]
 done:=by
  intro X hP hw hK hc i pins s σ H E I hf st hg;subst hP hw hK;obtain⟨f0,f1,f2,f3,f4,f5⟩:=hf it (by simp);exact wpAny_pyNext_range_end gB st (by have:n<=i:=hg;omega) λh' eb=>db
 self:=λ_ _ _ _ _ st h=>wpAny_pyIter_rangeiter st h
section
variable{X:Cx}{tg:vP}
noncomputable def iList(K:zC)(tl:TE):TI:=λσ H R=>tl σ H λx H1=>∃a,x=.ref a/\(∃xs,SqL K H1 a xs)/\R abu H1
noncomputable def iTup(K:zC)(tl:TE):TI:=λσ H R=>tl σ H λx H1=>∃a,x=.ref a/\(∃xs,SqT K H1 a xs)/\R abt H1
theorem q7U{l:vP}{tl:TE}(hl:PE X l tl):PI X tg l (iList X.K tl):=by
 intro pins s σ H R I h;refine thn DD λv s1 ⟨x,H1,I1,r1,q1⟩=>?_;obtain⟨a,e,⟨xs,hq⟩,q⟩:=q1;subst e;cases r1;obtain⟨its,rv,p,hz⟩:=I1.list hq;refine ua p.isList ?_;refine⟨s1.heap.objs.size,HN,_,_,H1,rfl,I1.kept (t':=s1.toks) λb o e=>zJ _ e,qfa a _,px,lR,q⟩;have e:b=s1.heap.objs.size:=by simpa using hb
 subst e;exact I1.fpOk cL pR
theorem qk4{l:vP}{tl:TE}(hl:PE X l tl):PI X tg l (iTup X.K tl):=by
 intro pins s σ H R I h;refine thn DD λv s1 ⟨x,H1,I1,r1,q1⟩=>?_;obtain⟨a,e,⟨xs,hq⟩,q⟩:=q1;subst e;cases r1;obtain⟨its,rv,p,hz⟩:=I1.tuple hq;refine wpAny_pyIter_tuple (show s1.heap.IsTuple a its.toArray from p) ?_;refine⟨s1.heap.objs.size,HN,_,_,H1,rfl,I1.kept (t':=s1.toks) λb o e=>zJ _ e,qcI a _,px,lR,q⟩;have e:b=s1.heap.objs.size:=by simpa using hb
 subst e;exact I1.fpOk cL pR
theorem q9V{pins:ay}{σ:St}{H:Hp}{s:vH}{R:DJ}{E:aS}{lo hi:Int}{t u v:Tok}{tk:Nat}(I:aj)(h1:-(2^62)<=lo)(h2:lo<2^62)(h3:-(2^62)<=hi)(h4:hi<2^62)(q:R (Itr lo (hi-lo).toNat) H):vL ai X.A (sS aH) RW E { s with heap:=s.heap.push { cls:=.type "range", data:=.fields #[BS,BT,Em] },toks:=tk }:=by
 refine wpAny_pyIter_range (IsRange.new ..) (small_one h1 h2 h3 h4) ?_;have I1:Inv X pins σ H { s with heap:=s.heap.push { cls:=.type "range", data:=.fields #[BS,BT,Em] },toks:=tk }:=I.kept λb o e=>zJ _ e;refine⟨(s.heap.push { cls:=.type "range", data:=.fields #[BS,BT,Em] }).objs.size,[(s.heap.push { cls:=.type "range", data:=.fields #[BS,BT,Em] }).objs.size],_,_,H,rfl,
  I1.kept (t':=tk) λb o e=>zJ _ e,qd2 _ lo (hi-lo).toNat,?_,λb hb=>?_,q⟩
 ·have e1:lo+Ah*1=lo:=by simp
  have e2:Nx-Ah=Builtin.Range.rangeSize lo hi 1:=by rw[rangeSize_one];split <;> omega
  show IsRangeIter _ _ (lo+Ah*1) (Nx-Ah) 1;rw[e1,e2];exact zX _ rfl
 ·have e:b=(s.heap.push { cls:=.type "range", data:=.fields #[BS,BT,Em] }).objs.size:=by simpa using hb
  subst e;exact I1.fpOk cL pR
noncomputable def iRng1(ta:TA):TI:=λσ H R=>ta σ H λvs H1=>∃j:Int,vs=[.int j]/\-(2^62)<=j/\j<2^62/\R (Itr 0 j.toNat) H1
noncomputable def iRng2(ta:TA):TI:=λσ H R=>ta σ H λvs H1=>∃i j:Int,vs=[kE,.int j]/\(-(2^62)<=i/\i<2^62/\-(2^62)<=j/\j<2^62)/\R (Itr i (j-i).toNat) H1
theorem qeQ{a:vP}{ta:TA}{p pos:Pos}(hg:BE)(hm:lD)(ha:PA X [a] ta)(hs:CC:=by rfl):PI X tg QM (iRng1 ta):=by
 intro pins s σ H R I h;refine Call_ (q0p I hg hm boot_range (PyProof.Rows.callWith_type1 (thn fQ λus s1 ⟨vs,H1,I1,r1,q1⟩=>?_) hs rfl));obtain⟨j,e,q1,q2,q⟩:=q1;subst e;cases r1 with
 | cons r rr=>
  cases rr;obtain⟨t,rfl⟩:=r;exact call_range_1 (q9V I1 ∅ ∅ q1 q2 ⇑q)
theorem qfs{a b:vP}{ta:TA}{p pos:Pos}(hg:BE)(hm:lD)(ha:PA X pK ta)(hs:AW:=by rfl)(hs2:CB:=by rfl):
  PI X tg Si (iRng2 ta):=by
 intro pins s σ H R I h;refine Call_ (q0p I hg hm boot_range (PyProof.Rows.callWith_type1 (thn fQ λus s1 ⟨vs,H1,I1,r1,q1⟩=>?_) (by rw[hs,hs2]) (by rw[hs2];rfl)));obtain⟨i,j,e,⟨q1,q2,q3,q4⟩,q⟩:=q1;subst e;cases r1 with
 | cons r rr=>
  cases rr with
  | cons r' rr=>
   cases rr;obtain⟨t,rfl⟩:=r;obtain⟨t',rfl⟩:=r';exact call_range_2 (q9V I1 q1 q2 q3 q4 q)
noncomputable def tFor(wi:TI)(g:TG)(tb:TS):TS:=λD σ H=>wi σ H λJ H1=>∃W:Nat->Nat->St->Hp->Prop,(∃m,W 0 m σ H1)/\∀i m σ H,W i m σ H ->
 (J.stop i H/\D.nx σ H)\/(J.go i H/\∃N:St->Hp->Prop,(∀σ' H',N σ' H'->∃m',m'<m/\W (i+1) m' σ' H')/\∀x H',J.yld i H x H'->g x σ H' λσ2 H2=>tb { D with nx:=N,ct:=N,bk:=D.nx } σ2 H2)
noncomputable def zAA(fp:eA)(h:vf):List Am:=fp.filterMap λb=>(h.get? b).map λo=>(b,o)
theorem q34{fp:eA}{h:vf}{b:vF}{o:Obj}(hb:b∈fp)(e:h.get? b=some o):(b,o)∈zAA fp h:=Z0.mpr ⟨b,hb,by rw[e];rfl⟩
theorem qeh{fp:eA}{h:vf}{p:Am}(hp:p∈zAA fp h):p.1∈fp/\h.get? p.1=some p.2:=by
 obtain⟨b,hb,e⟩:=Z0.mp hp;cases q:h.get? b with
 | none=>rw[q]at e;cases e
 | some o=>
  rw[q]at e;have e':(b,o)=p:=zy e;subst e';exact⟨hb,q⟩
theorem Inv.pinned{pins:ay}{σ:St}{H:Hp}{s:vH}{fp:eA}(I:aj)(hf:∀b∈fp,WA X pins H b)(ho:∀b∈fp,∃o,s.heap.get? b=some o/\∀v,o.data≠.cell v):Inv X (pins++zAA fp s.heap) σ H s :=
 I.pins_of λp hp=>(zL.mp hp).elim (λz=>I.pin p (zF _ z)) λz=>by
  obtain⟨hb,e⟩:=qeh z;obtain⟨f0,f1,f2,_⟩:=hf p.1 hb;obtain⟨o,e',d⟩:=ho p.1 hb;rw[e]at e';cases e';exact⟨e,f0,f1,f2,d⟩
theorem Inv.unpinned{pins pl:ay}{σ:St}{H:Hp}{s:vH}(I:Inv X (pins++pl) σ H s):Inv X pins σ H s:=I.pins_of λp hp=>I.pin p (zF _ (zI _ hp))
theorem q7i{iter:vP}{body:Dg}{wi:TI}{g:TG}{tb:TS}{pos:Pos}(hp:kQ)(hc:cI)(hi:M0)(hg:PG X tg g)(hb:PSs X body tb)(hs:∀x,uA iter X.env x=pure x:=by intro _;rfl):PS X Na (tFor wi g tb):=by
 intro pins s σ H D I h;refine wpAny_For (thn DE λv s1 h1=>thn h1 λitv s2 h2=>?_) hs;obtain⟨it,fp,tn,J,H2,e,I2,T,st2,f2,W,⟨m0,w0⟩,turn⟩:=h2;subst e;have stat:∀{H':Hp},(∀b∈fp,H' b=none)->∀b∈fp,WA X pins H' b:=λhn b hb=>⟨hn b hb,(f2 b hb).2⟩;refine codeAny_forLoop_any (λn s'=>∃i σ' H',Inv X pins σ' H' s'/\tn i s'.heap/\(∀b∈fp,H' b=none)/\W i n σ' H') ?_ m0 ⟨0,σ,H2,I2,st2,λb hb=>(f2 b hb).1,w0⟩;rintro n s3 ⟨i,σ3,H3,I3,st3,fr3,w3⟩;rcases turn i n σ3 H3 w3 with⟨stop,qn⟩|⟨go,N,hN,step⟩
 ·refine uP hp (thn (T.done X rfl rfl rfl hc i pins s3 σ3 H3 X.xe I3 (stat fr3) st3 stop) λr s4 ⟨hr,I4⟩=>?_)
  subst hr;exact u0 ⟨σ3,H3,I4,qn⟩
 ·refine uP hp (thn (T.item X rfl rfl rfl hc i pins s3 σ3 H3 X.xe I3 (stat fr3) st3 go) λr s4 ⟨u,hr,h4⟩=>?_)
  subst hr;refine uP hp (thn h4 λ_ s5 ⟨x,H5,I5,r5,y5,st5,fr5⟩=>?_);have I5':=I5.pinned TH (T.obj _ _ st5);refine uP hp (thn (hg _ s5 σ3 H5 x u _ I5' r5 (step x H5 y5)) λ_ s6 ⟨σ6,H6,I6,q6⟩=>?_);refine uP hp (thn (hb _ s6 σ6 H6 _ I6 q6) λf s7 q7=>?_);have again:∀{σ7:St}{H7:Hp},Inv X (pins++zAA fp s5.heap) σ7 H7 s7->N σ7 H7->∃m,m<n/\∃i σ' H',Inv X pins σ' H' s7/\tn i s7.heap/\(∀b∈fp,H' b=none)/\W i m σ' H':=λ{σ7 H7} I7 n7=>by
   obtain⟨m',hm,w7⟩:=hN σ7 H7 n7;refine⟨m',hm,i+1,σ7,H7,I7.unpinned,T.keep _ _ _ st5 λb hb o e=>(I7.pin (b,o) NJ).1,lR,w7⟩;obtain⟨o,e,d⟩:=T.obj _ _ st5 b hb;exact(I7.pin (b,o) NJ).2.1
  cases f with
  | next=>obtain⟨σ7,H7,I7,n7⟩:=q7;exact again I7 n7
  | cont=>obtain⟨σ7,H7,I7,n7⟩:=q7;exact again I7 n7
  | brk=>obtain⟨σ7,H7,I7,q7⟩:=q7;exact⟨σ7,H7,I7.unpinned,q7⟩
  | ret v=>obtain⟨x7,σ7,H7,I7,r7,q7⟩:=q7;exact⟨x7,σ7,H7,I7.unpinned,r7,q7⟩
end
abbrev R2:=V->V->Hp->VK->Prop
def OpR(X:Cx)(f:rH)(r:R2):Prop :=
 ∀(pins:ay)(s:vH)(σ:St)(H:Hp)(x y:V)(v u:vB)(Q:VK),Inv X pins σ H s->RelV x v->RelV y u->r x y H Q ->
  vL ai X.A Vm cT X.xe s
def UnR(X:Cx)(f:vB->Sem vB)(r:MZ):Prop :=
 ∀(pins:ay)(s:vH)(σ:St)(H:Hp)(x:V)(v:vB)(Q:VK),Inv X pins σ H s->RelV x v->r x H Q ->
  vL ai X.A (f v) cT X.xe s
def X2(X:Cx)(f:vB)(r:GW):Prop :=
 ∀(pins:ay)(s:vH)(σ:St)(H:Hp)(xs:bu)(us:bH)(Q:VK),Inv X pins σ H s->Y7 xs us->r xs H Q ->
  vL ai X.A (call f us) cT X.xe s
def TruR(X:Cx)(r:V->Hp->j0->Prop):Prop :=
 ∀(pins:ay)(s:vH)(σ:St)(H:Hp)(x:V)(v:vB)(Q:j0),Inv X pins σ H s->RelV x v->r x H Q ->
  vL ai X.A TF Df X.xe s
noncomputable def tOp(r:R2)(ta tb:TE):TE:=λσ H Q=>ta σ H λx H1=>tb σ H1 λy H2=>r x y H2 Q
noncomputable def tUn(r:MZ)(ta:TE):TE:=λσ H Q=>ta σ H λx H1=>r x H1 Q
noncomputable def rI(C:Oq)(g:LY):R2:=λx y H Q=>∃i j,x=.int i/\y=.int j/\C i j/\Q o7 H
noncomputable def rI0(g:LY):R2:=λx y H Q=>∃i j,x=.int i/\y=.int j/\Q o7 H
def rU(g:Int->V):V->Hp->VK->Prop:=λx H Q=>∃i,x=.int i/\Q (g i) H
section
variable{X:Cx}{a b c:vP}{ta tb tc:TE}{pos:Pos}
theorem binT(ha:m6)(hb:Ef){pins:ay}{s:vH}{σ:St}{H:Hp}{R:V->V->Hp->Prop}(I:aj)(h:EQ){Q:aS}{f:rH}(hf:∀v u s2 x y H2,Inv X pins σ H2 s2->RelV x v->RelV y u->R x y H2->vL ai X.A Vm Q X.xe s2):
  vL ai X.A MC k5 X.xe s:=by
 refine thn cX λv s1 ⟨x,H1,I1,r1,q1⟩=>?_;refine thn Bi λu s2 ⟨y,H2,I2,r2,q2⟩=>?_;exact hf v u s2 x y H2 I2 r1 r2 q2
theorem qll{op:Operator}{r:R2}(ho:OpR X (uQ op) r)(ha:m6)(hb:Ef):PE X Th Ho:=by
 intro pins s σ H Q I h;exact wpAny_BinOp lO
theorem qlg{op:UnaryOp}{r:MZ}(ho:UnR X (unaryOp op) r)(ha:m6):PE X (.UnaryOp op a pos) (tUn r ta):=by
 intro pins s σ H Q I h;exact UnaryOp_ (thn cX λv s1 ⟨x,H1,I1,r1,q1⟩=>ho pins s1 σ H1 x v Q I1 r1 q1)
theorem opI{f:rH}{C:Oq}{g:Int->Int->Int}(rule:∀(i j:Int)(t u:Tok)(s:vH)(Q:aS)(E:aS),C i j->Q aaD { s with toks:=s.toks+1 }->vL ai X.A Jd Q E s):
  OpR X f (rI C λi j=>.int o7):=by
 intro pins s σ H x y v u Q I rx ry h;obtain⟨i,j,rfl,rfl,hc,q⟩:=h;obtain⟨t,rfl⟩:=rx;obtain⟨t',rfl⟩:=ry;exact rule i j t t' s _ _ hc Qb
theorem opI0{f:rH}{g:Int->Int->Int}(rule:∀(i j:Int)(t u:Tok)(s:vH)(Q:aS)(E:aS),Q aaD { s with toks:=s.toks+1 }->vL ai X.A Jd Q E s):
  OpR X f (rI0 λi j=>.int o7):=by
 intro pins s σ H x y v u Q I rx ry h;obtain⟨i,j,rfl,rfl,q⟩:=h;obtain⟨t,rfl⟩:=rx;obtain⟨t',rfl⟩:=ry;exact rule i j t t' s _ _ Qb
theorem opB0{f:rH}{g:Os}(rule:∀(i j:Int)(t u:Tok)(s:vH)(Q:aS)(E:aS),Q (.bool o7) s->vL ai X.A Jd Q E s):
  OpR X f (rI0 λi j=>.bl o7):=by
 intro pins s σ H x y v u Q I rx ry h;obtain⟨i,j,rfl,rfl,q⟩:=h;obtain⟨t,rfl⟩:=rx;obtain⟨t',rfl⟩:=ry;exact rule i j t t' s _ _ ⟨.bl o7,H,I,rfl,q⟩
def CDiv(i j:Int):Prop:=0<j/\j<1073741824
def CPow(i j:Int):Prop:=0<=j/\j<=1000000/\i.natAbs<2^64
def CMul(i j:Int):Prop:=(-(2^64)<i/\i<2^64)\/(-(2^64)<j/\j<2^64)
theorem CMul.ok{i j:Int}(h:CMul i j):IntMulOk i j:=by
 rcases h with⟨h1,h2⟩|⟨h1,h2⟩
 ·exact .of_left Qs
 ·exact .of_right Qs
theorem qkH:OpR X J1 (rI0 λi j=>.int (i+j)):=opI0 λ_ _ _ _ _ _ _ q=>add_int q
theorem qjT:OpR X (uQ .Sub) (rI0 λi j=>.int (i-j)):=opI0 λ_ _ _ _ _ _ _ q=>sub_int q
theorem qkp:OpR X (uQ .Mult) (rI CMul λi j=>.int (i*j)):=opI λ_ _ _ _ _ _ _ hc q=>mul_int q hc.ok
theorem qiA:OpR X (uQ .FloorDiv) (rI CDiv λi j=>.int (i/j)):=opI λi j _ _ _ _ _ hc q=>by
 have h1:A9<j:=hc.1;have h2:j<1073741824:=hc.2;exact floordiv_int ∅ (by rw[Int.fdiv_eq_ediv_of_nonneg i ∅];exact q) (.inl (PyProof.noPylong_small ∅))
theorem qkQ:OpR X (uQ .Mod) (rI (λ_ j=>0<j) λi j=>.int (i%j)):=opI λi j _ _ _ _ _ hc q=>by
 have h1:A9<j:=hc;exact mod_int' ∅ (by rw[Int.fmod_eq_emod_of_nonneg i ∅];exact q)
theorem qkx:OpR X (uQ .Pow) (rI CPow λi j=>.int (i^j.toNat)):=opI λ_ _ _ _ _ _ _ hc q=>pow_int_small hc.1 hc.2.1 hc.2.2 q
theorem unI{f:vB->Sem vB}{g:cM}(rule:∀(i:Int)(t:Tok)(s:vH)(Q:aS)(E:aS),Q (.int (g i) s.toks) { s with toks:=s.toks+1 }->vL ai X.A (f AK) Q E s):
  UnR X f (rU λi=>.int (g i)):=by
 intro pins s σ H x v Q I rx h;obtain⟨i,rfl,q⟩:=h;obtain⟨t,rfl⟩:=rx;exact rule i t s _ _ ⟨.int (g i),H,jR,cf,q⟩
theorem qjC:UnR X (unaryOp .USub) (rU λi=>.int (-i)):=unI λ_ _ _ _ _ q=>neg_int q
end
section
variable{X:Cx}{a b c:vP}{ta tb tc:TE}{pos:Pos}
theorem qjA{pins:ay}{σ:St}{H:Hp}{s:vH}{Q:VK}{k k':Bool}(I:aj)(q:Q (.bl k) H)(e:k=k'):EP X pins σ Q (.bool k') s:=by
 subst e;exact⟨.bl k,H,I,rfl,q⟩
theorem qhS:OpR X (uM .Lt) (rI0 λi j=>.bl (decide (i<j))):=opB0 λ_ _ _ _ _ _ _ q=>lt_int q
theorem qlf:OpR X (uM .Gt) (rI0 λi j=>.bl (decide (j<i))):=opB0 λ_ _ _ _ _ _ _ q=>gt_int q
theorem ql1:OpR X (uM .GtE) (rI0 λi j=>.bl (decide (j<=i))):=opB0 λ_ _ _ _ _ _ _ q=>ge_int q
theorem qjk:OpR X (uM .IsNot) (λx y H Q=>y=.non/\Q (.bl (!decide (x=.non))) H):=by
 intro pins s σ H x y v u Q I rx ry h;obtain⟨rfl,q⟩:=h;cases ry;refine isnot_none_gen (qjA I q ?_);cases x <;> first
  | (cases rx;rfl)
  | (obtain⟨t,rfl⟩:=rx;rfl)
theorem OpR.or{f:rH}{r r':R2}(h:OpR X f r)(h':OpR X f r'):OpR X f HB:=by
 intro pins s σ H x y v u Q I rx ry q;rcases q with q|q
 ·exact h pins s σ H x y v u Q I rx ry q
 ·exact h' pins s σ H x y v u Q I rx ry q
theorem WF(b:vP){op:sK}(h:op≠.In:=by decide)(h2:op≠.NotIn:=by decide):uD op b=false:=by
 have e1:acg=false:=by cases op <;> first|rfl|exact vM rfl h
 have e2:Ve=false:=by cases op <;> first|rfl|exact vM rfl h2
 cases b <;> simp[uD,e1,e2]
theorem qiO{op:sK}{r:R2}(ho:EZ)(ha:m6)(hb:Ef)(hm:CW):PE X kC Ho:=by
 intro pins s σ H Q I h;exact wpAny_Compare1 lO hm
noncomputable def tTest(t:TE):TT:=λσ H Q=>t σ H λx H'=>∃k,x=.bl k/\Q k H'
theorem qiD{op:sK}{r:R2}(ho:EZ)(ha:m6)(hb:Ef)(hm:CW):PT X kC (tTest Ho):=by
 intro pins s σ H Q I h;refine tU (thn cX λv s1 ⟨x,H1,I1,r1,q1⟩=>thn Bi λu s2 ⟨y,H2,I2,r2,q2⟩=>
  thn (ho pins s2 σ H2 x y v u _ I2 r1 r2 q2) λc s3 ⟨z,H3,I3,r3,k,e,q3⟩=>?_) hm
 subst e;cases r3;exact uE ⟨H3,I3,q3⟩
def TruV(K:zC)(x:V)(H:Hp)(k:Bool):Prop :=
 match x with
 | .non=>k=false
 | .bl b=>k=b
 | .int i=>k=(i != 0)
 | .str y=>y.length<=sizeLine/\k=(abU != 0)
 | .byt y=>y.size<=sizeLine/\k=((y.size:Int) != 0)
 | .ref p=>(∃xs,SqL K H p xs/\k=!xs.isEmpty)\/(∃xs,SqT K H p xs/\k=!xs.isEmpty)\/∃kvs,H p=some cV/\k=!kvs.isEmpty
 | _=>False
theorem qcW{κ:Type}{kvs:iM}{vs:ph}(r:BR):(!vs.isEmpty)=!kvs.isEmpty:=by
 cases r <;> rfl
theorem q70{xs:bu}{its:bH}(r:Y7 xs its):(!its.toArray.isEmpty)=!xs.isEmpty:=by
 cases r <;> simp
theorem Wg:ab9<2^63:=by rw[vh];decide
theorem qkK:TruR X (λx H Q=>∃k,TruV X.K x H k/\Q k H):=by
 intro pins s σ H x v Q I rx h;obtain⟨k,e,q⟩:=h;have hl:=Wg;have hs:sizeLine=16777216:=vh;cases x with
 | non=>
  cases rx;have e':k=false:=e;subst e';exact truthy_none LH
 | bl b=>
  cases rx;have e':k=b:=e;subst e';exact uE LH
 | int i=>
  obtain⟨t,rfl⟩:=rx;have e':k=(i != 0):=e;subst e';exact PySem.P.truthy_int LH
 | str y=>
  obtain⟨t,rfl⟩:=rx;obtain⟨hy,e'⟩:y.length<=sizeLine/\k=(abU != 0):=e;subst e';exact PySem.P.truthy_str ∅ ⟨H,jR,q⟩
 | byt y=>
  obtain⟨t,rfl⟩:=rx;obtain⟨hy,e'⟩:y.size<=sizeLine/\k=((y.size:Int) != 0):=e;subst e';exact PySem.W.truthy_bytes ∅ ⟨H,jR,q⟩
 | ref p=>
  cases rx;have e':(∃xs,SqL X.K H p xs/\k=!xs.isEmpty)\/(∃xs,SqT X.K H p xs/\k=!xs.isEmpty)\/∃kvs,H p=some cV/\k=!kvs.isEmpty:=e;rcases e' with⟨xs,hx,e'⟩|⟨xs,hx,e'⟩|⟨kvs,hx,e'⟩
  ·subst e'
   obtain⟨its,r,pl,hz⟩:=I.list hx;have hlen:=r.length;exact wpAny_truthy_list pl.isList (by simp only[zP];omega) ⟨H,I.tok _,by rw[q70 r];exact q⟩
  ·subst e'
   obtain⟨its,r,pl,hz⟩:=I.tuple hx;have hlen:=r.length;exact truthy_tuple pl (by simp only[zP];omega) ⟨H,I.tok _,by rw[q70 r];exact q⟩
  ·subst e'
   obtain⟨hz,hS,vs,r,m⟩:kvs.length<=sizeLine/\(p==uJ)=false/\∃vs,KV kvs vs/\s.heap.DictOf oN p vs:=I.hok p _ hx;have hlen:kvs.length=vs.length:=Paired.length r;exact wpAny_truthy_dict hS m ∅ ⟨H,I.tok _,by rw[qcW r];exact q⟩
 | _=>exact(show False from e).elim
theorem q4D(ha:m6)(he:∀whole,sR a X.env whole=(do let v <- whole;sP a.pos;holding [v] TF)):
  PT X a (λσ H Q=>ta σ H λx H'=>∃k,TruV X.K x H' k/\Q k H'):=by
 intro pins s σ H Q I h;exact isTrue_plain (thn cX λv s1 ⟨x,H1,I1,r1,q1⟩=>qkK pins s1 σ H1 x v Q I1 r1 q1) (he _)
theorem vals1{x:V}{us:bH}(r:Y7 [x] us):∃u,us=[u]/\RelV x u:=by
 cases r with
 | cons r1 r2=>cases r2;exact NA
theorem vals2{x y:V}{us:bH}(r:Y7 [x,y] us):∃u w',us=[u,w']/\RelV x u/\RelV y w':=by
 cases r with
 | cons r1 r2=>
  cases r2 with
  | cons r3 r4=>cases r4;exact⟨_,_,rfl,r1,r3⟩
theorem q9z:X2 X aaL (λxs H Q=>∃i,xs=[kE]/\Q (.int (if i<0 then -i else i)) H):=by
 intro pins s σ H xs us Q I r h;obtain⟨i,rfl,q⟩:=h;obtain⟨u,rfl,t,rfl⟩:=vals1 r;exact call_abs_int λu tk=>⟨.int (if i<0 then -i else i),H,jR,cf,q⟩
end
structure ObjM (h:vf) (x dx C:vF) (mA:Str->Option vB):Prop where
 obj:h.get? x=some (ZS C dx)
 ns:h.Ns1 dx mA
 ne:dx≠x
theorem qf8{h:vf}{dx:vF}{mA:bO}(n:h.Ns1 dx mA):∃od,h.get? dx=some od/\∀name,Zf name od=some (mA name):=by
 obtain⟨o,es,ep,ho,hd,hk,_,hm⟩:=n;refine⟨o,ho,λname=>?_⟩;have e:=hm name;unfold nsFind findBy at e;rw[<- Array.find?_toList]at e;unfold Zf;rw[hd]
 dsimp only
 split
 ·rename_i y q
  rw[q]at e;exact vm some e
 ·rename_i q
  rw[q]at e;have a:es.toList.any (·.refKey)=false:=by
   rw[List.any_eq_false];intro y hy;obtain⟨z,t,hkey⟩:=hk y (Array.mem_toList_iff.mp hy);simp[DictEntry.refKey,hkey]
  have a':¬es.toList.any (·.refKey)=true:=by rw[a];exact yM
  rw[vG a'];exact vm some e
theorem ObjM.look{h:vf}{x dx C:vF}{mA:bO}(I:ObjM h x dx C mA):∃od,PySem.W.InstAt h x (ZS C dx) C (some od)/\∀name,Zf name od=some (mA name) :=
 let ⟨od,ho,hl⟩:=qf8 I.ns
 ⟨od,⟨I.obj,rfl,rfl,ho⟩,hl⟩
section
variable{prog:vQ}{w:vY}{A:ve}{E:vB->vH->Prop}{s:vH}{K:zC}{x dx C f:vF}{mA:Str->Option vB}{name:Str}{v:vB}
end
theorem zAk.some_of{v:V}{o:BC}(r:zAk nE o):∃u,o=some u/\RelV v u:=by
 cases o with
 | none=>exact(show False from r).elim
 | some u=>exact⟨u,rfl,r⟩
section
variable{P:vQ}{w:vY}{H H':Hp}{h h':vf}{a C dx:vF}{fs fs':List (Str×V)}
theorem qip(hok:jz)(e:H a=some acG):∃mA,ObjM h a dx C mA/\(∀f,zAk N1 (mA f))/\PySem.Within mA (fs.map (·.1))/\fs.length<=1000/\H dx=some M7:=by
 obtain⟨d,z,ne,ob,mA,n,r,q⟩:=(show XH P w H h a acG from hok a _ e);exact⟨mA,⟨ob,n,ne⟩,r,q,z,d⟩
end
structure Cls (K:zC) (C:vF):Prop where
 pg:YM K C Str.empty=true
 hd:PySem.W.hasDictIn K C=true
 po:PySem.W.plainOver K C=true
 sa:YX K (.ref C) "__setattr__" = some (some (.builtin "object.__setattr__"))
theorem Cls.get{K:zC}{C:vF}(c:Cls K C)(f:Str):YM K C f=true:=c.pg
section
variable{X:Cx}{pins:List (vF×Obj)}{σ:St}{H:Hp}{s:vH}{a C dx:vF}{fs:List (Str×V)}{f:Str}{v:V}{A:ve}{E:vB->vH->Prop}
end
section
variable{X:Cx}{o e value:vP}{f:Str}{pos pos' tpos:Pos}{ta tv:TE}
end
section
variable{X:Cx}{pins:List (vF×Obj)}{σ:St}{H:Hp}{s:vH}{A:ve}{E:vB->vH->Prop}{Q:vB->vH->Prop}{c:vB}{b:Bool}
inductive TyOf (K:zC) (H:Hp):V->vB->Prop where
 | non:TyOf K H .non (.type "NoneType")
 | bl (x:Bool):TyOf K H (.bl x) (.type "bool")
 | int (i:Int):TyOf K H (.int i) (.type "int")
 | str (x:Str):TyOf K H (.str x) (.type "str")
 | flt (x:UInt64):TyOf K H (.flt x) (.type "float")
 | lst {a:vF} {xs:List V} (e:H a=some (.lst xs)):TyOf K H (.ref a) (.type "list")
 | frz {a:vF} {o:Obj} {xs:List V} (e:H a=some (.frz o (.lst xs))):TyOf K H (.ref a) (.type "list")
 | tup {a:vF} {xs:List V} (e:H a=some (.tup xs)):TyOf K H (.ref a) (.type "tuple")
 | dK {a:vF} {kvs:List (Key×V)} (e:H a=some (.dK kvs)):TyOf K H (.ref a) (.type "dict")
 | dT {a:vF} {kvs:List (List Key×V)} (e:H a=some (.dT kvs)):TyOf K H (.ref a) (.type "dict")
 | ins {a C dx:vF} {fs:List (Str×V)} (e:H a=some (.ins C dx fs)) (cl:Cls K C) (ha:YX K (.ref C) "__class__" = some (some (.builtin "object.__class__")))
   (hn:PySem.W.specialIn K (.builtin "object.__class__") "__get__" = some (some (.builtin "getset_descriptor.__get__"))) (htk:PySem.W.takesIn K (.builtin "object.__class__")=some true)
   (hm:PySem.W.mroIn K C (.type "object")=some true):TyOf K H (.ref a) (.ref C)
theorem qf0{x:V}{u t:vB}(I:aj)(rx:Uz)(ty:TyOf X.K H x t)(e:Zg X.K t c=some b)(h:∀tk,Q (.bool b) { s with toks:=tk }):
  vL ai A (call O7 [u,c]) Q E s:=by
 cases ty with
 | non=>cases (show u=Value.none from rx);exact yn PySem.W.kitx_none I.kIn True.intro e (λz=>nomatch z) h
 | bl y=>cases (show u=Value.bool y from rx);exact yn PySem.W.kitx_bool I.kIn True.intro e (λz=>nomatch z) h
 | int i=>obtain⟨t,q⟩:=(show ∃t,u=Value.int i t from rx);cases q;exact yn PySem.W.kitx_int I.kIn True.intro e (λz=>nomatch z) h
 | str y=>obtain⟨t,q⟩:=(show ∃t,u=Value.str y t from rx);cases q;exact yn PySem.W.kitx_str I.kIn True.intro e (λz=>nomatch z) h
 | flt y=>obtain⟨t,q⟩:=(show ∃t,u=Value.float y t from rx);cases q;exact yn PySem.W.kitx_float I.kIn True.intro e (λz=>nomatch z) h
 | @lst a xs ea=>
  cases (show u=Value.ref a from rx);obtain⟨_,_,n,_,h1⟩:=(show XH X.prog X.w H s.heap a dJ from I.hok a _ ea);exact yn Z8 I.kIn ⟨_,h1,rfl⟩ e (λz=>nomatch z) h
 | @frz a ob xs ea=>
  cases (show u=Value.ref a from rx);obtain⟨_,_,_,n,_,h1⟩:=(show XH X.prog X.w H s.heap a (.frz ob dJ)from I.hok a _ ea);exact yn Z8 I.kIn ⟨_,h1,rfl⟩ e (λz=>nomatch z) h
 | @tup a xs ea=>
  cases (show u=Value.ref a from rx);obtain⟨_,_,_,p⟩:=(show XH X.prog X.w H s.heap a pE from I.hok a _ ea);obtain⟨o,h1,h2,_⟩:=p;exact yn PySem.W.kitx_tuple I.kIn ⟨o,h1,h2⟩ e (λz=>nomatch z) h
 | @dK a kvs ea=>
  cases (show u=Value.ref a from rx);obtain⟨_,_,vs,_,p⟩:=(show XH X.prog X.w H s.heap a cV from I.hok a _ ea);obtain⟨o,es,ep,h1,h2,_⟩:=p;exact yn Z9 I.kIn ⟨o,h1,h2.1⟩ e (λz=>nomatch z) h
 | @dT a kvs ea=>
  cases (show u=Value.ref a from rx);obtain⟨_,_,xs,_,o,es,ep,h1,h2,_⟩:=(show XH X.prog X.w H s.heap a Bq from I.hok a _ ea);exact yn Z9 I.kIn ⟨o,h1,h2.1⟩ e (λz=>nomatch z) h
 | @ins a C dx fs ea cl ha hn htk hm=>
  cases (show u=Value.ref a from rx);obtain⟨mA,O,_⟩:=qip I.hok ea;obtain⟨od,J,_⟩:=O.look;exact yn (PySem.W.kitx_own (cl.get _) cl.hd ha hn htk hm) I.kIn J e (λz=>nomatch z) h
end
structure Room (k:Nat) (A:ve):Prop where
 hd:A.handled=none
 dp:A.depth+3*k+5<recursionLimit
 un:A.units+16*k+200<ue
theorem Room.mono{j k:Nat}{A:ve}(r:Room k A)(h:j<=k):Room j A:=⟨r.hd,by have:=r.dp;omega,by have:=r.un;omega⟩
theorem Room.deeper{k:Nat}{A:ve}(r:Room (k+1) A)(env:Env):Room k (A.deeper env) :=
 ⟨r.hd,by have:=r.dp;show A.depth+1+3*k+5<_;omega,by have:=r.un;show A.units+3+16*k+200<_;omega⟩
theorem Room.in1{k:Nat}{A:ve}(r:Room (k+1) A):Room k A.in1 :=
 ⟨r.hd,by have:=r.dp;show A.depth+3*k+5<_;omega,by have:=r.un;show A.units+1+16*k+200<_;omega⟩
theorem Room.depth{k:Nat}{A:ve}(r:Room k A):A.depth<recursionLimit:=by have:=r.dp;omega
theorem Room.units{k:Nat}{A:ve}(r:Room k A):A.units+64<ue:=by have:=r.un;omega
noncomputable def zAH:TA:=λ_ H Q=>Q [] H
noncomputable def Wm(ta:TE)(tr:TA):TA:=λσ H Q=>ta σ H λx H1=>tr σ H1 λxs H2=>Q NO H2
section
variable{X:Cx}{e:vP}{es:List vP}{te:TE}{t:TA}{pos:Pos}
theorem qA:PA X [] zAH:=λ_ _ _ _ H Q I h=>Calls.spliced_nil Hz
theorem qy(ha:pQ)(hr:PA X es t)(hs:az:=by rfl):PA X iV (Wm te t):=by
 intro pos pins s σ H Q I h;rw[hs];show vL _ _ (spliced (bV::vU pos gY)) _ _ s;refine Calls.spliced_cons (thn cX λu s1 ⟨x,H1,I1,r1,q1⟩=>?_);exact thn Kb λus s2 ⟨xs,H2,I2,r2,q2⟩=>JP
noncomputable def tTup(t:TA):TE:=λσ H Q=>t σ H λxs H1=>xs.length<=sizeLine/\∀p,H1 p=none->Q bK (upd H1 p pE)
noncomputable def zCG(t:TA):TE:=λσ H Q=>t σ H λxs H1=>xs.length<=sizeLine/\∀p,H1 p=none->Q bK (upd H1 p dJ)
theorem qkk{x1}(h:PA X es t):PE X UN (tTup t):=by
 intro pins s σ H Q I hq;refine wpAny_Tuple_spliced (thn MA λus s1 ⟨xs,H1,I1,r,z,q⟩=>⟨by rw[<- r.length];exact z,?_⟩);have hf:H1 s1.heap.objs.size=none:=I1.hok.fresh cL;refine⟨R8,upd H1 s1.heap.objs.size pE,Vk,rfl,q _ hf⟩;exact⟨z,us,r,FX⟩
theorem q3p(h:PA X es t):PE X acJ (zCG t):=by
 intro pins s σ H Q I hq;refine wpAny_List_spliced (thn MA λus s1 ⟨xs,H1,I1,r,z,q⟩=>⟨by rw[<- r.length];exact z,?_⟩);have hf:H1 s1.heap.objs.size=none:=I1.hok.fresh cL;refine⟨R8,upd H1 s1.heap.objs.size dJ,Vk,rfl,q _ hf⟩;exact⟨z,us,0,r,jt⟩
end
abbrev Sp:=List V->Hp->VK->XK->Prop
abbrev CXT:=List Env->Hp->vH->XK->vB->vH->Prop
structure Env0 (P:vQ) (w:vY) (K:zC) (mg:Str->Option vB) (base:vf) (A:ve) (outer:List Env) (s:vH) (H:Hp):Prop where
 frames:A.frames=some outer
 mod:Mod K mg base
 bs:∀b o,base.get? b=some o->s.heap.get? b=some o/\H b=none
 bsz:base.objs.size<=s.heap.objs.size
 funs:s.heap.FunFrames base outer
 frf:∀b∈frs outer,H b=none
 hok:HOk P w H s.heap
 bare:tG s.gens
def CE(outer:rN)(P:vQ)(w:vY)(H:Hp)(s:vH)(Q:VK)(u:vB)(s':vH):Prop :=
 ∃v H',s'.os=s.os/\tG s'.gens/\Un (frs outer) [] H H' s.heap s'.heap/\HOk P w H' s'.heap/\RelV v u/\Q v H'
def CR(CX:CXT)(outer:rN)(P:vQ)(w:vY)(H:Hp)(s:vH)(Q:VK)(E:XK)(r:tX)(s':vH):Prop :=
 match r with
 | .ok (.ret u)=>CE outer P w H s Q u s'
 | .ok _=>False
 | .error e=>CX outer H s E e s'
structure FnOk (P:vQ) (w:vY) (K:zC) (mg:Str->Option vB) (base:vf) (CX:CXT) (k:Nat) (f:vF) (fd:vN) (ps:List Str) (sp:Sp):Prop where
 len:∀vs H Q E,sp vs H Q E->vs.length=ps.length
 run:∀(A:ve)(outer:List Env)(s:vH)(H:Hp)(args:Args)(us:List vB)(vs:List V)(Q:VK)(E:XK),Room k A->Env0 P w K mg base A outer s H->sD s fd args (ps.zip us)->Y7 vs us->sp vs H Q E ->
  uU (model P w) A (.call (.ref f) args) (CR CX outer P w H s Q E) s
theorem Env0.in1{P:vQ}{w:vY}{K:zC}{mg:bO}{base:vf}{A:ve}{outer:rN}{s:vH}{H:Hp}(e:Ly):
  Env0 P w K mg base A.in1 outer s H:=⟨e.frames,e.mod,e.bs,e.bsz,e.funs,e.frf,e.hok,e.bare⟩
section
variable{X:Cx}{pins:List (vF×Obj)}{σ:St}{H:Hp}{s s':vH}
theorem Inv.env0(I:aj):Env0 X.prog X.w X.K X.mg X.base X.A X.stack s H :=
 ⟨I.ok.frames,I.ok.mod,I.bs,yL I.ok.bsz I.sz,I.stack,I.stkFree,I.hok,I.bare⟩
theorem Inv.after{Q:VK}{u:vB}(I:aj)(h:CE X.stack X.prog X.w H s Q u s'):EP X pins σ Q u s':=by
 obtain⟨v,H',os,bare,un,hok,r,q⟩:=h;obtain⟨hh,g,d,t,os'⟩:=s';obtain rfl:os'=s.os:=os;exact⟨v,H',I.call (h':=hh) (g':=g) (d':=d) (t':=t) (ch:=[]) un hok bare (λb z=>vM z (by simp)),r,q⟩
end
noncomputable def zBt(sp:Sp)(dvs:bu)(E:XK)(t:TA):TE:=λσ H Q=>t σ H λvs H1=>sp OJ H1 Q E
def Binds(K:zC)(fd:vN)(ps:dI)(ds:bH):Prop :=
 ∀(s:vH)(us:bH),K.In s.heap->(us++ds).length=ps.length->sD s fd AA (ps.zip (us++ds))
theorem Binds.all{K:zC}{fd:vN}{ps:dI}(h:∀us:List vB,us.length=ps.length->bindArgs fd AA=pure Fe):Binds K fd ps []:=λs us _ hl=>by
 rw[zo]at hl ⊢;exact .of_eq (h us hl)
def zAT(CX:CXT)(X:Cx)(E:XK):Prop:=∀(pins:ay)(σ:St)(H:Hp)(s:vH)(e:vB)(s':vH),Inv X pins σ H s->CX X.stack H s E e s'->X.xe e s'
section
variable{X:Cx}{CX:CXT}{k:Nat}{f C:vF}{fd:vN}{ps:List Str}{sp:Sp}{dvs:List V}{ds:List vB}{E:XK}{x m:Str}{p pos apos:Pos}{e o:vP}{es:List vP}{ta:TE}{t:TA}
theorem qjQ{pins:ay}{σ:St}{H:Hp}{s:vH}{Q:VK}{us:bH}{vs:bu}(F:CJ)(hr:abp)(hb:aaz)(hd:Y7 dvs ds)(hx:VT)(I:aj)(r:Ur)(h:sp OJ H Q E):vL ai X.A PN cT X.xe s:=by
 have r2:Y7 OJ (us++ds):=r.append hd;have hl:(us++ds).length=ps.length:=by rw[<- r2.length];exact F.len _ _ _ _ h
 refine sA (uV (F.run X.A X.stack s H AA (us++ds) OJ Q E hr I.env0 (hb s us I.kIn hl) r2 h) λr s' hq=>?_);cases r with
 | error e=>exact hx pins σ H s e s' I hq
 | ok fl=>
  cases fl with
  | ret u=>exact I.after hq
  | next=>exact False.elim hq
  | brk=>exact False.elim hq
  | cont=>exact False.elim hq
theorem q61(F:CJ)(hr:abp)(hg:pj)(hm:X.mg x=some fh)(hk:xM X.K fh=true)(hb:aaz)(hd:Y7 dvs ds)(hx:VT)(ha:QC)(hdb:aC:=by decide)(he:az:=by rfl)(hpl:(vU pos gY).any (·.1)=false:=by rfl):
  PE X bG (zBt sp dvs E t):=by
 intro pins s σ H Q I h;refine vp (qcn I hg hm ?_ hdb);refine PySem.W.callWith_K (h₀:=X.base) I.ok.mod.kin hk (thn fQ λus s1 ⟨vs,H1,I1,r,q⟩=>⟨I1.kIn,?_⟩) he hpl;exact qjQ F hr hb hd hx I1 r q
end
def PK(X:Cx)(kws:List uF)(t:TA):Prop :=
 ∀(pos:Pos)(pins:ay)(s:vH)(σ:St)(H:Hp)(Q:lu),Inv X pins σ H s->t σ H Q->vL ai X.A (evalAll ((v5 pos ab2).map (·.2))) aaC X.xe s
section
variable{X:Cx}{CX:CXT}{k:Nat}{f C:vF}{fd:vN}{ps ks:List Str}{sp:Sp}{E:XK}{x m:Str}{p pos apos kpos:Pos}{e o:vP}{es:List vP}{kws:List uF}{te ta:TE}{t tk:TA}{nm:Option Str}
theorem qdL:PK X [] zAH:=λ_ _ _ _ H Q I h=>wpAny_evalAll_nil Hz
theorem qb3(ha:pQ)(hr:PK X kws t):PK X (⟨nm,e,kpos⟩::kws) (Wm te t):=by
 intro pos pins s σ H Q I h;show vL _ _ (evalAll ((do let v <- eval e X.env;sP pos;pure v)::(v5 pos ab2).map (·.2))) _ _ s;refine wpAny_evalAll_cons (vA (thn cX λu s1 ⟨x,H1,I1,r1,q1⟩=>vA (tI fP)));exact thn Kb λus s2 ⟨xs,H2,I2,r2,q2⟩=>JP
variable{g:List vB->List vB->List vB}{gV:List V->List V->List V}
end
structure FnScope (N P:List Str) (sc:uu):Prop where
 kind:sc.kind=.function
 co:sc.isCoroutine=false
 gen:sc.isGenerator=false
 nd:N.Nodup
 pre:N.take P.length=P
 par:∀x∈P,sc.names.lookup x=some .local\/sc.names.lookup x=some .cell
 nofree:∀y∈sc.names,y.2≠.free
theorem q8r{kindOf:GO}{x:Str}:∀{binds:List OZ}{m:bO},(∀v,(x,v)∉binds)->bindL kindOf binds m x=m x
 | [],_,_=>rfl
 | (n,v)::r,m,h=>by
  unfold bindL;rw[q8r λw hw=>h w (zH _ hw)]
  split
  ·have:x≠n:=by rintro rfl;exact h v zG
   simp[this]
  ·rfl
theorem q87{kindOf:GO}{x:Str}:∀{binds:List OZ}{m:bO},(∀v,(x,v)∉binds)->bindC kindOf binds m x=m x
 | [],_,_=>rfl
 | (n,v)::r,m,h=>by
  unfold bindC;rw[q87 λw hw=>h w (zH _ hw)]
  split
  ·rfl
  ·have:x≠n:=by rintro rfl;exact h v zG
   simp[this]
theorem q8F{kindOf:GO}{x:Str}{v:vB}:∀{P:dI}{vs:bH}{i:Nat}{m:bO},P.Nodup->P[i]?=some x->vs[i]?=some v->kindOf x=some .local ->
  bindL kindOf (P.zip vs) m x=some v
 | [],_,_,_,_,h,_,_=>by simp at h
 | _::_,[],_,_,_,_,h,_=>by simp at h
 | p::P,w::vs,0,m,nd,h1,h2,hk=>by
  simp at h1 h2;subst h1;subst h2;show bindL kindOf B2 m p=_;unfold bindL;rw[q8r λv hv=>(yZ.mp nd).1 (wb hv).1,vC hk];simp
 | p::P,w::vs,i+1,m,nd,h1,h2,hk=>by
  show bindL kindOf B2 m x=_;unfold bindL;exact q8F (i:=i) (yZ.mp nd).2 ⇑h1 ⇑h2 hk
theorem q88{kindOf:GO}{x:Str}{v:vB}:∀{P:dI}{vs:bH}{i:Nat}{m:bO},P.Nodup->P[i]?=some x->vs[i]?=some v->kindOf x≠some .local ->
  bindC kindOf (P.zip vs) m x=some v
 | [],_,_,_,_,h,_,_=>by simp at h
 | _::_,[],_,_,_,_,h,_=>by simp at h
 | p::P,w::vs,0,m,nd,h1,h2,hk=>by
  simp at h1 h2;subst h1;subst h2;show bindC kindOf B2 m p=_;unfold bindC;rw[q87 λv hv=>(yZ.mp nd).1 (wb hv).1,vG hk];simp
 | p::P,w::vs,i+1,m,nd,h1,h2,hk=>by
  show bindC kindOf B2 m x=_;unfold bindC;exact q88 (i:=i) (yZ.mp nd).2 ⇑h1 ⇑h2 hk
noncomputable def start(N:dI)(vs:bu):St:=vs.map some++z8 (N.length-vs.length) none
noncomputable def zAx(CX:CXT)(P:vQ)(w:vY)(K:zC)(mg:bO)(base:vf)(N:dI)(qual:Str)(scope:uu)(f:vF)(cd:vB)(A:ve)(outer:rN)(s:vH)(H:Hp)(E:XK):Cx where
 prog:=P
 w:=w
 K:=K
 mg:=mg
 base:=base
 A:=A.deeper nD
 N:=N
 s₀:=s
 H₀:=H
 env:=tY qual scope s.heap.objs.size f cd
 outer:=outer
 stack:=tY qual scope s.heap.objs.size f cd::outer
 ex:=[]
 calm:=true
 fn:=λ_=>true
 pn:=[]
 xe:=λe s'=>vL Ru (A.deeper nD) (leaving nD e) (λ_ s''=>CX outer H s E e s'') (λe' s''=>CX outer H s E e' s'') s'
theorem q9m{sc:uu}{n:Nat}{x:Str}(h:sc.names.lookup x=some .cell):∃c,(cellsFrom n sc.names []).lookup x=some c:=by
 have q:=ZL sc.names n [] Sd;exact yu.mp q
theorem qeE{CX:CXT}{P:vQ}{w:vY}{K:zC}{mg:bO}{base:vf}{N ps:dI}{qual:Str}{scope:uu}{f:vF}{cd:vB}{A:ve}{outer:rN}{s s1:vH}{H:Hp}{E:XK}{us:bH}{vs:bu}(S:aax)(hd:dE)(e0:Ly)(hl:vs.length=ps.length)(r:Ur)(x:InCallC s s.heap.objs.size (bindL (tY qual scope s.heap.objs.size f cd).kindOf Fe λ_=>none) (cellsFrom ng scope.names []) (bindC (tY qual scope s.heap.objs.size f cd).kindOf Fe λ_=>none) s1):
  Inv (zAx CX P w K mg base N qual scope f cd A outer s H E) [] Dx H s1:=by
 have hpl:ps.length<=N.length:=by have:=vm yh S.pre;rw[zr]at this;omega
 obtain⟨h1,tk,rfl,hk⟩:=x.done;have noA:∀b:vF,b∉(zAx CX P w K mg base N qual scope f cd A outer s H E).ex:=λb z=>vM (show b∈PQ from z) (by simp);refine⟨⟨e0.mod,S.kind,rfl,rfl,cL,λy z c h1 h2=>?_,HA,λy c _ h=>?_,λ_=>hd,Around.frames_deeper e0.frames,.inr cH,UT,e0.bs,e0.bsz,λb _ _=>noA b,UT,e0.funs,e0.frf⟩,
  rfl,e0.bare,Un.kept hk,⟨_,x.toInCall.ns,λi y v h1 h2 h3=>?_⟩,λy c h=>⟨_,x.cell y c h⟩,e0.hok.fresh cL,λy c h=>?_,λp hp=>vM (show p∈PR from hp) (by simp),e0.hok.kept hk,?_⟩
 ·exact name_of_addr x.apart (PySem.mem_of_lookup h1) (PySem.mem_of_lookup h2)
 ·have hy:scope.names.lookup y=some .cell\/scope.names.lookup y=some .free:=hy
  rcases hy with hy|hy
  ·exact q9m hy
  ·exact vM rfl (S.nofree _ (PySem.mem_of_lookup hy))
 ·exact yb FF
 ·have hi:i<vs.length:=by
   unfold start at h2
   by_cases hi:i<vs.length
   ·exact hi
   ·rw[zc ⇑hi]at h2
    rw[yl]at h2
    split at h2 <;> cases h2
  have ha:vs[i]?=some v:=by
   unfold start at h2;rw[zg ⇑hi,zZ]at h2;cases e:vs[i]? with
   | none=>rw[e]at h2;cases h2
   | some a=>rw[e]at h2;cases h2;rfl
  obtain⟨u,hu,rv⟩:=r.get ha;have hp:ps[i]?=some y:=by
   rw[<- S.pre,List.getElem?_take_of_lt ∅];exact h1
  have ndP:ps.Nodup:=by rw[<- S.pre];exact S.nd.sublist (YA _ _)
  refine⟨u,rv,?_⟩;rcases S.par y (yD hp)with k|k
  ·exact .inl ⟨k,q8F ndP hp hu k⟩
  ·obtain⟨c,e⟩:=q9m (n:=s.heap.objs.size+1) k
   refine .inr ⟨.inl k,c,e,?_⟩;have q:=x.cell y c e;rw[q88 ndP hp hu (by show scope.names.lookup y≠_;rw[k];decide)]at q;exact q
 ·exact e0.hok.fresh (yb FF)
 ·unfold start
  show _=N.length;rw[zE,zB,yX];omega
theorem qlm{CX:CXT}{P:vQ}{w:vY}{K:zC}{mg:bO}{base:vf}{k:Nat}{f:vF}{name qual:Str}{params:Arguments}{body:Dg}{scope:uu}{dV kV doc pm cdv ct oc:vB}{an od:Ib}{osl:UK}{N ps:dI}{sp:Sp}(lk:K.lookup f=some ⟨oc,od,.func Ak,osl⟩)(hcd:VY)(S:aax)(len:∀vs H Q E,sp vs H Q E->vs.length=ps.length)(hbody:∀(A:ve)(outer:rN)(s:vH)(H:Hp)(vs:bu)(Q:VK)(E:XK),Room k (A.deeper (tY qual scope s.heap.objs.size f cdv))->sp vs H Q E ->
   ∃t,PSs jr body t/\t { nx:=λ_ H'=>Q .non H',rt:=Q } Dx H) :
  FnOk P w K mg base CX (k+1) f Ak ps sp:=by
 refine⟨len,λA outer s H args us vs Q E hr e0 hb r hsp=>?_⟩;have hl:=len _ _ _ _ hsp;have KX:K.In s.heap:=e0.mod.kin.keeps λb o e=>(e0.bs b o e).1;have lim:s.heap.NoLimit:=e0.mod.nolimit.keeps λb o e=>(e0.bs b o e).1;have hkind:∀y∈ps.zip us,scope.names.lookup y.1=some .local\/(scope.names.lookup y.1=some .cell/\((cellsFrom ng scope.names []).lookup y.1).isSome=true):=λ⟨n,v⟩ hy=>by
  rcases S.par n (wb hy).1 with q|q
  ·exact .inl q
  ·exact .inr ⟨q,ZL _ _ _ (.inl q)⟩
 refine codeAny_call_function hr.depth (KX _ _ lk) rfl S.co S.gen rfl (PySem.W.codeRec_of KX hcd) (hb _ _ _ _ ?_);refine wpAny_newFunctionEnv_cells S.kind hkind λenv he s1 x=>?_;subst he;refine⟨lim.keeps x.toInCall.keep,codeAny_func ?_⟩;obtain⟨t,ht,hq⟩:=hbody A outer s H vs Q E (hr.deeper _) hsp;have I:Inv jr [] Dx H s1:=qeE S hr.hd e0 hl r x;refine vo (ht [] s1 Dx H _ I hq) (λfl s' hs=>?_) λe s' hs=>hs;have fin:∀{σ':St}{H':Hp}{v:V}{u:vB},Inv jr [] σ' H' s'->RelV v u->Q v H'->CE outer P w H s Q u s' :=
  λ{σ' H' v u} J rv q=>⟨v,H',J.os,J.bare,J.base,J.hok,rv,q⟩
 cases fl with
 | ret u=>
  obtain⟨v,σ',H',J,rv,q⟩:=hs;exact fin J rv q
 | next=>
  obtain⟨σ',H',J,q⟩:=hs;exact fin (v:=V.non) (u:=Value.none) J rfl q
 | brk=>
  obtain⟨_,_,_,q⟩:=hs;exact False.elim q
 | cont=>
  obtain⟨_,_,_,q⟩:=hs;exact False.elim q
section
variable{X:Cx}{x:Str}{p pos:Pos}{e:vP}{es:List vP}{t:TA}{id T:String}{r:List V->Hp->VK->Prop}
noncomputable def tCB(r:GW)(t:TA):TE:=λσ H Q=>t σ H λvs H1=>r vs H1 Q
theorem q3b(hc:X2 X jU r)(hg:pj)(hm:AG)(hv:vg x=some jU)(ha:QC)(hn:kO:= by decide)(hdb:aC:=by decide)(he:az:=by rfl)(hpl:(vU pos gY).any (·.1)=false:=by rfl):PE X bG V6:=by
 intro pins s σ H Q I h;refine vp Mo;exact PyProof.Rows.callWith_builtin1 (thn fQ λus s1 ⟨vs,H1,I1,r1,q1⟩=>hc pins s1 σ H1 vs us Q I1 r1 q1) he hpl
theorem q81(hc:X2 X Bo r)(hg:pj)(hm:AG)(hv:vg x=some Bo)(ha:QC)(hn:kO:= by decide)(hdb:aC:=by decide)(he:az:=by rfl)(hpl:(vU pos gY).any (·.1)=false:=by rfl):PE X bG V6:=by
 intro pins s σ H Q I h;refine vp Mo;exact PyProof.Rows.callWith_type1 (thn fQ λus s1 ⟨vs,H1,I1,r1,q1⟩=>hc pins s1 σ H1 vs us Q I1 r1 q1) he hpl
end
end L2
namespace HT
open PySem PyProof.Rows
section
open PySem.SeqAt
open PySem.AutoSeq1 (wpAny_loadPart')
open PySem.MeetsSeq PySem.MeetsSeq2 PySem.MeetsSeq3
end
section
variable{prog:vQ}{w:vY}{A:ve}{E:vB->vH->Prop}{s:vH}
theorem qj2{t b:vF}{vs ws:bH}{Q:aS}(ht:IsTup s.heap t vs.toArray)(hb:IsTup s.heap b ws.toArray)(hv:vs≠[])(h1:ws=[]->Q kw s)(h2:ws≠[]->Q aH { s with heap:=s.heap.push { cls:=.type "tuple", data:=.seq (vs++ws).toArray } })(hsz:vs.length+ws.length<=sizeLine):vL am A (uQ .Add kw Az) Q E s:=by
 obtain⟨⟨cls,dd,data,sl⟩,ho,hc,n,hd⟩:=id ht;obtain⟨⟨cls2,dd2,data2,sl2⟩,ho2,hc2,n2,hd2⟩:=id hb;simp only at hc hd hc2 hd2;subst hc hd hc2 hd2;have e:vs.toArray++ws.toArray=(vs++ws).toArray:=by simp
 by_cases hw:ws=[]
 ·exact concat_meets ND L7 noFill_tuple_add seq_tuple_add PySem.F.slot_tuple_add PySem.F.entry_tuple_add rZ
   (tuple_addW1 t b vs.toArray ws.toArray n n2 dd dd2 sl sl2 ⇑hv (by simp[hw])) ⟨ho,ho2,h1 hw⟩
 ·refine concat_meets ND L7 noFill_tuple_add seq_tuple_add PySem.F.slot_tuple_add PySem.F.entry_tuple_add rZ
   (tuple_addW2 t b vs.toArray ws.toArray n n2 dd dd2 sl sl2 ⇑hv ⇑hw (by rw[zP,zP];exact hsz)) ⟨ho,ho2,?_⟩
  rw[e];exact h2 hw
noncomputable def sIx(n d:Nat):Option Int->Nat
 | none=>d
 | some v=>if v<0 then (v+ky).toNat else min v.toNat n
theorem q4M(n d:Nat):sIx n d none=d:=rfl
theorem q39(n d k:Nat):sIx n d (some bz)=min k n:=by
 show (if bz<0 then (bz+ky).toNat else min (k:Int).toNat n)=min k n;rw[Cf,yc]
theorem qk6(n d:Nat)(hd:d<=n)(o:fE):sIx n d o<=n:=by
 cases o with
 | none=>exact hd
 | some v=>
  show (if v<0 then (v+ky).toNat else min v.toNat n)<=n
  by_cases hv:v<0
  ·rw[vC hv];omega
  ·rw[vG hv];exact YN _ _
theorem qbg(v:Int)(n d:Nat):(if v<0 then max (v+ky) 0 else min v ky)=((sIx n d nE:Nat):Int):=by
 show (if v<0 then max (v+ky) 0 else min v ky)=(((if v<0 then (v+ky).toNat else min v.toNat n):Nat):Int)
 by_cases hv:v<0
 ·simp only[vC hv];omega
 ·simp only[vG hv];omega
theorem qcZ(lo hi:fE)(n:Nat):Builtin.Slice.sliceAdjust lo hi 1 ky=(pU,P9):=by
 have h1:¬(dC<0):=∅
 unfold Builtin.Slice.sliceAdjust;simp only[h1,if_false];refine Prod.ext ?_ ?_
 ·cases lo with
  | none=>rfl
  | some v=>exact qbg v n 0
 ·cases hi with
  | none=>rfl
  | some v=>exact qbg v n n
theorem qdc(i j:Nat):Builtin.Slice.slicePlaces mX oZ 1=j-i:=by
 unfold Builtin.Slice.slicePlaces;have h1:dC>0:=∅
 simp only[h1,if_true,Int.ediv_one]
 split <;> omega
theorem q7o{v:vB}{o:fE}{Q:Option Int->vH->Prop}(p:tQ v o)(h:Q o s):vL am A (Builtin.Slice.slicePartIndex v) Q E s:=by
 cases p with
 | none=>exact slicePart_none h
 | int i t=>exact slicePart_int h
theorem q3G{sl:vF}{vl vu:vB}{lo hi:fE}{n:Nat}{Q:Int×Int×Nat->vH->Prop}(hs:rV)(pl:tQ vl lo)(pu:tQ vu hi)(h:Q (pU,1,sIx n n hi-sIx n 0 lo) s):vL am A (Builtin.Slice.sliceApplied Hb (pure ky)) Q E s:=by
 obtain⟨os,hos,hcs,hds⟩:=id hs;unfold Builtin.Slice.sliceApplied Builtin.Slice.sliceFields;refine vA (vA (uS hos hds (x:=vl) rfl (vA (uS hos hds (x:=vu) rfl (vA (uS hos hds (x:=.none) rfl fP))))));refine vA (slicePart_none ?_);show vL _ _ (if (dC==0)=true then _ else _) _ _ s;rw[vG (by decide)];refine vA (q7o pl (vA (q7o pu (vA fP))));show vL _ _ (match Builtin.Slice.sliceAdjust lo hi 1 ky with|(lo,hi)=>pure (lo,dC,Builtin.Slice.slicePlaces lo hi 1)) _ _ s;rw[qcZ lo hi n];show vL _ _ (pure (pU,dC,Builtin.Slice.slicePlaces pU P9 1)) _ _ s;rw[qdc];exact vJ h
theorem qgN(xs:fw)(i k:Nat):((zY k).filterMap λ(m:Nat)=>xs[(mX+jo*1).toNat]?).toArray=((xs.toList.drop i).take k).toArray:=by
 have e:(λ(m:Nat)=>xs[(mX+jo*1).toNat]?)=λm=>xs[i+m]?:=by
  funext m
  have:(mX+jo*1).toNat=i+m:=∅
  rw[this]
 rw[e];have:=pick_run xs i k;rw[Z1]at this;have e2:((λx=>xs[x]?) ∘ λx=>i+x)=λm=>xs[i+m]?:=rfl;rw[e2]at this;rw[this]
theorem q6b{t sl:vF}{items:fw}{vl vu:vB}{lo hi:fE}{Q:aS}(ht:UD)(hs:rV)(pl:tQ vl lo)(pu:tQ vu hi)(hw:¬(sIx items.size 0 lo=0/\sIx items.size items.size hi=items.size))(h:Q aH { s with heap:=s.heap.push { cls:=.type "tuple", data:=.seq ((items.toList.drop Ev).take dB).toArray } })(hsz:Gy):vL am A (u7 kw Hb) Q E s:=by
 have htake:sizeOk (.seq ((items.toList.drop Ev).take dB).toArray):=by
  show ((items.toList.drop Ev).take dB).toArray.size<=sizeLine;rw[zP,zr,yN,zW];omega
 have hj:sIx items.size items.size hi<=items.size:=qk6 _ _ cL hi;obtain⟨os,hos,hcs,hds⟩:=id hs;have hTs:s.TypeIs Hb "slice" := abM;unfold u7
 try with_reducible refine vX ?_
 first|refine vA fP|skip
 refine vA (wpAny_sequenceKey ht.typeIs (by decide) ?_);refine vA (wpAny_callSpecial?_slot (name:=Str.ofString "__getitem__") ht.typeIs PyProof.Rows.slot_tuple_getitem
  mq)
 show vL _ _ (Builtin.Tuple.tupleItemsOf kw >>= _) _ _ s;refine vA Qi;refine vA (uc hTs ?_);rw[vC (by decide)];refine vA (q3G hs pl pu ?_);have hno:¬(J6=true):=by
  intro q;rw[zv,zv]at q;have q1:rF=0:=eq_of_beq q.1.1;have q2:sIx items.size items.size hi-sIx items.size 0 lo=items.size:=eq_of_beq q.2;exact hw Ao
 show vL _ _ (if J6=true then _ else _) _ _ s;rw[vG hno,qgN]
 first
  | exact vA (m:=Builtin.Tuple.tupleExact _) (vi rG htake)
  | exact vA (m:=Builtin.Tuple.tupleExact _) (vi (vA (vJ rG)) htake)
  | exact vA (vA (m:=Builtin.Tuple.tupleExact _) (vi (vJ rG) htake))
  | exact vA (vA (m:=Builtin.Tuple.tupleExact _) (vi rG htake))
end
end HT
namespace L2
open PySem PySem.Spec PyProof.Rows
abbrev TO:=St->Hp->Fu->Prop
def PO(X:Cx)(e:EB)(t:TO):Prop :=
 ∀(pins:ay)(s:vH)(σ:St)(H:Hp)(Q:Fu),Inv X pins σ H s->t σ H Q ->
  vL ai X.A (evalPart e X.env) (λu s'=>∃o H',Inv X pins σ H' s'/\tQ u o/\Q o H') X.xe s
noncomputable def zBp:TO:=λ_ H Q=>Q none H
noncomputable def tPart(t:TE):TO:=λσ H Q=>t σ H λx H1=>∃i,x=.int i/\Q AB H1
theorem q1W{ns:aa}:∀{us:bH},Y7 c9 us->uH us ns:=by
 induction ns with
 | nil=>intro us r;rw[yS]at r;cases r;exact .nil
 | cons n ns ih=>
  intro us r;rw[zO]at r;cases r with
  | cons r1 r2=>
   obtain⟨t,e⟩:=r1;subst e;exact .cons n t (ih r2)
section
variable{X:Cx}{e:vP}{te:TE}{lo hi:Option vP}{tl th:TO}{pos p2:Pos}
theorem qiT:PO X none zBp:=by
 intro pins s σ H Q I h;rw[evalPart_none];exact vJ ⟨none,H,I,.none,h⟩
theorem qje(h:pQ):PO X (some e) (tPart te):=by
 intro pins s σ H Q I hw;rw[evalPart_some];refine thn PD λu s1 ⟨x,H1,I1,r1,q1⟩=>?_;obtain⟨i,rfl,q⟩:=q1;obtain⟨t,rfl⟩:=r1;exact⟨AB,H1,I1,AK,q⟩
def SlR(X:Cx)(r:jb):Prop :=
 ∀(pins:ay)(s:vH)(σ:St)(H:Hp)(x:V)(v vl vu:vB)(lo hi:fE)(sl:vF)(Q:VK),Inv X pins σ H s->RelV x v->s.heap.IsSliceOf sl vl vu .none->tQ vl lo->tQ vu hi->r x lo hi H Q ->
  ∃T id,uv Bo "__getitem__" = pure (some jU)/\s.TypeIs v T/\vL ai X.A (u7 v Hb) cT X.xe s
theorem SlR.or{r r':jb}(h:SlR X r)(h':SlR X r'):SlR X (λx lo hi H Q=>r x lo hi H Q\/r' x lo hi H Q):=by
 intro pins s σ H x v vl vu lo hi sl Q I rx hs pl pu q;rcases q with q|q
 ·exact h pins s σ H x v vl vu lo hi sl Q I rx hs pl pu q
 ·exact h' pins s σ H x v vl vu lo hi sl Q I rx hs pl pu q
noncomputable def tSl(r:jb)(te:TE)(tl th:TO):TE:=λσ H Q=>te σ H λx H1=>tl σ H1 λl H2=>th σ H2 λu H3=>r x l u H3 Q
theorem qg3{r:jb}(hr:SlR X r)(he:pQ)(hl:PO X lo tl)(hu:PO X hi th):PE X (.Subscript e DL pos) (tSl r te tl th):=by
 intro pins s σ H Q I h;refine Subscript_ (thn lM λv s1 ⟨x,H1,I1,r1,q1⟩=>?_);refine wpAny_Slice (thn (hl pins s1 σ H1 _ I1 q1) λvl s2 ⟨l,H2,I2,pl,q2⟩=>thn (hu pins s2 σ H2 _ I2 q2) λvu s3 ⟨u,H3,I3,pu,q3⟩=>?_);rw[evalPart_none];refine vJ ?_;have I4:Inv X pins σ H3 { s3 with heap:=s3.heap.push { cls:=.type "slice", data:=.fields #[vl,vu,.none] } }:=I3.kept (t':=s3.toks) λb ob q=>zJ _ q;obtain⟨T,id,hT,ht,hg⟩:=hr pins { s3 with heap:=s3.heap.push { cls:=.type "slice", data:=.fields #[vl,vu,.none] } } σ H3 x v vl vu l u s3.heap.objs.size Q I4 r1 (Yo ..) pl pu q3;show vL ai X.A (t8 e DL v P4) cT X.xe { s3 with heap:=s3.heap.push { cls:=.type "slice", data:=.fields #[vl,vu,.none] } };exact tail_any (ops:=[P4,v]) ht hT hg (by with_unfolding_all rfl)
noncomputable def zBK(xs:bu)(lo hi:fE):List V:=(xs.drop pi).take fF
theorem q6e(xs:bu)(lo hi:fE):(zBK xs lo hi).length<=xs.length:=by
 unfold zBK;rw[zr,yN];omega
def rSlT(K:zC):V->Option Int->Option Int->Hp->VK->Prop:=λx lo hi H Q=>∃a xs,x=.ref a/\SqT K H a xs /\
 ¬oR/\∀p,H p=none->Q bK (upd H p (.tup E3))
theorem qke:SlR X (rSlT X.K):=by
 intro pins s σ H x v vl vu lo hi sl Q I rx hs pl pu h;obtain⟨a,xs,rfl,hx,hw,q⟩:=h;cases rx;obtain⟨its,r,ht,hz⟩:=I.tuple hx;have hlen:its.toArray.size=xs.length:=by rw[zP];exact r.length.symm
 refine oH;refine HT.q6b ht hs pl pu (by rw[hlen];exact hw) ?_ (by rw[hlen];exact hz);rw[hlen];refine⟨aH,_,I.laid (t':=s.toks) (o:=.tup E3) HC cL ?_,rfl,q _ lw⟩;exact⟨Tu,_,VE,IsTup.new _ _⟩
noncomputable def rCatT(K:zC):R2:=λx y H Q=>∃a b xs ys,x=.ref a/\y=.ref b/\SqT K H a xs/\SqT K H b ys/\xs≠[]/\xs.length+ys.length<=sizeLine /\
 (ys=[]->Q dF H)/\(ys≠[]->∀p,H p=none->Q bK (upd H p (.tup Md)))
theorem Y7.nil_iff{xs:bu}{us:bH}(r:Oe):us=[]↔xs=[]:=by
 cases r with
 | nil=>simp
 | cons _ _=>simp
theorem qiN:OpR X J1 (rCatT X.K):=by
 intro pins s σ H x y v u Q I rx ry h;obtain⟨a,b,xs,ys,rfl,rfl,ha,hb,hx,hz,q1,q2⟩:=h;cases rx;cases ry;obtain⟨its,r1,p1,_⟩:=I.tuple ha;obtain⟨its2,r2,p2,_⟩:=I.tuple hb;refine HT.qj2 p1 p2 (λz=>hx (r1.nil_iff.mp z)) (λz=>⟨dF,H,I,rfl,q1 (r2.nil_iff.mp z)⟩) JR (by rw[<- r1.length,<- r2.length];exact hz);refine⟨aH,_,I.laid (t':=s.toks) (o:=.tup Md) HC cL ?_,rfl,q2 (λw=>z (r2.nil_iff.mpr w)) _ lw⟩;exact⟨by rw[zE];exact hz,_,r1.append r2,IsTup.new _ _⟩
end
noncomputable def ixN(n:Nat)(i:Int):Option Nat:=if 0<=i then (if i<n then some i.toNat else none)else if -ky<=i then some (i+n).toNat else none
noncomputable def atI{α:Type}(xs:bN)(i:Int):Option α:=(ixN xs.length i).bind λj=>xs[j]?
theorem qb6{n:Nat}{i:Int}{j:Nat}(h:ixN n i=some j):tN i n=some j/\j<n/\-ky<=i/\i<n:=by
 unfold ixN at h
 by_cases h0:0<=i
 ·rw[vC h0]at h
  by_cases h1:i<n
  ·rw[U3]at h
   have e:i.toNat=j:=zy h;exact⟨by rw[sL h0 h1,e],∅,∅,h1⟩
  ·rw[vG h1]at h;cases h
 ·rw[vG h0]at h
  by_cases h1:-ky<=i
  ·rw[U3]at h
   have e:(i+n).toNat=j:=zy h;exact⟨by rw[seqIndex_neg ∅ h1,e],∅,h1,∅⟩
  ·rw[vG h1]at h;cases h
theorem q7K{α:Type}{xs:bN}{i:Int}{v:α}(h:atI xs i=some v):∃j,tN i xs.length=some j/\xs[j]?=some v/\j<xs.length/\-(xs.length:Int)<=i/\i<xs.length:=by
 unfold atI at h;cases e:ixN xs.length i with
 | none=>rw[e]at h;cases h
 | some j=>
  rw[e]at h;obtain⟨h1,h2,h3,h4⟩:=qb6 e;exact⟨j,h1,h,h2,h3,h4⟩
def zAO(b:vP):Prop:=∀o i,subscripted b false o i=operate [o,i] (u7 o i)
def IxR(X:Cx)(r:R2):Prop :=
 ∀(value slice:vP)(pins:ay)(s:vH)(σ:St)(H:Hp)(x y:V)(v u:vB)(Q:VK),Inv X pins σ H s->RelV x v->RelV y u->r x y H Q ->
  subscripted slice false v u=operate [v,u] (u7 v u)->vL ai X.A (t8 value slice v u) cT X.xe s
def MtR(X:Cx)(id:String)(r:pM):Prop :=
 ∀(pins:ay)(s:vH)(σ:St)(H:Hp)(x:V)(xs:bu)(v:vB)(us:bH)(Q:VK),Inv X pins σ H s->RelV x v->Y7 xs us->r x xs H Q ->
  vL ai X.A Vo cT X.xe s
section
variable{X:Cx}{a b:vP}{ta tb:TE}{pos:Pos}
theorem IxR.or{r r':R2}(h:IxR X r)(h':IxR X r'):IxR X HB:=by
 intro value slice pins s σ H x y v u Q I rx ry q hs;rcases q with q|q
 ·exact h value slice pins s σ H x y v u Q I rx ry q hs
 ·exact h' value slice pins s σ H x y v u Q I rx ry q hs
theorem qkZ{r:R2}(hr:IxR X r)(ha:m6)(hb:Ef)(hs:zAO b):PE X Fy Ho:=by
 intro pins s σ H Q I h;exact Subscript_ (binT ha hb I h λv u s2 x y H2 I2 rx ry q=>hr a b pins s2 σ H2 x y v u Q I2 rx ry q (hs _ _))
noncomputable def rIxL(K:zC):R2:=λx y H Q=>∃p xs i v,x=.ref p/\y=.int i/\SqL K H p xs/\atI xs i=some v/\Q v H
noncomputable def rIxT(K:zC):R2:=λx y H Q=>∃p xs i v,x=.ref p/\y=.int i/\SqT K H p xs/\atI xs i=some v/\Q v H
noncomputable def rIxS:R2:=λx y H Q=>∃z i c,x=.str z/\y=.int i/\z.length<=sizeLine/\atI z.cps.toList i=some c/\Q (.str ⟨#[c]⟩) H
theorem qif:IxR X (rIxL X.K):=by
 intro value slice pins s σ H x y v u Q I rx ry h hs;obtain⟨p,xs,i,z,rfl,rfl,hq,he,q⟩:=h;cases rx;obtain⟨t,rfl⟩:=ry;obtain⟨its,r,pl,hz⟩:=I.list hq;obtain⟨j,h1,h2,h3,h4,h5⟩:=q7K he;obtain⟨w,ew,rw'⟩:=r.get h2;have hl:=r.length;have hn:=Wg;have fin:EP X pins σ Q w s:=aaN
 by_cases h0:0<=i
 ·have hj:i.toNat=j:=by
   rw[sL h0 h5]at h1;exact zy h1
  exact item_listR pl.isList h0 ∅ (by rw[hj];simpa using ew) fin hs
 ·have hj:(i+Pw).toNat=j:=by
   rw[seqIndex_neg ∅ h4]at h1;rw[zP,<- hl];exact zy h1
  exact tS (x:=w) pl.isList.typeIs slot_list_getitem.lookup
   (wpAny_getItem_list_neg (Q:=λr s'=>r=w/\EP X pins σ Q r s') pl.isList ∅ (by rw[zP] <;> omega) ∅ (by rw[hj];simpa using ew) ⟨rfl,fin⟩) hs
theorem qkt:IxR X (rIxT X.K):=by
 intro value slice pins s σ H x y v u Q I rx ry h hs;obtain⟨p,xs,i,z,rfl,rfl,hq,he,q⟩:=h;cases rx;obtain⟨t,rfl⟩:=ry;obtain⟨its,r,pl,hz⟩:=I.tuple hq;obtain⟨j,h1,h2,h3,h4,h5⟩:=q7K he;obtain⟨w,ew,rw'⟩:=r.get h2;have hl:=r.length;have hn:=Wg;have fin:EP X pins σ Q w s:=aaN;exact tS (x:=w) pl.typeIs slot_tuple_getitem.lookup
  (getItem_tuple (j:=j) (Q:=λr s'=>r=w/\EP X pins σ Q r s') pl ∅ ∅ (by rw[zP,<- hl];exact h1) ⇑ew ⟨rfl,fin⟩) hs
theorem qkG:IxR X rIxS:=by
 intro value slice pins s σ H x y v u Q I rx ry h hs;obtain⟨z,i,c,rfl,rfl,hz,he,q⟩:=h;obtain⟨t,rfl⟩:=rx;obtain⟨t',rfl⟩:=ry;obtain⟨j,h1,h2,h3,h4,h5⟩:=q7K he;have hl:z.cps.toList.length=z.length:=by simp[Str.length]
 rw[hl]at h1 h4 h5;have hn:=Wg;exact tail_any V2 slot_str_getitem.lookup (getItem_str (c:=c) (by
  have e1:decide (i < -(2^63:Int))=false:=vT ∅;have e2:decide (i>=2^63)=false:=vT ∅;rw[e1,e2,wV]) (by rw[h1];simpa using h2) ⟨.str ⟨#[c]⟩,H,jR,cf,q⟩) hs
noncomputable def rIx(K:zC):R2:=λx y H Q=>rIxL K x y H Q\/rIxT K x y H Q\/rIxS x y H Q
theorem qkh:IxR X (rIx X.K):=qif.or (qkt.or qkG)
theorem qdh(its:bH)(n j:Nat)(u:vB):Obj.mapSeq (·.setIfInBounds j u) { cls:=.type "list", data:=.seq its.toArray n }={ cls:=.type "list", data:=.seq (its.set j u).toArray n }:=by
 simp[Obj.mapSeq]
theorem Inv.lst{pins:ay}{σ:St}{H:Hp}{s:vH}{p:vF}{xs:bu}(I:aj)(h:GZ):
  ∃(its:bH) (n:Nat),Y7 xs its/\s.heap.get? p=some { cls:=.type "list", data:=.seq its.toArray n }/\xs.length<=sizeLine:=by
 obtain⟨z,its,n,r,e⟩:=I.hok p _ h;exact⟨its,n,r,e,z⟩
theorem Inv.lstUpd{pins:ay}{σ:St}{H:Hp}{s:vH}{p:vF}{xs ys:bu}{its its':bH}{n n':Nat}{f:Obj->Obj}(I:aj)(h:GZ)(ho:s.heap.get? p=some { cls:=.type "list", data:=.seq its.toArray n })(hf:f { cls:=.type "list", data:=.seq its.toArray n }={ cls:=.type "list", data:=.seq its'.toArray n' })(r:Y7 ys its')(hz:AV)(t:Nat):
  Inv X pins σ (upd H p pF) { s with heap:=s.heap.update p f,toks:=t }:=by
 have e:(s.heap.update p f).get? p=some { cls:=.type "list", data:=.seq its'.toArray n' }:=by
  rw[y8 f ho (by rw[hf] <;> rfl),hf]
 refine I.write (x:=p) (e:=p) (by rw[h];trivial) bD (λb u hb q=>(zh _ _ fL).trans q) ⟨_,e⟩ ?_;exact⟨hz,its',n',r,e⟩
def rSetL:V->V->V->Hp->abx->Prop:=λo i v H Q=>∃p xs k j,o=.ref p/\i=.int k/\H p=some dJ/\ixN xs.length k=some j/\Q Kw
theorem qfR:PSet X rSetL:=by
 intro pins s σ H o i v ov iv u Q I ro ri rv h;obtain⟨p,xs,k,j,rfl,rfl,hp,hj,q⟩:=h;cases ro;obtain⟨t,rfl⟩:=ri;obtain⟨its,n,r,ho,hz⟩:=I.lst hp;obtain⟨h1,h2,h3,h4⟩:=qb6 hj;have hl:=r.length;have hn:=Wg;have I':Inv X pins σ Kw { s with heap:=s.heap.update p (Obj.mapSeq (·.setIfInBounds j u)) } :=
  I.lstUpd hp ho (qdh its n j u) (r.set rv j) (by rw[yV];exact hz) s.toks
 by_cases h0:0<=k
 ·have hk:k.toNat=j:=by
   rw[sL h0 h4]at h1;exact zy h1
  exact PySem.W.ki_setAt ho h0 ∅ (by rw[zP,<- hl];exact h4) (by rw[hk];exact⟨_,I',q⟩)
 ·have hk:(k+Pw).toNat=j:=by
   rw[seqIndex_neg ∅ h3]at h1;rw[zP,<- hl];exact zy h1
  exact PySem.W.ki_setBack ho ∅ (by rw[zP,<- hl];exact h3) ∅ (by rw[hk];exact⟨_,I',q⟩)
theorem q9Y(lo hi:fE)(n:Nat):(uh lo hi none n).1=((HT.sIx n 0 lo:Nat):Int)/\(uh lo hi none n).2.1=((HT.sIx n n hi:Nat):Int)/\(uh lo hi none n).2.2=1:=by
 refine⟨?_,?_,rfl⟩
 ·cases lo with
  | none=>simp[uh,HT.sIx]
  | some i=>
   simp only[uh,HT.sIx,YO,show dC>0 by decide,if_true]
   by_cases h:i<0
   ·simp only[h,if_true] <;> omega
   ·simp only[h,if_false] <;> omega
 ·cases hi with
  | none=>simp[uh,HT.sIx]
  | some i=>
   simp only[uh,HT.sIx,YO,show dC>0 by decide,if_true]
   by_cases h:i<0
   ·simp only[h,if_true] <;> omega
   ·simp only[h,if_false] <;> omega
theorem q8K(its:bH)(lo hi:fE):slicePick its.toArray lo hi none=((its.drop (HT.sIx its.length 0 lo)).take (HT.sIx its.length its.length hi-HT.sIx its.length 0 lo)).toArray:=by
 obtain⟨h1,h2,h3⟩:=q9Y lo hi its.toArray.size;unfold slicePick;rw[h1,h2,h3];simp only[sliceRange_one,pick_run,zP] <;> rfl
def rSlL(K:zC):V->Option Int->Option Int->Hp->VK->Prop:=λx lo hi H Q=>∃a xs,x=.ref a/\SqL K H a xs/\∀p,H p=none->Q bK (upd H p (.lst E3))
theorem qiI:SlR X (rSlL X.K):=by
 intro pins s σ H x v vl vu lo hi sl Q I rx hs pl pu h;obtain⟨a,xs,rfl,hx,q⟩:=h;cases rx;obtain⟨its,r,ht,hz⟩:=I.list hx;have hlen:=r.length;refine⟨"list", _,slot_list_getitem.lookup,ht.isList.typeIs,?_⟩;refine wpAny_getItem_list_slice ht.isList hs pl pu .none (by simp) ?_ (by rw[zP] <;> omega);rw[q8K,<- hlen];refine⟨aH,_,I.laid (t':=s.toks) (o:=.lst E3) HC cL ?_,rfl,q _ lw⟩;exact⟨Tu,_,0,VE,jt⟩
noncomputable def Wj:V->Bool
 | .non=>true
 | .bl _=>true
 | .int _=>true
 | .str _=>true
 | _=>false
noncomputable def eqV:V->V->Bool
 | .non,.non=>true
 | .bl a,.bl b=>a==b
 | .bl a,.int b=>(if a then 1 else 0)==b
 | .int a,.bl b=>a==(if b then 1 else 0)
 | .int a,.int b=>a==b
 | .str a,.str b=>a==b
 | _,_=>false
theorem qkS{A:ve}{s:vH}{y x:V}{u v:vB}(ry:rM)(rx:RelV x v)(fy:Wj y=true)(fx:Wj x=true):SeqAt.EqAt A s u v (eqV y x):=by
 cases y with
 | non=>
  cases ry;cases x with
  | non=>cases rx;exact SeqAt.EqAt.same _
  | bl b=>cases rx;exact SeqAt.EqAt.none_bool b
  | int b=>obtain⟨t,rfl⟩:=rx;exact SeqAt.EqAt.none_int b t
  | str b=>obtain⟨t,rfl⟩:=rx;exact SeqAt.EqAt.none_str b t
  | _=>exact vM (show false=true from fx) yM
 | bl a=>
  cases ry;cases x with
  | non=>cases rx;exact SeqAt.EqAt.bool_none a
  | bl b=>cases rx;exact SeqAt.EqAt.bool_bool a b
  | int b=>obtain⟨t,rfl⟩:=rx;exact SeqAt.EqAt.bool_int a b t
  | str b=>obtain⟨t,rfl⟩:=rx;exact SeqAt.EqAt.bool_str a b t
  | _=>exact vM (show false=true from fx) yM
 | int a=>
  obtain⟨t',rfl⟩:=ry;cases x with
  | non=>cases rx;exact SeqAt.EqAt.int_none a t'
  | bl b=>cases rx;exact SeqAt.EqAt.int_bool a t' b
  | int b=>obtain⟨t,rfl⟩:=rx;exact SeqAt.EqAt.int_int a t' b t
  | str b=>obtain⟨t,rfl⟩:=rx;exact SeqAt.EqAt.int_str a t' b t
  | _=>exact vM (show false=true from fx) yM
 | str a=>
  obtain⟨t',rfl⟩:=ry;cases x with
  | non=>cases rx;exact SeqAt.EqAt.str_none a t'
  | bl b=>cases rx;exact SeqAt.EqAt.str_bool a t' b
  | int b=>obtain⟨t,rfl⟩:=rx;exact SeqAt.EqAt.str_int a t' b t
  | str b=>obtain⟨t,rfl⟩:=rx;exact SeqAt.EqAt.str_str a t' b t
  | _=>exact vM (show false=true from fx) yM
 | _=>exact vM (show false=true from fy) yM
noncomputable def eqU(x:V)(u:vB):Bool:=match u with
 | .none=>eqV .non x
 | .bool b=>eqV FU x
 | .int i _=>eqV kE x
 | .str z _=>eqV (.str z) x
 | _=>false
theorem qez{x y:V}{u:vB}(r:rM)(f:Wj y=true):eqU x u=eqV y x:=by
 cases y with
 | non=>cases r;rfl
 | bl b=>cases r;rfl
 | int i=>obtain⟨t,rfl⟩:=r;rfl
 | str z=>obtain⟨t,rfl⟩:=r;rfl
 | _=>exact vM (show false=true from f) yM
theorem q7H{x:V}:∀{xs:bu}{us:bH},Y7 xs us->xs.all Wj=true->us.any JI=xs.any λy=>eqV y x
 | _,_,.nil,_=>rfl
 | y::xs,u::us,.cons r t,f=>by
  rw[xf,zv]at f;rw[xt,xt,qez r f.1,q7H t f.2]
theorem q6k{A:ve}{s:vH}{x:V}{v:vB}(rx:RelV x v)(fx:Wj x=true):∀{xs:bu}{us:bH},Y7 xs us->xs.all Wj=true->∀u∈us,SeqAt.EqAt A s u v (eqU x u)
 | _,_,.nil,_=>λu hu=>by cases hu
 | y::xs,u::us,.cons r t,f=>λu' hu=>by
  rw[xf,zv]at f;rcases zK.mp hu with rfl|hu
  ·rw[qez r f.1];exact qkS r rx f.1 fx
  ·exact q6k rx fx t f.2 u' hu
noncomputable def inV(x:V)(xs:bu):Bool:=xs.any λy=>eqV y x
noncomputable def rIn(K:zC)(neg:Bool):R2:=λx y H Q=>∃p xs,y=.ref p/\(SqL K H p xs\/SqT K H p xs)/\Wj x=true/\xs.all Wj=true/\Q (.bl (if neg then !inV x xs else inV x xs)) H
theorem qfx:OpR X (uM .In) (rIn X.K false):=by
 intro pins s σ H x y v u Q I rx ry h;obtain⟨p,xs,rfl,hq,fx,fs,q⟩:=h;cases ry;rcases hq with hq|hq
 ·obtain⟨its,r,pl,hz⟩:=I.list hq
  refine SeqAt.in_listAt JI pl.isList IF QV;rw[show its.toArray.any JI=its.any JI by simp,q7H r fs];exact q
 ·obtain⟨its,r,pl,hz⟩:=I.tuple hq
  refine SeqAt.in_tupleAt JI pl IF QV;rw[show its.toArray.any JI=its.any JI by simp,q7H r fs];exact q
theorem qu:X2 X aaJ (λxs H Q=>∃p ys,xs=N8/\Jo/\Q EF H):=by
 intro pins s σ H xs us Q I r h;obtain⟨p,ys,rfl,hq,q⟩:=h;obtain⟨u,rfl,rx⟩:=vals1 r;cases rx;have hn:=Wg;rcases hq with hq|hq
 ·obtain⟨its,r',pl,hz⟩:=I.list hq
  have hlen:=r'.length;exact Calls.call_len_list pl.isList (by simp only[zP] <;> omega) ⟨EF,H,jR,⟨s.toks+1,by rw[zP,hlen]⟩,q⟩
 ·obtain⟨its,r',pl,hz⟩:=I.tuple hq
  have hlen:=r'.length;exact len_tuple pl (by simp only[zP] <;> omega) ⟨EF,H,jR,⟨s.toks+1,by rw[zP,hlen]⟩,q⟩
theorem q1e:X2 X Bp (λxs H Q=>∃p ys,xs=N8/\Jo/\∀l,H l=none->Q cU Pm):=by
 intro pins s σ H xs us Q I r h;obtain⟨p,ys,rfl,hq,q⟩:=h;obtain⟨u,rfl,rx⟩:=vals1 r;cases rx;have fin:∀(its:bH),Y7 ys its->ys.length<=sizeLine->∀(h':vf)(c':Nat),(∀b o',s.heap.get? b=some o'->h'.get? b=some o') ->
   h'.get? s.heap.objs.size=some { cls:=.type "list", dict:=none,data:=.seq its.toArray c',slots:=#[] }->EP X pins σ Q aH { s with heap:=h' }:=λits r' hz h' c' kp e=>
  ⟨aH,_,I.laid (t':=s.toks) kp cL (show XH X.prog X.w _ h' _ pF from ⟨hz,its,c',r',e⟩),rfl,q _ lw⟩
 rcases hq with hq|hq
 ·obtain⟨its,r',pl,hz⟩:=I.list hq
  have hlen:=r'.length;obtain⟨o,ho,hc,n,hd⟩:=pl.isList;exact call_list_seq p bD ho hc hd Ep (by simp only[zP] <;> omega)
 ·obtain⟨its,r',pl,hz⟩:=I.tuple hq
  have hlen:=r'.length;obtain⟨o,ho,hc,n,hd⟩:=pl;exact call_list_seq p Iy ho hc hd Ep (by simp only[zP] <;> omega)
def tyV(K:zC)(T:String)(x:V)(H:Hp):Prop:=match x with
 | .str _=>T = "str"
 | .int _=>T = "int"
 | .ref p=>(T = "list" /\ ∃xs,SqL K H p xs)\/(T = "tuple" /\ ∃o,K.lookup p=some o/\o.cls=.type "tuple" /\ o.dict=none) \/
   (T = "dict" /\ ((∃kvs,H p=some cV)\/∃kvs,H p=some Bq))\/(T = "set" /\ ∃S n,H p=some (.set S n))
 | _=>False
theorem qfB{pins:ay}{σ:St}{H:Hp}{s:vH}{T:String}{x:V}{v:vB}(I:aj)(r:RelV x v)(ty:tyV X.K T x H):
  s.TypeIs v T/\∀a,v=.ref a->∃ob,s.heap.get? a=some ob/\ob.dict=none:=by
 cases x with
 | str z=>
  obtain⟨t,rfl⟩:=r;cases (show T = "str" from ty);exact⟨V2,λ_ e=>nomatch e⟩
 | int i=>
  obtain⟨t,rfl⟩:=r;cases (show T = "int" from ty);exact⟨typeIs_int s i t,λ_ e=>nomatch e⟩
 | ref p=>
  cases r;rcases ty with⟨rfl,xs,hq⟩|⟨rfl,o,hk,hc,hd⟩|⟨rfl,hk⟩|⟨rfl,S,n,hk⟩
  ·obtain⟨its,_,pl,_⟩:=I.list hq
   refine⟨pl.isList.typeIs,λa e=>?_⟩;cases e;obtain⟨o,n,e,c,hd,_⟩:=pl;exact⟨o,e,hd⟩
  ·refine⟨⟨o,I.kIn p o hk,hc⟩,λa e=>?_⟩
   cases e;exact⟨o,I.kIn _ o hk,hd⟩
  ·have z:∃o,s.heap.get? p=some o/\o.ExactDict:=by
    rcases hk with⟨kvs,hk⟩|⟨kvs,hk⟩
    ·obtain⟨_,_,_,_,o,_,_,e,ex,_⟩:=I.hok p _ hk
     exact⟨o,e,ex⟩
    ·obtain⟨_,_,_,_,o,_,_,e,ex,_⟩:=I.hok p _ hk
     exact⟨o,e,ex⟩
   obtain⟨o,e,ex⟩:=z;refine Kp;cases e2;exact abN
  ·obtain⟨o,_,_,_,e,ex,_⟩:=I.hok p _ hk
   refine Kp;cases e2;exact abN
 | _=>exact False.elim ty
noncomputable def tBM0(K:zC)(T:String)(r:pM)(to:TE):TE:=λσ H Q=>to σ H λx H1=>tyV K T x H1/\r x [] H1 Q
noncomputable def tBM(K:zC)(T:String)(r:pM)(to:TE)(t:TA):TE:=λσ H Q=>to σ H λx H1=>tyV K T x H1/\t σ H1 λxs H2=>r x xs H2 Q
variable{o e:vP}{es:List vP}{to:TE}{t:TA}{name:Str}{apos cpos:Pos}{T id:String}{r:V->List V->Hp->VK->Prop}
theorem q9s(pa:PlainAttrs T)(slot:Slot T name id)(hty:Et)(hm:MtR X id r)(ho:PE X o to)(hbase:Ky:=by rfl)(hline:ff=true:=by rfl):PE X (.Call Ox [] [] cpos) (tBM0 X.K T r to):=by
 intro pins s σ H Q I h;refine wpAny_Call_method0_late hbase hline (thn jQ λv s1 ⟨x,H1,I1,r1,ty,q1⟩=>?_);obtain⟨h1,h2⟩:=qfB I1 r1 ty;exact⟨T,id,pa,slot,hty,h1,h2,Calls.callWith_builtin rfl (PySem.evalArgs_none (hm pins s1 σ H1 x [] v [] Q I1 r1 .nil q1))⟩
theorem q2o(pa:PlainAttrs T)(slot:Slot T name id)(hty:Et)(hm:MtR X id r)(ho:PE X o to)(ha:QC)(hbase:Ky:=by rfl)(hfew:((vU cpos (vK iV X.env)).all (λx=>!x.1)&&(v5 cpos kP).all iC
   && decide ((e::es).length+([]:List uF).length+(if ([]:List uF).isEmpty then 0 else 1)<30))=true:=by rfl)
  (hline:ff=true:=by rfl) (hs:vK iV X.env=bV::vK es X.env:=by rfl) (hplain:(vU cpos gY).any (·.1)=false:=by rfl) :
  PE X (.Call Ox iV [] cpos) (tBM X.K T r to t):=by
 intro pins s σ H Q I h;refine wpAny_Call_method_late hbase hfew hline rfl (thn jQ λv s1 ⟨x,H1,I1,r1,ty,q1⟩=>?_);obtain⟨h1,h2⟩:=qfB I1 r1 ty;refine⟨T,id,pa,slot,hty,h1,h2,?_⟩;have hA:=ha cpos pins s1 σ H1 _ I1 q1;rw[hs]at hA ⊢;refine Calls.callWith_builtin (by show (false || (vU cpos gY).any (·.1))=false;rw[hplain] <;> rfl) (Calls.evalArgs_plain ?_);exact thn hA λus s2 ⟨vs,H2,I2,r2,q2⟩=>hm pins s2 σ H2 x vs v us Q I2 r1 r2 q2
end
def MtM(X:Cx)(id:String)(r:pM):Prop :=
 ∀(pins:ay)(s:vH)(σ:St)(H:Hp)(x:V)(xs:bu)(v:vB)(us:bH)(Q:VK),Inv X pins σ H s->RelV x v->Y7 xs us->r x xs H Q ->
  vL ai X.A Vo cT X.xe s
theorem Y7.one:∀{x:V}{us:bH},Y7 [x] us->∃u,us=[u]/\RelV x u
 | _,_,.cons r .nil=>Pb
theorem Y7.zero:∀{us:bH},Y7 [] us->us=[]
 | _,.nil=>rfl
theorem Y7.dropLast{xs:bu}{us:bH}(h:Oe):Y7 xs.dropLast us.dropLast:=by
 induction h with
 | nil=>exact .nil
 | cons r t ih=>
  cases t with
  | nil=>exact .nil
  | cons q t'=>exact .cons r ih
theorem Y7.eraseIdx:∀{xs:bu}{us:bH}(i:Nat),Y7 xs us->Y7 (xs.eraseIdx i) (us.eraseIdx i)
 | _,_,_,.nil=>.nil
 | _,_,0,.cons _ t=>t
 | _,_,i+1,.cons r t=>.cons r (Y7.eraseIdx i t)
theorem Y7.reverse{xs:bu}{us:bH}(h:Oe):Y7 xs.reverse us.reverse:=by
 induction h with
 | nil=>exact .nil
 | cons r t ih=>rw[w9,w9];exact Y7.append ih (.cons r .nil)
theorem Y7.rep{xs:bu}{us:bH}(h:Oe):∀k:Nat,Y7 (z8 k xs).flatten (z8 k us).flatten
 | 0=>.nil
 | k+1=>by
  rw[yT,yT,yr,yr];exact Y7.append h (Y7.rep h k)
theorem qda{α:Type}(l:bN):l.eraseIdx (l.length-1)=l.dropLast:=by
 induction l with
 | nil=>rfl
 | cons a r ih=>
  cases r with
  | nil=>rfl
  | cons b r=>
   have e:(a::b::r).length-1=((b::r).length-1)+1:=by
    have h1:(a::b::r).length=r.length+2:=rfl;have h2:(b::r).length=r.length+1:=rfl;omega
   rw[e,ZH,ih]
   all_goals rfl
theorem q8w{α:Type}:∀(l:bN)(i:Nat),(l.eraseIdx i).length<=l.length
 | [],_=>zQ _
 | _::_,0=>yx _
 | _::r,i+1=>Nat.succ_le_succ (q8w r i)
theorem q8f(its:bH):∀(k:Nat)(acc:bH),
  YY IE acc.toArray (z8 k its.toArray)=(acc++(z8 k its).flatten).toArray
 | 0,acc=>by simp
 | k+1,acc=>by
  have e:acc.toArray++its.toArray=(acc++its).toArray:=by simp
  have e2:(acc++its)++(z8 k its).flatten=acc++(z8 (k+1) its).flatten:=by
   rw[yT,yr,yB]
  rw[<- e2,<- q8f its k (acc++its),<- e,yT,ZT]
section
variable{X:Cx}{pins:List (vF×Obj)}{σ:St}{H:Hp}{s:vH}{l b:vF}{xs ys zs:List V}
theorem Inv.lset{its its':bH}{n:Nat}{f:aaA}{t':Nat}(I:aj)(hH:H l=some dJ)(e:s.heap.get? l=some { cls:=.type "list", data:=.seq its.toArray n })(hf:f its.toArray=its'.toArray)(hv:Y7 ys its')(hz:AV):
  Inv X pins σ Pm { s with heap:=s.heap.update l M3,toks:=t' }:=by
 have q:=PySem.IsL.update e f;rw[hf]at q;refine I.write (x:=l) (e:=l) (by rw[hH];exact trivial) bD (λb' u hb hu=>(zh s.heap M3 fL).trans hu) ⟨_,q⟩ ?_;exact⟨hz,its',_,hv,q⟩
theorem Inv.lnew{its:bH}{t':Nat}(I:aj)(hv:Y7 ys its)(hz:AV):
  Inv X pins σ (upd H s.heap.objs.size pF) { s with heap:=s.heap.push { cls:=.type "list", data:=.seq its.toArray },toks:=t' } :=
 I.laid IJ cL ⟨hz,its,0,hv,jt⟩
theorem Inv.fresh(I:aj):H s.heap.objs.size=none:=I.hok.fresh cL
theorem Inv.lstM(I:aj)(hH:H l=some dJ):xs.length<=sizeLine/\∃(its:bH) (n:Nat),Y7 xs its/\xs.length=its.length/\s.heap.get? l=some { cls:=.type "list", data:=.seq its.toArray n }:=by
 obtain⟨z,its,n,r,e⟩:=I.hok l _ hH;exact⟨z,its,n,r,r.length,e⟩
theorem W3{n:Nat}(h:n<=sizeLine):Builtin.List.listTooLong n=false:=by
 unfold Builtin.List.listTooLong;exact vT ∅
end
section
variable{X:Cx}
def X7:V->List V->Hp->VK->Prop:=λx vs H Q=>∃l xs y,x=.ref l/\vs=[y]/\H l=some dJ/\xs.length<sizeLine/\Q .non (upd H l (.lst (xs++[y])))
theorem q0L:MtM X "list.append" X7:=by
 intro pins s σ H x vs v us Q I rx rv h;obtain⟨l,xs,y,rfl,rfl,hH,hz,q⟩:=h;cases rx;obtain⟨u,rfl,ru⟩:=rv.one;obtain⟨z,its,n,r,hl,e⟩:=I.lstM hH;refine uf F.slot_list_append gk F.entry_list_append (F.args_list_append_2 _ _) (PySem.list_append l its.toArray n u (by rw[zP];omega)) ID;refine⟨.non,_,I.lset (its':=its++[u]) hH e (by simp) (r.append abI) ?_,rfl,q⟩;rw[zE,zi];omega
def zA1:V->List V->Hp->VK->Prop:=λx vs H Q=>∃l b xs zs,x=.ref l/\vs=[Az]/\H l=some dJ/\H b=some (.lst zs)/\xs.length+zs.length<=sizeLine/\Q .non (upd H l LC)
theorem qdD:MtM X "list.extend" zA1:=by
 intro pins s σ H x vs v us Q I rx rv h;obtain⟨l,b,xs,zs,rfl,rfl,hH,hB,hz,q⟩:=h;cases rx;obtain⟨u,rfl,ru⟩:=rv.one;cases ru;obtain⟨z,its,n,r,hl,e⟩:=I.lstM hH;obtain⟨z2,its2,n2,r2,hl2,e2⟩:=I.lstM hB;have hsz:its.toArray.size+its2.toArray.size<=sizeLine:=by rw[zP,zP];omega
 have hlong:¬(!its.toArray.isEmpty&&Builtin.List.listTooLong Gx)=true:=by
  rw[W3 hsz,wk];exact yM
 refine uf F.slot_list_extend gk F.entry_list_extend M5
  (AutoSeq1.list_extend_list_list_0 l its.toArray n b its2.toArray n2 hlong (by rw[zP];omega) ∅) ⟨e,e2,?_⟩
 refine⟨.non,_,I.lset (its':=its++its2) hH e (by simp) NT ?_,rfl,q⟩;rw[zE];omega
def rPop:V->List V->Hp->VK->Prop:=λx vs H Q=>∃l xs y,x=.ref l/\vs=[]/\H l=some dJ/\xs[Ik]?=some y/\Q y (upd H l (.lst xs.dropLast))
theorem qar:MtM X "list.pop" rPop:=by
 intro pins s σ H x vs v us Q I rx rv h;obtain⟨l,xs,y,rfl,rfl,hH,hy,q⟩:=h;cases rx;have hus:=rv.zero;subst hus;obtain⟨z,its,n,r,hl,e⟩:=I.lstM hH;obtain⟨u,hu,ru⟩:=r.get hy;have hy':its.toArray[Ua]?=some u:=by
  show its.toArray[its.length-1]?=some u;rw[<- zn,<- hl];exact hu
 refine uf F.slot_list_pop gk F.entry_list_pop (F.args_list_pop_1 _) (MeetsSeq.list_pop_last l its.toArray n u hy' (by rw[zP];omega)) ID;refine⟨y,_,I.lset (its':=its.dropLast) hH e ?_ r.dropLast ?_,ru,q⟩
 ·show its.toArray.eraseIdxIfInBounds Ua=its.dropLast.toArray
  rw[zP,wK,qda]
 ·rw[List.length_dropLast]
  omega
def rPopAt:V->List V->Hp->VK->Prop:=λx vs H Q=>∃l xs i k y,x=.ref l/\vs=[kE]/\H l=some dJ/\-(2^63)<=i/\i<2^63/\tN i xs.length=some k/\xs[k]?=some y/\Q y (upd H l (.lst (xs.eraseIdx k)))
theorem qfS:MtM X "list.pop" rPopAt:=by
 intro pins s σ H x vs v us Q I rx rv h;obtain⟨l,xs,i,k,y,rfl,rfl,hH,h1,h2,hk,hy,q⟩:=h;cases rx;obtain⟨u,rfl,ru⟩:=rv.one;obtain⟨t,rfl⟩:=ru;obtain⟨z,its,n,r,hl,e⟩:=I.lstM hH;obtain⟨w,hw,rw'⟩:=r.get hy;refine uf F.slot_list_pop gk F.entry_list_pop (F.args_list_pop_2 _ _)
  (MeetsSeq.list_pop_at l its.toArray n i t k w RA (by rw[zP,<- hl];exact hk) (by rw[<- zn];exact hw) (by rw[zP];omega)) ID
 refine⟨y,_,I.lset (its':=its.eraseIdx k) hH e ?_ (r.eraseIdx k) ?_,rw',q⟩
 ·show its.toArray.eraseIdxIfInBounds k=(its.eraseIdx k).toArray
  rw[wK]
 ·have:=q8w xs k
  omega
noncomputable def rCat:R2:=λx y H Q=>∃l b xs zs,x=.ref l/\y=.ref b/\H l=some dJ/\H b=some (.lst zs)/\xs.length+zs.length<=sizeLine/\∀p,H p=none->Q bK (upd H p LC)
theorem qkf:OpR X J1 rCat:=by
 intro pins s σ H x y v u Q I rx ry h;obtain⟨l,b,xs,zs,rfl,rfl,hH,hB,hz,q⟩:=h;cases rx;cases ry;obtain⟨z,its,n,r,hl,e⟩:=I.lstM hH;obtain⟨z2,its2,n2,r2,hl2,e2⟩:=I.lstM hB;refine PySem.P.add_list e e2 ?_ (by rw[zP,zP];omega);have ea:its.toArray++its2.toArray=(its++its2).toArray:=by simp
 rw[ea];exact⟨O4,_,I.lnew (t':=s.toks) NT (by rw[zE];omega),rfl,q _ I.fresh⟩
noncomputable def rRep:R2:=λx y H Q=>∃l k xs,x=.ref l/\y=.int k/\H l=some dJ/\-(2^63)<=k/\k<2^63/\xs.length*k.toNat<=sizeLine /\
 ∀p,H p=none->Q bK (upd H p (.lst (z8 k.toNat xs).flatten))
theorem qiR{α:Type}(xs:bN)(k:Nat):(z8 k xs).flatten.length=k*xs.length:=by
 induction k with
 | zero=>simp
 | succ k ih=>rw[yT,yr,zE,ih,Nat.succ_mul,Nat.add_comm]
theorem qkT:OpR X (uQ .Mult) rRep:=by
 intro pins s σ H x y v u Q I rx ry h;obtain⟨l,k,xs,rfl,rfl,hH,h1,h2,hz,q⟩:=h;cases rx;obtain⟨t,rfl⟩:=ry;obtain⟨z,its,n,r,hl,e⟩:=I.lstM hH;have hlen:its.toArray.size*k.toNat<=sizeLine:=by rw[zP,<- hl];exact hz
 have hcap:¬its.toArray.size*k.toNat>(2^63-1)/8:=by
  have:ab9<=(2^63-1)/8:=by decide
  omega
 have hfit:¬(!Builtin.List.listFitsIndex k)=true:=by
  rw[RA];exact yM
 have hlong:¬Builtin.List.listTooLong (its.toArray.size*k.toNat)=true:=by
  rw[W3 hlen];exact yM
 have hnew:YY IE #[] (z8 (if its.toArray.isEmpty=true then 0 else k.toNat) its.toArray)=(z8 k.toNat its).flatten.toArray:=by
  have f0:∀m:Nat,YY IE #[] (z8 m its.toArray)=(z8 m its).flatten.toArray:=λm=>by
   have:=q8f its m [];rw[yP]at this;exact this
  rw[f0];cases its with
  | nil=>simp
  | cons a r'=>rw[vG (by simp)]
 refine wpAny_binaryOp_repeat_ref (T := "list") (U := "int") (by decide) gk (λs'=>typeIs_int s' k t) noFill_list_mul F.fills_int_mul F.slot_int_rmul repeat_list F.slot_int_index.lookup
  (uf F.slot_int_rmul (typeIs_int s k t) F.entry_int_rmul (F.args_int_rmul_2 _ _) (int___rmul___int_list k t l its.toArray n)
   ⟨e,rfl,gk,uf F.slot_list_mul gk F.entry_list_mul (F.args_list_mul_2 _ _) (AutoListH.list___mul___list_int_3 l its.toArray n k t hfit hcap hlong) ID⟩)
 rw[hnew];exact⟨O4,_,I.lnew (t':=s.toks) (r.rep k.toNat) (by rw[qiR,Nat.mul_comm];exact hz),rfl,q _ I.fresh⟩
end
section
variable{prog:vQ}{w:vY}{A:ve}{E:vB->vH->Prop}{s:vH}
end
section
variable{X:Cx}
end
end L2
namespace Att
open PySem PySem.W PySem.Calls PyProof.Rows
theorem We{P:Params}{h:vf}:∀(ns:aa)(vs:bH),WellAll P h vs TW->uH vs ns:=by
 intro ns
 induction ns with
 | nil=>
  intro vs w;rw[yS]at w;cases w;exact .nil
 | cons n ns ih=>
  intro vs w;rw[zO]at w;cases w with
  | cons a b=>
   cases a;exact .cons _ _ (ih _ b)
theorem zBH{l:OpenLaw}{n:Nat}(hn:Pv){P:Params}{h:vf}{args:List WData}{vals:bH}(hpre:l.row.toRowW.claim.pre args=true)(hwl:WellAll P h vals args):
  ∃a vs ns,vals=[Value.ref a]/\args=[WData.list TW]/\h.get? a=some { cls:=.type "list", data:=.seq vs.toArray }/\uH vs ns/\ns.length<=n:=by
 have hsh:WShape.hasAll [] args [.list .int]=true:=(pre_splitW hpre).1;have hc:l.pre.holds [] { args:=args }=true:=(pre_splitW hpre).2;obtain⟨d,r,rfl,h1,h2⟩:=hasAllW_cons hsh;obtain rfl:=hasAllW_nil h2;obtain⟨xs,rfl,h3⟩:=hasW_list h1;obtain⟨ns,rfl⟩:=items_int h3;have hlen:ns.length<=n:=by
  unfold OpenLaw.pre at hc;have h4:(WTm.not (.lt (.lit (.int ky)) (.len (.arg 0)))).holds [] { args:=[.list (ns.map .int)] }=true:=by
   have h4:=(holds_andW hc).1;rw[hn]at h4;exact h4
  have h5:=condW_of h4 (w_not (w_lt w_lit (w_len_list (w_arg rfl))));rw[zB]at h5;refine Nat.le_of_not_lt λq=>?_;have q':ky<((ns.length:Nat):Int):=∅
  first
   | (rw[vO q']at h5;exact vM h5 (by decide))
   | (simp at h5;omega)
 cases hwl with
 | cons w1 w2=>
  cases w2;cases w1 with
  | list ho hall=>exact⟨_,_,ns,rfl,rfl,ho,We ns _ hall,hlen⟩
theorem zBA(l:OpenLaw)(args:List WData):l.row.toRowW.claim.post args m8 args=true :=
 postW_of (r:=l.row.toRowW) (X:=(true==true))
  (show WShape.has [] m8 .bool=true by first|rfl|decide|simp[WShape.has,WShape.arms,WShape.armsAll])
  (show (WTm.eq .res (.lit m8)).value [] { args:=args,res:=some m8,after:=args }=some (.bool (true==true))from w_eq_bool (w_res rfl) w_lit) rfl
theorem attach_call{l:OpenLaw}{n:Nat}{q:vQ}{loose:dI}{XP:RF}{YP:Q7}{d:DefRec}(hn:Pv)(hdf:GA)(call:∀(w:vY)(s₀ s₁:vH)(mg mb:bO)(fa:vF)(o:Obj)(pm cd doc:vB)(a:vF)(vs:bH)(ns:aa),
   Ground q loose [] XP w s₀ mg mb s₁.heap->YP w s₁.heap ->
   s₁.heap.get? fa=some o->o.data=.func (docDef d.name d.params d.body d.scope pm cd doc)->s₁.heap.CodeRec cd d.name->mg d.name=some Km ->
   s₁.heap.get? a=some { cls:=.type "list", data:=.seq vs.toArray }->uH vs ns->ns.length<=n->s₁.gens=#[] ->
   uU (model l.prog w) t4 rD eL s₁) :
  WalkO q loose XP YP l.row.toRowW d [] BG:=by
 intro w s₀ s₁ mg mb G Y fa o pm cd doc dV kV ho hd hcd hD hmg hg args vals as hpre hlay hrd hwl hlo;obtain rfl:dV=.none:=Dflts.none hD hdf;obtain rfl:kV=.none:=Dflts.noKw hD;obtain⟨a,vs,ns,rfl,rfl,hobj,zAe,hlen⟩:=zBH hn hpre hwl;refine enter_call (uV (call w s₀ s₁ mg mb fa o pm cd doc a vs ns G Y ho (fd_plain hd) hcd hmg hobj zAe hlen hg) λr s' hq=>?_);obtain⟨rfl,h2,h3,h4⟩:=hq;exact⟨.inl ⟨m8,m8,[],rfl,Hj,m8,zBA l _,λ_=>⟨wC,λ_ hm=>(nomatch hm)⟩⟩,h2,h3,h4⟩
section
variable{prog:vQ}{w:vY}{A:ve}{E:vB->vH->Prop}{s:vH}{K:Frag}
end
end Att
namespace L2
open PySem PySem.Spec PyProof.Rows
theorem q2u:∀{vs:bH}{ns:aa},uH vs ns->Y7 c9 vs
 | _,_,.nil=>.nil
 | _,_,.cons n t h=>.cons LE (q2u h)
def Only(H:Hp):Prop:=∀b,H b=none\/∃o xs,H b=some (.frz o dJ)
theorem qfX{P:vQ}{w:vY}{K:zC}{mg mb:bO}{CX:CXT}{k:Nat}{fa a:vF}{fd:vN}{x:Str}{sp:Sp}{s₁:vH}{vs:bH}{ns:aa}(KX:K.In s₁.heap)(hns:s₁.heap.Ns vS mg)(hb:s₁.heap.Ns builtinsNs mb)(hbb:∀x:Str,x ≠ "__name__" -> mb x=vg x)(hlim:s₁.heap.NoLimit)(hg:s₁.gens=#[])(ha:s₁.heap.get? a=some { cls:=.type "list", data:=.seq vs.toArray })(hi:uH vs ns)(hl:ns.length<=sizeLine)(hr:Room k t4)(F:∀base:vf,K.In base->base.Ns vS mg->FnOk P w K mg base CX k fa fd [x] sp)(hbind:∀(s:vH)(u:vB),sD s fd QT [(x,u)])(hsp:∀H:Hp,Only H->SqL K H a c9->sp [dF] H SA λ_ _ _=>False)(hCX:∀H e s',CX [] H s₁ VQ e s'->False):
  uU Ru t4 rD eL s₁:=by
 have rv:=q2u hi;have lenV:=hi.length;have core:∀H:Hp,Only H->SqL K H a c9->HOk P w H s₁.heap->(∀b,H b≠none->b=a)->(H a≠none->K.lookup a=none) ->
   uU Ru t4 rD eL s₁:=by
  intro H hO hS hok hA hK;have base_of:∀{b:vF}{o:Obj},s₁.heap.get? b=some o->H b=none->(zBd s₁.heap H).get? b=some o:=λe n=>qfL e n;have noA:∀{b:vF}{o:Obj}{es:M6}{ep:Nat},s₁.heap.get? b=some o->o.data=.dict es ep->H b=none:=λ{b o es ep} e d=>by
   cases q:H b with
   | none=>rfl
   | some u=>
    have e':b=a:=hA b (by rw[q];simp);subst e';rw[ha]at e;cases e;have d':Data.seq vs.toArray _=Data.dict es ep:=d;cases d'
  have nsK:∀{b:vF}{m:bO},s₁.heap.Ns b m->(zBd s₁.heap H).Ns b m:=λ{b m} ⟨o,es,ep,e,d,r⟩=>⟨o,es,ep,base_of e (noA e d),d,r⟩;have hKb:K.In IK:=λb o e=>base_of (KX b o e) (by
   cases q:H b with
   | none=>rfl
   | some u=>
    have e':b=a:=hA b (by rw[q];simp);subst e';rw[hK (by rw[q];simp)]at e;cases e)
  have hM:Mod K mg IK:=⟨hKb,nsK hns,⟨mb,nsK hb,hbb⟩,let ⟨mc,h1,h2⟩:=hlim;⟨mc,nsK h1,h2⟩⟩;have e0:Env0 P w K mg IK t4 [] s₁ H:=⟨rfl,hM,λb o e=>qiz e,Nat.le_of_eq (qe2 _ _),trivial,λb hb=>vM (show b∈PQ from hb) (by simp),hok,.of_eq hg⟩;refine uV ((F _ hKb (nsK hns)).run t4 [] s₁ H Pc [dF] [dF] _ _ hr e0 (hbind s₁ dF) (.cons rfl .nil) (hsp H hO hS)) λr s' h=>?_;cases r with
  | error e=>exact(hCX H e s' h).elim
  | ok fl=>
   cases fl with
   | next=>exact False.elim h
   | brk=>exact False.elim h
   | cont=>exact False.elim h
   | ret u=>
    obtain⟨v,H',os,bare,un,hok',r',q⟩:=h;have q':v=.bl true:=q;subst q';obtain rfl:u=Value.bool true:=r';refine⟨rfl,OldK.of_keep λb o e=>?_,os,bare⟩;cases q:H b with
    | none=>exact un.keep b o e q (by intro z;exact vM (show b∈PQ from z) (by simp)) (by simp)
    | some u=>
     rcases hO b with z|⟨ob,xs,z⟩
     ·rw[q]at z;cases z
     ·have z2:=un.frzs b ob _ z
      obtain⟨e1,_⟩:=hok b _ z;obtain⟨e2,_⟩:=hok' b _ z2;rw[e]at e1;cases e1;exact e2
 cases hk:K.lookup a with
 | some o=>
  have e:=KX a o hk;rw[ha]at e;cases e;refine core (λ_=>none) (λ_=>.inl rfl) (.inr ⟨_,vs.toArray,_,hk,rfl,rfl,rfl,by rw[zP,lenV];exact hl,by simpa using rv⟩) (λb u z=>by have z':(none:Option HO)=some u:=z;cases z') (λb z=>vM rfl z) λz=>vM rfl z
 | none=>
  refine core (λb=>if b=a then some (.frz { cls:=.type "list", data:=.seq vs.toArray } Dq)else none) (λb=>?_) (.inl (.inr ⟨{ cls:=.type "list", data:=.seq vs.toArray },jT⟩)) Ks (λb z=>?_) λ_=>hk
  ·by_cases hb:b=a
   ·exact .inr ⟨_,_,Q9⟩
   ·exact .inl LK
  ·by_cases hb:b=a
   ·have z':=(vC hb).symm.trans z
    cases z';subst hb;exact⟨ha,by rw[zB];exact hl,vs,_,rv,ha⟩
   ·have z':=(vG hb).symm.trans z
    cases z'
  ·by_cases hb:b=a
   ·exact hb
   ·exact vM LK z
noncomputable abbrev KOf{K:zC}{h:vf}(_:K.In h):zC:=K
theorem qbG{l:ZU}{n k:Nat}{q:vQ}{loose:dI}{XP:RF}{YP:Q7}{d:DefRec}{K:Params->zC}{CX:vY->CXT}{sp:vY->Sp}{x:Str}(hn:Pv)(hn2:n<=sizeLine)(hdf:GA)(hr:Room k t4)(hY:∀(w:vY)(h:vf),YP w h->(K w.params).In h)(F:∀(w:vY)(mg:bO)(fa:vF)(h:vf),(K w.params).In h->h.Ns vS mg->mg d.name=some Km ->
   ∃fd:vN,(∀(s:vH)(u:vB),sD s fd QT [(x,u)]) /\
    ∀base:vf,(K w.params).In base->base.Ns vS mg->FnOk l.prog w DI mg base (CX w) k fa fd [x] (sp w))
  (hsp:∀(w:vY)(H:Hp)(a:vF)(ns:aa),ns.length<=n->Only H->SqL DI H a c9->sp w [dF] H SA λ_ _ _=>False)
  (hCX:∀(w:vY)(H:Hp)(s:vH)(e:vB)(s':vH),CX w [] H s VQ e s'->False) :
  Yi q loose XP YP l.row.toRowW d [] BG:=by
 refine Att.attach_call hn hdf λw s₀ s₁ mg mb fa o pm cd doc a vs ns G Y ho hd hcd hmg hobj zAe hlen hg=>?_;have KX:=hY w _ Y;obtain⟨fd,hb,hF⟩:=F w mg fa _ KX G.T.g hmg;exact qfX KX G.T.g G.T.b G.T.builtins G.T.nolimit hg hobj zAe (yL hlen hn2) hr hF hb (λH hO hS=>hsp w H a ns hlen hO hS) λH e s'=>hCX w H s₁ e s'
end L2
namespace L2
open PySem PySem.Spec PyProof.Rows
noncomputable def X6(s:vn):Arguments:=match s with
 | .FunctionDef _ a _ _ _ _ _ _ _ _=>a
 | _=>{ posonlyargs:=[],args:=[],vararg:=none,kwonlyargs:=[],kw_defaults:=[],kwarg:=none,defaults:=[] }
noncomputable def Xl(s:vn):List vn:=match s with
 | .FunctionDef _ _ b _ _ _ _ _ _ _=>b
 | _=>[]
noncomputable def Yu(s:vn):uu:=match s with
 | .FunctionDef _ _ _ _ _ _ sc _ _ _=>sc
 | _=>{ kind:=.function,names:=[],isGenerator:=false,isCoroutine:=false }
noncomputable abbrev CX0:CXT:=λ_ _ _ _ _ _=>False
noncomputable abbrev E0:XK:=λ_ _ _=>False
theorem zBU{X:Cx}:zAT CX0 X E0:=λ_ _ _ _ _ _ _ h=>h.elim
structure Fun (K:zC) (x qual:Str) (st:vn) (f:vF) (fd:vN):Prop where
 ex:∃(oc:vB) (od:Option vF) (kV doc pm:vB) (an:Option vF) (cdv ct:vB) (osl:Array (Option vB)),
  fd=xR x qual (X6 st) (Xl st) (Yu st) .none kV doc pm an cdv ct/\K.lookup f=some ⟨oc,od,.func fd,osl⟩/\wj K cdv qual=true
 kp:xM K (.ref f)=true
section
variable{P:vQ}{w:vY}{K:zC}{mg:Str->Option vB}{base:vf}
theorem Fun.ok{x qual:Str}{st:vn}{f:vF}{fd:vN}{N ps:dI}{k:Nat}{sp:Sp}(F:Ax)(S:M4)(len:∀vs H Q E,sp vs H Q E->vs.length=ps.length)(hbody:∀(cdv:vB)(A:ve)(outer:rN)(s:vH)(H:Hp)(vs:bu)(Q:VK)(E:XK),Room k (A.deeper (tY qual Co s.heap.objs.size f cdv))->sp vs H Q E ->
   ∃t,PSs (zAx CX0 P w K mg base N qual Co f cdv A outer s H E).nox PY t/\t { nx:=λ_ H'=>Q .non H',rt:=Q } Dx H):FnOk P w K mg base CX0 (k+1) f fd ps sp:=by
 obtain⟨oc,od,kV,doc,pm,an,cdv,ct,osl,rfl,lk,hcd⟩:=F.ex;refine qlm lk hcd S len λA outer s H vs Q E hr hsp=>?_;obtain⟨t,h,q⟩:=hbody cdv A outer s H vs Q E hr hsp;exact⟨t,h.nox,q⟩
theorem Fun.binds{x qual:Str}{st:vn}{f:vF}{fd:vN}{ps:dI}(F:Ax)(h:∀(kV doc pm:vB)(an:Ib)(cdv ct:vB)(us:bH),us.length=ps.length->bindArgs iF AA=pure Fe):Binds K fd ps []:=by
 obtain⟨oc,od,kV,doc,pm,an,cdv,ct,osl,rfl,lk,hcd⟩:=F.ex;exact .all (h kV doc pm an cdv ct)
theorem qjP{x qual:Str}{st:vn}{f:vF}{oc:vB}{od an:Ib}{osl:UK}{kV doc pm cdv ct:vB}(l:K.lookup f=some ⟨oc,od,.func iF,osl⟩)(c:VY)(k:xM K fh=true):Fun K x qual st f iF:=⟨⟨oc,od,kV,doc,pm,an,cdv,ct,osl,rfl,l,c⟩,k⟩
end
theorem zAu{n:Nat}(h:n<=1000):n<sizeLine:=xx h (by decide)
section
variable{X:Cx}
theorem pv(i:Nat){x:Str}{pos:Pos}(hN:X.N[i]?=some x:=by rfl)(hv:rC:=by first|exact Or.inl rfl|exact Or.inr aF|exact Or.inr DH)(hd:aC:=by decide)(hcd:ii:=by decide):PE X jg KI:=qjN hN hv hd hcd
end
def Y8(H H':Hp):Prop:=∀b o,H b=some o->H' b=some o
theorem Y8.refl(H:Hp):Y8 H H:=λ_ _ h=>h
theorem Y8.trans{H H1 H2:Hp}(a:Y8 H H1)(b:Y8 H1 H2):Y8 H H2:=λc o h=>b c o (a c o h)
theorem Y8.free{H H':Hp}(e:Oc){l:vF}(h:H' l=Yn):H l=Yn:=by
 cases q:H l with
 | none=>rfl
 | some o=>
  rw[e l o q]at h;cases h
theorem Y8.seq{K:zC}{H H':Hp}{a:vF}{xs:bu}(e:Oc)(h:SqL K H a xs):SqL K H' a xs:=by
 rcases h with (h|⟨o,h⟩)|h
 ·exact .inl (.inl ST)
 ·exact .inl (.inr ⟨o,ST⟩)
 ·exact .inr h
end L2
namespace Hk
open PySem
def zAq(xs:Ej):Prop:=xs.toList.Pairwise (· < ·)
theorem q5Y{l:cJ}(h:l.Pairwise (· < ·)){i j:Nat}(hi:i<l.length)(hj:j<l.length)(hij:i<j):l[i]<l[j]:=yY.mp h i j hi hj hij
theorem qfJ{xs:Ej}{j:Nat}(h:zAq xs):∀(fuel lo hi:Nat),lo<=hi->hi<=xs.size->hi-lo<=fuel->(∀k(z:l8),k<lo->xs.toList[k]<j)->(∀k(z:l8),hi<=k->j<=xs.toList[k]) ->
  SetTable.below.go xs j fuel lo hi<=xs.size/\(∀k(z:l8),k<SetTable.below.go xs j fuel lo hi->xs.toList[k]<j)/\(∀k(z:l8),SetTable.below.go xs j fuel lo hi<=k->j<=xs.toList[k]):=by
 intro fuel
 induction fuel with
 | zero=>
  intro lo hi h1 h2 h3 h4 h5;have e:lo=hi:=∅
  subst e;exact⟨h2,h4,h5⟩
 | succ n ih=>
  intro lo hi h1 h2 h3 h4 h5;unfold SetTable.below.go
  by_cases hl:lo<hi
  ·rw[vC hl]
   have hm:Mr/2<xs.toList.length:=by rw[zW];omega
   have hg:xs.getD (Mr/2) j=xs.toList[Mr/2]:=by
    rw[Array.getD_eq_getD_getElem?,<- zn,zD hm];rfl
   by_cases hc:xs.getD (Mr/2) j<j
   ·simp only[hc,if_true]
    refine ih _ _ ∅ h2 ∅ abP h5
    by_cases e:k=Mr/2
    ·subst e;rw[hg]at hc;exact hc
    ·have:=q5Y h z hm ∅
     rw[hg]at hc;omega
   ·simp only[hc,if_false]
    refine ih _ _ ∅ ∅ ∅ h4 abP
    by_cases e:k=Mr/2
    ·subst e;rw[hg]at hc;omega
    ·have:=q5Y h hm z ∅
     rw[hg]at hc;omega
  ·rw[vG hl]
   have e:lo=hi:=∅
   subst e;exact⟨h2,h4,h5⟩
theorem qa6{xs:Ej}(h:zAq xs)(j:Nat):SetTable.below xs j<=xs.size/\(∀k(z:l8),k<SetTable.below xs j->xs.toList[k]<j)/\(∀k(z:l8),SetTable.below xs j<=k->j<=xs.toList[k]) :=
 qfJ h xs.size 0 xs.size Bv cL ∅ (λk z hk=>vM hk Tw) (λk z hk=>by rw[zW]at z;omega)
theorem q54{α:Type}(xs:Array α)(p:Nat)(x:α):(SetTable.insertAt xs p x).toList=xs.toList.take p++x::xs.toList.drop p:=by
 unfold SetTable.insertAt;simp[Array.toList_extract,wE]
theorem qaN{xs:Ej}(h:zAq xs){j:Nat}(hn:xs[AI]?≠some j):zAq (SetTable.insertAt xs AI j):=by
 obtain⟨h1,h2,h3⟩:=qa6 h j;unfold zAq;rw[q54,xk];have lt:∀y∈xs.toList.drop (SetTable.below xs j),j<y:=by
  intro y hy;obtain⟨k,hk,e⟩:=zw.mp hy;rw[yN]at hk;rw[List.getElem_drop]at e;have hb:SetTable.below xs j<xs.toList.length:=∅
  have hh:=h3 _ hb cL;have ne:xs.toList[AI]≠j:=λz=>hn (by rw[<- zn,zD hb,z]);have hle:xs.toList[AI]<=y:=by
   by_cases e0:k=0
   ·subst e0;rw[<- e];simp
   ·rw[<- e];exact yb (q5Y h hb ∅ ∅)
  omega
 refine⟨wL (YA _ _) h,zt.mpr ⟨lt,wL (List.drop_sublist _ _) h⟩,λa ha b hb=>?_⟩;have haj:a<j:=by
  obtain⟨k,hk,e⟩:=zw.mp ha;rw[zr]at hk;rw[YB]at e;rw[<- e];exact h2 k ∅ ∅
 rcases zK.mp hb with rfl|hb
 ·exact haj
 ·exact YC haj (lt b hb)
structure Tb (t:SetTable) (n:Nat):Prop where
 fits:t.fits n=true
 rise:zAq t.place
 dum:t.dummies=#[]
theorem q9r{t:SetTable}(hd:t.dummies=#[])(j:Nat):t.slot j≠.dummy:=by
 unfold SetTable.slot;rw[hd]
 dsimp only
 split
 ·exact λz=>nomatch z
 ·have:SetTable.has #[] j=false:=by simp[SetTable.has]
  rw[this];exact λz=>nomatch z
theorem qaA{t:SetTable}(hd:t.dummies=#[]){h:Int}:∀(fuel:Nat)(p:SetTable.Probe)(m:SetTable.Met),p.dummy=none->SetTable.probe.go t (λ_=>h+1) h fuel p=some m->∃j,m=.empty j none/\t.slot j=.empty:=by
 intro fuel
 induction fuel with
 | zero=>intro p m _ e;cases e
 | succ n ih=>
  intro p m hp e;unfold SetTable.probe.go at e;cases hs:t.slot p.j with
  | empty=>
   rw[hs]at e;cases e;exact⟨p.j,by rw[hp],hs⟩
  | dummy=>exact vM hs (q9r hd _)
  | live i=>
   rw[hs]at e;have hne:(h+1==h)=false:=by simp only[beq_eq_false_iff_ne,ne_eq];omega
   dsimp only at e
   rw[hne]at e;refine ih _ m ?_ e;unfold SetTable.advance
   split
   ·exact hp
   ·exact hp
theorem qaM{t:SetTable}(hd:t.dummies=#[]){h:Int}{slot:Nat}{b:Bool}(e:t.freeSlot h=some (slot,b)):b=false/\t.place[Bm]?≠some slot:=by
 unfold SetTable.freeSlot at e;cases q:t.probe (λ_=>h+1) h (t.probeStart h)with
 | none=>rw[q]at e;cases e
 | some m=>
  rw[q]at e;obtain⟨j,rfl,hs⟩:=qaA hd _ _ m (by rfl) q;cases e;refine⟨rfl,JR⟩;unfold SetTable.slot at hs
  dsimp only at hs
  have:(t.place[P0]?==some j)=true:=by
   rw[show t.place[P0]?=some j from z];simp
  rw[vC this]at hs;cases hs
theorem qde(n:Nat):zAq (Array.range n):=by
 unfold zAq;rw[Array.toList_range];exact xY
theorem q31(t:SetTable)(n:Nat):Tb (t.standIn n) n:=by
 refine⟨?_,qde n,rfl⟩;unfold SetTable.fits SetTable.standIn SetTable.fill;simp;omega
theorem qlb{t:SetTable}{n:Nat}(h:zAq t.place)(hd:t.dummies=#[]):Tb (t.orStandIn n) n:=by
 unfold SetTable.orStandIn
 by_cases z:t.fits n=true
 ·rw[fG];exact⟨z,h,hd⟩
 ·rw[fm];exact q31 t n
theorem qki(t:SetTable)(n:Nat):(t.orStandIn n).led=t.led:=by
 unfold SetTable.orStandIn
 split <;> rfl
theorem qeG{t:SetTable}{es:mS}{h:Int}{x:vB}(T:Tb t es.size):
  (layNew t es h x).2.2.1=false/\Tb (layNew t es h x).2.1 (layNew t es h x).1.size/\(layNew t es h x).2.1.led=t.led/\(layNew t es h x).1.toList.Perm ((h,x)::es.toList):=by
 unfold layNew;cases q:t.freeSlot h with
 | none=>
  refine⟨rfl,?_,rfl,?_⟩
  ·rw[ZV];exact q31 t _
  ·rw[YD]
   exact List.perm_append_singleton _ _
 | some p=>
  obtain⟨slot,b⟩:=p;obtain⟨rfl,hn⟩:=qaM T.dum q;have hd:(t.put slot).1.dummies=#[]:=by
   unfold SetTable.put
   dsimp only
   rw[T.dum];simp[SetTable.has]
  refine⟨rfl,qlb (qaN T.rise hn) hd,(qki _ _).trans rfl,?_⟩;rw[q54];refine xv wN ?_;rw[y9]
theorem q6l{α:Type}{f:α->Option α}(h:∀x y,f x=some y->y=x):∀l:List α,(l.filterMap f).Sublist l
 | []=>by simp
 | a::r=>by
  rw[yk];cases q:f a with
  | none=>exact(q6l h r).cons a
  | some b=>rw[h a b q];exact(q6l h r).cons_cons a
theorem q7e{α:Type}:∀l:List α,(zY l.length).filterMap (λi=>l[i]?)=l
 | []=>rfl
 | a::r=>by
  rw[zM,ZM,yk];simp only[xT];rw[Z1];have e:((λi=>(a::r)[i]?) ∘ Nat.succ)=λi=>r[i]?:=by funext i;simp
  rw[e,q7e r]
theorem qj8{mask finger moves:Nat}{led plain:Bool}{hs:Array Int}{t:SetTable}{o:Ej}(e:SetTable.laid mask finger moves led plain hs=some (t,o)):zAq t.place/\t.dummies=#[]/\t.led=led:=by
 unfold SetTable.laid at e;cases q:SetTable.layClean mask hs with
 | none=>rw[q]at e;cases e
 | some owner=>
  rw[q]at e;cases e;refine⟨?_,rfl,rfl⟩;unfold zAq
  dsimp only
  rw[List.map_filterMap];refine wL (q6l (λx y z=>?_) _) xY;cases q2:owner.getD x none with
  | none=>rw[q2]at z;cases z
  | some c=>rw[q2]at z;exact(zy z).symm
theorem qgr{t:SetTable}{es:mS}(w:Nat):Tb (relayAll t es w).2.1 (relayAll t es w).1.size/\(relayAll t es w).2.1.led=t.led/\(relayAll t es w).1.toList.Perm es.toList:=by
 unfold relayAll;cases q:t.relaid (es.map (·.1)) w with
 | none=>exact QS
 | some p=>
  obtain⟨t',order⟩:=p
  dsimp only
  obtain⟨h1,h2,h3⟩:=qj8 q
  by_cases z:(coversAll order es.size&&t'.fits (order.filterMap (es[·]?)).size)=true
  ·rw[fG]
   rw[zv]at z;refine⟨⟨z.2,h1,h2⟩,h3,?_⟩;have hp:order.toList.Perm Pj:=List.isPerm_iff.mp z.1;rw[Array.toList_filterMap];have e:(λ(i:Nat)=>es[i]?)=λ(i:Nat)=>es.toList[i]?:=by funext i;simp
   rw[e];have q2:=hp.filterMap λi=>es.toList[i]?;rw[<- zW,q7e]at q2;exact q2
  ·rw[fm]
   exact QS
end Hk
namespace Hk
open PySem PySem.Spec PyProof.Rows
noncomputable def vI:vB->Int
 | .int i _=>i
 | _=>0
def W5(e:eI):Prop:=∃x t,e=(sO x,Value.int x t)
theorem qdt{prog:vQ}{w:vY}{l:KN}(h:∀e∈l,W5 e):ElemsOf (u6 prog w) l:=λe he=>by
 obtain⟨x,t,rfl⟩:=h e he;exact⟨⟨x,Gz,rfl⟩,rfl⟩
def zAI(h:vf)(a:vF)(led:Bool)(xs:aa):Prop:=∃o es ep t,h.get? a=some o/\o.ExactSet/\o.data=.set es ep t/\Tb t es.size/\t.led=led/\es.size<ud /\
 (∀e∈es.toList,W5 e)/\es.toList.map B5=xs/\xs.Nodup
theorem zAI.len{h:vf}{a:vF}{led:Bool}{xs:aa}(S:zAI h a led xs):xs.length<ud:=by
 obtain⟨o,es,ep,t,_,_,_,_,_,z,_,e,_⟩:=S;rw[<- e,zB,zW];exact z
theorem zAI.at{h h':vf}{a:vF}{led:Bool}{xs:aa}(S:zAI h a led xs)(k:∀o,h.get? a=some o->h'.get? a=some o):zAI h' a led xs:=by
 obtain⟨o,es,ep,t,e,r⟩:=S;exact⟨o,es,ep,t,k o e,r⟩
theorem qb9{prog:vQ}{w:vY}{e:eI}(h:W5 e)(x:Int):(u6 prog w).is x e.2=decide (vI e.2=x):=by
 obtain⟨y,t,rfl⟩:=h;show Value.isInt x (.int y t)=decide (y=x)
 by_cases z:y=x
 ·subst z;simp[Value.isInt]
 ·simp[Value.isInt,z]
theorem qee{prog:vQ}{w:vY}{l:KN}(h:∀e∈l,W5 e){x:Int}(q:l.findIdx? AM=none):x∉l.map B5:=λz=>by
 obtain⟨e,he,ex⟩:=zT.mp z;have:=List.findIdx?_eq_none_iff.mp q e he;rw[qb9 (h e he),ex]at this;simp at this
theorem qet{prog:vQ}{w:vY}{l:KN}(h:∀e∈l,W5 e){x:Int}{j:Nat}(q:l.findIdx? AM=some j):x∈l.map B5:=by
 obtain⟨hj,hp,_⟩:=List.findIdx?_eq_some_iff_getElem.mp q;rw[qb9 (h _ (zd hj))]at hp;exact zT.mpr ⟨_,zd hj,of_decide_eq_true hp⟩
section
variable{prog:vQ}{w:vY}{A:ve}{E:vB->vH->Prop}{s:vH}
theorem qbD{h:vf}{a:vF}{o:Obj}{es es':mS}{ep:Nat}{t t':SetTable}{led:Bool}{xs:aa}(go:h.get? a=some o)(gx:o.ExactSet)(gd:dM)(T:Tb t' es'.size)(gl:t'.led=led)(gb:es'.size<ud)(gg:∀e∈es'.toList,W5 e)(gv:es'.toList.map B5=xs)(gn:xs.Nodup):
  (h.update a GV).get? a=some { o with data:=.set es' (ep+1) t' }/\zAI (h.update a GV) a led xs:=by
 have q:=y8 GV go (by rw[Vd];rfl);rw[Vd]at q;exact⟨q,_,es',ep+1,t',q,gx,rfl,T,gl,gb,gg,gv,gn⟩
theorem qfw{g:Bool->Sem Unit}(gw:∀(b:Bool)(s1:vH)(Q':rL),Q' () s1->vL am A (g b) Q' E s1){a:vF}{o:Obj}{es es1:mS}{ep:Nat}{t t2:SetTable}{led:Bool}{xs:aa}(go:gj)(gx:o.ExactSet)(gd:dM)(T:Tb t2 es1.size)(gl:t2.led=led)(gb:es1.size<ud)(gg:∀e∈es1.toList,W5 e)(gv:es1.toList.map B5=xs)(gn:xs.Nodup){dm:Bool}{R:Option Bool->vH->Prop}(k:∀h' ys,xP a s.heap h'->zAI h' a led ys->ys.Perm xs->R E9 { s with heap:=h' }):
  vL am A (do
    storeSet a es1 t2
    if (!dm&&t2.tooFull)=true then do
      g (relayAll t2 es1 kA).2.2
      storeSet a (relayAll t2 es1 kA).1 (relayAll t2 es1 kA).2.1
      pure E9
     else pure E9) R E s:=by
 refine vA (wpAny_storeSet_of go gd ?_ (fits_of_scanBound gb));obtain⟨g1,S1⟩:=qbD go gx gd T gl gb gg gv gn;have sb:=Zn s.heap a (Obj.putSet es1 t2)
 split
 ·obtain⟨T2,l2,p2⟩:=qgr (t:=t2) (es:=es1) kA
  generalize relayAll t2 es1 kA=rl at T2 l2 p2 ⊢;obtain⟨es2,t3,gv2⟩:=rl
  dsimp only at T2 l2 p2 ⊢
  have hz:es2.size=es1.size:=by rw[<- zW,p2.length_eq,zW]
  have gb2:es2.size<ud:=by rw[hz];exact gb
  have pv:(es2.toList.map λe=>vI e.2).Perm xs:=by rw[<- gv];exact p2.map _
  refine vA (gw _ _ _ ?_);refine vA (wpAny_storeSet_of g1 rfl ?_ (fits_of_scanBound gb2));obtain⟨_,S2⟩:=qbD g1 gx rfl T2 (l2.trans gl) gb2 (λe he=>gg e (p2.mem_iff.mp he)) rfl (pv.nodup_iff.mpr gn);exact vJ (k _ _ (sb.trans (Zn _ a _)) S2 pv)
 ·exact vJ (k _ _ sb S1 (xU _))
theorem qkY{a:vF}{led:Bool}{xs:aa}{x:Int}{tk:Tok}{Q:rP}(S:zAI s.heap a led xs)(room:xs.length+1<ud)(k:∀b h' ys,xP a s.heap h'->zAI h' a led ys->(x∈xs->ys=xs)->(x∉xs->ys.Perm NO)->Q b { s with heap:=h' }):
  vL am A (setAddHashed a (.int x tk) (sO x)) Q E s:=by
 obtain⟨o,es,ep,t,go,gx,gd,T,gl,gb,gg,gv,gn⟩:=id S;have hl:es.size=xs.length:=by rw[<- gv,zB,zW]
 have el:ElemsOf (u6 prog w) es.toList:=qdt gg;unfold setAddHashed setAddHashedIn;refine vX (vA Rb)
 dsimp only
 rw[byScan_of (knd:=u6 prog w) (x:=.int x tk) rfl gb el];simp only[↓reduceIte];unfold setAddByScan;refine vA (vA (uW (vA (wpAny_setScan_of (knd:=u6 prog w) (k:=x) Gz go gd T.fits el ?_))));cases q:List.findIdx? AM es.toList with
 | some j=>
  dsimp only
  have hx:x∈xs:=by rw[<- gv];exact qet gg q
  refine vJ fP;exact k false s.heap xs (YE a s.heap) S Hj λz=>vM hx z
 | none=>
  dsimp only
  have hx:x∉xs:=by rw[<- gv];exact qee gg q
  obtain⟨d0,T1,l1,p1⟩:=qeG (t:=t) (es:=es) (h:=sO x) (x:=.int x tk) T;generalize layNew t es (sO x) (.int x tk)=ly at d0 T1 l1 p1 ⊢;obtain⟨es1,t1,dm,gave⟩:=ly
  dsimp only at d0 T1 l1 p1 ⊢
  have gg1:∀e∈es1.toList,W5 e:=λe he=>by
   rcases zK.mp (p1.mem_iff.mp he)with rfl|he
   ·exact⟨x,tk,rfl⟩
   ·exact gg e he
  have pv:(es1.toList.map λe=>vI e.2).Perm NO:=by rw[<- gv];exact p1.map _
  have gn1:(es1.toList.map λe=>vI e.2).Nodup:=pv.nodup_iff.mpr (yZ.mpr ⟨hx,gn⟩);have gb1:es1.size<ud:=by
   have:=pv.length_eq;rw[zB,zW,zM]at this;omega
  have gw:∀(b:Bool)(s1:vH)(Q':rL),Q' () s1->vL am A (match b with|true=>rule "set.scan.the-table-gave-way" | false=>pure ()) Q' E s1 :=
   λb s1 Q' z=>by cases b <;> first|exact vJ z|exact uW z
  refine vA (gw _ _ _ ?_);have fin:∀h' ys,xP a s.heap h'->zAI h' a led ys->ys.Perm (es1.toList.map λe=>vI e.2)->Q true { s with heap:=h' }:=λh' ys sb S' p=>k true h' ys sb S' (λz=>vM z hx) λ_=>p.trans pv
  split
  ·refine vA ?_
   rw[hashByValue_scannable 8 (x:=Value.int x tk) rfl];refine vJ ?_;refine qfw (λb s1 Q' z=>by cases b <;> first|exact vJ z|exact uW z) go gx gd T1 (l1.trans gl) gb1 gg1 rfl gn1 λh' ys sb S' p=>?_;exact vJ SQ
  ·refine vA fP
   simp only[↓reduceIte];refine qfw (λb s1 Q' z=>by cases b <;> first|exact vJ z|exact uW z) go gx gd T1 (l1.trans gl) gb1 gg1 rfl gn1 λh' ys sb S' p=>?_;exact vJ SQ
end
def zBa(h:vf)(S:vF)(led:Bool)(val:UB)(m:Nat):Prop:=∃xs,zAI h S led xs/\xs.length<=m/\∀x,x∈xs↔∃i,i<m/\val i=x
theorem zBa.at{h h':vf}{a:vF}{led:Bool}{val:UB}{m:Nat}(S:zBa h a led val m)(k:∀o,h.get? a=some o->h'.get? a=some o):zBa h' a led val m:=by
 obtain⟨xs,q,r⟩:=S;exact⟨xs,q.at k,r⟩
section
variable{prog:vQ}{w:vY}{A:ve}{R:tX->vH->Prop}{I:vF}{fp wr:List vF}{G:Array sC->Array sC->Prop}{n:Nat}{P:Nat->vB->Prop}{St:Nat->vH->Prop}
theorem zB9(W:WalksS prog w A.in1 I fp wr G n P St)(S:vF)(hS:S∉fp){led:Bool}(val:UB)(hv:∀i v,P i v->∃t,v=.int (val i) t)(hb:n+1<ud):
  ∀(k i:Nat)(s:vH),n-i=k->i<=n->St i s->zBa s.heap S led val i->(∀s',Moved (S::wr) G s s'->zBa s'.heap S led val n->R (.ok (.ret .none)) s') ->
   uU am A (.builtin "set.update.loop" ⟨[gC,CK],[]⟩) R s:=by
 have hw:S∉wr:=λz=>hS (W.sub _ z);have hsub:∀b∈wr,b∈S::wr:=λb z=>zH _ z;intro k
 induction k with
 | zero=>
  intro i s hk hi st SV hR;have hin:i=n:=∅
  subst hin;refine v7 PyProof.Rows.F.entry_set_update_loop ?_;rw[sw];show vL _ A.in1 (uO CK >>= _) _ _ s;refine vA (W.done s _ _ st λs' hm=>?_);show vL _ A.in1 aae _ _ s';exact vJ (hR s' (hm.mono hsub) (SV.at λo e=>hm.heap S o hw e))
 | succ k ih=>
  intro i s hk hi st SV hR;have hlt:i<n:=∅
  refine v7 PyProof.Rows.F.entry_set_update_loop ?_;rw[sw];show vL _ A.in1 (uO CK >>= _) _ _ s;refine vA (W.item i s _ _ hlt st λv s1 hP st1 hm=>?_);obtain⟨t,rfl⟩:=hv i v hP;obtain⟨xs,S1,hl,hx⟩:=SV.at (h':=s1.heap) λo e=>hm.heap S o hw e;show vL _ A.in1 (holding [Value.int (val i) t] (setAdd S (.int (val i) t)) >>= _) _ _ s1;refine vA U1;unfold setAdd;refine vX ?_;refine vA ((u6 prog w).pyHash (k:=val i) Gz ?_);refine qkY (s:={ s1 with toks:=s1.toks+1 }) (x:=val i) S1 ∅ λb h' ys sb S2 y1 y2=>?_;have SV2:zBa h' S led val (i+1):=by
   refine⟨ys,S2,?_,λx=>?_⟩
   ·by_cases z:val i∈xs
    ·rw[y1 z];omega
    ·rw[(y2 z).length_eq,zM];omega
   ·by_cases z:val i∈xs
    ·rw[y1 z,hx]
     refine⟨λ⟨j,h1,h2⟩=>FV,λ⟨j,h1,h2⟩=>?_⟩
     by_cases e:j=i
     ·subst e;exact(hx x).mp (by rw[<- h2];exact z)
     ·exact FV
    ·rw[(y2 z).mem_iff,zK,hx]
     refine⟨λh=>?_,λ⟨j,h1,h2⟩=>?_⟩
     ·rcases h with h|⟨j,h1,h2⟩
      ·exact⟨i,∅,h.symm⟩
      ·exact FV
     ·by_cases e:j=i
      ·subst e;exact .inl h2.symm
      ·exact .inr FV
  refine vJ ⟨v8 PyProof.Rows.F.plain_set_update_loop _,ih (i+1) _ ∅ hlt (W.frame _ s1 _ _ st1 Qd λb z o e=>?_) SV2 λs2 hm2 S3=>?_⟩
  ·rw[sb.2 b (λy:b=S=>hS (by rw[<- y];exact z))];exact e
  ·refine hR s2 (Moved.trans W.gtrans ((hm.mono hsub).then_heap Qd λb o z e=>?_) hm2) S3
   rw[sb.2 b (λy:b=S=>z (by rw[y];exact zG))];exact e
end
noncomputable abbrev Xr(w:vY):Bool:=!w.params.followText "set-order"
section
variable{prog:vQ}{w:vY}{A:ve}{E:vB->vH->Prop}{s:vH}
theorem qju(a:vB){Q1:aS}(h:Q1 aH { s with heap:=s.heap.push { cls:=.type "set", data:=.set #[] 0 gL } }):
  uU am A (.call (.builtin "set.__new__") KZ) (wants Q1 E) s:=by
 refine codeAny_of_tree ?_;show vL _ A.in1 (checkBuiltinCall "set.__new__" KZ >>= λ_=>again (.builtin "set.__new__" KZ)) _ _ s;refine vA (tZ (PySem.F.newCall_set_1 a) (vJ ⟨v8 PySem.F.plain_set_new _,v7 PySem.F.entry_set_new ?_⟩));rw[Around.under_plainId PySem.F.plain_set_new _];unfold Builtin.«set.__new__» Builtin.Frozenset.newClass;have p1:=sub_set_self;obtain⟨hp,g,d,tk,os⟩:=s
 dsimp only
 wp_walk
 refine tO fP
 dsimp only
 simp only[newObj];refine vA (wpAny_alloc fP);exact vJ h
set_option maxHeartbeats 3200000 in
theorem qaK{l:vF}{items:fw}{ns:aa}{Q:aS}(hh:dE)(il:Fc)(ia:uH items.toList ns)(hb:items.size+1<ud)(k:∀(h':vf)(tk:Nat),zBa h' s.heap.objs.size QA i9 items.size->(∀b o,b<s.heap.objs.size->s.heap.get? b=some o->h'.get? b=some o)->Q aH { s with heap:=h',toks:=tk }):
  vL am A (call nH [cU]) Q E s:=by
 obtain⟨c,tl,c1⟩:=PySem.F.called_set.mro;have c2:=PySem.F.called_set.made;have c3:=PySem.F.called_set.sub;refine sA (codeAny_of_tree ?_);show vL _ _ (callAny nH _) _ _ _;refine vJ ⟨Code.quiet_builtin _ ⋯,v7 PySem.F.entry_type_call ?_⟩;rw[Around.under_plain (weight_type_call_type "set" [cU] []) rfl];have c4:=PySem.F.called_set.notType;have c5:=PySem.F.called_set.canCreate;have c6:=PySem.F.typeCall_set_1 cU
 repeat (any_goals (first|assumption|wp_step))
 refine uV (qju cU (E:=E) (Q1:=λobj s1=>obj=.ref s.heap.objs.size/\s1={ s with heap:=s.heap.push { cls:=.type "set", data:=.set #[] 0 gL } }) cH) λr s1 hr=>?_;cases r with
 | error e=>exact hr
 | ok fl=>
  cases fl with
  | ret obj=>
   obtain⟨rfl,rfl⟩:=hr;have hS:(s.heap.push { cls:=.type "set", data:=.set #[] 0 gL }).get? s.heap.objs.size=some { cls:=.type "set", data:=.set #[] 0 gL }:=zX _ rfl;have hT:Shared.TypeIs { s with heap:=s.heap.push { cls:=.type "set", data:=.set #[] 0 gL } } aH "set" := ⟨_,hS,rfl⟩;have c7:=PySem.F.called_set.init.lookup;have c8:=PySem.F.called_set.init.bind aH
   repeat (any_goals (first|assumption|wp_step))
   refine uV (codeAny_call_builtin (R:=wants (λr s2=>r=.none/\∃h' tk,s2={ s with heap:=h',toks:=tk }/\zBa h' s.heap.objs.size QA i9 items.size /\
     (∀b o,b<s.heap.objs.size->s.heap.get? b=some o->h'.get? b=some o)) E) PySem.F.called_set.init.plain PySem.F.entry_set_init (check_set_init_1 hT ?_)) λr2 s2 hr2=>?_
   ·obtain⟨ol,e1,e2,nl,e3⟩:=il
    obtain⟨ocls,odict,odata,oslots⟩:=ol;simp only at e2 e3;subst e2;subst e3;have e1':(s.heap.push { cls:=.type "set", data:=.set #[] 0 gL }).get? l=some { cls:=.type "list", dict:=odict,data:=.seq items nl,slots:=oslots }:=zJ _ e1;have d1:=PySem.F.sub_list_set;have d2:=PySem.F.sub_list_frozenset;have d3:(Value.type "list" == Value.type "dict")=false:=by decide
    have il1:(s.heap.push { cls:=.type "set", data:=.set #[] 0 gL }).IsList l items:=⟨_,e1',rfl,nl,rfl⟩;unfold Builtin.«set.__init__» noKeywords Builtin.Frozenset.updateFrom;generalize hPI:sS=PI
    wp_walk
    subst hPI;refine ua il1 ?_;refine vA (wpAny_runValue ?_);have lS:l<s.heap.objs.size:=zU e1;have h3:A.in1.in1.in1.handled=none:=by simp[hh]
    have nI:l≠(s.heap.push { cls:=.type "set", data:=.set #[] 0 gL }).objs.size:=by rw[ye];exact zx (yW lS)
    have nS:s.heap.objs.size∉[(s.heap.push { cls:=.type "set", data:=.set #[] 0 gL }).objs.size,l]:=by
     rw[ye];simp only[zK,zR,zq,or_false,not_or];exact⟨zx Qe,xl lS⟩
    have hv:∀(i:Nat)(v:vB),items[i]?=some v->∃t,v=.int ((λi=>ns.getD i 0) i) t:=λi v z=>IntsAre.int_at ia i v (by rw[zn];exact z);refine zB9 ((Walks.list h3 _ l nI items).toS) s.heap.objs.size nS (led:=Xr w) i9 hv hb (items.size-0) 0 _ ∅ Bv ⟨px,(il1.push _)⟩ ?S0 ?RR
    case S0=>
     refine⟨[],⟨_,#[],0,.fresh 0 0 QA,zJ _ hS,aaO,rfl,⟨rfl,wC,rfl⟩,rfl,by show 0<ud;decide,λe z=>by simp at z,rfl,xV⟩,cL,λx=>⟨λz=>(by cases z),λ⟨i,z,_⟩=>vM z Tw⟩⟩
    case RR=>
     intro s' hm S';obtain⟨h',g',d',tk',os'⟩:=s';have eg:g'=s.gens:=hm.gens;have ed:d'=s.drawn:=hm.drawn;have eos:os'=s.os:=hm.os;subst eg;subst ed;subst eos;show vL _ _ _ _ _ _;refine vJ ?_;show vL _ _ aae _ _ _;refine vJ ⟨rfl,h',tk',rfl,S',λb o z y=>?_⟩;refine hm.heap b o ?_ (zJ _ (zJ _ y));simp only[zK,zR,zq,or_false,not_or];exact⟨zx z,by rw[ye];exact zx (yW z)⟩
   ·cases r2 with
    | error e=>exact hr2
    | ok fl2=>
     cases fl2 with
     | ret r=>
      obtain⟨rfl,h',tk,rfl,S',kp⟩:=hr2
      repeat (any_goals (first|assumption|wp_step))
      exact k _ _ S' kp
     | next=>exact hr2.elim
     | brk=>exact hr2.elim
     | cont=>exact hr2.elim
  | next=>exact hr.elim
  | brk=>exact hr.elim
  | cont=>exact hr.elim
end
end Hk
namespace PySem.F
theorem slotSetNext:Slot "set_iterator" "__next__" "set_iterator.__next__" := .of (owner := "set_iterator") (n := "__next__") (by rw[uK,v3];kernel_rfl) ⋯ ⋯ ⋯ (by first|exact .inl ⋯|exact .inr ⋯) (by rw[uk];kernel_rfl)
theorem slotSetIt:Slot "set_iterator" "__iter__" "set_iterator.__iter__" := .of (owner := "set_iterator") (n := "__iter__") (by rw[uK,v3];kernel_rfl) ⋯ ⋯ ⋯ (by first|exact .inl ⋯|exact .inr ⋯) (by rw[uk];kernel_rfl)
theorem zAb:Manifest.owners.lookup (String.ofList ['r','o','t','a','r','e','t','i','_','t','e','s'].reverse)=some Manifest.sig_set_iterator:=by kernel_rfl
theorem argsSetNext(a:vB):sT "set_iterator.__next__" QU:=by
 unfold sT;rw[signature?_of (id := "set_iterator.__next__") (n:=['_','_','t','x','e','n','_','_']) (o:=['r','o','t','a','r','e','t','i','_','t','e','s']) (by kernel_rfl) zAb]
 kernel_rfl
theorem argsSetIt(a:vB):sT "set_iterator.__iter__" QU:=by
 unfold sT;rw[signature?_of (id := "set_iterator.__iter__") (n:=['_','_','r','e','t','i','_','_']) (o:=['r','o','t','a','r','e','t','i','_','t','e','s']) (by kernel_rfl) zAb]
 kernel_rfl
theorem entSetNext:entryFor table "set_iterator.__next__" = some Builtin.«set_iterator.__next__»:=entryFor_of_tree (by kernel_rfl)
theorem entSetIter:entryFor table "set.__iter__" = some Builtin.«frozenset.__iter__»:=entryFor_alias (id' := "frozenset.__iter__") (by kernel_rfl) rfl ⋯ (by kernel_rfl)
theorem entSetIt:entryFor table "set_iterator.__iter__" = some Builtin.«dict_keyiterator.__iter__»:=entryFor_alias (id' := "dict_keyiterator.__iter__") (by kernel_rfl) rfl ⋯ (by kernel_rfl)
end PySem.F
namespace Hk
open PySem PySem.Spec PyProof.Rows
section
variable{prog:vQ}{w:vY}{A:ve}{E:vB->vH->Prop}{s:vH}
theorem q4H{α:Type}:∀(l:bN)(k:Nat)(h:k<l.length),(l[k]::l.eraseIdx k).Perm l
 | a::r,0,_=>xU _
 | a::r,k+1,h=>by
  have h':k<r.length:=by simpa using h
  show (r[k]::a::r.eraseIdx k).Perm (a::r);exact(List.Perm.swap a r[k] _).trans ((q4H r k h').cons a)
theorem qbf{α:Type}(next:Nat->Nat):∀(fuel k:Nat)(left:bN)(out:Array α),left.length=fuel->(pickOrder.go next fuel k left out).toList.Perm (out.toList++left)
 | 0,k,left,out,h=>by
  have e:left=[]:=yt h;subst e;unfold pickOrder.go;rw[zo]
 | fuel+1,k,left,out,h=>by
  unfold pickOrder.go;have hlt:next k%left.length<left.length:=Nat.mod_lt _ ∅
  rw[Jz]
  dsimp only
  refine(qbf next fuel (k+1) _ _ (by rw[wm hlt,h];rfl)).trans ?_;rw[YD,yB];exact xO _ (q4H left _ hlt)
theorem qeO{α:Type}(next:Nat->Nat)(xs:Array α):(uw next xs).toList.Perm xs.toList:=by
 have:=qbf next xs.size 0 xs.toList #[] (by simp)
 simpa [uw]using this
theorem qeZ{M:Model}{src:Source}{n:Nat}{Q:Nat->vH->Prop}(hn:n≠0)(h:Q (M.w.draws src (s.drawn.get src)%n) { s with drawn:=s.drawn.bump src }):vL M A (choose src n) Q E s:=λ_ _ _=>⟨hn,h⟩
theorem q5D{M:Model}{α:Type}:∀(n:Nat)(xs:bN)(s:vH)(Q:List α->vH->Prop),xs.length=n->(∀ys d,ys.Perm xs->Q ys { s with drawn:=d })->vL M A (drawOrder n xs) Q E s
 | 0,xs,s,Q,hl,h=>by
  have e:xs=[]:=yt hl;subst e;exact vJ (h [] s.drawn (xU _))
 | n+1,[],s,Q,hl,h=>by cases hl
 | n+1,x::r,s,Q,hl,h=>by
  unfold drawOrder;refine vA (qeZ (by simp) ?_);generalize hk:M.w.draws Source.order (s.drawn.get Source.order)%(x::r).length=k;have hlt:k<(x::r).length:=by rw[<- hk];exact Nat.mod_lt _ (by simp)
  rw[Jz]
  dsimp only
  have hl2:((x::r).eraseIdx k).length=n:=by rw[wm hlt,hl];rfl
  refine vA (q5D n _ _ _ hl2 λys d p=>vJ (h _ d ?_));refine xv (p.cons _) ?_;exact q4H _ k hlt
end
noncomputable abbrev WP(f:vB)(i:Nat)(a:vF)(n ep:Nat):Obj:={ cls:=.type "set_iterator", data:=.fields #[f,.int i 0,dF,.int n 0,.int ep 0] }
section
variable{prog:vQ}{w:vY}{A:ve}{E:vB->vH->Prop}{s:vH}
theorem q21{a:vF}{o:Obj}{es:mS}{ep:Nat}{t:SetTable}{Q:aaB}(go:gj)(gd:dM)(gf:fH)(h:Q es s):vL am A (setEntries a) Q E s:=by
 unfold setEntries;exact vA (v6 go gd gf U2)
theorem qe6{it a:vF}{slot i n ep:Nat}{o:Obj}{es:mS}{t:SetTable}{x:vB}{nxt:Nat}{Q:iL}(e:CF)(go:gj)(gd:dM)(gf:fH)(hn:Qu)(hnext:∀A' Q' E',Q' (some (x,nxt)) s->vL am A' CY Q' E' s)(k:∀h',h'.get? it=some (WP (.int nxt 0) (i+1) a n ep)->xP it s.heap h'->Q (some x) { s with heap:=h' }):
  vL am A Mh Q E s:=by
 have hT:s.TypeIs ib "set_iterator" := gk;unfold uO;refine vA bc;unfold Builtin.«set_iterator.__next__»;refine vA (m:=sF "__next__" 0 Ii) fP;refine vA Hq
 dsimp only
 refine vA BV;rw[vG (by rw[hn];simp)];simp only[yc];refine vA aam
 dsimp only
 refine vA (uG e (by simp) λh1 e1 sb1=>?_);refine vA (uG (s:={ s with heap:=h1 }) e1 (by simp) λh2 e2 sb2=>?_);refine vJ ⟨_,rfl,vJ (k h2 ?_ (sb1.trans sb2))⟩;rw[e2];simp[uT]
theorem qf2{it a:vF}{slot i n ep:Nat}{o:Obj}{es:mS}{t:SetTable}{Q:iL}(hh:dE)(e:CF)(go:gj)(gd:dM)(gf:fH)(hn:Qu)(hnext:∀A' Q' E',Q' none s->vL am A' CY Q' E' s)(k:∀h',Heap.ExtBut it s.heap h'->Q none { s with heap:=h' }):
  vL am A Mh Q E s:=by
 have hT:s.TypeIs ib "set_iterator" := gk;unfold uO;refine vA bc;unfold Builtin.«set_iterator.__next__»;refine vA (m:=sF "__next__" 0 Ii) fP;refine vA Hq
 dsimp only
 refine vA BV;rw[vG (by rw[hn];simp)];simp only[yc];refine vA aam
 dsimp only
 refine vA (uG e (by simp) λh1 e1 sb1=>?_);show vL _ _ (newExc O0 [] >>= λx=>sU x) _ _ _;refine vA ?_;simp only[newExc,newTuple];refine vA (vi ?_ (by size_fits));refine vA (m:=tE _ _) (tZ (a:=Value.none) (by first|rfl|(simp only[tE];rfl)) ?_);refine vi ?_ (by size_fits);simp only[sU];refine vA TB;rw[show A.in1.handled=none from hh];refine vA Qh;refine vA (uR (T := "StopIteration") (b:=true) NB tF ?_);exact vJ (k _ ((sb1.extBut.push _).push _))
end
section
variable{prog:vQ}{w:vY}{A:ve}{E:vB->vH->Prop}{s:vH}
theorem q3O{Q:rP}(h:Q (w.params.followText "set-order") s):vL am A setsByText Q E s:=by
 unfold setsByText;exact vA (tO U2)
theorem q77{a:vF}{o:Obj}{es:mS}{ep:Nat}{t:SetTable}{slot i:Nat}{r:Option (vB×Nat)}{Q:Oj}(go:gj)(gd:dM)(gf:fH)(hB:w.params.followText "set-order" = false)(hl:t.led=true)(hd:(!t.plain&&decide (es.size>1))=false)(hr:(match es[Bm]?,t.place[Bm]? with|some (_,x),some j=>some (x,j+1)|_,_=>none)=r)(h:Q r s):vL am A CY Q E s:=by
 unfold u8;refine vA CV
 dsimp only
 refine vA (q3O ?_);rw[hB];refine vZ (λz=>vM z (by decide)) fN;refine vZ (λz=>vM ((show (!t.plain&&decide (es.size>1))=true from z).symm.trans hd) (by decide)) fN;refine vA ?_;refine vZ JR fN
 ·have z':(!t.led && !es.isEmpty)=true:=z
  rw[hl]at z';exact vM z' (by simp)
 ·refine vJ ?_
  refine vJ ?_;rw[<- hr]at h;exact h
theorem qel{a:vF}{o:Obj}{es:mS}{ep:Nat}{t:SetTable}{Q:aaB}(go:gj)(gd:dM)(gf:fH)(hB:Gg)(h:Q (uw gU es) s):vL am A (setWalk a) Q E s:=by
 unfold setWalk;refine vA CV
 dsimp only
 refine vA (q3O ?_);rw[hB];refine vZ fN aaQ;exact vA (tO U2)
theorem q8k{a:vF}{o:Obj}{es:mS}{ep:Nat}{t:SetTable}{slot i:Nat}{Q:Oj}(go:gj)(gd:dM)(gf:fH)(hB:Gg)(h:Q (((uw gU es)[i]?).map λe=>(e.2,slot)) s):vL am A CY Q E s:=by
 unfold u8;refine vA CV
 dsimp only
 refine vA (q3O ?_);rw[hB];refine vZ fN aaQ;refine vZ (λz=>vM z (by simp)) fN;exact vA (qel go gd gf hB U2)
theorem qce{it:vF}{f:vB}{i:Nat}{a:vF}{n ep:Nat}{Q:aS}(e:s.heap.get? it=some (WP f i a n ep))(h:Q ib s):vL am A (sS ib) Q E s:=by
 have hT:s.TypeIs ib "set_iterator" := gk;refine wpAny_pyIter_slot hT F.slotSetIt (vq F.slotSetIt hT F.entSetIt ?_ (F.argsSetIt _));show vL _ _ (ret ib) _ _ s;exact vJ ⟨_,rfl, "set_iterator", _,hT,F.slotSetNext.lookup,h⟩
theorem qdn(hh:dE){I a:vF}(hne:a≠I){o:Obj}{es:mS}{ep:Nat}{t:SetTable}(gd:dM)(gf:fH)(slot:Nat->Nat)(val:Nat->vB)(hn:∀(i:Nat)(s:vH),i<es.size->s.heap.get? a=some o->∀A' Q' E',Q' (some (val i,slot (i+1))) s->vL am A' Rh Q' E' s)(hz:∀(s:vH),s.heap.get? a=some o->∀A' Q' E',Q' none s->vL am A' IQ Q' E' s):
  Walks prog w A I [I,a] [I] es.size VN (λi h=>h.get? I=some FN/\h.get? a=some o) where
 sub:=λb hb=>by simp at hb;simp[hb]
 frame:=λ_ _ _ st hk=>⟨hk I (by simp) _ st.1,hk a (by simp) _ st.2⟩
 item:=λi s Q E hi st hQ=>by
  refine qe6 st.1 st.2 gd gf rfl (hn i s hi st.2) λh' e' sb=>?_;exact hQ _ h' s.toks rfl ⟨e',sb.extBut a o hne st.2⟩ λb u hb e=>sb.extBut b u (λz=>hb (by simp[z])) e
 done:=λs Q E st hQ=>qf2 hh st.1 st.2 gd gf rfl (hz s st.2) λh' eb=>hQ h' s.toks λb u hb e=>eb b u (λz=>hb (by simp[z])) e
 self:=λ_ _ _ _ st hQ=>qce st.1 hQ
theorem qcS{it a tp:vF}{i n ep p:Nat}{o:Obj}{es:mS}{t:SetTable}{x:eI}{ps:fw}{ot:Obj}{nt:Nat}{Q:iL}(e:DV)(go:gj)(gd:dM)(gf:fH)(hn:Qu)(gt:Rl)(gtd:aaj)(hp:ps[i]?=some (.int p 0))(hx:es[p]?=some x)(k:∀h',h'.get? it=some (WP abD (i+1) a n ep)->xP it s.heap h'->Q (some x.2) { s with heap:=h' }):
  vL am A Mh Q E s:=by
 have hT:s.TypeIs ib "set_iterator" := gk;unfold uO;refine vA bc;unfold Builtin.«set_iterator.__next__»;refine vA (m:=sF "__next__" 0 Ii) fP;refine vA Hq
 dsimp only
 refine vA BV;rw[vG (by rw[hn];simp)];refine vA ab7
 dsimp only
 simp only[yc];rw[hp]
 dsimp only
 unfold setNextDrawn;refine vA (vA CV)
 dsimp only
 refine vZ (λz=>vM z (by simp)) fN;simp only[yc];rw[hx];refine vJ ?_;refine vA (uG e (by simp) λh1 e1 sb1=>?_);refine vJ ⟨_,rfl,vJ (k h1 ?_ sb1)⟩;rw[e1];simp[uT]
theorem qcG{it a tp:vF}{i n ep:Nat}{o:Obj}{es:mS}{t:SetTable}{ps:fw}{ot:Obj}{nt:Nat}{Q:iL}(hh:dE)(e:DV)(go:gj)(gd:dM)(gf:fH)(hn:Qu)(gt:Rl)(gtd:aaj)(hp:ps[i]?=none)(k:∀h',Heap.ExtBut it s.heap h'->Q none { s with heap:=h' }):
  vL am A Mh Q E s:=by
 have hT:s.TypeIs ib "set_iterator" := gk;unfold uO;refine vA bc;unfold Builtin.«set_iterator.__next__»;refine vA (m:=sF "__next__" 0 Ii) fP;refine vA Hq
 dsimp only
 refine vA BV;rw[vG (by rw[hn];simp)];refine vA ab7
 dsimp only
 simp only[yc];rw[hp]
 dsimp only
 refine vA (uG e (by simp) λh1 e1 sb1=>?_);refine vA (uG (s:={ s with heap:=h1 }) e1 (by simp) λh2 e2 sb2=>?_);show vL _ _ (newExc O0 [] >>= λx=>sU x) _ _ _;refine vA ?_;simp only[newExc,newTuple];refine vA (vi ?_ (by size_fits));refine vA (m:=tE _ _) (tZ (a:=Value.none) (by first|rfl|(simp only[tE];rfl)) ?_);refine vi ?_ (by size_fits);simp only[sU];refine vA TB;rw[show A.in1.handled=none from hh];refine vA Qh;refine vA (uR (T := "StopIteration") (b:=true) NB tF ?_);exact vJ (k _ (((sb1.trans sb2).extBut.push _).push _))
theorem qaH(hh:dE){I a tp:vF}(hne:a≠I)(htp:tp≠I){o:Obj}{es:mS}{ep:Nat}{t:SetTable}(gd:dM)(gf:fH){ot:Obj}{nt:Nat}(ord:cJ)(hp:ord.Perm Pj)(gtd:ot.data=.seq (ord.map λ(i:Nat)=>uT i).toArray nt):
  Walks prog w A I [I,a,tp] [I] es.size (λi v=>∃p x,ord[i]?=some p/\es[p]?=some x/\v=x.2) (λi h=>h.get? I=some (WP abD i a es.size ep)/\h.get? a=some o/\h.get? tp=some ot) where
 sub:=λb hb=>by simp at hb;simp[hb]
 frame:=λ_ _ _ st hk=>⟨hk I (by simp) _ st.1,hk a (by simp) _ st.2.1,hk tp (by simp) _ st.2.2⟩
 item:=λi s Q E hi st hQ=>by
  have hl:ord.length=es.size:=by rw[hp.length_eq,zk]
  have ho:ord[i]?=some (ord[i]'∅):=zD _;have hlt:ord[i]'∅<es.size:=yC.mp (hp.mem_iff.mp UW);refine qcS (p:=ord[i]'∅) (x:=es[ord[i]'∅]) st.1 st.2.1 gd gf rfl st.2.2 gtd (by simp[uT,ho]) (by simp[hlt]) λh' e' sb=>?_;exact hQ _ h' s.toks ⟨_,_,ho,by simp[hlt],rfl⟩ ⟨e',sb.extBut a o hne st.2.1,sb.extBut tp ot htp st.2.2⟩ λb u hb e=>sb.extBut b u (λz=>hb (by simp[z])) e
 done:=λs Q E st hQ=>qcG hh st.1 st.2.1 gd gf rfl st.2.2 gtd (by simp[hp.length_eq]) λh' eb=>hQ h' s.toks λb u hb e=>eb b u (λz=>hb (by simp[z])) e
 self:=λ_ _ _ _ st hQ=>qce st.1 hQ
end
end Hk
namespace PySem.F
theorem slotSetLen:uv nH "__len__" = pure (some (.builtin "set.__len__")):=by rw[uK,v3];kernel_rfl
theorem slotSetIter:Slot "set" "__iter__" "set.__iter__" := .of (owner := "set") (n := "__iter__") (by rw[uK,v3];kernel_rfl) ⋯ ⋯ ⋯ (by first|exact .inl ⋯|exact .inr ⋯) (by rw[uk];kernel_rfl)
theorem argsSetIter(a:vB):sT "set.__iter__" QU:=by
 unfold sT;kernel_rfl
end PySem.F
namespace Hk
open PySem PySem.Spec PyProof.Rows
noncomputable def slotAt(xs:Ej):Nat->Nat
 | 0=>0
 | i+1=>xs.toList.getD i 0+1
theorem q7l{xs:Ej}(h:zAq xs):∀i,i<=xs.size->SetTable.below xs (slotAt xs i)=i:=by
 intro i hi;obtain⟨h1,h2,h3⟩:=qa6 h (slotAt xs i);have hz:xs.toList.length=xs.size:=zW;cases i with
 | zero=>
  rcases Z2 (SetTable.below xs (slotAt xs 0))with z|z
  ·exact z
  ·exact vM (h2 0 ∅ z) Tw
 | succ i=>
  have hlt:i<xs.toList.length:=∅
  have e:slotAt xs (i+1)=xs.toList[i]+1:=by
   show xs.toList.getD i 0+1=_;rw[zV,Jz];rfl
  rw[e]at h2 h3 h1 ⊢;generalize SetTable.below xs (xs.toList[i]+1)=b at h1 h2 h3 ⊢;have a1:i<b:=by
   rcases yH i b with z|z
   ·exact z
   ·have:=h3 i hlt z;omega
  have a2:b<=i+1:=by
   rcases yH (i+1) b with z|z
   ·have y:=h2 (i+1) ∅ z
    have y':=q5Y h hlt (show i+1<xs.toList.length by omega) (ya i);omega
   ·exact z
  omega
theorem qdK{val:Nat->vB}{n:Nat}{acc:fw}(h:ItemsOf VN acc n):acc.toList=(zY n).map val:=by
 apply xE;intro i;rw[zn,zZ];rcases yH i n with z|z
 ·rw[yq z]
  have hz:i<acc.size:=by rw[h.1];exact z
  have:acc[i]?=some acc[i]:=yI hz;rw[this,h.2 i _ this];rfl
 ·rw[yA (by rw[zk];exact z),yj (by rw[h.1];exact z)];rfl
theorem q8b:∀{l:KN},(∀e∈l,W5 e)->uH (l.map (·.2)) (l.map λe=>vI e.2)
 | [],_=>.nil
 | e::r,h=>by
  obtain⟨x,t,rfl⟩:=h e zG;exact .cons _ _ (q8b λe he=>h e JW)
section
variable{prog:vQ}{w:vY}{A:ve}{E:vB->vH->Prop}{s:vH}
theorem qgw{r:vF}{Q:rP}(hT:s.TypeIs (.ref r) "set")(h:Q false s):vL am A Fw Q E s:=by
 unfold Builtin.List.listLengthHint;refine vA (uY hT F.slotSetLen ?_);generalize hid:("set.__len__" : String)=id0
 wp_delta
 rw[show splitId id0=some ("set", "__len__")from by subst hid;decide +kernel];subst hid;refine vA (uR (T := "set") (b:=true) hT (by rw[uk];kernel_rfl) ?_);refine vZ (λhab=>vM hab (by decide)) fN;refine vZ fN SC;refine vA (uc hT ?_);exact vJ h
theorem qgI{a:vF}{xs:aa}{Q:aS}(S:p8)(k:∀(h':vf)(d:Drawn)(I:vF)(fp:eA)(P:Nat->vB->Prop)(St:Nat->vf->Prop),(∀b o,s.heap.get? b=some o->h'.get? b=some o)->s.heap.objs.size<=I->(∀b∈fp,b=a\/s.heap.objs.size<=b) ->
   (∀A:ve,A.handled=none->Walks prog w A I fp [I] xs.length P St)->St 0 h'->(∀acc:Array vB,ItemsOf P acc xs.length->∃ys,uH acc.toList ys/\ys.Perm xs)->(∀b∈fp,b<h'.objs.size)->Q CK { s with heap:=h',drawn:=d }) :
  vL am A (sS dF) Q E s:=by
 obtain⟨o,es,ep,t,go,gx,gd,T,gl,gb,gg,gv,gn⟩:=id S;have hl:es.size=xs.length:=by rw[<- gv,zB,zW]
 have hlt:a<s.heap.objs.size:=zU go;have hps:t.place.size=es.size:=by
  have:=T.fits;unfold SetTable.fits at this;simp only[zv,beq_iff_eq]at this;exact this.1
 have hT:s.TypeIs dF "set" := ⟨o,go,gx.1⟩;refine wpAny_pyIter_slot hT F.slotSetIter (vq F.slotSetIter hT F.entSetIter ?_ (F.argsSetIter _));unfold Builtin.«frozenset.__iter__» Builtin.Frozenset.slot0 Builtin.Frozenset.sizeOf;refine vA ?_;refine vA (m:=sF "__iter__" 0 Pc) fP;show vL _ _ (pure a) _ _ s;refine vJ ?_;refine vA (vA (q21 go gd T.fits fP));refine vA ?_;unfold setDrawn;refine vA Rb
 dsimp only
 refine vA (q3O fP);have perm_ok:∀(l:KN),l.Perm es.toList->∃ys,uH (l.map (·.2)) ys/\ys.Perm xs:=λl p=>
  ⟨_,q8b λe he=>gg e (p.mem_iff.mp he),by rw[<- gv];exact p.map _⟩
 have slots:∀(slot:Nat->Nat)(l:KN),slot 0=0->l.Perm es.toList ->
   (∀(i:Nat)(s:vH),i<es.size->s.heap.get? a=some o->∀A' Q' E',Q' (some ((l.map (·.2)).getD i .none,slot (i+1))) s->vL am A' Rh Q' E' s) ->
   (∀(s:vH),s.heap.get? a=some o->∀A' Q' E',Q' none s->vL am A' IQ Q' E' s) ->
   Q aH { s with heap:=s.heap.push Ee }:=λslot l h0 p hn hz=>by
  have:=k (s.heap.push Ee) s.drawn s.heap.objs.size [s.heap.objs.size,a] (λi v=>v=(l.map (·.2)).getD i .none) (λi h=>h.get? s.heap.objs.size=some FN/\h.get? a=some o)
   (λb u e=>zJ _ e) cL (λb hb=>by
    simp only[zK,zq,or_false]at hb;rcases hb with rfl|rfl
    ·exact .inr cL
    ·exact .inl rfl) (λA hh=>by rw[<- hl];exact qdn hh Ma gd T.fits slot _ hn hz) ⟨jt,zJ _ go⟩ (λacc hacc=>by
    rw[qdK hacc];obtain⟨ys,y1,y2⟩:=perm_ok l p;have e:(zY xs.length).map (λi=>(l.map (·.2)).getD i .none)=l.map (·.2):=by
     apply xE;intro i;have hll:l.length=xs.length:=by rw[p.length_eq,zW,hl]
     rw[zZ];rcases yH i xs.length with z|z
     ·rw[yq z]
      show some ((l.map (·.2)).getD i .none)=_;rw[zV,zD (by rw[zB,hll];exact z)];rfl
     ·rw[yA (by rw[zk];exact z),yA (by rw[zB,hll];exact z)];rfl
    rw[e];exact⟨ys,y1,y2⟩) (λb hb=>by
    rw[ye];simp only[zK,zq,or_false]at hb;rcases hb with rfl|rfl
    ·exact ya _
    ·exact yW hlt)
  exact this
 have getD_at:∀(l:KN)(i:Nat)(e:eI),l[i]?=some e->(l.map (·.2)).getD i .none=e.2:=λl i e h=>by
  rw[zV,zZ,h];rfl
 cases hB:w.params.followText "set-order" with
 | true=>
  refine vA fP;refine vA ?_;unfold setEpoch;refine vA Ra;refine vA eQ;have pp:=qeO gU es;have hpl:(uw gU es).size=es.size:=by rw[<- zW,pp.length_eq,zW]
  refine slots (λ_=>0) _ rfl pp Kr λs go' A' Q' E' q=>?_
  ·refine q8k go' gd T.fits hB ?_
   have hz:i<(uw gU es).size:=by rw[hpl];exact hi
   rw[yI hz];have:=getD_at (uw gU es).toList i (uw gU es)[i] (by rw[zn,yI hz]);rw[this]at q;exact q
  ·refine q8k go' gd T.fits hB ?_
   rw[yj (by rw[hpl];exact zQ _)];exact q
 | false=>
  have led:t.led=true:=by rw[gl];unfold Xr;rw[hB];rfl
  cases hD:(!t.plain&&decide (es.size>1))with
  | false=>
   refine vZ (λz=>vM ((show (!false&&(!t.plain&&decide (es.size>1)))=true from z)) (by rw[hD];decide)) fN;refine vA fP;refine vA ?_;unfold setEpoch;refine vA Ra;refine vA eQ;refine slots (slotAt t.place) es.toList rfl (xU _) Kr λs go' A' Q' E' q=>?_
   ·refine q77 go' gd T.fits hB led hD rfl ?_
    rw[q7l T.rise i ∅,yI hi,yI (show i<t.place.size by omega)];have:=getD_at es.toList i es[i] (by rw[zn,yI hi]);rw[this]at q;have e2:slotAt t.place (i+1)=t.place[i]'∅+1:=by
     show t.place.toList.getD i 0+1=_;rw[zV,zn,yI (show i<t.place.size by omega)];rfl
    rw[e2]at q;exact q
   ·refine q77 go' gd T.fits hB led hD rfl ?_
    rw[q7l T.rise es.size ∅,yj cL];exact q
  | true=>
   refine vZ fN (λz=>vM (show (!false&&(!t.plain&&decide (es.size>1)))=true by rw[hD];rfl) z);refine vA (q5D es.size Pj _ _ zk λord d po=>?_);have hol:ord.length=es.size:=by rw[po.length_eq,zk]
   refine vA (tf ?_ (by rw[zB,hol];exact yL (yb gb) (by decide)));refine vA ?_;unfold setEpoch;have go2:(s.heap.push { cls:=.type "tuple", data:=.seq (ord.map λ(i:Nat)=>uT i).toArray }).get? a=some o:=zJ _ go;refine vA (v6 go2 gd T.fits fP);refine vA eQ;have hs1:(s.heap.push { cls:=.type "tuple", data:=.seq (ord.map λ(i:Nat)=>uT i).toArray }).objs.size=s.heap.objs.size+1:=ye _ _;have ht1:(s.heap.push { cls:=.type "tuple", data:=.seq (ord.map λ(i:Nat)=>uT i).toArray }).get? s.heap.objs.size=some { cls:=.type "tuple", data:=.seq (ord.map λ(i:Nat)=>uT i).toArray }:=zX _ rfl;refine k _ d _ [(s.heap.push { cls:=.type "tuple", data:=.seq (ord.map λ(i:Nat)=>uT i).toArray }).objs.size,a,s.heap.objs.size] (λi v=>∃p x,ord[i]?=some p/\es[p]?=some x/\v=x.2)
    (λi h=>h.get? (s.heap.push { cls:=.type "tuple", data:=.seq (ord.map λ(i:Nat)=>uT i).toArray }).objs.size=some (WP aH i a es.size ep)/\h.get? a=some o/\h.get? s.heap.objs.size=some { cls:=.type "tuple", data:=.seq (ord.map λ(i:Nat)=>uT i).toArray }) (λb u e=>zJ _ EL) (by rw[hs1];exact yx _) lR (λA hh=>by
    rw[<- hl];exact qaH (tp:=s.heap.objs.size) hh (by rw[hs1];exact zx (yW hlt)) (by rw[hs1];exact zx Qe) gd T.fits ord po rfl)
    ⟨jt,zJ _ go2,zJ _ ht1⟩ (λacc hacc=>?_) lR
   ·simp only[zK,zq,or_false]at hb
    rcases hb with rfl|rfl|rfl
    ·exact .inr (by rw[hs1];exact yx _)
    ·exact .inl rfl
    ·exact .inr cL
   ·have e:acc.toList=(ord.map λp=>es.toList.getD p abz).map (·.2):=by
     apply xE;intro i;rw[zn,zZ,zZ];rcases yH i acc.size with z|z
     ·obtain⟨p,x,h1,h2,h3⟩:=hacc.2 i acc[i] (yI z)
      rw[yI z,h1,h3];show _=some (es.toList.getD p abz).2;rw[zV,zn,h2];rfl
     ·rw[yj z,yA (by rw[hol,hl,<- hacc.1];exact z)];rfl
    have p2:(ord.map λp=>es.toList.getD p abz).Perm es.toList:=by
     refine(po.map _).trans ?_;have:(zY es.size).map (λp=>es.toList.getD p acA)=es.toList:=by
      apply xE;intro i;rw[zZ];rcases yH i es.size with z|z
      ·rw[yq z]
       show some (es.toList.getD i acA)=_;rw[zV,zD (by rw[zW];exact z)];rfl
      ·rw[yA (by rw[zk];exact z),yA (by rw[zW];exact z)];rfl
     rw[this]
    rw[e];exact perm_ok _ p2
   ·rw[ye,hs1]
    simp only[zK,zq,or_false]at hb;rcases hb with rfl|rfl|rfl
    ·rw[hs1];exact ya _
    ·exact yW (yW hlt)
    ·exact yW Qe
end
section
variable{prog:vQ}{w:vY}{A:ve}{E:vB->vH->Prop}{s:vH}
theorem qd8{R:Rk}{a:vF}{xs:aa}(hh:dE)(SI:p8)(S:vF)(hSa:S≠a)(res:vB)(c₀:Nat)(hS:s.heap.get? S=some { cls:=.type "list", data:=.seq #[] c₀ })(hR:∀h' tk d acc' c',(∀b o,b≠S->s.heap.get? b=some o->h'.get? b=some o)->h'.get? S=some { cls:=.type "list", dict:=none,data:=.seq acc' c',slots:=#[] }->(∃ys,uH acc'.toList ys/\ys.Perm xs)->R Dj { s with heap:=h',toks:=tk,drawn:=d }):
  vL am A.in1 (Builtin.List.listExtendWith gC dF res)
   (λfin s'=>match fin with|.done f=>R Vy s'|.again c'=>c'.quiet=true/\uU am A c' R s') BH s:=by
 have hn:xs.length<=sizeLine:=yL (yb SI.len) (by decide);obtain⟨o,es,ep,t,go,gx,gd,T,gl,gb,gg,gv,gn⟩:=id SI;have hTy:∀h:vf,h.get? a=some o->Shared.TypeIs { s with heap:=h } dF "set" := λh e=>⟨o,e,gx.1⟩;unfold Builtin.List.listExtendWith;refine vA (uc (T := "set") ⟨o,go,gx.1⟩ ?_);have h1:Builtin.List.listSameRef gC dF=false:=by simp[Builtin.List.listSameRef,hSa]
 have h2:(Value.type "set" == Value.type "list")=false:=by decide
 have h3:(Value.type "set" == Value.type "tuple")=false:=by decide
 simp only[h1,h2,h3,wV,yF,if_false];refine vA (qgI SI λh1 d I fp P St keep hI hfp W st items hlt=>?_);have hS1:h1.get? S=some { cls:=.type "list", data:=.seq #[] c₀ }:=keep _ _ hS;have hSlt:S<s.heap.objs.size:=zU hS;have hSf:S∉fp:=λhm=>by
  rcases hfp S hm with z|z
  ·exact hSa z
  ·exact vM hSlt (Ya.mpr z)
 have key:∀(h:vf)(c₁ tk:Nat),St 0 h->(∀b o,b≠S->s.heap.get? b=some o->h.get? b=some o) ->
   h.get? S=some { cls:=.type "list", data:=.seq #[] c₁ }->uU am A (.builtin "list.extend.loop" ⟨[gC,CK,res],[]⟩) R { s with heap:=h,toks:=tk,drawn:=d }:=by
  intro h c₁ tk hst hk hS₁;refine tj (W A.in1 hh).toS hn S hSf res xs.length 0 _ #[] c₁ rfl (yG _) hst hS₁ abv λs' acc' c' hm hS' hacc=>?_;rw[Lu];refine hR s'.heap s'.toks d acc' c' (λb o hb e=>hm.heap b o (λhmem=>?_) (hk b o hb e)) hS' (items acc' hacc);rcases zK.mp hmem with e'|hmem
  ·exact hb e'
  ·exact vM DP (by rw[zR.mp hmem];exact Ya.mpr hI)
 refine vA (vX (qgw ⟨o,keep _ _ go,gx.1⟩ ?_));refine vZ fN (λ_=>vJ ⟨gF,key _ c₀ _ st (λb o _ e=>keep b o e) hS1⟩);refine vA U5;refine vA ?_;show vL _ _ (ui S (·.push .none) >>= λ_=>ui S (·.pop)) _ _ _;refine vA (v9 hS1 rfl ?_);have hS₂:=y8 (Obj.mapSeq (·.push Value.none)) hS1 rfl;refine v9 (hz:=by seq_fits) hS₂ rfl ?_;have hS₃:=y8 (Obj.mapSeq (·.pop)) hS₂ rfl;refine vJ ⟨gF,key _ _ _ ?_ JT hS₃⟩
 ·refine(W A.in1 hh).frame 0 _ _ st λb hb o e=>?_
  have hbS:b≠S:=λh=>hSf (h▸hb);exact(zh _ _ (Ne.symm hbS)).trans ((zh _ _ (Ne.symm hbS)).trans e)
 ·exact(zh _ _ fL).trans ((zh _ _ fL).trans (keep b o e))
theorem qaQ{R:List vB->vH->Prop}{a:vF}{xs:aa}(hh:dE)(SI:p8)(h:∀(h':vf)(tk:Nat)(d:Drawn)(vs:bH)(ys:aa),(∀b o,s.heap.get? b=some o->h'.get? b=some o)->s.heap.objs.size<h'.objs.size->uH vs ys->ys.Perm xs->R vs { s with heap:=h',toks:=tk,drawn:=d }):
  vL am A (collect dF) R E s:=by
 obtain⟨o,es,ep,t,go,gx,gd,T,gl,gb,gg,gv,gn⟩:=id SI;have hlt:a<s.heap.objs.size:=zU go;unfold collect;refine vA (wpAny_runValue (v7 entry_proto_collect' ?_));rw[Around.under_plainId PySem.F.plain_proto_collect _];show vL _ A.in1 (newList [] >>= λl=>again (.builtin "list.__iadd__" ⟨[l,dF],[]⟩)) _ _ s;refine vA (vi ?_);refine vJ ⟨v8 PySem.F.plain_list_iadd _,v7 entry_list_iadd' ?_⟩;rw[Around.under_plainId PySem.F.plain_list_iadd _];have hS₁:(s.heap.push { cls:=.type "list", data:=.seq ([]:List vB).toArray }).get? s.heap.objs.size=some { cls:=.type "list", data:=.seq #[] }:=zX _ rfl;show vL _ A.in1 (Builtin.List.listExtendWith aH dF aH) _ _ _;have key:=qd8 (prog:=prog) (A:=A) (s:={ s with heap:=s.heap.push { cls:=.type "list", data:=.seq ([]:List vB).toArray } })
  (R:=λ(q:tX) (s':vH)=>∃(h':vf) (tk:Nat) (d:Drawn) (acc':fw) (c':Nat),q=.ok (.ret aH)/\s'={ s with heap:=h',toks:=tk,drawn:=d } /\
   (∀b o,s.heap.get? b=some o->h'.get? b=some o)/\h'.get? s.heap.objs.size=some { cls:=.type "list", dict:=none,data:=.seq acc' c',slots:=#[] }/\∃ys,uH acc'.toList ys/\ys.Perm xs)
  hh (SI.at λo e=>zJ _ e) s.heap.objs.size (xl hlt) aH 0 hS₁
  (λh' tk d acc' c' hk hS' hacc=>⟨h',tk,d,acc',c',rfl,rfl,λb o e=>hk b o (zx DP) EL,hS',hacc⟩)
 refine vo key (λfin s' x=>?_) λe s' x=>?_
 ·cases fin with
  | done f=>
   obtain⟨h',tk,d,acc',c',e,rfl,hk,hS',ys,y1,y2⟩:=x;cases e;show vL _ A (load s.heap.objs.size >>= _) _ _ _;refine vA SF;exact vJ HL
  | again c₁=>
   refine⟨x.1,uV x.2 λq s₂ y=>?_⟩;obtain⟨h',tk,d,acc',c',rfl,rfl,hk,hS',ys,y1,y2⟩:=y;show vL _ A (load s.heap.objs.size >>= _) _ _ _;refine vA SF;exact vJ HL
 ·obtain⟨_,_,_,_,_,e',_⟩:=x
  cases e'
theorem qd5{a:vF}{xs:aa}{Q:aS}(hh:dE)(SI:p8)(h64:xs.length<64)(h:∀(D:vF)(h':vf)(tk:Nat)(d:Drawn)(vs:bH)(ys:aa)(n:Nat),(∀b o,s.heap.get? b=some o->h'.get? b=some o)->s.heap.objs.size<=D->h'.get? D=some Cg->uH vs ys->ys.Perm xs->ys.Pairwise (· <= ·)->Q Iw { s with heap:=h',toks:=tk,drawn:=d }):
  vL am A aco Q E s:=by
 refine Calls.call_function_entry sM sG sH aan ?_;unfold Builtin.«sorted»;refine vA (m:=checkCount "sorted" 1 1 _) fP;refine vA (qaQ (A:=A.in1) hh SI λh1 tk d vs ys hk hz y1 y2=>?_);have hlen:vs.length=xs.length:=by rw[IntsAre.length y1,y2.length_eq]
 refine vA (uy ?_ (yL (by rw[hlen];exact yb h64) (by decide)));have hoL:(h1.push fD).get? h1.objs.size=some fD:=zX _ rfl;refine vA (vX (vq slot_list_sort ⟨_,hoL,rfl⟩ entry_list_sort (list_sort_tree hoL y1 (by rw[hlen];exact h64) λout ns' a1 a2 a3=>da) Uf));obtain⟨n,hn⟩:=sortedHeap_at (vs:=vs) (out:=out) hoL;refine vJ ⟨_,rfl,h h1.objs.size _ tk d out.toList ns' n (λb o e=>?_) ?_ ?_ a1 (a2.trans y2) a3⟩
 ·have e1:=hk b o e
  rw[sortedHeap_old (zx UX) (by rw[ye];exact yW UX)];exact zJ _ e1
 ·exact yb hz
 ·rw[xS];exact hn
end
end Hk
namespace L2
open PySem PySem.Spec PyProof.Rows
noncomputable def Wb(names:rO)(cells:lJ)(cs:lJ):List (Str×vF) :=
 match names with
 | []=>cs
 | p::r=>Wb r cells (if p.2 == .free then (p.1,(cells.lookup p.1).getD 0)::cs else cs)
theorem q53{scope:uu}{env:Env}(h:∀p∈scope.names,p.2=NameKind.free->(env.cells.lookup p.1).isSome=true):
  closureFor scope env=pure (Wb scope.names env.cells []):=by
 simp only[closureFor];generalize scope.names=l at h ⊢;have key:∀(l:rO)(cs:lJ),(∀p∈l,p.2=NameKind.free->(env.cells.lookup p.1).isSome=true) ->
   (forIn l cs (λ(p:Str×uX) (r:lJ)=>if nh=true then (do let a <- cellOf env p.1;pure (ForInStep.yield ((p.1,a)::r)))else pure G9):Sem _)=pure (Wb l env.cells cs):=by
  intro l
  induction l with
  | nil=>intro cs _;rfl
  | cons p r ih=>
   intro cs hp;rw[ZW];have hr:=λq hq=>hp q OF
   by_cases hf:p.2=NameKind.free
   ·have hs:=hp p zG hf
    obtain⟨a,ha⟩:=yu.mp hs;have e:cellOf env p.1=pure a:=by unfold cellOf;rw[ha]
    have hb:nh=true:=by rw[hf];rfl
    rw[Q9,e,pure_bind,pure_bind];show forIn r _ _=_;rw[ih _ hr];show _=pure (Wb r env.cells (if p.2 == .free then _ else _));rw[Q9,ha];rfl
   ·have hb:¬nh=true:=by intro z;exact hf (by cases hk:p.2 <;> simp_all)
    rw[LK,pure_bind];show forIn r _ _=_;rw[ih _ hr];show _=pure (Wb r env.cells (if p.2 == .free then _ else _));rw[LK]
 rw[key l [] h];rfl
theorem qcl{k:uX}(h:(k==NameKind.free)=true):k=NameKind.free:=by cases k <;> first|rfl|cases h
theorem q5F{cells:lJ}:∀(l:rO)(cs:lJ),(∀p∈l,p.2=NameKind.free->(cells.lookup p.1).isSome=true) ->
  (∀x c,cs.lookup x=some c->cells.lookup x=some c)->∀x c,(Wb l cells cs).lookup x=some c->cells.lookup x=some c
 | [],cs,_,h,x,c,e=>h x c e
 | p::r,cs,hp,h,x,c,e=>by
  refine q5F r _ (λq hq=>hp q OF) (λy d hy=>?_) x c e
  by_cases hb:nh=true
  ·rw[Q9,xB]at hy
   cases hyp:y==p.1 with
   | true=>
    rw[hyp]at hy;have hy':(cells.lookup p.1).getD 0=d:=zy hy;obtain⟨a,ha⟩:=yu.mp (hp p zG (qcl hb));rw[ha]at hy';rw[eq_of_beq hyp,ha,<- hy'];rfl
   | false=>rw[hyp]at hy;exact h y d hy
  ·rw[LK]at hy;exact h y d hy
theorem q5k{cells:lJ}:∀(l:rO)(cs:lJ)(x:Str),(IL∈l\/(cs.lookup x).isSome=true)->((Wb l cells cs).lookup x).isSome=true
 | [],cs,x,h=>by
  rcases h with h|h
  ·cases h
  ·exact h
 | p::r,cs,x,h=>by
  refine q5k r _ x ?_;rcases h with h|h
  ·rcases zK.mp h with rfl|h
   ·right
    show (List.lookup x (if (NameKind.free==NameKind.free)=true then _ else _)).isSome=true;rw[vC (by rfl),xB,beq_self_eq_true];rfl
   ·exact .inl h
  ·right
   by_cases hb:nh=true
   ·rw[Q9,xB]
    cases hx:x==p.1 with
    | true=>rfl
    | false=>exact h
   ·rw[LK];exact h
noncomputable def WB(X:Cx)(N:dI)(scope:uu)(C:vF)(s:vH)(H:Hp)(fp:eA):Cx :=
 { X with N:=N,s₀:=s,H₀:=H,env:=compEnvC scope rB C X.env,outer:=X.stack,stack:=X.stack,ex:=fp,fn:=λ_=>false,pn:=[],xe:=λ_ _=>False }
noncomputable def zBO(M:Nat)(frees:cJ)(σ:St):St:=z8 M none++frees.map λj=>(σ[j]?).getD none
structure BlkOk (X:Cx) (N:List Str) (M:Nat) (frees:List Nat) (scope:uu):Prop where
 kind:scope.kind=.function
 nocell:∀y∈scope.names,y.2≠.cell
 own:∀y∈scope.names,y.2=.local->scope.names.lookup y.1=some .local
 cells:∀p∈scope.names,p.2=NameKind.free->(X.env.cells.lookup p.1).isSome=true
 fr:∀(k:Nat)(x:Str),N[M+k]?=some x->∃j,frees[k]?=some j/\X.N[j]?=some x/\(X.env.kindOf x=some .cell\/X.env.kindOf x=some .free)/\scope.names.lookup x=some .free
 len:N.length=M+frees.length
theorem q3f{env:Env}{x:Str}:∀{names:rO}{k:uX},(∀y∈names,y.2≠.cell)->(k=.cell\/k=.free) ->
  (names.map λ(n,k)=>if fZ then IX else (n,k)).lookup x=some k->IL∈names
 | [],_,_,_,h=>by cases h
 | (n,k0)::r,k,hc,hk,h=>by
  have ih:=@q3f env x r k (λy hy=>hc y (zH _ hy)) hk;rw[zO]at h
  by_cases hb:nj=true
  ·have hf:k0=NameKind.free:=qcl (by rw[zv,zv]at hb;exact hb.1.1)
   dsimp only at h
   rw[Q9,xB]at h;cases hx:x==n with
   | true=>rw[eq_of_beq hx,hf];exact zG
   | false=>rw[hx]at h;exact zH _ (ih h)
  ·dsimp only at h
   rw[LK,xB]at h;cases hx:x==n with
   | true=>
    rw[hx]at h;have e:k0=k:=zy h;have z:=hc (n,k0) zG;rw[eq_of_beq hx];rcases hk with rfl|rfl
    ·exact vM e z
    ·rw[e];exact zG
   | false=>rw[hx]at h;exact zH _ (ih h)
theorem q5n{env:Env}{x:Str}:∀{names:rO},names.lookup x=some .free ->
  (names.map λ(n,k)=>if fZ then IX else (n,k)).lookup x=some .cell \/
  (names.map λ(n,k)=>if fZ then IX else (n,k)).lookup x=some .free
 | [],h=>by cases h
 | (n,k0)::r,h=>by
  have ih:=@q5n env x r;rw[zO]
  dsimp only
  rw[xB]at h
  by_cases hb:nj=true
  ·rw[Q9,xB]
   cases hx:x==n with
   | true=>exact .inl rfl
   | false=>rw[hx]at h;exact ih h
  ·rw[LK,xB]
   cases hx:x==n with
   | true=>rw[hx]at h;exact .inr h
   | false=>rw[hx]at h;exact ih h
section
variable{X:Cx}{pins:List (vF×Obj)}{σ:St}{H:Hp}{s:vH}{N:List Str}{M:Nat}{frees:List Nat}{scope:uu}{fp:List vF}
theorem Inv.enter{h1:vf}{C D tk:Nat}{m1:bO}(I:aj)(B:jH)(f:∀b∈fp,WA X pins H b)(lt:∀b∈fp,b<s.heap.objs.size)(hC:s.heap.objs.size<C)(hD:s.heap.objs.size<=D)(hDC:C≠D)(k:∀b u,s.heap.get? b=some u->h1.get? b=some u)(hns:h1.Ns C m1)(hl:h1.get? D=some { cls:=.type "list", data:=.seq ([]:List vB).toArray }):
  Inv aV [] CS (upd H D jC) { s with heap:=h1,toks:=tk }:=by
 have sub:=q5F (cells:=X.env.cells) scope.names [] B.cells (λx c e=>by cases e);have hfr:H D=none:=I.hok.fresh hD;have hfc:H C=none:=I.hok.fresh (yb hC);have clt:∀x c,(Wb scope.names X.env.cells []).lookup x=some c->c<s.heap.objs.size:=λx c e=>by
  obtain⟨v,q⟩:=I.cell x c Kz;exact q.lt
 refine⟨⟨I.ok.mod,B.kind,I.ok.glob,I.ok.blt,yb hC,λx y c e1 e2=>I.ok.inj x y c (sub x c e1) (sub y c e2),λx hx=>?_,λx c e=>vM e (by intro z;cases z),I.ok.hd,I.ok.frames,.inl rfl,λb hb=>?_,I.bs,yL I.ok.bsz I.sz,λb o e hb=>?_,
  λb hb hf=>?_,I.stack,I.stkFree⟩,rfl,I.bare,Un.laid k hD hfr,⟨m1,hns,Tp⟩,λx c e=>?_,?_,λx c e=>?_,λp hp=>vM (show p∈PR from hp) (by simp),I.hok.laid k hD ⟨Bv,[],0,.nil,hl⟩,?_⟩
 ·have hm:IL∈scope.names:=by
   rcases hx with hx|hx
   ·exact q3f B.nocell bD hx
   ·exact q3f B.nocell Iy hx
  exact yu.mp (q5k scope.names [] x (.inl hm))
 ·exact⟨zx (YC (lt b hb) hC),λx c e=>(f b hb).2.2.2.2.1 x c Kz⟩
 ·rcases (f b hb).2.2.2.1 with z|z
  ·exact I.ok.noex b o e z
  ·exact vM (yE DP (yL I.ok.bsz z)) Kv
 ·rcases zK.mp (I.stkSub b hf)with z|z
  ·exact(f b hb).2.1 z
  ·exact(f b hb).2.2.1 z
 ·have hi:M<=i:=by
   rcases yH i M with z|z
   ·unfold zBO at e2
    rw[zg ⇑z,yl,fG]at e2;cases e2
   ·exact z
  obtain⟨q,rfl⟩:∃q,i=M+q:=⟨i-M,∅⟩;obtain⟨j,h1',h2',h3',h4'⟩:=B.fr q x e1;have ev:σ[j]?=some nE:=by
   unfold zBO at e2;rw[zc (by simp),yX,ZI,zZ,h1']at e2;cases e:σ[j]? with
   | none=>rw[xH,e]at e2;cases e2
   | some o=>rw[xH,e]at e2;exact e2
  obtain⟨m,hn,hl'⟩:=I.loc;have vis:Vis X.env.scope x:=by
   rcases h3' with z|z
   ·exact .inr acI
   ·exact .inr (.inr z)
  obtain⟨u,ru,lk⟩:=hl' j x v h2' ev vis;refine⟨u,ru,.inr ?_⟩;rcases lk with⟨z,_⟩|⟨_,c,ec,ic⟩
  ·rcases h3' with y|y <;> (rw[z]at y;cases y)
  ·obtain⟨c',ec'⟩:=yu.mp (q5k (cells:=X.env.cells) scope.names [] x (.inl (PySem.mem_of_lookup h4')))
   have:c'=c:=zy ((sub x c' ec').symm.trans ec);subst this;exact⟨q5n h4',c',ec',ic.keeps k⟩
 ·obtain⟨v,q⟩:=I.cell x c Kz
  exact⟨v,q.keeps k⟩
 ·show upd H D jC C=none
  rw[qd hDC];exact hfc
 ·show upd H D jC c=none
  rw[qd (zx (yE (clt x c e) hD))];exact I.freeC x c Kz
 ·show (zBO M frees σ).length=N.length
  unfold zBO;rw[zE,yX,zB,B.len]
end
section
variable{prog:vQ}{w:vY}{A:ve}{R:tX->vH->Prop}{s:vH}
theorem qax{elt target iter:vP}{ifs:jc}{scope:uu}{pos:Pos}{it acc:vB}{env:Env}(J:Nat->vH->Prop)(turn:∀n s,J n s->vL am A (uO it) (λr s1=>match r with
   | none=>R R9 s1
   | some v=>vL am A (u5 target it v) (λ_ s2=>vL am A (assign target env v) (λ_ s3=>
     vL am A (forIn ifs true λc r=>if r=true then do let ok <- sR c env (eval c env);pure R4 else pure G9) (λok s4=>
      if ok=true then vL am A (eval elt env) (λx s5=>vL am A (call (.builtin "list.append") [acc,x]) (λ_ s6=>∃m,m<n/\J m s6) pV s5) pV s4
      else ∃m,m<n/\J m s4) pV s3) pV s2) pV s1) pV s)
  (n:Nat) (h:J n s):uU am A (.compLoop jV 0 it acc env) R s:=by
 refine codeAny_loop rfl J (λn s hJ=>?_) n h;show vL _ A ((compTurn jV 0 it acc env).onRaise (λx=>do noteFrame x env;theTreesLotGoes x)) _ _ s;refine wpAny_noted (vo (Q:=λfin s'=>match fin with|.done f=>R Vy s'|.again c'=>c'=.compLoop jV 0 it acc env/\∃m,m<n/\J m s') ?_ (λ_ _ q=>q) λ_ _ (z:False)=>z.elim);rw[compTurn_list];refine vA (tI (vA (vo (turn n s hJ) (λr s1 h1=>?_) λ_ _ q=>q)));cases r with
 | none=>exact vJ h1
 | some v=>
  refine vA (vo h1 (λ_ s2 h2=>vA (vo h2 (λ_ s3 h3=>vA (vo h3 (λok s4 h4=>?_) λ_ _ q=>q)) λ_ _ q=>q)) λ_ _ q=>q);cases ok with
  | false=>exact vJ ⟨rfl,h4⟩
  | true=>exact vA (vA (vo h4 (λx s5 h5=>vA (vo h5 (λ_ s6 h6=>vJ (vJ ⟨rfl,h6⟩)) λ_ _ q=>q)) λ_ _ q=>q))
end
def PTs(X:Cx)(ifs:jc)(t:TT):Prop :=
 ∀(pins:ay)(s:vH)(σ:St)(H:Hp)(Q:j0),Inv X pins σ H s->t σ H Q ->
  vL ai X.A (forIn ifs true λc r=>if r=true then do let ok <- sR c X.env (eval c X.env);pure R4 else pure G9) Df X.xe s
theorem qja{X:Cx}:PTs X [] (λ_ H Q=>Q true H):=λ_ _ _ H _ I q=>wpAny_tests_nil LH
theorem qiK{X:Cx}{c:vP}{t:TT}(h:PT X c t):PTs X [c] t:=λpins s σ H Q I q=>wpAny_tests_one (h pins s σ H Q I q)
noncomputable def zBu(M:Nat)(frees:cJ)(wi:TI)(g:TG)(tc:TT)(te:TE):TE:=λσ H Q=>wi σ H λJ H1=>∀D,H1 D=none ->
 ∃W:Nat->Nat->St->Hp->Prop,(∃m,W 0 m CS (upd H1 D jC))/\∀i m σ' H',W i m σ' H' ->
  P2\/(J.go i H'/\∀x H2,J.yld i H' x H2->g x σ' H2 λσ2 H3=>tc σ2 H3 λb H4=>
   if b=true then te σ2 H4 λv H5=>∃acc,H5 D=some (.lst acc)/\acc.length<sizeLine/\∃m',m'<m/\W (i+1) m' σ2 K4
   else ∃m',m'<m/\W (i+1) m' σ2 H4)
section
variable{X:Cx}{N:List Str}{M:Nat}{frees:List Nat}{scope:uu}{tg iter elt:vP}{ifs:List vP}{pos:Pos}{wi:TI}{g:TG}{tc:TT}{te:TE}
theorem qa0(hc:cI)(B:jH)(hb:∀C s H fp,PG aV tg g/\PTs aV ifs tc/\PE aV elt te){pins:ay}{σ:St}{Q:VK}{s2:vH}{itv:vB}{E:aS}{RR:vB->vF->tX->vH->Prop}(h2:PIE X pins σ tg (λJ H1=>∀D,H1 D=none ->
   ∃W:Nat->Nat->St->Hp->Prop,(∃m,W 0 m CS (upd H1 D jC))/\∀i m σ' H',W i m σ' H' ->
    P2\/(J.go i H'/\∀x H2,J.yld i H' x H2->g x σ' H2 λσ2 H3=>tc σ2 H3 λb H4=>
     if b=true then te σ2 H4 λv H5=>∃acc,H5 D=some (.lst acc)/\acc.length<sizeLine/\∃m',m'<m/\W (i+1) m' σ2 K4
     else ∃m',m'<m/\W (i+1) m' σ2 H4)) itv s2)
  (hR:∀D C s' H' m,Inv X pins σ H' s'->Q Iw H'->s'.heap.Ns C m->H' C=none->C≠X.env.locals->X.s₀.heap.objs.size<=C->(∀x c,X.env.cells.lookup x=some c->c≠C)->(∀p∈X.pn++pins,p.1≠C)->RR Iw C R9 s') :
  vL ai X.A (newList []) (λacc s3=>vL ai X.A (newFunctionEnv scope X.env.globals rB [] X.env.qual none .none (some X.env)) (λcenv s4=>
   uU ai X.A (.compStart bJ 0 itv acc { cenv with scope:=relabel scope X.env }) (RR acc cenv.locals) s4) E s3) E s2:=by
 obtain⟨it,fp,tn,J,H2,e,I2,T,st2,f2,q⟩:=h2;subst e;refine vi (wpAny_newFunctionEnv B.nocell (by intro y hy;simp at hy) (λh1 hns hsb=>?_) B.kind)
 dsimp only at hns hsb ⊢
 generalize hP:s2.heap.push { cls:=.type "list", dict:=none,data:=.seq ([]:List vB).toArray }=P1 at hns hsb ⊢;have hsz:P1.objs.size=s2.heap.objs.size+1:=by rw[<- hP,ye]
 have below:∀b,b<s2.heap.objs.size->b≠P1.objs.size:=λb z=>by rw[hsz];exact zx (yW z)
 have keep:∀b u,s2.heap.get? b=some u->h1.get? b=some u:=λb u z=>hsb.extBut b u (below b (zU z)) (zJ _ (hP▸zJ _ z));have hne:s2.heap.objs.size≠P1.objs.size:=by rw[hsz];exact zx Qe
 have hl:h1.get? s2.heap.objs.size=some { cls:=.type "list", data:=.seq ([]:List vB).toArray }:=hsb.extBut _ _ hne (zJ _ (hP▸zX _ rfl));have lt2:∀b∈fp,b<s2.heap.objs.size:=λb z=>by
  obtain⟨o,eo,_⟩:=T.obj _ _ st2 b z;exact zU eo
 have hD0:H2 s2.heap.objs.size=none:=I2.hok.fresh cL;obtain⟨W,⟨m0,w0⟩,turn⟩:=q s2.heap.objs.size hD0;have I4:=I2.enter (N:=N) (M:=M) (frees:=frees) (scope:=scope) (fp:=fp) (h1:=h1) (C:=P1.objs.size) (D:=s2.heap.objs.size) (tk:=s2.toks+([]:List OZ).length) B f2 lt2 (by rw[hsz];exact ya _) cL (Ne.symm hne) keep hns hl;have hcx:∀(C:vF),(WB X N scope C s2 H2 fp).calm=true:=λ_=>hc;have stat:∀{H':Hp},(∀b∈fp,H' b=none)->∀b∈fp,WA dk [] H' b:=λ{H'} hn b z=>by
  refine⟨hn b z,below b (lt2 b z),λy=>?_,acI,λx c y=>?_,λp y=>vM (show p∈PR from y) (by simp)⟩
  ·rcases zK.mp (I2.stkSub b y)with u|u
   ·exact(f2 b z).2.1 u
   ·exact(f2 b z).2.2.1 u
  ·exact(f2 b z).2.2.2.2.1 x c (q5F (cells:=X.env.cells) scope.names [] B.cells (λx c e=>by cases e) x c y)
 have fr4:∀b∈fp,(upd H2 s2.heap.objs.size (HO.lst [])) b=none:=λb z=>by
  rw[qd (zx (lt2 b z))];exact(f2 b z).1
 have st4:tn 0 h1:=T.keep _ _ _ st2 λb _ o z=>keep b o z;have fin:∀(s':vH)(σ':St)(H':Hp),Inv dk [] σ' H' s'->Q jf H'->RR jf P1.objs.size R9 s':=λs' σ' H' I' q'=>by
  obtain⟨m,hm,_⟩:=I'.loc;have u':Un N2 fp H2 H' s2.heap s'.heap:=I'.base;have I0:Inv X pins σ H' s':=I2.call' (ch:=fp) I'.os u' I'.hok I'.bare λb z=>⟨(f2 b z).2.2.2.1,(f2 b z).2.1,(f2 b z).2.2.2.2.1,(f2 b z).2.2.2.2.2⟩;refine hR _ _ s' H' m I0 q' hm I'.free (xl (yE I2.lt (by rw[hsz];exact yx _))) (yL I2.sz (by rw[hsz];exact yx _)) (λx c z=>?_) λp z=>?_
  ·obtain⟨v,y⟩:=I2.cell x c z
   exact below c y.lt
  ·exact below p.1 (zU (I2.pin p z).1)
 have loop:∀s4:vH,s4={ s2 with heap:=h1,toks:=s2.toks+([]:List OZ).length } ->
   uU ai X.A (.compLoop bJ 0 ib jf (compEnvC scope rB P1.objs.size X.env)) (RR jf P1.objs.size) s4:=by
  rintro s4 rfl;refine qax (λn s'=>∃i σ' H',Inv dk [] σ' H' s'/\tn i s'.heap/\(∀b∈fp,H' b=none)/\W i n σ' H') ?_ m0 ⟨0,_,_,I4,st4,fr4,w0⟩;rintro n s5 ⟨i,σ5,H5,I5,st5,fr5,w5⟩;rcases turn i n σ5 H5 w5 with⟨stop,qn⟩|⟨go,step⟩
  ·refine thn (T.done dk rfl rfl rfl hc i [] s5 σ5 H5 _ I5 TH st5 stop) λr s6 ⟨hr,I6⟩=>?_
   subst hr;exact fin s6 σ5 H5 I6 qn
  ·refine thn (T.item dk rfl rfl rfl hc i [] s5 σ5 H5 _ I5 TH st5 go) λr s6 ⟨u,hr,h6⟩=>?_
   subst hr;refine thn h6 λ_ s7 ⟨x,H7,I7,r7,y7,st7,fr7⟩=>?_;have I7':=I7.pinned (stat fr7) (T.obj _ _ st7);have B7:=hb P1.objs.size s2 H2 fp;refine thn (B7.1 _ s7 σ5 H7 x u _ I7' r7 (step x H7 y7)) λ_ s8 ⟨σ8,H8,I8,q8⟩=>?_;refine thn (B7.2.1 _ s8 σ8 H8 _ I8 q8) λok s9 ⟨H9,I9,q9⟩=>?_;have again:∀{σa:St}{Ha:Hp}{sa:vH},Inv dk ([]++zAA fp s7.heap) σa Ha sa->(∃m',m'<n/\W (i+1) m' σa Ha) ->
     ∃m,m<n/\∃i σ' H',Inv dk [] σ' H' sa/\tn i sa.heap/\(∀b∈fp,H' b=none)/\W i m σ' H':=λ{σa Ha sa} Ia ⟨m',hm,wa⟩=>by
    refine⟨m',hm,i+1,σa,Ha,Ia.unpinned,T.keep _ _ _ st7 λb z o eo=>(Ia.pin (b,o) NI).1,λb z=>?_,wa⟩;obtain⟨o,eo,d⟩:=T.obj _ _ st7 b z;exact(Ia.pin (b,o) NI).2.1
   cases ok with
   | false=>exact again I9 q9
   | true=>
    rw[jT];refine thn (B7.2.2 _ s9 σ8 H9 _ I9 q9) λy s10 ⟨v,H10,I10,r10,acc,ha,hz,m',hm,wn⟩=>?_;refine thn (q0L (X:=WB X N scope P1.objs.size s2 H2 fp) _ s10 σ8 H10 jf [v] jf [y] (λ_ Hn=>∃m',m'<n/\W (i+1) m' σ8 Hn) I10 rfl (.cons r10 .nil) ⟨_,acc,v,rfl,rfl,ha,hz,m',hm,wn⟩) λ_ s11 ⟨_,H11,I11,_,q11⟩=>?_;exact again I11 q11
 exact codeAny_compStart_list (loop _ rfl) (T.self _ 0 _ _ _ st4 (loop _ rfl))
theorem qim(hc:cI)(B:jH)(hi:M0)(hb:∀C s H fp,PG aV tg g/\PTs aV ifs tc/\PE aV elt te)(hs:∀x,uA iter X.env x=pure x:=by intro _;rfl):PE X bJ B9:=by
 intro pins s σ H Q I h;rw[eval_ListComp];refine tJ (use:=none) rfl hs (q53 B.cells) B.kind B.own k9;refine qa0 (RR:=λacc C=>compPost ai X.A X.xe none cT acc C) hc B hb h2 λD C s' H' m I' q' hm hC h1 h3 h4 h5=>?_;exact⟨m,hm,λh' hs'=>⟨Iw,H',I'.turned (t':=s'.toks) Jw hC h1 (.inr h3) h4 h5,rfl,q'⟩⟩
theorem qiB{i:Nat}{x:Str}{pos' spos:Pos}(hc:cI)(hN:X.N.Nodup)(hi':X.N[i]?=some x)(hx:GK)(B:jH)(hi:M0)(hb:∀C s H fp,PG aV tg g/\PTs aV ifs tc/\PE aV elt te)(hsw:EN:=by rfl)(hs:∀x,uA iter X.env x=pure x:=by intro _;rfl):PS X P8 (zAa B9 (X9 i)):=by
 intro pins s σ H D I h;rw[exec_Assign_Name_used _ _ _ _ hsw];refine vA (tI (vA ?_));show vL _ X.A (do let _ <- comprehension (.ListComp elt [⟨tg,iter,ifs,0⟩] scope pos) scope X.env _ (newList []) false (eval iter X.env) (some (assign (.Name x pos') X.env))) _ _ s;refine vA (vo (tJ (use:=some Vp) (Q:=λ_ s'=>SP X pins D .next s') rfl hs (q53 B.cells) B.kind B.own
  k9) (λ_ s' hq=>vJ (vJ hq)) λ_ _ q=>q)
 refine qa0 (Q:=λy H1=>X9 i y σ H1 D.nx) (RR:=λacc C=>compPost ai X.A X.xe (some Vp) (λ_ s'=>SP X pins D .next s') acc C) hc B hb h2 λDd C s' H' m I' q' hm hC h1 h3 h4 h5=>?_;show vL _ X.A (assign dX X.env (.ref Dd)) _ _ _;refine wpAny_assign_Name (q8E I' hN hi' (.inl hx) (v:=.ref Dd) (u:=.ref Dd) rfl (λs'' I'' ⟨a,hsb,ha⟩=>?_) (.inr hx));have hCa:C≠a:=by
  rcases ha with rfl|ha
  ·exact h1
  ·exact Ne.symm (h4 x a ha)
 refine⟨m,hm.sameBut hsb hCa,λh' hs'=>⟨_,H',I''.turned (t':=s''.toks) Jw hC h1 (.inr h3) h4 h5,q'⟩⟩
end
end L2
namespace Hk
open PySem L2
inductive D where
 | non|bl (b:Bool)|int (i:Int)|str (x:Str)|lst (xs:List D)|tup (xs:List D)|scr (ns:List Int)|exc (c:Str)|dic (ks:List Int) (xs:List D)
noncomputable def kvsOf:List Int->List V->List R1
 | k::ks,v::vs=>(.inl k,v)::kvsOf ks vs
 | _,_=>[]
def excP(a C:vF)(h:vf):Prop:=∃o,h.get? a=some o/\o.cls=.ref C
mutual
def Rep(K:zC)(H:Hp):D->V->Prop
 | .non,v=>v=.non
 | .bl b,v=>v=.bl b
 | .int i,v=>v=.int i
 | .str x,v=>v=.str x
 | .lst ds,v=>∃a vs,v=.ref a/\H a=some fO/\Y2 K H ds vs
 | .tup ds,v=>∃a vs,v=.ref a/\H a=some O1/\Y2 K H ds vs
 | .scr ns,v=>∃a,v=.ref a/\SqL K H a c9
 | .exc c,v=>∃a C,v=.ref a/\yU K vS c=some (some (.ref C))/\H a=some (.ext (excP a C))
 | .dic ks ds,v=>∃a vs,v=.ref a/\(∃o,H a=some (.frz o jK))/\ks.length=ds.length/\Y2 K H ds vs
def Y2(K:zC)(H:Hp):List D->List V->Prop
 | [],vs=>vs=[]
 | d::ds,vs=>∃v r,vs=v::r/\Rep K H d v/\Y2 K H ds r
end
mutual
theorem Rep.mono{K:zC}{H H':Hp}(e:Oc):∀{d:D}{v:V},Rep K H d v->Rep K H' d v
 | .non,_,h=>h
 | .bl _,_,h=>h
 | .int _,_,h=>h
 | .str _,_,h=>h
 | .lst _,_,⟨a,vs,h1,h2,h3⟩=>Ih
 | .tup _,_,⟨a,vs,h1,h2,h3⟩=>Ih
 | .scr _,_,⟨a,h1,h2⟩=>⟨a,h1,e.seq h2⟩
 | .exc _,_,⟨a,C,h1,h2,h3⟩=>⟨a,C,h1,h2,e _ _ h3⟩
 | .dic _ _,_,⟨a,vs,h1,⟨o,h2⟩,h4,h3⟩=>⟨a,vs,h1,⟨o,e _ _ h2⟩,h4,RM⟩
theorem Y2.mono{K:zC}{H H':Hp}(e:Oc):∀{ds:aO}{vs:bu},Y2 K H ds vs->Y2 K H' ds vs
 | [],_,h=>h
 | _::_,_,⟨v,r,h1,h2,h3⟩=>⟨v,r,h1,Rep.mono e h2,RM⟩
end
section
variable{K:zC}{H:Hp}
theorem Y2.nil:Y2 K H [] []:=rfl
theorem Y2.cons{d:D}{ds:aO}{v:V}{vs:bu}(h:Uy)(t:BA):Y2 K H (d::ds) (v::vs):=⟨v,vs,rfl,h,t⟩
theorem Y2.len:∀{ds:aO}{vs:bu},Y2 K H ds vs->ds.length=vs.length
 | [],_,h=>by cases (show _=_ from h);rfl
 | _::_,_,⟨v,r,h1,_,h3⟩=>by rw[h1,zM,zM,Y2.len h3]
theorem Y2.app:∀{ds es:aO}{vs us:bu},Y2 K H ds vs->Y2 K H es us->Y2 K H (ds++es) (vs++us)
 | [],_,_,_,h,t=>by cases (show _=_ from h);exact t
 | _::_,_,_,_,⟨v,r,h1,h2,h3⟩,t=>by rw[h1];exact⟨v,_,rfl,h2,Y2.app h3 t⟩
theorem Y2.get:∀{ds:aO}{vs:bu}{i:Nat}{d:D},Y2 K H ds vs->ds[i]?=some d->∃v,vs[i]?=some v/\Rep K H d v
 | [],_,_,_,_,e=>by simp at e
 | _::_,_,0,_,⟨v,r,h1,h2,h3⟩,e=>by simp at e;subst e;rw[h1];exact⟨v,rfl,h2⟩
 | _::_,_,i+1,d,⟨v,r,h1,h2,h3⟩,e=>by
  obtain⟨u,e1,e2⟩:=Y2.get (i:=i) (d:=d) h3 ⇑e;exact⟨u,by rw[h1];simpa using e1,e2⟩
theorem Y2.take:∀{ds:aO}{vs:bu}(n:Nat),Y2 K H ds vs->Y2 K H (ds.take n) (vs.take n)
 | _,_,0,_=>rfl
 | [],_,_+1,h=>by cases (show _=_ from h);rfl
 | _::_,_,n+1,⟨v,r,h1,h2,h3⟩=>by rw[h1];exact⟨v,_,rfl,h2,Y2.take n h3⟩
theorem Y2.drop:∀{ds:aO}{vs:bu}(n:Nat),Y2 K H ds vs->Y2 K H (ds.drop n) (vs.drop n)
 | _,_,0,h=>h
 | [],_,_+1,h=>by cases (show _=_ from h);rfl
 | _::_,_,n+1,⟨v,r,h1,h2,h3⟩=>by rw[h1];exact Y2.drop n h3
theorem Y2.ints:∀(ns:aa),Y2 K H jn c9
 | []=>rfl
 | n::r=>⟨bI,_,rfl,rfl,Y2.ints r⟩
theorem Y2.of_ints:∀{ns:aa}{vs:bu},Y2 K H jn vs->vs=ns.map V.int
 | [],_,h=>h
 | n::r,_,⟨v,vs,h1,h2,h3⟩=>by
  have:=Y2.of_ints h3;have e:v=.int n:=h2;rw[h1,this,e];rfl
theorem Y2.one{d:D}{vs:bu}(h:Y2 K H [d] vs):∃v,vs=[v]/\Rep K H d v:=by
 obtain⟨v,r,h1,h2,h3⟩:=h;cases (show r=[]from h3);exact⟨v,h1,h2⟩
theorem Y2.two{d e:D}{vs:bu}(h:Y2 K H [d,e] vs):∃v u,vs=[v,u]/\Rep K H d v/\Rep K H e u:=by
 obtain⟨v,r,h1,h2,h3⟩:=h;obtain⟨u,rfl,h4⟩:=Y2.one h3;exact VF
end
structure Ext (G H G' H':Hp):Prop where
 gg:Y8 G G'
 gh:Y8 G' H'
 hh:Y8 H H'
 new:∀b,G b=none->H b≠none->G' b=none
theorem Ext.refl{G H:Hp}(h:As):Ext G H G H:=⟨ig,h,ig,λ_ e _=>e⟩
theorem Ext.trans{G H G1 H1 G2 H2:Hp}(a:Ext G H G1 H1)(b:Ext G1 H1 G2 H2):Ext G H G2 H2:=by
 refine⟨a.gg.trans b.gg,b.gh,a.hh.trans b.hh,λc h1 h2=>?_⟩;have e1:=a.new c h1 h2;refine b.new c e1 λz=>h2 ?_;exact a.hh.free z
theorem Xq{H:Hp}{p:vF}(h:H p=none)(o:HO):Y8 H E6:=λb u q=>by rw[qd (q0O q h)];exact q
theorem zAB{G H:Hp}{p:vF}(e:As)(o:HO):Y8 (upd G p o) E6:=λb u q=>by
 by_cases z:b=p
 ·subst z;rw[qg]at q ⊢;exact q
 ·rw[qd z]at q ⊢;exact e b u q
theorem Y6{G H:Hp}{p:vF}(e:As)(h:UG)(o:HO):Y8 G E6:=λb u q=>by rw[qd (q0O q h)];exact e b u q
theorem Ext.lay{G H:Hp}{p:vF}(e:As)(h:H p=none)(o:HO):Ext G H (upd G p o) E6:=by
 have g:G p=none:=e.free h;refine⟨Xq g o,zAB e o,Xq h o,λb h1 h2=>?_⟩
 by_cases z:b=p
 ·subst z;exact vM h h2
 ·rw[qd z];exact h1
theorem Ext.hide{G H:Hp}{p:vF}(e:As)(h:H p=none)(o:HO):Ext G H G E6 :=
 ⟨ig,Y6 e (e.free h) o,Xq h o,λ_ z _=>z⟩
inductive W where
 | sh (d:D)|ow (ds:List D)|od (ks:List Int) (ds:List D)|pw (ds:List D)
noncomputable abbrev WSt:=List cc
structure Fr where
 hp:Hp
 pin:Nat->vF
noncomputable instance:CoeFun Fr λ_=>Hp:=⟨Fr.hp⟩
noncomputable instance:Coe Fr Hp:=⟨Fr.hp⟩
noncomputable def fr(H:Hp):Fr:=⟨H,λ_=>0⟩
def Xy(K:zC)(F:Fr)(G:Hp)(ω:WSt)(σ:St)(H:Hp):Prop:=∀(i:Nat)ds,ω[i]?=some Bg->∃vs,σ[i]?=some CZ/\H Kj=some fO/\G Kj=none/\F.hp Kj=none/\Y2 K G ds vs /\
 (∀(j:Nat)es,ω[j]?=some fz->F.pin j=F.pin i->j=i)/\∀(j:Nat)es,ω[j]?=some g9->σ[j]?≠some CZ
theorem Xy.keep{K:zC}{F:Fr}{G G':Hp}{ω:WSt}{σ:St}{H H':Hp}(o:Xy K F G ω σ H)(e:Di):Xy K F G' ω σ H':=λi ds h=>by
 obtain⟨vs,h1,h2,h3,h4,h5,h6⟩:=o i ds h;exact⟨vs,h1,LP,e.new _ h3 (by rw[h2];exact λz=>by cases z),h4,Rz,h6⟩
theorem Xy.no{K:zC}{F:Fr}{G:Hp}{ω:WSt}{σ:St}{H:Hp}(h:∀(i:Nat)ds,ω[i]?≠some Bg):Xy K F G ω σ H:=λi ds e=>vM e (h i ds)
structure Own (K:zC) (G0:Hp) (H0:Fr) (G:Hp) (ω:WSt) (σ:St) (H:Hp):Prop where
 ext:Ext G0 H0.hp G H
 len:ω.length=σ.length
 sh:∀(i:Nat)d,ω[i]?=some ↥d->∃v,σ[i]?=some (some v)/\Rep K G d v
 ow:∀(i:Nat)ds,ω[i]?=some (some (.ow ds))->∃l vs,σ[i]?=some (some (.ref l))/\H l=some (.lst vs)/\G l=none/\H0 l=none/\Y2 K G ds vs
 nd:∀(i j:Nat)ds es l,ω[i]?=some (some (.ow ds))->ω[j]?=some (some (.ow es))->σ[i]?=some (some (.ref l))->σ[j]?=some (some (.ref l))->i=j
 od:∀(i:Nat)ks ds,ω[i]?=some (some (.od ks ds))->∃p vs,σ[i]?=some (some (.ref p))/\H p=some (.dK (kvsOf ks vs))/\G p=none/\H0 p=none/\ks.length=ds.length/\Y2 K G ds vs /\
  ∀(j:Nat)ks' es,ω[j]?=some (some (.od ks' es))->σ[j]?=some (some (.ref p))->i=j
 pw:Xy K H0 G ω σ H
inductive R where
 | sh (d:D)|fr (ds:List D)|vw (ds:List D)
noncomputable def R.d:R->D
 | .sh d=>d
 | .fr ds=>.lst ds
 | .vw ds=>.lst ds
def zBY(K:zC)(H G' H':Hp):R->V->Prop
 | .sh d,v=>Rep K G' d v
 | .fr ds,v=>∃l vs,v=.ref l/\H l=none/\G' l=none/\H' l=some fO/\Y2 K G' ds vs
 | .vw ds,v=>∃l vs,v=.ref l/\H' l=some fO/\Y2 K G' ds vs
def Vw(K:zC)(G H:Hp)(d:D)(v:V):Prop:=Rep K G d v\/∃ds l vs,d=.lst ds/\v=.ref l/\H l=some fO/\Y2 K G ds vs
theorem Own.keep{K:zC}{G0:Hp}{H0:Fr}{G G':Hp}{ω:WSt}{σ:St}{H H':Hp}(o:bZ)(e:Di):Own K G0 H0 G' ω σ H':=by
 refine⟨o.ext.trans e,o.len,Gc,QY,o.nd,λi ks ds h=>?_,o.pw.keep e⟩
 ·obtain⟨v,h1,h2⟩:=o.sh i d h
  exact⟨v,h1,h2.mono e.gg⟩
 ·obtain⟨l,vs,h1,h2,h3,h4,h5⟩:=o.ow i ds h
  exact⟨l,vs,h1,LP,e.new l h3 (by rw[h2];exact λz=>by cases z),h4,Rz⟩
 ·obtain⟨l,vs,h1,h2,h3,h4,h6,h5,h7⟩:=o.od i ks ds h
  exact⟨l,vs,h1,LP,e.new l h3 (by rw[h2];exact λz=>by cases z),h4,h6,Rz,h7⟩
theorem Own.gh{K:zC}{G0:Hp}{H0:Fr}{G:Hp}{ω:WSt}{σ:St}{H:Hp}(o:bZ):Y8 G H:=o.ext.gh
noncomputable abbrev FE:=WSt->Option R
noncomputable abbrev FD:=WSt->Option D
noncomputable abbrev FT:=WSt->Option Bool
noncomputable abbrev FA:=WSt->Option aO
def zCE(K:zC)(t:TE)(f:FE):Prop:=∀G0 H0 G ω σ H r(Q:VK),Own K G0 H0 G ω σ H->f ω=some r ->
 (∀v G' H',Ext G H G' H'->zBY K H G' H' r v->Q v H')->t σ H Q
def zAz(K:zC)(t:TE)(f:FD):Prop:=∀G0 H0 G ω σ H d(Q:VK),Own K G0 H0 G ω σ H->f ω=some d ->
 (∀v G' H',Ext G H G' H'->Rep K G' d v->Q v H')->t σ H Q
def SimV(K:zC)(t:TE)(f:FD):Prop:=∀G0 H0 G ω σ H d(Q:VK),Own K G0 H0 G ω σ H->f ω=some d ->
 (∀v G' H',Ext G H G' H'->Vw K G' H' d v->Q v H')->t σ H Q
def zAU(K:zC)(t:TT)(f:FT):Prop:=∀G0 H0 G ω σ H b(Q:j0),Own K G0 H0 G ω σ H->f ω=some b ->
 (∀G' H',Ext G H G' H'->Q b H')->t σ H Q
def SimA(K:zC)(t:TA)(f:FA):Prop:=∀G0 H0 G ω σ H ds(Q:lu),Own K G0 H0 G ω σ H->f ω=some ds ->
 (∀vs G' H',Ext G H G' H'->Y2 K G' ds vs->Q vs H')->t σ H Q
def XE(X:Cx)(e:vP)(f:FE):Prop:=∃t,PE X e t/\zCE X.K t f
def XD(X:Cx)(e:vP)(f:FD):Prop:=∃t,PE X e t/\zAz X.K t f
def XV(X:Cx)(e:vP)(f:FD):Prop:=∃t,PE X e t/\SimV X.K t f
def XT(X:Cx)(e:vP)(f:FT):Prop:=∃t,PT X e t/\zAU X.K t f
def XW(X:Cx)(e:vP)(f:FT):Prop:=∃t,PW X e t/\zAU X.K t f
def XA(X:Cx)(es:jc)(f:FA):Prop:=(∃t,PA X es t/\SimA X.K t f)/\∀ω ds,f ω=some ds->ds.length=es.length
noncomputable def eOf(f:FD):FE:=λω=>(f ω).map R.sh
noncomputable def dOf(f:FE):FD:=λω=>match f ω with
 | ↥d=>some d
 | some (.fr ds)=>some fK
 | _=>none
noncomputable def vOf(f:FE):FD:=λω=>(f ω).map R.d
section
variable{X:Cx}{e:vP}
theorem XD.toE{f:FD}(h:KL):XE X e (eOf f):=by
 obtain⟨t,h1,h2⟩:=h;refine⟨t,h1,dq⟩;unfold eOf at e;cases q:f ω with
 | none=>rw[q]at e;cases e
 | some d=>rw[q]at e;cases e;exact h2 G0 H0 G ω σ H d Q o q k
theorem XE.toD{f:FE}(h:XE X e f):XD X e (dOf f):=by
 obtain⟨t,h1,h2⟩:=h;refine⟨t,h1,eB⟩;unfold dOf at e;cases q:f ω with
 | none=>rw[q]at e;cases e
 | some r=>
  rw[q]at e;cases r with
  | sh d'=>cases e;exact h2 G0 H0 G ω σ H _ Q o q k
  | fr ds=>
   cases e;refine h2 G0 H0 G ω σ H _ Q o q λv G' H' x ⟨l,vs,e1,e2,e3,e4,e5⟩=>?_;have s1:Y8 G' (upd G' l fO):=Xq e3 _;refine k v (upd G' l fO) H' ⟨x.gg.trans s1,Ks,x.hh,CP⟩ ⟨l,vs,e1,qg,e5.mono s1⟩
   ·by_cases hb:b=l
    ·subst hb;rw[qg]at z;rw[e4];exact z
    ·rw[qd hb]at z;exact x.gh b u z
   ·rw[qd (λhb=>z2 (by rw[hb];exact e2))];exact x.new b z1 z2
  | vw ds=>cases e
theorem XE.toV{f:FE}(h:XE X e f):XV X e (vOf f):=by
 obtain⟨t,h1,h2⟩:=h;refine⟨t,h1,eB⟩;unfold vOf at e;cases q:f ω with
 | none=>rw[q]at e;cases e
 | some r=>
  rw[q]at e;have e':r.d=d:=zy e;subst e';refine h2 G0 H0 G ω σ H r Q o q λv G' H' x y=>k v G' H' x ?_;cases r with
  | sh d'=>exact .inl y
  | fr ds=>obtain⟨l,vs,e1,e2,e3,e4,e5⟩:=y;exact .inr ⟨ds,l,vs,rfl,e1,e4,e5⟩
  | vw ds=>obtain⟨l,vs,e1,e2,e3⟩:=y;exact .inr ⟨ds,l,vs,rfl,e1,e2,e3⟩
theorem XD.toV{f:FD}(h:KL):XV X e f:=by
 obtain⟨t,h1,h2⟩:=h;exact⟨t,h1,λG0 H0 G ω σ H d Q o e k=>h2 G0 H0 G ω σ H d Q o e λv G' H' x y=>k v G' H' x (.inl y)⟩
end
noncomputable def Ys(i:Nat):FE:=λω=>match ω[i]? with
 | some ↥d=>↥d
 | some (some (.ow ds))=>some JL
 | some (some (.pw ds))=>some JL
 | _=>none
noncomputable def fC(d:D):FD:=λ_=>some d
section
variable{X:Cx}
theorem zBB{e:vP}(i:Nat)(h:PE X e KI):XE X e (Ys i):=by
 refine⟨_,h,dq⟩;unfold Ys at e;cases q:ω[i]? with
 | none=>rw[q]at e;cases e
 | some w=>
  rw[q]at e;cases w with
  | none=>cases e
  | some w=>
   cases w with
   | sh d=>
    cases e;obtain⟨v,h1,h2⟩:=o.sh i d q;exact⟨v,h1,k v G H kG h2⟩
   | ow ds=>
    cases e;obtain⟨l,vs,h1,h2,h3,h4,h5⟩:=o.ow i ds q;exact⟨_,h1,k _ G H kG ⟨l,vs,rfl,h2,h5⟩⟩
   | od ks ds=>cases e
   | pw ds=>
    cases e;obtain⟨vs,h1,h2,h3,h4,h5,_⟩:=o.pw i ds q;exact⟨_,h1,k _ G H kG ⟨_,vs,rfl,h2,h5⟩⟩
theorem xd_c{e:vP}{v:V}{d:D}(h:PE X e (tC v))(hr:∀K H,Rep K H d v):XD X e (fC d):=by
 refine⟨_,h,dq⟩;cases e;exact k v G H kG (hr _ _)
theorem Yr{i j pos}:XD X Sg (fC kE):=xd_c qkw λ_ _=>rfl
theorem Xw{b j pos}:XD X L1 (fC FU):=xd_c qlh λ_ _=>rfl
theorem X4{x j pos}:XD X Sh (fC Ht):=xd_c qkO λ_ _=>rfl
end
theorem bnd{α β:Type}{o:Option α}{f:α->Option β}{r:β}(h:o.bind f=some r):∃a,o=some a/\f a=some r:=Option.bind_eq_some_iff.mp h
theorem mpd{α β:Type}{o:Option α}{f:SD}{r:β}(h:o.map f=some r):∃a,o=some a/\f a=r:=wF.mp h
noncomputable def Y1:FA:=λ_=>some []
noncomputable def Yq(f:FD)(g:FA):FA:=λω=>(f ω).bind λd=>(g ω).map λds=>d::ds
section
variable{X:Cx}{e:vP}{es:List vP}
theorem Yv:XA X [] Y1:=⟨⟨_,qA,λG0 H0 G ω σ H ds Q o e k=>by cases e;exact k [] G H kG rfl⟩,λω ds e=>by cases e;rfl⟩
theorem Yp{f:FD}{g:FA}(h:KL)(hr:XA X es g)(hs:az:=by rfl):XA X iV (Yq f g):=by
 obtain⟨t,h1,h2⟩:=h;obtain⟨⟨u,h3,h4⟩,h5⟩:=hr;refine⟨jS,Pg⟩
 ·obtain⟨d,q,e⟩:=bnd e
  obtain⟨r,q2,e⟩:=mpd e;subst e;refine h2 G0 H0 G ω σ H d _ o q λv G1 H1 x1 y1=>?_;refine h4 G0 H0 G1 ω σ H1 r _ gW q2 λvs G2 H2 x2 y2=>?_;exact k _ G2 H2 dY (Y2.cons Bf y2)
 ·obtain⟨d,q,e⟩:=bnd e
  obtain⟨r,q2,e⟩:=mpd e;subst e;rw[zM,zM,aa3]
noncomputable def zAQ(g:FA):FD:=λω=>(g ω).map D.tup
noncomputable def Wh(g:FA):FE:=λω=>(g ω).map R.fr
theorem zBC{n:Nat}(h:n<=1000):n<=sizeLine:=yb (zAu h)
theorem Xu{x1 pos}{g:FA}(h:XA X es g)(hl:es.length<=1000:=by decide):XD X UN (zAQ g):=by
 obtain⟨⟨t,h1,h2⟩,h5⟩:=h;refine⟨_,qkk h1,eB⟩;obtain⟨ds,q,e⟩:=mpd e;subst e;refine h2 G0 H0 G ω σ H ds _ o q λvs G1 H1 x1 y1=>⟨zBC (by rw[<- y1.len,h5 ω ds q];exact hl),Ai⟩;have x2:=Ext.lay x1.gh hp O1;exact k _ _ _ dY ⟨p,vs,rfl,qg,Bf⟩
theorem XX{pos}{g:FA}(h:XA X es g)(hl:es.length<=1000:=by decide):XE X acJ (Wh g):=by
 obtain⟨⟨t,h1,h2⟩,h5⟩:=h;refine⟨_,q3p h1,eB⟩;obtain⟨ds,q,e⟩:=mpd e;subst e;refine h2 G0 H0 G ω σ H ds _ o q λvs G1 H1 x1 y1=>⟨zBC (by rw[<- y1.len,h5 ω ds q];exact hl),Ai⟩;have x2:=Ext.hide x1.gh hp fO;exact k _ _ _ dY ⟨p,vs,rfl,x1.hh.free hp,x1.gh.free hp,qg,y1⟩
inductive O where
 | sh (d:D)|fr (ds:List D)
noncomputable def O.r:O->R
 | .sh d=>.sh d
 | .fr ds=>.fr ds
noncomputable def spD(K:zC)(n:Nat)(m:bL):Sp:=λvs H Q _=>∃G ds r,m ds=some r/\ds.length=n/\Y8 G H/\Y2 K G ds vs/\∀v G' H',Ext G H G' H'->zBY K H G' H' r.r v->Q v H'
noncomputable def Y0(m:bL)(g:FA):FE:=λω=>(g ω).bind λds=>(m ds).map O.r
theorem zBs{CX:CXT}{k:Nat}{f:vF}{fd:vN}{ps:dI}{m:bL}{E:XK}{x:Str}{p pos:Pos}{g:FA}(F:FnOk X.prog X.w X.K X.mg X.base CX k f fd ps (spD X.K (e::es).length m))(hr:abp)(hg:pj)(hm:X.mg x=some fh)(hk:xM X.K fh=true)(hb:je)(hx:VT)(ha:XA X iV g)(hdb:aC:=by decide)(he:az:=by rfl)(hpl:(vU pos gY).any (·.1)=false:=by rfl):
  XE X bG (Y0 m g):=by
 obtain⟨⟨t,h1,h2⟩,h5⟩:=ha;refine⟨_,q61 F hr hg hm hk hb .nil hx h1 hdb he hpl,dq⟩;obtain⟨ds,q,e⟩:=bnd e;obtain⟨r',q2,e⟩:=mpd e;subst e;refine h2 G0 H0 G ω σ H ds _ o q λvs G1 H1 x1 y1=>?_;refine⟨G1,ds,r',q2,h5 ω ds q,x1.gh,by rw[zo];exact y1,λv G2 H2 x2 y2=>k v G2 H2 dY ?_⟩;cases r' with
 | sh d=>exact y2
 | fr ds=>obtain⟨l,vs,e1,e2,e3⟩:=y2;exact⟨l,vs,e1,x1.hh.free e2,e3⟩
end
open PySem.Spec PyProof.Rows PySem.SeqAt PySem.MeetsSeq PySem.MeetsSeq2 PySem.MeetsSeq3 in
theorem q8L{prog:vQ}{w:vY}{A:ve}{E:aS}{s:vH}{t sl:vF}{items:fw}{vl vu:vB}{lo hi:fE}{Q:aS}(ht:UD)(hs:rV)(pl:tQ vl lo)(pu:tQ vu hi)(hw:HT.sIx items.size 0 lo=0/\HT.sIx items.size items.size hi=items.size)(h:Q kw s):vL am A (u7 kw Hb) Q E s:=by
 obtain⟨os,hos,hcs,hds⟩:=id hs;have hTs:s.TypeIs Hb "slice" := abM;unfold u7
 try with_reducible refine vX ?_
 first|refine vA fP|skip
 refine vA (wpAny_sequenceKey ht.typeIs (by decide) ?_);refine vA (wpAny_callSpecial?_slot (name:=Str.ofString "__getitem__") ht.typeIs PyProof.Rows.slot_tuple_getitem
  mq)
 show vL _ _ (Builtin.Tuple.tupleItemsOf kw >>= _) _ _ s;refine vA Qi;refine vA (uc hTs ?_);rw[vC (by decide)];refine vA (HT.q3G hs pl pu ?_);have hy:iQ=true:=by
  rw[hw.1,hw.2];simp
 show vL _ _ (if iQ=true then _ else _) _ _ s;rw[vC hy];have hb:∀{R:rP},R true s->vL am A.in1 (Builtin.Tuple.tupleIsExact kw) R E s:=λr=>by
  unfold Builtin.Tuple.tupleIsExact;refine vA (uc ht.typeIs ?_);exact vJ r
 refine vA (hb ?_);rw[jT];refine vA U5;exact vJ ⟨_,rfl,U2⟩
section
variable{X:Cx}
def rSlW(K:zC):V->Option Int->Option Int->Hp->VK->Prop:=λx lo hi H Q=>∃a xs,x=.ref a/\SqT K H a xs /\
 oR/\Q dF H
theorem qgb:SlR X (rSlW X.K):=by
 intro pins s σ H x v vl vu lo hi sl Q I rx hs pl pu h;obtain⟨a,xs,rfl,hx,hw,q⟩:=h;cases rx;obtain⟨its,r,ht,hz⟩:=I.tuple hx;have hlen:its.toArray.size=xs.length:=by rw[zP];exact r.length.symm
 refine oH;exact q8L ht hs pl pu (by rw[hlen];exact hw) ⟨dF,H,I,rfl,q⟩
end
theorem Vw.rep{K:zC}{G H:Hp}{d:D}{v:V}(h:Ki)(e:As):Rep K H d v:=by
 rcases h with h|⟨ds,l,vs,rfl,rfl,h1,h2⟩
 ·exact h.mono e
 ·exact⟨l,vs,rfl,h1,h2.mono e⟩
theorem Vw.keep{K:zC}{G H G' H':Hp}{d:D}{v:V}(h:Ki)(e:Di):Vw K G' H' d v:=by
 rcases h with h|⟨ds,l,vs,h0,h1,h2,h3⟩
 ·exact .inl (h.mono e.gg)
 ·exact .inr ⟨ds,l,vs,h0,h1,LP,h3.mono e.gg⟩
theorem Vw.lst{K:zC}{G H:Hp}{ds:aO}{v:V}(h:Vw K G H fK v)(e:As):∃a vs,v=.ref a/\H a=some fO/\Y2 K G ds vs:=by
 rcases h with⟨a,vs,h1,h2,h3⟩|⟨ds',l,vs,h0,h1,h2,h3⟩
 ·exact⟨a,vs,h1,e _ _ h2,h3⟩
 ·cases h0;exact⟨l,vs,h1,h2,h3⟩
theorem Vw.of_ne{K:zC}{G H:Hp}{d:D}{v:V}(h:Ki)(n:∀ds,d≠.lst ds):Rep K G d v:=by
 rcases h with h|⟨ds',l,vs,h0,h1,h2,h3⟩
 ·exact h
 ·exact vM h0 (n _)
def VwA(K:zC)(G H:Hp):List D->List V->Prop
 | [],vs=>vs=[]
 | d::ds,vs=>∃v r,vs=v::r/\Vw K G H d v/\VwA K G H ds r
def SimVA(K:zC)(t:TA)(f:FA):Prop:=∀G0 H0 G ω σ H ds(Q:lu),Own K G0 H0 G ω σ H->f ω=some ds ->
 (∀vs G' H',Ext G H G' H'->VwA K G' H' ds vs->Q vs H')->t σ H Q
def XVA(X:Cx)(es:jc)(f:FA):Prop:=∃t,PA X es t/\SimVA X.K t f
section
variable{X:Cx}{e:vP}{es:List vP}
theorem qp:XVA X [] Y1:=⟨_,qA,λG0 H0 G ω σ H ds Q o e k=>by cases e;exact k [] G H kG rfl⟩
theorem qm{f:FD}{g:FA}(h:XV X e f)(hr:XVA X es g)(hs:az:=by rfl):XVA X iV (Yq f g):=by
 obtain⟨t,h1,h2⟩:=h;obtain⟨u,h3,h4⟩:=hr;refine jS;obtain⟨d,q,e⟩:=bnd e;obtain⟨r,q2,e⟩:=mpd e;subst e;refine h2 G0 H0 G ω σ H d _ o q λv G1 H1 x1 y1=>?_;refine h4 G0 H0 G1 ω σ H1 r _ gW q2 λvs G2 H2 x2 y2=>?_;exact k _ G2 H2 dY ⟨v,vs,rfl,y1.keep x2,y2⟩
noncomputable def Yz(op:lK)(f g:FD):FE:=λω=>(f ω).bind λx=>(g ω).bind λy=>op x y
def OpV(K:zC)(r:R2)(op:lK):Prop:=∀G H x y d v u(Q:VK),Y8 G H->op x y=some d->Vw K G H x v->Vw K G H y u ->
 (∀w G' H',Ext G H G' H'->zBY K H G' H' d w->Q w H')->r v u H Q
theorem q63{r:R2}{o:lK}{f g:FD}{t u:TE}(hd:GU)(h2:SimV X.K t f)(h4:SimV X.K u g):zCE X.K (tOp r t u) HR:=by
 intro G0 H0 G ω σ H d Q ow e k;obtain⟨x,q,e⟩:=bnd e;obtain⟨y,q2,e⟩:=bnd e;refine h2 G0 H0 G ω σ H x _ ow q λv G1 H1 x1 y1=>?_;refine h4 G0 H0 G1 ω σ H1 y _ Pu q2 λv2 G2 H2 x2 y2=>?_;refine hd G2 H2 x y d v v2 Q x2.gh e (y1.keep x2) y2 λw G3 H3 x3 z=>k w G3 H3 Cw ?_;cases d with
 | sh d=>exact z
 | fr ds=>obtain⟨l,vs,e1,e2,e3⟩:=z;exact⟨l,vs,e1,(x1.trans x2).hh.free e2,e3⟩
 | vw ds=>exact z
variable{a b:vP}{pos:Pos}{f g:FD}
theorem q3x{op:Operator}{r:R2}{o:lK}(ho:OpR X (uQ op) r)(hd:GU)(ha:eX)(hb:iz):XE X Th HR:=by
 obtain⟨t,h1,h2⟩:=ha;obtain⟨u,h3,h4⟩:=hb;exact⟨_,qll ho h1 h3,IU⟩
theorem q5E{op:sK}{r:R2}{o:lK}(ho:EZ)(hd:GU)(ha:eX)(hb:iz)(hm:CW):XE X kC HR:=by
 obtain⟨t,h1,h2⟩:=ha;obtain⟨u,h3,h4⟩:=hb;exact⟨_,qiO ho h1 h3 hm,IU⟩
theorem ql0{r:R2}{o:lK}(ho:IxR X r)(hd:GU)(ha:eX)(hb:iz)(hs:zAO b):XE X Fy HR:=by
 obtain⟨t,h1,h2⟩:=ha;obtain⟨u,h3,h4⟩:=hb;exact⟨_,qkZ ho h1 h3 hs,IU⟩
noncomputable def tOf(f:FE):FT:=λω=>match f ω with
 | ↥(.bl k)=>some k
 | _=>none
theorem qdJ{t:TE}{f:FE}(h:zCE X.K t f):zAU X.K (tTest t) (tOf f):=by
 intro G0 H0 G ω σ H b Q o e k;unfold tOf at e;cases q:f ω with
 | none=>rw[q]at e;cases e
 | some r=>
  rw[q]at e;cases r with
  | sh d=>
   cases d with
   | bl c=>
    cases e;refine h G0 H0 G ω σ H _ _ o q λv G' H' x y=>?_;cases (show v=V.bl b from y);exact⟨b,rfl,k G' H' x⟩
   | _=>cases e
  | _=>cases e
theorem q5G{op:sK}{r:R2}{o:lK}(ho:EZ)(hd:GU)(ha:eX)(hb:iz)(hm:CW):XT X kC (tOf HR):=by
 obtain⟨t,h1,h2⟩:=ha;obtain⟨u,h3,h4⟩:=hb;exact⟨_,qiD ho h1 h3 hm,qdJ IU⟩
noncomputable def zBG(c:Os)(g:UE):D->D->Option R
 | .int i,.int j=>if c i j=true then ↥o7 else none
 | _,_=>none
theorem Vw.int{K:zC}{G H:Hp}{i:Int}{v:V}(h:Vw K G H kE v):v=.int i:=h.of_ne (λ_ z=>by cases z)
theorem Vw.bl{K:zC}{G H:Hp}{i:Bool}{v:V}(h:Vw K G H (.bl i) v):v=.bl i:=h.of_ne (λ_ z=>by cases z)
theorem Vw.str{K:zC}{G H:Hp}{i:Str}{v:V}(h:Vw K G H (.str i) v):v=.str i:=h.of_ne (λ_ z=>by cases z)
theorem Vw.non{K:zC}{G H:Hp}{v:V}(h:Vw K G H .non v):v=.non:=h.of_ne (λ_ z=>by cases z)
theorem Vw.tup{K:zC}{G H:Hp}{ds:aO}{v:V}(h:Vw K G H El v):∃a vs,v=.ref a/\G a=some O1/\Y2 K G ds vs:=h.of_ne (λ_ z=>by cases z)
theorem Vw.scr{K:zC}{G H:Hp}{ns:aa}{v:V}(h:Vw K G H mM v):∃a,v=.ref a/\SqL K G a c9:=h.of_ne (λ_ z=>by cases z)
theorem q5T{K:zC}{C:Oq}{c:Os}{gV:LY}{g:UE}(hc:∀i j,c i j=true->C i j)(hg:∀H i j,Rep K H o7 (gV i j)):OpV K (rI C gV) (zBG c g):=by
 intro G H x y d v u Q s e hx hy k;cases x with
 | int i=>
  cases y with
  | int j=>
   cases hx.int;cases hy.int;unfold zBG at e
   dsimp only at e
   by_cases z:c i j=true
   ·rw[fG]at e
    cases e;exact⟨i,j,rfl,rfl,hc i j z,SO⟩
   ·rw[fm]at e;cases e
  | _=>cases e
 | _=>cases e
theorem q3C{K:zC}{gV:LY}{g:UE}(hg:∀H i j,Rep K H o7 (gV i j)):OpV K (rI0 gV) (zBG B8 g):=by
 intro G H x y d v u Q s e hx hy k;cases x with
 | int i=>
  cases y with
  | int j=>
   cases hx.int;cases hy.int;cases e;exact⟨i,j,rfl,rfl,SO⟩
  | _=>cases e
 | _=>cases e
noncomputable def zBy(i j:Int):Bool:=(decide (-(2^64)<i)&&decide (i<2^64)) || (decide (-(2^64)<j)&&decide (j<2^64))
noncomputable def cDiv(_ j:Int):Bool:=decide (0<j)&&decide (j<1073741824)
noncomputable def cMod(_ j:Int):Bool:=decide (0<j)
noncomputable def cPow(i j:Int):Bool:=decide (0<=j)&&decide (j<=1000000)&&decide (i.natAbs<2^64)
noncomputable abbrev zA5:D->D->Option R:=zBG B8 λi j=>.int (i-j)
noncomputable abbrev zBP:D->D->Option R:=zBG zBy λi j=>.int (i*j)
noncomputable abbrev oDiv:D->D->Option R:=zBG cDiv λi j=>.int (i/j)
noncomputable abbrev oMod:D->D->Option R:=zBG cMod λi j=>.int (i%j)
noncomputable abbrev oPow:D->D->Option R:=zBG cPow λi j=>.int (i^j.toNat)
noncomputable abbrev oLt:D->D->Option R:=zBG B8 λi j=>.bl (decide (i<j))
noncomputable abbrev oGt:D->D->Option R:=zBG B8 λi j=>.bl (decide (j<i))
noncomputable abbrev oGe:D->D->Option R:=zBG B8 λi j=>.bl (decide (j<=i))
noncomputable def Xz:D->D->Option R
 | .int i,.int j=>↥(.int (i+j))
 | .lst xs,.lst ys=>if xs.length+ys.length<=1000000 then some (.fr Md)else none
 | .tup [],.tup ys=>↥abA
 | .tup (x::xs),.tup ys=>if (x::xs).length+ys.length<=1000000 then ↥(.tup (NO++ys))else none
 | _,_=>none
theorem q6v{n:Nat}(h:n<=1000000):n<=sizeLine:=by rw[vh];omega
noncomputable def rCat0(K:zC):R2:=λx y H Q=>∃a b ys,x=.ref a/\y=.ref b/\SqT K H a []/\SqT K H b ys/\Q Az H
theorem qjn:OpR X J1 (rCat0 X.K):=by
 intro pins s σ H x y v u Q I rx ry h;obtain⟨a,b,ys,rfl,rfl,ha,hb,q⟩:=h;cases rx;cases ry;obtain⟨its,r1,p1,_⟩:=I.tuple ha;obtain⟨its2,r2,p2,_⟩:=I.tuple hb;have e0:its=[]:=r1.nil_iff.mpr rfl;subst e0;obtain⟨⟨cls,dd,data,sl⟩,ho,hc,n,hd⟩:=id p1;obtain⟨⟨cls2,dd2,data2,sl2⟩,ho2,hc2,n2,hd2⟩:=id p2;simp only at hc hd hc2 hd2;subst hc hd hc2 hd2;exact PySem.concat_meets ND L7 PySem.noFill_tuple_add PySem.seq_tuple_add PySem.F.slot_tuple_add PySem.F.entry_tuple_add rZ
  (PyProof.Rows.tuple_addW0 a b _ its2.toArray n n2 dd dd2 sl sl2 (by simp)) ⟨ho,ho2,⟨Az,H,I,rfl,q⟩⟩
noncomputable def zA4(K:zC):R2:=λx y H Q=>rI0 (λi j=>.int (i+j)) x y H Q\/rCat x y H Q\/rCatT K x y H Q\/rCat0 K x y H Q
theorem qdY:OpR X J1 (zA4 X.K):=qkH.or (qkf.or (qiN.or qjn))
theorem qjg{K:zC}:OpV K (zA4 K) Xz:=by
 intro G H x y d v u Q s e hx hy k;cases x with
 | int i=>
  cases y with
  | int j=>
   cases hx.int;cases hy.int;cases e;exact .inl Tl
  | _=>cases e
 | lst xs=>
  cases y with
  | lst ys=>
   unfold Xz at e
   dsimp only at e
   by_cases z:xs.length+ys.length<=1000000
   ·rw[fG]at e
    cases e;obtain⟨a,vs,rfl,h1,h2⟩:=hx.lst s;obtain⟨b,us,rfl,h3,h4⟩:=hy.lst s;refine .inr (.inl ⟨a,b,vs,us,rfl,rfl,h1,h3,q6v (by rw[<- h2.len,<- h4.len];exact z),Ai⟩);exact k _ G _ Vx ⟨p,_,rfl,hp,s.free hp,qg,h2.app h4⟩
   ·rw[fm]at e;cases e
  | _=>cases e
 | tup xs=>
  cases y with
  | tup ys=>
   obtain⟨a,vs,rfl,h1,h2⟩:=hx.tup;obtain⟨b,us,rfl,h3,h4⟩:=hy.tup;cases xs with
   | nil=>
    cases e;have ev:vs=[]:=yt h2.len.symm;subst ev;exact .inr (.inr (.inr ⟨a,b,us,rfl,rfl,BZ,SqT.of Mk,k _ G H dv ⟨b,us,rfl,h3,h4⟩⟩))
   | cons x0 xs=>
    unfold Xz at e
    dsimp only at e
    by_cases z:(x0::xs).length+ys.length<=1000000
    ·rw[fG]at e
     cases e;refine .inr (.inr (.inl ⟨a,b,vs,us,rfl,rfl,BZ,SqT.of Mk,λw=>?_,q6v (by rw[<- h2.len,<- h4.len];exact z),λw=>?_,λ_ p hp=>?_⟩))
     ·have:=h2.len
      rw[w]at this;cases this
     ·have:=h4.len
      rw[w]at this;have ey:ys=[]:=yt this;subst ey;rw[zo]at k;exact k _ G H dv ⟨a,vs,rfl,h1,h2⟩
     ·have x2:=Ext.lay s hp (.tup (vs++us))
      exact k _ _ _ x2 ⟨p,_,rfl,qg,(h2.app h4).mono x2.gg⟩
    ·rw[fm]at e;cases e
  | _=>cases xs <;> cases e
 | _=>cases e
theorem qN(ha:eX)(hb:iz):XE X (.BinOp a .Add b pos) (Yz Xz f g):=q3x qdY qjg ha hb
theorem q1X(ha:eX)(hb:iz):XE X (.BinOp a .Sub b pos) (Yz zA5 f g):=q3x qjT oK ha hb
theorem mulOk{i j:Int}(h:zBy i j=true):CMul i j:=by
 unfold zBy at h;rw[Bool.or_eq_true,zv,zv,decide_eq_true_iff,decide_eq_true_iff,decide_eq_true_iff,decide_eq_true_iff]at h;exact h
theorem divOk{i j:Int}(h:cDiv i j=true):CDiv i j:=by
 unfold cDiv at h;rw[zv,decide_eq_true_iff,decide_eq_true_iff]at h;exact h
theorem powOk{i j:Int}(h:cPow i j=true):CPow i j:=by
 unfold cPow at h;rw[zv,zv,decide_eq_true_iff,decide_eq_true_iff,decide_eq_true_iff]at h;exact⟨h.1.1,h.1.2,h.2⟩
theorem qas(ha:eX)(hb:iz):XE X P7 (Yz zBP f g):=q3x qkp (q5T (λ_ _ h=>mulOk h) λ_ _ _=>rfl) ha hb
theorem q0a(ha:eX)(hb:iz):XE X (.BinOp a .FloorDiv b pos) (Yz oDiv f g):=q3x qiA (q5T (λ_ _ h=>divOk h) λ_ _ _=>rfl) ha hb
theorem qU(ha:eX)(hb:iz):XE X (.BinOp a .Mod b pos) (Yz oMod f g):=q3x qkQ (q5T (λ_ _ h=>of_decide_eq_true h) λ_ _ _=>rfl) ha hb
theorem qkN(ha:eX)(hb:iz):XE X (.BinOp a .Pow b pos) (Yz oPow f g):=q3x qkx (q5T (λ_ _ h=>powOk h) λ_ _ _=>rfl) ha hb
noncomputable def oNeg:D->Option R
 | .int i=>↥(.int (-i))
 | _=>none
noncomputable def W0(f:FD):FE:=λω=>(f ω).bind oNeg
theorem q07(ha:eX):XE X (.UnaryOp .USub a pos) (W0 f):=by
 obtain⟨t,h1,h2⟩:=ha;refine⟨_,qlg qjC h1,λG0 H0 G ω σ H d Q ow e k=>?_⟩;obtain⟨x,q,e⟩:=bnd e;refine h2 G0 H0 G ω σ H x _ ow q λv G1 H1 x1 y1=>?_;cases x with
 | int i=>cases e;cases y1.int;exact⟨i,rfl,Ld⟩
 | _=>cases e
theorem qdk(ha:eX)(hb:iz):XE X Nb (Yz oLt f g):=q5E qhS oK ha hb Is
theorem qdo(ha:eX)(hb:iz):XE X (.Compare a [.GtE] [b] pos) (Yz oGe f g):=q5E ql1 oK ha hb Is
theorem qh8(ha:eX)(hb:iz):XT X Nb (tOf (Yz oLt f g)):=q5G qhS oK ha hb Is
theorem qlc(ha:eX)(hb:iz):XT X (.Compare a [.Gt] [b] pos) (tOf (Yz oGt f g)):=q5G qlf oK ha hb Is
end
mutual
noncomputable def D.py:D->PyData
 | .non=>.none
 | .bl b=>.bool b
 | .int i=>.int i
 | .str x=>.str x
 | .lst xs=>.list (D.pys xs)
 | .tup xs=>.tuple (D.pys xs)
 | .scr ns=>.list SM
 | .exc _=>.dict []
 | .dic _ _=>.dict []
noncomputable def D.pys:List D->List PyData
 | []=>[]
 | d::ds=>d.py::D.pys ds
end
section
variable{X:Cx}{pins:List (vF×Obj)}{σ:St}{H:Hp}{s:vH}
theorem Wq{h:vf}:∀{ns:aa}{us:bH},Y7 c9 us->∃as,ReadsAll h us SM as
 | [],_,r=>by cases r;exact⟨_,.nil⟩
 | n::ns,_,r=>by
  rw[zO]at r;cases r with
  | cons r1 r2=>
   obtain⟨t,rfl⟩:=r1;obtain⟨as,q⟩:=Wq (h:=h) r2;exact⟨_,.cons (.int n t) q⟩
mutual
theorem WJ(I:aj):∀{d:D}{v:V}{u:vB},d.py.canLay0=true->Rep X.K H d v->RelV v u->∃as,Reads s.heap u d.py as
 | .non,_,_,_,h,r=>by cases (show _=V.non from h);cases r;exact⟨_,.none⟩
 | .bl b,_,_,_,h,r=>by cases (show _=V.bl b from h);cases r;exact⟨_,.bool b⟩
 | .int i,_,_,_,h,r=>by cases (show _=V.int i from h);obtain⟨t,rfl⟩:=r;exact⟨_,AK⟩
 | .str x,_,_,_,h,r=>by cases (show _=V.str x from h);obtain⟨t,rfl⟩:=r;exact⟨_,abC⟩
 | .lst ds,_,_,hc,⟨a,vs,rfl,h2,h3⟩,r=>by
  cases r;obtain⟨its,n,rv,e,_⟩:=I.lst h2;obtain⟨as,q⟩:=Wc I (show PyData.canLayAll0 pk=true from hc) h3 rv;exact⟨_,.list e rfl rfl ⇑q⟩
 | .tup ds,_,_,hc,⟨a,vs,rfl,h2,h3⟩,r=>by
  cases r;obtain⟨its,rv,⟨o,e,c,n,dd⟩,_⟩:=I.tuple (SqT.of h2);obtain⟨as,q⟩:=Wc I (show PyData.canLayAll0 pk=true from hc) h3 rv;exact⟨_,.tuple e c dd ⇑q⟩
 | .exc _,_,_,hc,_,_=>by cases hc
 | .dic _ _,_,_,hc,_,_=>by cases hc
 | .scr ns,_,_,_,⟨a,rfl,h2⟩,r=>by
  cases r;obtain⟨its,rv,pl,_⟩:=I.list h2;obtain⟨o,e,c,n,dd⟩:=pl.isList;obtain⟨as,q⟩:=Wq (h:=s.heap) rv;exact⟨_,.list e c dd ⇑q⟩
theorem Wc(I:aj):∀{ds:aO}{vs:bu}{us:bH},PyData.canLayAll0 pk=true->Y2 X.K H ds vs->Y7 vs us->∃as,ReadsAll s.heap us pk as
 | [],_,_,_,h,r=>by cases (show _=[]from h);cases r;exact⟨_,.nil⟩
 | d::ds,_,_,hc,⟨v,vr,h1,h2,h3⟩,r=>by
  have hc':=Zh.mp (show (d.py.canLay0&&PyData.canLayAll0 pk)=true from hc);subst h1;cases r with
  | cons r1 r2=>
   obtain⟨as,q1⟩:=WJ I hc'.1 h2 r1;obtain⟨bs,q2⟩:=Wc I hc'.2 h3 r2;exact⟨_,.cons q1 q2⟩
end
end
noncomputable def shp(d:D):Bool:=SeqAt.shaped d.py
noncomputable def eqD(x y:D):Bool:=PyData.eqv x.py y.py
noncomputable def rEqD(K:zC)(neg:Bool):R2:=λx y H Q=>∃d e,Rep K H d x/\Rep K H e y/\shp d=true/\shp e=true/\Q (.bl (if neg then !eqD d e else eqD d e)) H
noncomputable def oEq(neg:Bool):D->D->Option R:=λx y=>if shp x&&shp y then ↥(.bl (if neg then !eqD x y else eqD x y))else none
section
variable{X:Cx}{a b:vP}{pos:Pos}{f g:FD}
theorem zBh(hu:h9):OpR X (uM .Eq) (rEqD X.K false):=by
 intro pins s σ H x y v u Q I rx ry h;obtain⟨d,e,h1,h2,h3,h4,q⟩:=h;obtain⟨as,ra⟩:=WJ I LV h1 rx;obtain⟨bs,rb⟩:=WJ I LU h2 ry;exact SeqAt.compareEq_shaped ra rb h3 h4 hu E1
theorem zBi(hu:h9):OpR X (uM .NotEq) (rEqD X.K true):=by
 intro pins s σ H x y v u Q I rx ry h;obtain⟨d,e,h1,h2,h3,h4,q⟩:=h;obtain⟨as,ra⟩:=WJ I LV h1 rx;obtain⟨bs,rb⟩:=WJ I LU h2 ry;exact SeqAt.compareNe_shaped ra rb h3 h4 hu E1
theorem zAV{K:zC}{neg:Bool}:OpV K (rEqD K neg) (oEq neg):=by
 intro G H x y d v u Q s e hx hy k;unfold oEq at e
 by_cases z:(shp x&&shp y)=true
 ·rw[fG]at e
  cases e;rw[zv]at z;exact⟨x,y,NX,hy.rep s,z.1,z.2,kq⟩
 ·rw[fm]at e;cases e
theorem zAj(hu:h9)(ha:eX)(hb:iz):XE X Nc (Yz fI f g):=q5E (zBh hu) zAV ha hb Is
theorem xe_ne(hu:h9)(ha:eX)(hb:iz):XE X KS (Yz jE f g):=q5E (zBi hu) zAV ha hb Is
theorem Wo(hu:h9)(ha:eX)(hb:iz):XT X Nc (tOf (Yz fI f g)):=q5G (zBh hu) zAV ha hb Is
theorem WY(hu:h9)(ha:eX)(hb:iz):XT X KS (tOf (Yz jE f g)):=q5G (zBi hu) zAV ha hb Is
noncomputable def rIs(neg:Bool):R2:=λx y H Q=>(y=.non/\Q (.bl (if neg then !decide (x=.non)else decide (x=.non))) H)\/∃a b,x=.bl a/\y=.bl b/\Q (.bl (if neg then ! Qv else a==b)) H
theorem zBQ:OpR X (uM .IsNot) (rIs true):=by
 intro pins s σ H x y v u Q I rx ry h;rcases h with⟨rfl,q⟩|⟨a,b,rfl,rfl,q⟩
 ·exact qjk pins s σ H x .non v u Q I rx ry ⟨rfl,q⟩
 ·cases rx
  cases ry;exact PyProof.Rows.isnot_bool E1
noncomputable def isN:D->Bool
 | .non=>true
 | _=>false
noncomputable def oIs(neg:Bool):D->D->Option R
 | x,.non=>↥(.bl (if neg then !isN x else isN x))
 | .bl i,.bl j=>↥(.bl (if neg then !(i==j)else i==j))
 | _,_=>none
theorem isN_of{K:zC}{H:Hp}{d:D}{v:V}(h:Uy):decide (v=.non)=isN d:=by
 cases d with
 | non=>cases (show v=V.non from h);rfl
 | bl b=>cases (show v=V.bl b from h);rfl
 | int b=>cases (show v=V.int b from h);rfl
 | str b=>cases (show v=V.str b from h);rfl
 | lst _=>obtain⟨a,_,rfl,_⟩:=h;rfl
 | tup _=>obtain⟨a,_,rfl,_⟩:=h;rfl
 | scr _=>obtain⟨a,rfl,_⟩:=h;rfl
 | exc _=>obtain⟨a,_,rfl,_⟩:=h;rfl
 | dic _ _=>obtain⟨a,_,rfl,_⟩:=h;rfl
theorem opv_is{K:zC}{neg:Bool}:OpV K (rIs neg) (oIs neg):=by
 intro G H x y d v u Q s e hx hy k;cases y with
 | non=>
  cases hy.non;refine .inl ⟨rfl,?_⟩;rw[isN_of NX];cases x <;> (cases e;exact k _ G H dv rfl)
 | bl j=>
  cases x with
  | bl i=>
   cases hx.bl;cases hy.bl;cases e;exact .inr Tl
  | _=>cases e
 | _=>cases x <;> cases e
theorem zBe(ha:eX)(hb:iz):XT X (.Compare a [.IsNot] [b] pos) (tOf (Yz (oIs true) f g)):=q5G zBQ opv_is ha hb Is
noncomputable def WE:D->Bool
 | .non=>true
 | .bl _=>true
 | .int _=>true
 | .str _=>true
 | _=>false
noncomputable def D.v:D->V
 | .bl b=>.bl b
 | .int i=>.int i
 | .str x=>.str x
 | _=>.non
theorem W2{K:zC}{H:Hp}{d:D}{v:V}(h:Uy)(f:WE d=true):v=d.v/\Wj v=true:=by
 cases d with
 | non=>cases (show v=V.non from h);exact cH
 | bl b=>cases (show v=V.bl b from h);exact cH
 | int b=>cases (show v=V.int b from h);exact cH
 | str b=>cases (show v=V.str b from h);exact cH
 | _=>cases f
theorem WX{K:zC}{H:Hp}:∀{ds:aO}{vs:bu},Y2 K H ds vs->ds.all WE=true->vs=ds.map D.v/\vs.all Wj=true
 | [],_,h,_=>by cases (show _=[]from h);exact cH
 | d::ds,_,⟨v,r,h1,h2,h3⟩,f=>by
  rw[xf,zv]at f;obtain⟨e1,e2⟩:=W2 h2 f.1;obtain⟨e3,e4⟩:=WX h3 f.2;subst h1;refine⟨by rw[zO,<- e1,<- e3],by rw[xf,e2,e4];rfl⟩
noncomputable def inD(x:D)(ds:aO):Bool:=inV x.v (ds.map D.v)
noncomputable def oIn(neg:Bool):D->D->Option R
 | x,.lst ys=>if WE x&&ys.all WE then ↥(.bl (if neg then !inD x ys else inD x ys))else none
 | x,.tup ys=>if WE x&&ys.all WE then ↥(.bl (if neg then !inD x ys else inD x ys))else none
 | _,_=>none
theorem opv_in{K:zC}{neg:Bool}:OpV K (rIn K neg) (oIn neg):=by
 intro G H x y d v u Q s e hx hy k;cases y with
 | lst ys=>
  unfold oIn at e
  dsimp only at e
  by_cases z:Vu=true
  ·rw[fG]at e
   cases e;rw[zv]at z;obtain⟨p,vs,rfl,h1,h2⟩:=hy.lst s;obtain⟨e1,e2⟩:=W2 NX z.1;obtain⟨e3,e4⟩:=WX h2 z.2;refine⟨p,vs,rfl,.inl EA,e2,e4,?_⟩;rw[e1,e3];exact k _ G H dv rfl
  ·rw[fm]at e;cases e
 | tup ys=>
  unfold oIn at e
  dsimp only at e
  by_cases z:Vu=true
  ·rw[fG]at e
   cases e;rw[zv]at z;obtain⟨p,vs,rfl,h1,h2⟩:=hy.tup;obtain⟨e1,e2⟩:=W2 NX z.1;obtain⟨e3,e4⟩:=WX h2 z.2;refine⟨p,vs,rfl,.inr BZ,e2,e4,?_⟩;rw[e1,e3];exact k _ G H dv rfl
  ·rw[fm]at e;cases e
 | _=>cases x <;> cases e
theorem xe_in(ha:eX)(hb:iz)(hm:uD .In b=false:=by with_unfolding_all rfl):XE X (.Compare a [.In] [b] pos) (Yz (oIn false) f g):=q5E qfx opv_in ha hb hm
noncomputable def oIx:D->D->Option R
 | .lst ds,.int i=>(atI ds i).map R.sh
 | .tup ds,.int i=>(atI ds i).map R.sh
 | .scr ns,.int i=>(atI ns i).map λn=>.sh bI
 | _,_=>none
theorem zAZ{K:zC}{H:Hp}{ds:aO}{vs:bu}{i:Int}{d:D}(h:BA)(e:atI ds i=some d):∃v,atI vs i=some v/\Rep K H d v:=by
 unfold atI at e ⊢;rw[<- h.len];cases q:ixN ds.length i with
 | none=>rw[q]at e;cases e
 | some j=>
  rw[q]at e;obtain⟨v,e1,e2⟩:=h.get e;exact⟨v,e1,e2⟩
theorem zBV{ns:aa}{i n:Int}(e:atI ns i=some n):atI c9 i=some bI:=by
 unfold atI at e ⊢;rw[zB];cases q:ixN ns.length i with
 | none=>rw[q]at e;cases e
 | some j=>
  rw[q]at e;have e':ns[j]?=some n:=e;show (ns.map V.int)[j]?=_;rw[zZ,e'];rfl
theorem opv_ix{K:zC}:OpV K (rIx K) oIx:=by
 intro G H x y d v u Q s e hx hy k;cases y with
 | int i=>
  cases hy.int;cases x with
  | lst ds=>
   obtain⟨d',q,e'⟩:=mpd e;subst e';obtain⟨p,vs,rfl,h1,h2⟩:=hx.lst s;obtain⟨w,e1,e2⟩:=zAZ h2 q;exact .inl ⟨p,vs,i,w,rfl,rfl,EA,e1,k _ G H dv e2⟩
  | tup ds=>
   obtain⟨d',q,e'⟩:=mpd e;subst e';obtain⟨p,vs,rfl,h1,h2⟩:=hx.tup;obtain⟨w,e1,e2⟩:=zAZ h2 q;exact .inr (.inl ⟨p,vs,i,w,rfl,rfl,BZ,e1,k _ G H dv e2⟩)
  | scr ns=>
   obtain⟨n,q,e'⟩:=mpd e;subst e';obtain⟨p,rfl,h1⟩:=hx.scr;exact .inl ⟨p,_,i,bI,rfl,rfl,s.seq h1,zBV q,kq⟩
  | _=>cases e
 | _=>cases x <;> cases e
theorem Yt(ha:eX)(hb:iz)(hs:zAO b:=by exact λ_ _=>rfl):XE X Fy (Yz oIx f g):=ql0 qkh opv_ix ha hb hs
noncomputable abbrev FO:=WSt->Option fE
def SimO(K:zC)(t:TO)(f:FO):Prop:=∀G0 H0 G ω σ H o(Q:Fu),Own K G0 H0 G ω σ H->f ω=some o->(∀G' H',Ext G H G' H'->Q o H')->t σ H Q
def XO(X:Cx)(e:EB)(f:FO):Prop:=∃t,PO X e t/\SimO X.K t f
noncomputable def pNo:FO:=λ_=>some none
noncomputable def pAt(f:FD):FO:=λω=>(f ω).bind λd=>match d with|.int i=>some AB|_=>none
theorem Xk:XO X none pNo:=⟨_,qiT,λG0 H0 G ω σ H o Q ow e k=>by cases e;exact k G H aay⟩
theorem XR(h:eX):XO X (some a) (pAt f):=by
 obtain⟨t,h1,h2⟩:=h;refine⟨_,qje h1,λG0 H0 G ω σ H o Q ow e k=>?_⟩;obtain⟨d,q,e⟩:=bnd e;refine h2 G0 H0 G ω σ H d _ ow q λv G1 H1 x1 y1=>?_;cases d with
 | int i=>cases e;cases y1.int;exact⟨i,rfl,k G1 H1 x1⟩
 | _=>cases e
noncomputable def cutD{α:Type}(xs:bN)(lo hi:fE):List α:=(xs.drop pi).take fF
theorem zAY{K:zC}{H:Hp}{ds:aO}{vs:bu}(h:BA)(lo hi:fE):Y2 K H DX (zBK vs lo hi):=by
 unfold cutD zBK;rw[h.len];exact(h.drop _).take _
theorem zBc(ns:aa)(lo hi:fE):zBK c9 lo hi=(cutD ns lo hi).map V.int:=by
 unfold cutD zBK;rw[zB,ZD,ZE]
noncomputable def oSl:D->Option Int->Option Int->Option R
 | .lst ds,lo,hi=>some (.fr DX)
 | .scr ns,lo,hi=>some Iz
 | .tup ds,lo,hi=>if HT.sIx ds.length 0 lo=0/\HT.sIx ds.length ds.length hi=ds.length then ↥El else ↥(.tup DX)
 | _,_,_=>none
noncomputable def fSl(f:FD)(l h:FO):FE:=λω=>(f ω).bind λd=>(l ω).bind λlo=>(h ω).bind λhi=>oSl d lo hi
theorem XL{lo hi:EB}{l h:FO}{p2:Pos}(ha:eX)(hl:XO X lo l)(hh:XO X hi h):XE X (.Subscript a DL pos) (fSl f l h):=by
 obtain⟨t,h1,h2⟩:=ha;obtain⟨tl,h3,h4⟩:=hl;obtain⟨th,h5,h6⟩:=hh;refine⟨_,qg3 (qiI.or (qke.or qgb)) h1 h3 h5,JU⟩;obtain⟨d,q,e⟩:=bnd e;obtain⟨lo',q2,e⟩:=bnd e;obtain⟨hi',q3,e⟩:=bnd e;refine h2 G0 H0 G ω σ H d _ ow q λv G1 H1 x1 y1=>?_;refine h4 G0 H0 G1 ω σ H1 lo' _ Pu q2 λG2 H2 x2=>?_;refine h6 G0 H0 G2 ω σ H2 hi' _ ((ow.keep x1).keep x2) q3 λG3 H3 x3=>?_;have y3:=(y1.keep x2).keep x3;have x13:=(x1.trans x2).trans x3;cases d with
 | lst ds=>
  cases e;obtain⟨p,vs,rfl,h1,h2⟩:=y3.lst x3.gh;refine .inl ⟨p,vs,rfl,EA,λn hn=>?_⟩;exact k _ G3 _ Il ⟨n,_,rfl,x13.hh.free hn,x3.gh.free hn,qg,zAY h2 _ _⟩
 | scr ns=>
  cases e;obtain⟨p,rfl,h1⟩:=y3.scr;refine .inl ⟨p,_,rfl,x3.gh.seq h1,λn hn=>?_⟩;refine k _ G3 _ Il ⟨n,_,rfl,x13.hh.free hn,x3.gh.free hn,qg,?_⟩;rw[zBc];exact Y2.ints _
 | tup ds=>
  unfold oSl at e
  dsimp only at e
  obtain⟨p,vs,rfl,h1,h2⟩:=y3.tup
  by_cases z:HT.sIx ds.length 0 lo'=0/\HT.sIx ds.length ds.length hi'=ds.length
  ·rw[fG]at e
   cases e;exact .inr (.inr ⟨p,vs,rfl,SqT.of ab0,by rw[<- h2.len];exact z,k _ G3 H3 x13 ⟨p,vs,rfl,h1,h2⟩⟩)
  ·rw[fm]at e
   cases e;refine .inr (.inl ⟨p,vs,rfl,SqT.of ab0,by rw[<- h2.len];exact z,λn hn=>?_⟩);have x4:=Ext.lay x3.gh hn (.tup (zBK vs lo' hi'));exact k _ _ _ (x13.trans x4) ⟨n,_,rfl,qg,(zAY h2 _ _).mono x4.gg⟩
 | _=>cases e
end
section
variable{X:Cx}{a b c:vP}{pos:Pos}{rest:List vP}{f g:FT}
noncomputable def zBD(f g:FT):FT:=λω=>(f ω).bind λc=>if c=true then g ω else some false
noncomputable def zAD(f g:FT):FT:=λω=>(f ω).bind λc=>if c=true then some true else g ω
noncomputable def Xh(f:FT):FT:=λω=>(f ω).map (!·)
theorem qg0{t u:TT}(h:zAU X.K t f)(h':zAU X.K u g):zAU X.K (tAnd t u) (zBD f g):=by
 intro G0 H0 G ω σ H b Q o e k;obtain⟨c,q,e⟩:=bnd e;refine h G0 H0 G ω σ H c _ o q λG1 H1 x1=>?_;cases c with
 | true=>rw[jT]at e ⊢;exact h' G0 H0 G1 ω σ H1 b Q gW e λG2 H2 x2=>k G2 H2 dY
 | false=>cases e;exact k G1 H1 x1
theorem qio{t u:TT}(h:zAU X.K t f)(h':zAU X.K u g):zAU X.K (tOr t u) (zAD f g):=by
 intro G0 H0 G ω σ H b Q o e k;obtain⟨c,q,e⟩:=bnd e;refine h G0 H0 G ω σ H c _ o q λG1 H1 x1=>?_;cases c with
 | true=>cases e;exact k G1 H1 x1
 | false=>exact h' G0 H0 G1 ω σ H1 b Q gW e λG2 H2 x2=>k G2 H2 dY
theorem qbQ(h:Of):XW X P6 f:=let ⟨t,h1,h2⟩:=h;⟨t,qiC h1,h2⟩
theorem q1J(h:Of):XW X QN f:=let ⟨t,h1,h2⟩:=h;⟨t,qdN h1,h2⟩
theorem qfg(h:Of)(h':XW X l6 g):XW X kZ (zBD f g):=let ⟨_,h1,h2⟩:=h;let ⟨_,h3,h4⟩:=h';⟨_,qjJ h1 h3,qg0 h2 h4⟩
theorem q18(h:Of)(h':XW X mN g):XW X lg (zAD f g):=let ⟨_,h1,h2⟩:=h;let ⟨_,h3,h4⟩:=h';⟨_,qgS h1 h3,qio h2 h4⟩
theorem XW.toT(h:XW X a f):XT X a f:=let ⟨t,h1,h2⟩:=h;⟨t,h1.pt,h2⟩
theorem qW(h:Of):XT X rQ (Xh f):=by
 obtain⟨t,h1,h2⟩:=h;refine⟨_,qks h1,Kt⟩;obtain⟨c,q,e⟩:=mpd e;subst e;exact h2 G0 H0 G ω σ H c _ o q k
noncomputable def truD:D->Option Bool
 | .non=>some false
 | .bl b=>some b
 | .int i=>some (i != 0)
 | .lst xs=>some (!xs.isEmpty)
 | .tup xs=>some (!xs.isEmpty)
 | _=>none
noncomputable def WM(f:FD):FT:=λω=>(f ω).bind truD
theorem q6i{α β:Type}{xs:bN}{ys:List β}(h:xs.length=ys.length):xs.isEmpty=ys.isEmpty:=by
 cases xs <;> cases ys <;> first|rfl|cases h
theorem qF{f:FD}(h:eX)(he:∀whole,sR a X.env whole=(do let v <- whole;sP a.pos;holding [v] TF):=by intro _;rfl):XT X a (WM f):=by
 obtain⟨t,h1,h2⟩:=h;refine⟨_,q4D h1 he,Kt⟩;obtain⟨d,q,e⟩:=bnd e;refine h2 G0 H0 G ω σ H d _ o q λv G1 H1 x1 y1=>⟨b,?_,k G1 H1 x1⟩;cases d with
 | non=>cases e;cases y1.non;rfl
 | bl c=>cases e;cases y1.bl;rfl
 | int i=>cases e;cases y1.int;rfl
 | lst xs=>
  cases e;obtain⟨p,vs,rfl,h1,h2⟩:=y1.lst x1.gh;exact .inl ⟨vs,EA,by rw[q6i h2.len]⟩
 | tup xs=>
  cases e;obtain⟨p,vs,rfl,h1,h2⟩:=y1.tup;exact .inr (.inl ⟨vs,SqT.of (x1.gh _ _ h1),by rw[q6i h2.len]⟩)
 | _=>cases e
noncomputable def blOf:D->Option Bool
 | .bl b=>some b
 | _=>none
noncomputable def W8(f g:FD):FD:=λω=>(f ω).bind λd=>(blOf d).bind λc=>if c=true then g ω else some l5
noncomputable def vOr(f g:FD):FD:=λω=>(f ω).bind λd=>(blOf d).bind λc=>if c=true then some cZ else g ω
noncomputable def vNot(f:FD):FD:=λω=>(f ω).bind λd=>(blOf d).map λc=>.bl (!c)
noncomputable def zCF(c:FT)(f g:FE):FE:=λω=>(c ω).bind λk=>if k=true then f ω else g ω
variable{fa fb:FD}
theorem q0T{op}(h:QB):XD X Sj fa:=let ⟨t,h1,h2⟩:=h;⟨t,qkV h1,h2⟩
theorem q0f(h:QB)(h':XD X l6 fb):XD X kZ (W8 fa fb):=by
 obtain⟨t,h1,h2⟩:=h;obtain⟨u,h3,h4⟩:=h';refine⟨_,qk3 h1 h3,eB⟩;obtain⟨x,q,e⟩:=bnd e;obtain⟨c,q2,e2⟩:=bnd e;clear e;refine h2 G0 H0 G ω σ H x _ o q λv G1 H1 x1 y1=>?_;cases x with
 | bl z=>
  cases q2;cases (show v=V.bl c from y1);refine⟨c,rfl,?_⟩;cases c with
  | true=>rw[jT]at e2 ⊢;exact h4 G0 H0 G1 ω σ H1 d Q gW e2 λv G2 H2 x2 y2=>k v G2 H2 dY y2
  | false=>cases e2;exact k _ G1 H1 x1 rfl
 | _=>cases q2
theorem qla(h:QB)(h':XD X mN fb):XD X lg (vOr fa fb):=by
 obtain⟨t,h1,h2⟩:=h;obtain⟨u,h3,h4⟩:=h';refine⟨_,ql2 h1 h3,eB⟩;obtain⟨x,q,e⟩:=bnd e;obtain⟨c,q2,e2⟩:=bnd e;clear e;refine h2 G0 H0 G ω σ H x _ o q λv G1 H1 x1 y1=>?_;cases x with
 | bl z=>
  cases q2;cases (show v=V.bl c from y1);refine⟨c,rfl,?_⟩;cases c with
  | true=>cases e2;exact k _ G1 H1 x1 rfl
  | false=>exact h4 G0 H0 G1 ω σ H1 d Q gW e2 λv G2 H2 x2 y2=>k v G2 H2 dY y2
 | _=>cases q2
theorem qjI(h:QB):XD X rQ (vNot fa):=by
 obtain⟨t,h1,h2⟩:=h;refine⟨_,qjF h1,eB⟩;obtain⟨x,q,e⟩:=bnd e;obtain⟨c,q2,e⟩:=mpd e;subst e;refine h2 G0 H0 G ω σ H x _ o q λv G1 H1 x1 y1=>?_;cases x with
 | bl z=>cases q2;cases (show v=V.bl c from y1);exact⟨c,rfl,Ld⟩
 | _=>cases q2
theorem zBY.after{K:zC}{G H G1 H1 G2 H2:Hp}{r:R}{v:V}(x:Ext G H G1 H1)(y:zBY K H1 G2 H2 r v):zBY K H G2 H2 r v:=by
 cases r with
 | sh d=>exact y
 | fr ds=>obtain⟨l,vs,e1,e2,e3⟩:=y;exact⟨l,vs,e1,x.hh.free e2,e3⟩
 | vw ds=>exact y
theorem q7d{fc:FT}{f g:FE}(hc:XT X c fc)(ha:XE X a f)(hb:XE X b g):XE X UO (zCF fc f g):=by
 obtain⟨t,h1,h2⟩:=hc;obtain⟨u,h3,h4⟩:=ha;obtain⟨w,h5,h6⟩:=hb;refine⟨_,qgG h1 h3 h5,dq⟩;obtain⟨z,q,e⟩:=bnd e;refine h2 G0 H0 G ω σ H z _ o q λG1 H1 x1=>?_;cases z with
 | true=>rw[jT]at e ⊢;exact h4 G0 H0 G1 ω σ H1 r Q gW e λv G2 H2 x2 y2=>k v G2 H2 dY NL
 | false=>exact h6 G0 H0 G1 ω σ H1 r Q gW e λv G2 H2 x2 y2=>k v G2 H2 dY NL
end
def WS(K:zC)(r:GW)(op:Lv):Prop:=∀G H ds vs d(Q:VK),Y8 G H->op ds=some d->VwA K G H ds vs ->
 (∀w G' H',Ext G H G' H'->zBY K H G' H' d w->Q w H')->r vs H Q
noncomputable def Xi(op:Lv)(g:FA):FE:=λω=>(g ω).bind op
section
variable{X:Cx}{e:vP}{es:List vP}{x:Str}{p pos:Pos}{r:List V->Hp->VK->Prop}{op:List D->Option R}{g:FA}{id T:String}
theorem q5S{t:TA}(hd:Ux)(h:SimVA X.K t g):zCE X.K V6 abd:=by
 intro G0 H0 G ω σ H d Q o e k;obtain⟨ds,q,e⟩:=bnd e;refine h G0 H0 G ω σ H ds _ o q λvs G1 H1 x1 y1=>?_;exact hd G1 H1 ds vs d Q x1.gh e y1 λw G2 H2 x2 y2=>k w G2 H2 dY NL
theorem qx(hc:X2 X jU r)(hd:Ux)(hg:pj)(hm:AG)(hv:vg x=some jU)(ha:XVA X iV g)(hn:kO:= by decide)(hdb:aC:=by decide)(he:az:=by rfl)(hpl:(vU pos gY).any (·.1)=false:=by rfl):XE X bG abd:=by
 obtain⟨t,h1,h2⟩:=ha;exact⟨_,q3b hc hg hm hv h1 hn hdb he hpl,q5S hd h2⟩
theorem q72(hc:X2 X Bo r)(hd:Ux)(hg:pj)(hm:AG)(hv:vg x=some Bo)(ha:XVA X iV g)(hn:kO:= by decide)(hdb:aC:=by decide)(he:az:=by rfl)(hpl:(vU pos gY).any (·.1)=false:=by rfl):XE X bG abd:=by
 obtain⟨t,h1,h2⟩:=ha;exact⟨_,q81 hc hg hm hv h1 hn hdb he hpl,q5S hd h2⟩
theorem VwA.one{K:zC}{G H:Hp}{d:D}{vs:bu}(h:VwA K G H [d] vs):∃v,vs=[v]/\Vw K G H d v:=by
 obtain⟨v,r,h1,h2,h3⟩:=h;cases (show r=[]from h3);exact⟨v,h1,h2⟩
theorem VwA.two{K:zC}{G H:Hp}{d e:D}{vs:bu}(h:VwA K G H [d,e] vs):∃v u,vs=[v,u]/\Vw K G H d v/\Vw K G H e u:=by
 obtain⟨v,r,h1,h2,h3⟩:=h;obtain⟨u,rfl,h4⟩:=VwA.one h3;exact VF
noncomputable def Ws:List D->Option R
 | [.lst ds]=>↥Dk
 | [.tup ds]=>↥Dk
 | [.scr ns]=>↥aaE
 | _=>none
theorem q0g{K:zC}:WS K (λxs H Q=>∃p ys,xs=N8/\Lp/\Q EF H) Ws:=by
 intro G H ds vs d Q s e hv k
 match ds,e with
 | [.lst ds],e=>
  cases e;obtain⟨v,rfl,h⟩:=hv.one;obtain⟨p,us,rfl,h1,h2⟩:=h.lst s;exact⟨p,us,rfl,.inl EA,k _ G H dv (by show V.int _=V.int _;rw[h2.len])⟩
 | [.tup ds],e=>
  cases e;obtain⟨v,rfl,h⟩:=hv.one;obtain⟨p,us,rfl,h1,h2⟩:=h.tup;exact⟨p,us,rfl,.inr BZ,k _ G H dv (by show V.int _=V.int _;rw[h2.len])⟩
 | [.scr ns],e=>
  cases e;obtain⟨v,rfl,h⟩:=hv.one;obtain⟨p,rfl,h1⟩:=h.scr;exact⟨p,_,rfl,.inl (s.seq h1),k _ G H dv (by show V.int _=V.int _;rw[zB])⟩
noncomputable def bAbs:List D->Option R
 | [.int i]=>↥(.int (if i<0 then -i else i))
 | _=>none
theorem qdz{K:zC}:WS K (λxs H Q=>∃i,xs=[kE]/\Q (.int (if i<0 then -i else i)) H) bAbs:=by
 intro G H ds vs d Q s e hv k
 match ds,e with
 | [.int i],e=>
  cases e;obtain⟨v,rfl,h⟩:=hv.one;cases h.int;exact⟨i,rfl,kq⟩
noncomputable def zAP:List D->Option R
 | [.lst ds]=>some Ds
 | [.tup ds]=>some Ds
 | _=>none
theorem q4p{K:zC}:WS K (λxs H Q=>∃p ys,xs=N8/\Lp/\∀l,H l=none->Q cU Pm) zAP:=by
 intro G H ds vs d Q s e hv k
 match ds,e with
 | [.lst ds],e=>
  cases e;obtain⟨v,rfl,h⟩:=hv.one;obtain⟨p,us,rfl,h1,h2⟩:=h.lst s;exact⟨p,us,rfl,.inl EA,oX⟩
 | [.tup ds],e=>
  cases e;obtain⟨v,rfl,h⟩:=hv.one;obtain⟨p,us,rfl,h1,h2⟩:=h.tup;exact⟨p,us,rfl,.inr BZ,oX⟩
noncomputable def allB:List D->Option Bool
 | []=>some true
 | .bl b::r=>(allB r).map λc=>b&&c
 | _=>none
noncomputable def zAy:List D->Option R
 | [.lst ds]=>(allB ds).map λb=>.sh FU
 | _=>none
noncomputable def zCD:List D->Option Int
 | []=>some 0
 | .int i::r=>(zCD r).map λc=>i+c
 | _=>none
noncomputable def zCI:List D->Option R
 | [.lst ds]=>(zCD ds).map λb=>.sh gG
 | _=>none
end
def rAll:List V->Hp->VK->Prop:=λxs H Q=>∃(p:vF) (bs:QE),xs=N8/\H p=some (.lst (bs.map V.bl))/\Q (.bl (bs.all id)) H
def rSum:List V->Hp->VK->Prop:=λxs H Q=>∃(p:vF) (ns:aa),xs=N8/\H p=some Dq/\Q (.int ns.sum) H
section
variable{X:Cx}
theorem qbB:∀{bs:QE}{us:bH},Y7 (bs.map V.bl) us->us=bs.map Value.bool
 | [],_,r=>by cases r;rfl
 | b::bs,_,r=>by
  rw[zO]at r;cases r with
  | cons r1 r2=>cases r1;rw[qbB r2];rfl
theorem qfu{bs:QE}:(zY bs.length).all QX=bs.all id:=by
 induction bs with
 | nil=>rfl
 | cons b r ih=>
  rw[zM,ZM,xf,ZN,xf];have e:((λi=>(b::r).getD i false) ∘ Nat.succ)=λi=>r.getD i false:=by funext i;rfl
  rw[e,ih];rfl
theorem q1G(hc:cI):X2 X aaK rAll:=by
 intro pins s σ H xs us Q I r h;obtain⟨p,bs,rfl,hp,q⟩:=h;obtain⟨u,rfl,rx⟩:=vals1 r;cases rx;obtain⟨its,n,rv,e,hz⟩:=I.lst hp;have ei:=qbB rv;have hlt:p<s.heap.objs.size:=zU e;refine call_all_walk JA;refine⟨s.heap.objs.size,_,_,its.toArray.size,_,_,QX,rfl,Walks.list (by first|exact I.ok.hd hc|(show X.A.handled=none;exact I.ok.hd hc)) _ p Ma its.toArray,LF,λi v s' Q' E' hv hq=>?_,λh' tk hk=>?_⟩
 ·have hv':its[i]?=some v:=by simpa using hv
  rw[ei,zZ]at hv';cases eb:bs[i]? with
  | none=>rw[eb]at hv';cases hv'
  | some b=>
   rw[eb]at hv';cases hv';have:bs.getD i false=b:=by rw[zV,eb];rfl
   have hq':Q' b s':=by rw[<- this];exact hq
   exact uE hq'
 ·have hl:its.toArray.size=bs.length:=by rw[zP,ei,zB]
  rw[hl,qfu];exact⟨.bl _,H,I.kept (λb o z=>hk b o (λhm=>by
   have:b=s.heap.objs.size:=by simpa using hm
   subst this;exact vM (zU z) Kv) (zJ _ z)),rfl,q⟩
theorem qbJ:∀{ds:aO}{b:Bool},allB ds=some b->∃bs:List Bool,ds=bs.map D.bl/\bs.all id=b
 | [],_,e=>by cases e;exact abO
 | .bl c::r,b,e=>by
  obtain⟨k,q,e⟩:=mpd e;obtain⟨bs,h1,h2⟩:=qbJ q;exact⟨c::bs,by rw[h1];rfl,by rw[xf,h2];exact e⟩
 | .non::_,_,e=>by cases e
 | .int _::_,_,e=>by cases e
 | .str _::_,_,e=>by cases e
 | .lst _::_,_,e=>by cases e
 | .tup _::_,_,e=>by cases e
 | .scr _::_,_,e=>by cases e
 | .exc _::_,_,e=>by cases e
 | .dic _ _::_,_,e=>by cases e
theorem qbu:∀{ds:aO}{b:Int},zCD ds=some b->∃bs:List Int,ds=bs.map D.int/\bs.sum=b
 | [],_,e=>by cases e;exact abO
 | .int c::r,b,e=>by
  obtain⟨k,q,e⟩:=mpd e;obtain⟨bs,h1,h2⟩:=qbu q;exact⟨c::bs,by rw[h1];rfl,by rw[za,h2];exact e⟩
 | .non::_,_,e=>by cases e
 | .bl _::_,_,e=>by cases e
 | .str _::_,_,e=>by cases e
 | .lst _::_,_,e=>by cases e
 | .tup _::_,_,e=>by cases e
 | .scr _::_,_,e=>by cases e
 | .exc _::_,_,e=>by cases e
 | .dic _ _::_,_,e=>by cases e
theorem qbo{K:zC}{H:Hp}:∀{bs:QE}{vs:bu},Y2 K H (bs.map D.bl) vs->vs=bs.map V.bl
 | [],_,h=>h
 | n::r,_,⟨v,vs,h1,h2,h3⟩=>by
  have:=qbo h3;have e:v=.bl n:=h2;rw[h1,this,e];rfl
theorem q4y{K:zC}:WS K rAll zAy:=by
 intro G H ds vs d Q s e hv k
 match ds,e with
 | [.lst ds],e=>
  obtain⟨b,q,e⟩:=mpd e;subst e;obtain⟨bs,rfl,rfl⟩:=qbJ q;obtain⟨v,rfl,h⟩:=hv.one;obtain⟨p,us,rfl,h1,h2⟩:=h.lst s;exact⟨p,bs,rfl,by rw[h1,qbo h2],kq⟩
theorem q7k:∀(ns:aa)(k:Nat),k<=ns.length->preSum i9 k=(ns.take k).sum
 | _,0,_=>rfl
 | ns,k+1,h=>by
  have e:ns.take (k+1)=ns.take k++[ns.getD k 0]:=by
   rw[YF,zD ∅,zV,zD ∅];rfl
  show preSum i9 k+ns.getD k 0=_;rw[q7k ns k ∅,e,yR];simp
theorem q3P(hc:cI):X2 X aaH rSum:=by
 intro pins s σ H xs us Q I r h;obtain⟨p,ns,rfl,hp,q⟩:=h;obtain⟨u,rfl,rx⟩:=vals1 r;cases rx;obtain⟨its,n,rv,e,hz⟩:=I.lst hp;have ia:=q1W rv;have hlen:its.length=ns.length:=by rw[<- rv.length,zB]
 have hlt:p<s.heap.objs.size:=zU e;refine call_sum_walkAnyS JA;refine⟨s.heap.objs.size,_,_,_,its.toArray.size,_,_,i9,rfl,(Walks.list (by first|exact I.ok.hd hc|(show X.A.handled=none;exact I.ok.hd hc)) _ p Ma its.toArray).toS,LF,lR,λi v hv=>PyProof.Rows.IntsAre.int_at ia i v ⇑hv,λs' t' hm=>?_⟩
 ·show b<(s.heap.push _).objs.size
  rw[ye];rcases zK.mp hb with rfl|hb
  ·exact ya _
  ·rw[zR.mp hb];exact yW hlt
 ·rw[Lu]
  have es:preSum i9 its.toArray.size=ns.sum:=by
   rw[zP,hlen,q7k ns _ cL,wO]
  rw[es];exact⟨.int _,H,I.kept (λb o z=>hm.heap b o (λhmm=>by
   have:b=s.heap.objs.size:=by simpa using hmm
   subst this;exact vM (zU z) Kv) (zJ _ z)),cf,q⟩
theorem q78{K:zC}:WS K rSum zCI:=by
 intro G H ds vs d Q s e hv k
 match ds,e with
 | [.lst ds],e=>
  obtain⟨b,q,e⟩:=mpd e;subst e;obtain⟨bs,rfl,rfl⟩:=qbu q;obtain⟨v,rfl,h⟩:=hv.one;obtain⟨p,us,rfl,h1,h2⟩:=h.lst s;exact⟨p,bs,rfl,by rw[h1,h2.of_ints],kq⟩
end
inductive Ty where
 | non|bl|int|str|lst|tup|dic
noncomputable def Ty.n:Ty->String
 | .non => "NoneType"
 | .bl => "bool"
 | .int => "int"
 | .str => "str"
 | .lst => "list"
 | .tup => "tuple"
 | .dic => "dict"
noncomputable def tyD:D->Ty
 | .non=>.non
 | .bl _=>.bl
 | .int _=>.int
 | .str _=>.str
 | .lst _=>.lst
 | .tup _=>.tup
 | .scr _=>.lst
 | .exc _=>.non
 | .dic _ _=>.non
noncomputable def zAc:Ty->Ty->Bool
 | .non,.non=>true
 | .bl,.bl=>true
 | .bl,.int=>true
 | .int,.int=>true
 | .str,.str=>true
 | .lst,.lst=>true
 | .tup,.tup=>true
 | _,_=>false
noncomputable def zAM(c:Ty)(f:FD):FE:=λω=>(f ω).bind λd=>match d with
 | .scr _=>none
 | .exc _=>none
 | .dic _ _=>none
 | d=>↥EG
def IsT(K:zC)(c:Ty):Prop:=∀t:Ty,t≠.dic->Zg K (.type t.n) (.type c.n)=some (zAc t c)
def rIsi(K:zC):List V->Hp->VK->Prop:=λxs H Q=>∃x c T b,xs=[x,.ty c]/\TyOf K H x Bo/\Zg K Bo (.type c)=some b/\Q FU H
section
variable{X:Cx}{a:vP}{f:FD}
theorem qgc:X2 X O7 (rIsi X.K):=by
 intro pins s σ H xs us Q I r h;obtain⟨x,c,T,b,rfl,ty,e,q⟩:=h;obtain⟨u1,u2,rfl,r2,r3⟩:=vals2 r;cases (show u2=Value.type c from r3);exact qf0 I r2 ty e λtk=>⟨FU,H,I.tok tk,rfl,q⟩
theorem qjp{K:zC}{G H:Hp}{d:D}{v:V}(h:Ki)(s:As)(n:∀ns,d≠.scr ns)(n':∀c,d≠.exc c)(n'':∀ks ds,d≠.dic ks ds):TyOf K H v (.type (tyD d).n):=by
 cases d with
 | non=>cases h.non;exact .non
 | bl b=>cases h.bl;exact .bl b
 | int i=>cases h.int;exact .int i
 | str x=>cases h.str;exact .str x
 | lst ds=>obtain⟨p,us,rfl,h1,_⟩:=h.lst s;exact .lst h1
 | tup ds=>obtain⟨p,us,rfl,h1,_⟩:=h.tup;exact .tup iW
 | scr ns=>exact vM rfl (n ns)
 | exc c=>exact vM rfl (n' c)
 | dic ks ds=>exact vM rfl (n'' ks ds)
theorem qkn(d:D):tyD d≠.dic:=by cases d <;> exact λz=>nomatch z
theorem q0H{c:Ty}{x:Str}{p q pos:Pos}(ha:eX)(hk:IsT X.K c)(hg:Gl X "isinstance")(hm:X.mg "isinstance" = none)(hgc:pj)(hmc:AG)(hvc:vg x=some (.type c.n))(hnx:kO:= by decide)(hdx:aC:=by decide)(he:vK [a,Hg] X.env=bW::vK [Hg] X.env:=by rfl)(he2:vK [Hg] X.env=(false,eval Hg X.env)::vK [] X.env:=by rfl)(hpl:(vU pos (vK [Hg] X.env)).any (·.1)=false:=by rfl):
  XE X (.Call (.Name "isinstance" p) [a,Hg] [] pos) (zAM c f):=by
 obtain⟨t,h1,h2⟩:=ha;refine⟨_,q3b qgc hg hm PyProof.Rows.boot_isinstance (qy h1 (qy (qiE hgc hmc hvc (v:=.ty c.n) rfl hnx hdx) qA he2) he) (by decide) (by decide) he hpl,dq⟩;obtain⟨d,q,e⟩:=bnd e;refine h2 G0 H0 G ω σ H d _ o q λv G1 H1 x1 y1=>?_;have n:∀ns,d≠.scr ns:=λns z=>by subst z;cases e
 have n':∀c,d≠.exc c:=λns z=>by subst z;cases e
 have n'':∀ks ds,d≠.dic ks ds:=λks ds z=>by subst z;cases e
 have e':r=.sh EG:=by
  cases d <;> first|(cases e;rfl)|cases e
 subst e';exact⟨v,c.n,(tyD d).n,EM,rfl,qjp y1 x1.gh n n' n'',hk _ (qkn d),Ld⟩
end
inductive Out where
 | nx|bk|ct|rt (r:O)
noncomputable abbrev FS:=WSt->Option dD
def Post(K:zC)(H0 G':Hp)(E:Ends):Out->St->Hp->Prop
 | .nx,σ,H=>E.nx σ H
 | .bk,σ,H=>E.bk σ H
 | .ct,σ,H=>E.ct σ H
 | .rt r,_,H=>∀v,zBY K H0 G' H r.r v->E.rt v H
def SimS(K:zC)(t:TS)(f:FS):Prop:=∀G0 H0 G ω σ H out ω'(E:Ends),Own K G0 H0 G ω σ H->f ω=some J8 ->
 (∀G' σ' H',Own K G0 H0 G' ω' σ' H'->Y8 G G'->Post K H0.hp G' E out σ' H')->t E σ H
def XS(X:Cx)(st:vn)(f:FS):Prop:=∃t,PS X st t/\SimS X.K t f
def XSs(X:Cx)(st:Dg)(f:FS):Prop:=∃t,PSs X st t/\SimS X.K t f
noncomputable def WO:FS:=λω=>some Dp
noncomputable def Y5(f g:FS):FS:=λω=>(f ω).bind λp=>match p.1 with
 | .nx=>g p.2
 | o=>some (o,p.2)
section
variable{X:Cx}{st:vn}{rest:List vn}{f g:FS}
theorem qz:XSs X [] WO:=⟨_,qih,λG0 H0 G ω σ H out ω' E o e k=>by cases e;exact k G σ H o ig⟩
theorem qc(h:XS X st f):XSs X [st] f:=let ⟨t,h1,h2⟩:=h;⟨t,q0W h1,h2⟩
theorem qb(h:XS X st f)(h':XSs X rest g):XSs X (st::rest) (Y5 f g):=by
 obtain⟨t,h1,h2⟩:=h;obtain⟨u,h3,h4⟩:=h';refine⟨_,qO h1 h3,cz⟩;obtain⟨⟨o1,ω1⟩,q,e⟩:=bnd e;refine h2 G0 H0 G ω σ H o1 ω1 _ o q λG1 σ1 H1 w1 g1=>?_;cases o1 with
 | nx=>exact h4 G0 H0 G1 ω1 σ1 H1 out ω' E w1 e λG2 σ2 H2 w2 g2=>k G2 σ2 H2 w2 NZ
 | bk=>cases e;exact k G1 σ1 H1 w1 g1
 | ct=>cases e;exact k G1 σ1 H1 w1 g1
 | rt r=>cases e;exact k G1 σ1 H1 w1 g1
end
section
variable{K:zC}{G0:Hp}{H0:Fr}{G:Hp}{ω:WSt}{σ:St}{H:Hp}
theorem qe{α:Type}{l:bN}{i j:Nat}{x y:α}(h:(l.set i x)[j]?=some y):(i=j/\i<l.length/\y=x)\/(i≠j/\l[j]?=some y):=by
 rw[List.getElem?_set]at h
 by_cases e:i=j
 ·rw[vC e]at h
  by_cases z:i<l.length
  ·rw[fG]at h;exact .inl ⟨e,z,(zy h).symm⟩
  ·rw[fm]at h;cases h
 ·rw[vG e]at h;exact .inr ⟨e,h⟩
theorem q25{α:Type}{l:bN}{i:Nat}{x:α}(h:i<l.length):(l.set i x)[i]?=some x:=yi h
theorem Xy.set{i:Nat}{w:cc}{v:ss}(o:kT)(hw:∀ds,w≠some jB)(hv:∀ds,w=some FP->∀(j:Nat)es,ω[j]?=some fz->v≠some (.ref (H0.pin j))):Xy K H0 G (ω.set i w) (σ.set i v) H:=by
 intro j ds hj;rcases qe hj with⟨rfl,hl,z⟩|⟨ne,z⟩
 ·exact vM z.symm (hw ds)
 ·obtain⟨vs,h1,h2,h3,h4,h5,h6,h7⟩:=o j ds z
  refine⟨vs,by rw[HE];exact h1,h2,h3,h4,h5,λk es hk=>?_,λk es hk sk=>?_⟩
  ·rcases qe hk with⟨rfl,hl',z'⟩|⟨ne',z'⟩
   ·exact vM z'.symm (hw es)
   ·exact h6 k es z'
  ·rcases qe hk with⟨rfl,hl',z'⟩|⟨ne',z'⟩
   ·rcases qe sk with⟨_,_,e⟩|⟨ne2,_⟩
    ·exact hv es z'.symm j ds z e.symm
    ·exact ne2 rfl
   ·rw[LJ]at sk;exact h7 k es z' sk
theorem Xy.setW{i:Nat}{w:cc}(o:kT)(hw:∀ds,w≠some jB)(ho:∀ds,w≠some FP):Xy K H0 G (ω.set i w) σ H:=by
 intro j ds hj;rcases qe hj with⟨rfl,hl,z⟩|⟨ne,z⟩
 ·exact vM z.symm (hw ds)
 ·obtain⟨vs,h1,h2,h3,h4,h5,h6,h7⟩:=o j ds z
  refine Bt
  ·rcases qe hk with⟨rfl,hl',z'⟩|⟨ne',z'⟩
   ·exact vM z'.symm (hw es)
   ·exact h6 k es z'
  ·rcases qe hk with⟨rfl,hl',z'⟩|⟨ne',z'⟩
   ·exact vM z'.symm (ho es)
   ·exact h7 k es z'
theorem Xy.upd{p:vF}{ob:HO}(o:kT)(hp:∀(j:Nat)es,ω[j]?=some fz->H0.pin j≠p):Xy K H0 G ω σ (upd H p ob):=by
 intro j ds hj;obtain⟨vs,h1,h2,h3⟩:=o j ds hj;exact⟨vs,h1,by rw[qd (hp j ds hj)];exact h2,h3⟩
theorem Xy.grow{p:vF}{ob:HO}(o:kT)(g:UG)(hp:∀(j:Nat)es,ω[j]?=some fz->H0.pin j≠p):Xy K H0 (L2.upd G p ob) ω σ H:=by
 intro j ds hj;obtain⟨vs,h1,h2,h3,h4,h5,h6⟩:=o j ds hj;exact⟨vs,h1,h2,by rw[qd (hp j ds hj)];exact h3,h4,h5.mono (Xq g _),h6⟩
theorem Xy.ne_ow{i:Nat}{ds:aO}{l:vF}(o:kT)(hi:ω[i]?=some cW)(hσ:σ[i]?=some lA):∀(j:Nat)es,ω[j]?=some fz->H0.pin j≠l:=λj es hj y=>by
 obtain⟨_,_,_,_,_,_,_,h7⟩:=o j es hj;exact h7 i ds hi (by rw[y];exact hσ)
theorem Xy.ne_ob{l:vF}(o:kT)(h:∀vs,H l≠some fO):∀(j:Nat)es,ω[j]?=some fz->H0.pin j≠l:=λj es hj y=>by
 obtain⟨vs,_,h2,_⟩:=o j es hj;exact h vs (by rw[<- y];exact h2)
theorem Xy.setL{i:Nat}{ds es:aO}(o:kT)(hi:ω[i]?=some cW):Xy K H0 G (ω.set i g9) σ H:=by
 intro j ds' hj;rcases qe hj with⟨rfl,hl,z⟩|⟨ne,z⟩
 ·cases z
 ·obtain⟨vs,h1,h2,h3,h4,h5,h6,h7⟩:=o j ds' z
  refine Bt
  ·rcases qe hk with⟨rfl,hl',z'⟩|⟨ne',z'⟩
   ·cases z'
   ·exact h6 k es z'
  ·rcases qe hk with⟨rfl,hl',z'⟩|⟨ne',z'⟩
   ·exact h7 i ds hi
   ·exact h7 k es z'
theorem Own.od_set{i:Nat}{w:cc}{v:ss}(o:bZ)(h:∀ks ds,w≠some KQ):∀(j:Nat)ks ds,(ω.set i w)[j]?=some j9->∃p vs,(σ.set i v)[j]?=some fM/\H p=some jK/\G p=none/\H0 p=none/\ks.length=ds.length/\Y2 K G ds vs /\
  ∀(k:Nat)ks' es,(ω.set i w)[k]?=some Gk->(σ.set i v)[k]?=some fM->j=k:=by
 intro j ks ds hj;rcases qe hj with⟨rfl,hl,z⟩|⟨ne,z⟩
 ·exact vM z.symm (h ks ds)
 ·obtain⟨p,vs,h1,h2,h3,h4,h5,h6,h7⟩:=o.od j ks ds z
  refine⟨p,vs,by rw[HE];exact h1,h2,h3,h4,h5,h6,λk ks' es hk sk=>?_⟩;rcases qe hk with⟨rfl,hl',z'⟩|⟨ne',z'⟩
  ·exact vM z'.symm (h ks' es)
  ·rw[LJ]at sk
   exact h7 k ks' es z' sk
theorem Own.setSh{i:Nat}{d:D}{v:V}(o:bZ)(h:Rep K G d v):Own K G0 H0 G mI B3 H:=by
 refine⟨o.ext,by rw[yV,yV,o.len],oe,CN,λj k ds es l hj hk sj sk=>?_,o.od_set (λ_ _ z=>by cases z),o.pw.set (λ_ z=>by cases z) (λ_ z=>by cases z)⟩
 ·rcases qe hj with⟨rfl,hl,z⟩|⟨ne,z⟩
  ·cases z;exact⟨v,q25 (by rw[<- o.len];exact hl),h⟩
  ·obtain⟨u,h1,h2⟩:=o.sh j e z
   exact⟨u,by rw[HE];exact h1,h2⟩
 ·rcases qe hj with⟨rfl,hl,z⟩|⟨ne,z⟩
  ·cases z
  ·obtain⟨l,vs,h1,h2⟩:=o.ow j ds z
   exact⟨l,vs,by rw[HE];exact h1,h2⟩
 ·rcases qe hj with⟨rfl,hl,z⟩|⟨ne,z⟩
  ·cases z
  ·rcases qe hk with⟨rfl,hl',z'⟩|⟨ne',z'⟩
   ·cases z'
   ·rw[HE]at sj
    rw[LJ]at sk;exact o.nd j k ds es l z z' sj sk
theorem Own.setOw{i:Nat}{ds:aO}{l:vF}{vs:bu}(o:bZ)(h1:H l=some fO)(h2:G l=none)(h3:H0 l=none)(h4:rK)(h5:∀(j:Nat)es,ω[j]?=some g9->σ[j]?≠some lA)(h6:∀(j:Nat)es,ω[j]?=some fz->H0.pin j≠l):Own K G0 H0 G Pe (σ.set i lA) H:=by
 refine⟨o.ext,by rw[yV,yV,o.len],oe,Pi,LI,o.od_set (λ_ _ z=>by cases z),o.pw.set (λ_ z=>by cases z) (λ_ _ j es hj y=>h6 j es hj (by cases y;rfl))⟩
 ·rcases qe hj with⟨rfl,hl,z⟩|⟨ne,z⟩
  ·cases z
  ·obtain⟨u,q1,q2⟩:=o.sh j e z
   exact⟨u,by rw[HE];exact q1,q2⟩
 ·rcases qe hj with⟨rfl,hl,z⟩|⟨ne,z⟩
  ·cases z;exact⟨l,vs,q25 (by rw[<- o.len];exact hl),h1,h2,h3,h4⟩
  ·obtain⟨m,us,q1,q2⟩:=o.ow j es z
   exact⟨m,us,by rw[HE];exact q1,q2⟩
 ·rcases qe hj with⟨e1,hl,z⟩|⟨ne,z⟩
  ·rcases qe hk with⟨e2,hl',z'⟩|⟨ne',z'⟩
   ·exact e1.symm.trans e2
   ·rw[LJ]at sk
    subst e1;rw[q25 (by rw[<- o.len];exact hl)]at sj;cases sj;exact vM sk (h5 k fs z')
  ·rcases qe hk with⟨e2,hl',z'⟩|⟨ne',z'⟩
   ·rw[HE]at sj
    subst e2;rw[q25 (by rw[<- o.len];exact hl')]at sk;cases sk;exact vM sj (h5 j es z)
   ·rw[HE]at sj
    rw[LJ]at sk;exact o.nd j k es fs m z z' sj sk
theorem Own.mut{i:Nat}{ds es:aO}{l:vF}{vs us:bu}(o:bZ)(hi:ω[i]?=some cW)(hσ:σ[i]?=some lA)(h1:H l=some fO)(h2:G l=none)(h3:H0 l=none)(h4:Kg):
  Own K G0 H0 G (ω.set i g9) σ (upd H l Hd):=by
 have ho:i<ω.length:=(ze.mp hi).1;refine⟨sY,by rw[yV,o.len],oe,Ap,jq,Du,(o.pw.upd (o.pw.ne_ow hi hσ)).setL hi⟩
 ·rcases qe hj with⟨rfl,hl,z⟩|⟨ne,z⟩
  ·cases z
  ·exact o.sh j e z
 ·rcases qe hj with⟨rfl,hl,z⟩|⟨ne,z⟩
  ·cases z;exact⟨l,us,hσ,qg,h2,h3,h4⟩
  ·obtain⟨m,ws,q1,q2,q3,q4,q5⟩:=o.ow j fs z
   have hm:m≠l:=λy=>ne (o.nd i j ds fs l hi z hσ (by rw[<- y];exact q1));exact⟨m,ws,q1,by rw[KA];exact q2,q3,q4,q5⟩
 ·rcases qe hj with⟨e1,hl,z⟩|⟨ne,z⟩
  ·rcases qe hk with⟨e2,hl',z'⟩|⟨ne',z'⟩
   ·exact e1.symm.trans e2
   ·subst e1;exact o.nd i k ds gs m hi z' sj sk
  ·rcases qe hk with⟨e2,hl',z'⟩|⟨ne',z'⟩
   ·subst e2;exact o.nd j i fs ds m z hi sj sk
   ·exact o.nd j k fs gs m z z' sj sk
 ·rcases qe hj with⟨e1,hl,z⟩|⟨ne,z⟩
  ·cases z
  ·obtain⟨p,ws,q1,q2,q3,q4,q5,q6,q7⟩:=o.od j ks fs z
   have hp:p≠l:=λy=>by rw[y,h1]at q2;cases q2
   refine⟨p,ws,q1,by rw[qd hp];exact q2,q3,q4,q5,q6,λk ks' es hk sk=>?_⟩;rcases qe hk with⟨e2,hl',z'⟩|⟨ne',z'⟩
   ·cases z'
   ·exact q7 k ks' es z' sk
theorem Own.mutP{i:Nat}{ds es:aO}{us:bu}(o:bZ)(hi:ω[i]?=some Bg)(h4:Kg):
  Own K G0 H0 G (ω.set i fz) σ (L2.upd H (H0.pin i) Hd):=by
 obtain⟨vs,p1,p2,p3,p4,p5,p6,p7⟩:=o.pw i ds hi;refine⟨⟨o.ext.gg,Y6 o.ext.gh p3 _,Y6 o.ext.hh p4 _,o.ext.new⟩,by rw[yV,o.len],oe,Ap,jq,Du,Ap⟩
 ·rcases qe hj with⟨rfl,hl,z⟩|⟨ne,z⟩
  ·cases z
  ·exact o.sh j e z
 ·rcases qe hj with⟨rfl,hl,z⟩|⟨ne,z⟩
  ·cases z
  ·obtain⟨m,ws,q1,q2,q3,q4,q5⟩:=o.ow j fs z
   have hm:m≠H0.pin i:=λy=>p7 j fs z (by rw[<- y];exact q1);exact⟨m,ws,q1,by rw[KA];exact q2,q3,q4,q5⟩
 ·rcases qe hj with⟨e1,hl,z⟩|⟨ne,z⟩
  ·cases z
  ·rcases qe hk with⟨e2,hl',z'⟩|⟨ne',z'⟩
   ·cases z'
   ·exact o.nd j k fs gs m z z' sj sk
 ·rcases qe hj with⟨e1,hl,z⟩|⟨ne,z⟩
  ·cases z
  ·obtain⟨p,ws,q1,q2,q3,q4,q5,q6,q7⟩:=o.od j ks fs z
   have hp:p≠H0.pin i:=λy=>by rw[y,p2]at q2;cases q2
   refine⟨p,ws,q1,by rw[qd hp];exact q2,q3,q4,q5,q6,λk ks' es hk sk=>?_⟩;rcases qe hk with⟨e2,hl',z'⟩|⟨ne',z'⟩
   ·cases z'
   ·exact q7 k ks' es z' sk
 ·rcases qe hj with⟨rfl,hl,z⟩|⟨ne,z⟩
  ·cases z
   refine⟨us,p1,qg,p3,p4,h4,λk es hk y=>?_,Ph⟩
   ·rcases qe hk with⟨e2,hl',z'⟩|⟨ne',z'⟩
    ·exact e2.symm
    ·exact p6 k es z' y
   ·rcases qe hk with⟨e2,hl',z'⟩|⟨ne',z'⟩
    ·cases z'
    ·exact p7 k es z'
  ·obtain⟨ws,q1,q2,q3,q4,q5,q6,q7⟩:=o.pw j fs z
   have hp:H0.pin j≠H0.pin i:=λy=>ne (p6 j fs z y).symm;refine⟨ws,q1,by rw[qd hp];exact q2,q3,q4,q5,λk es hk y=>?_,λk es hk=>?_⟩
   ·rcases qe hk with⟨e2,hl',z'⟩|⟨ne',z'⟩
    ·subst e2;exact vM y (Ne.symm hp)
    ·exact q6 k es z' y
   ·rcases qe hk with⟨e2,hl',z'⟩|⟨ne',z'⟩
    ·cases z'
    ·exact q7 k es z'
theorem Own.setOd{i:Nat}{ks:aa}{ds:aO}{p:vF}{vs:bu}(o:bZ)(h1:H p=some jK)(h2:UG)(h3:H0 p=none)(h4:ks.length=ds.length)(h5:rK)(h6:∀(j:Nat)ks' es,ω[j]?=some Gk->σ[j]?≠some fM):Own K G0 H0 G (ω.set i j9) (σ.set i fM) H:=by
 refine⟨o.ext,by rw[yV,yV,o.len],oe,Pi,LI,aaR,o.pw.set (λ_ z=>by cases z) (λ_ z=>by cases z)⟩
 ·rcases qe hj with⟨rfl,hl,z⟩|⟨ne,z⟩
  ·cases z
  ·obtain⟨u,q1,q2⟩:=o.sh j e z
   exact⟨u,by rw[HE];exact q1,q2⟩
 ·rcases qe hj with⟨rfl,hl,z⟩|⟨ne,z⟩
  ·cases z
  ·obtain⟨m,us,q1,q2⟩:=o.ow j es z
   exact⟨m,us,by rw[HE];exact q1,q2⟩
 ·rcases qe hj with⟨e1,hl,z⟩|⟨ne,z⟩
  ·cases z
  ·rcases qe hk with⟨e2,hl',z'⟩|⟨ne',z'⟩
   ·cases z'
   ·rw[HE]at sj
    rw[LJ]at sk;exact o.nd j k es fs m z z' sj sk
 ·rcases qe hj with⟨rfl,hl,z⟩|⟨ne,z⟩
  ·cases z
   refine⟨p,vs,q25 (by rw[<- o.len];exact hl),h1,h2,h3,h4,h5,λk ks'' fs hk sk=>?_⟩;rcases qe hk with⟨e2,hl',z'⟩|⟨ne',z'⟩
   ·exact e2
   ·rw[LJ]at sk
    exact vM sk (h6 k ks'' fs z')
  ·obtain⟨p',vs',q1,q2,q3,q4,q5,q6,q7⟩:=o.od j ks' es z
   refine⟨p',vs',by rw[HE];exact q1,q2,q3,q4,q5,q6,λk ks'' fs hk sk=>?_⟩;rcases qe hk with⟨e2,hl',z'⟩|⟨ne',z'⟩
   ·subst e2
    rw[q25 (by rw[<- o.len];exact hl')]at sk;cases sk;exact vM q1 (h6 j ks' es z)
   ·rw[LJ]at sk
    exact q7 k ks'' fs z' sk
theorem Own.mutD{i:Nat}{ks ks2:aa}{ds es:aO}{p:vF}{vs us:bu}(o:bZ)(hi:ω[i]?=some j9)(hσ:σ[i]?=some fM)(h1:H p=some jK)(h2:UG)(h3:H0 p=none)(h4:ks2.length=es.length)(h5:Kg):
  Own K G0 H0 G (ω.set i (some (.od ks2 es))) σ (upd H p (.dK (kvsOf ks2 us))):=by
 have ho:i<ω.length:=(ze.mp hi).1;refine⟨sY,by rw[yV,o.len],oe,Ap,jq,λj ks' fs hj=>?_,(o.pw.upd (o.pw.ne_ob λvs z=>by rw[h1]at z;cases z)).setW (λ_ z=>by cases z) (λ_ z=>by cases z)⟩
 ·rcases qe hj with⟨rfl,hl,z⟩|⟨ne,z⟩
  ·cases z
  ·exact o.sh j e z
 ·rcases qe hj with⟨rfl,hl,z⟩|⟨ne,z⟩
  ·cases z
  ·obtain⟨m,ws,q1,q2,q3,q4,q5⟩:=o.ow j fs z
   have hm:m≠p:=λy=>by rw[y,h1]at q2;cases q2
   exact⟨m,ws,q1,by rw[KA];exact q2,q3,q4,q5⟩
 ·rcases qe hj with⟨e1,hl,z⟩|⟨ne,z⟩
  ·cases z
  ·rcases qe hk with⟨e2,hl',z'⟩|⟨ne',z'⟩
   ·cases z'
   ·exact o.nd j k fs gs m z z' sj sk
 ·obtain⟨p0,vs0,r1,r2,r3,r4,r5,r6,r7⟩:=o.od i ks ds hi
  rw[hσ]at r1;cases r1;rcases qe hj with⟨rfl,hl,z⟩|⟨ne,z⟩
  ·cases z
   refine⟨p,us,hσ,qg,h2,h3,h4,h5,λk ks'' gs hk sk=>?_⟩;rcases qe hk with⟨e2,hl',z'⟩|⟨ne',z'⟩
   ·exact e2
   ·exact r7 k ks'' gs z' sk
  ·obtain⟨q,ws,q1,q2,q3,q4,q5,q6,q7⟩:=o.od j ks' fs z
   have hp:q≠p:=λy=>ne (r7 j ks' fs z (by rw[<- y];exact q1));refine⟨q,ws,q1,by rw[qd hp];exact q2,q3,q4,q5,q6,λk ks'' gs hk sk=>?_⟩;rcases qe hk with⟨e2,hl',z'⟩|⟨ne',z'⟩
   ·subst e2
    rw[hσ]at sk;cases sk;exact vM rfl hp
   ·exact q7 k ks'' gs z' sk
noncomputable def share(i:Nat)(ω:WSt):WSt:=match ω[i]? with
 | some (some (.ow ds))=>ω.set i ↥fK
 | some (some (.od ks ds))=>ω.set i ↥DK
 | _=>ω
theorem Own.share(i:Nat)(o:bZ):(∃G',Y8 G G'/\Own K G0 H0 G' Pr σ H)\/∃p kvs,σ[i]?=some fM/\H p=some cV/\∀ob,∃G',Y8 G G'/\Own K G0 H0 G' Pr σ Dw:=by
 unfold Hk.share;cases q:ω[i]? with
 | none=>exact .inl JQ
 | some w=>
  cases w with
  | none=>exact .inl JQ
  | some w=>
   cases w with
   | sh d=>exact .inl JQ
   | pw ds=>exact .inl JQ
   | ow ds=>
    obtain⟨l,vs,q1,q2,q3,q4,q5⟩:=o.ow i ds q;have s1:Y8 G (upd G l fO):=Xq q3 _;have ho:i<ω.length:=(ze.mp q).1;refine .inl ⟨upd G l fO,s1,⟨aaW,Ks,o.ext.hh,CP⟩,by rw[yV,o.len],oe,Ap,jq,Du,(o.pw.grow q3 (o.pw.ne_ow q q1)).setW (λ_ z=>by cases z) (λ_ z=>by cases z)⟩
    ·by_cases hb:b=l
     ·subst hb;rw[qg]at z;rw[q2];exact z
     ·rw[qd hb]at z;exact o.ext.gh b u z
    ·rw[qd (λhb=>z2 (by rw[hb];exact q4))];exact o.ext.new b z1 z2
    ·rcases qe hj with⟨rfl,hl,z⟩|⟨ne,z⟩
     ·cases z;exact⟨_,q1,l,vs,rfl,qg,q5.mono s1⟩
     ·obtain⟨u,r1,r2⟩:=o.sh j e z
      exact Sr
    ·rcases qe hj with⟨rfl,hl,z⟩|⟨ne,z⟩
     ·cases z
     ·obtain⟨m,ws,r1,r2,r3,r4,r5⟩:=o.ow j fs z
      have hm:m≠l:=λy=>ne (o.nd i j ds fs l q z q1 (by rw[<- y];exact r1));exact⟨m,ws,r1,r2,by rw[KA];exact r3,r4,r5.mono s1⟩
    ·rcases qe hj with⟨e1,hl,z⟩|⟨ne,z⟩
     ·cases z
     ·rcases qe hk with⟨e2,hl',z'⟩|⟨ne',z'⟩
      ·cases z'
      ·exact o.nd j k fs gs m z z' sj sk
    ·rcases qe hj with⟨e1,hl,z⟩|⟨ne,z⟩
     ·cases z
     ·obtain⟨m,ws,r1,r2,r3,r4,r5,r6,r7⟩:=o.od j ks fs z
      have hm:m≠l:=λy=>by rw[y,q2]at r2;cases r2
      refine⟨m,ws,r1,r2,by rw[KA];exact r3,r4,r5,r6.mono s1,λk ks' es hk sk=>?_⟩;rcases qe hk with⟨e2,hl',z'⟩|⟨ne',z'⟩
      ·cases z'
      ·exact r7 k ks' es z' sk
   | od ks0 ds=>
    obtain⟨l,vs,q1,q2,q3,q4,q6,q5,q7⟩:=o.od i ks0 ds q;refine .inr ⟨l,_,q1,q2,λob=>?_⟩;have s1:Y8 G E8:=Xq q3 _;have ho:i<ω.length:=(ze.mp q).1;refine⟨E8,s1,⟨aaW,zAB o.ext.gh _,Y6 o.ext.hh q4 _,CP⟩,by rw[yV,o.len],oe,Ap,jq,Du,((o.pw.upd (o.pw.ne_ob λvs z=>by rw[q2]at z;cases z)).grow q3 (o.pw.ne_ob λvs z=>by rw[q2]at z;cases z)).setW (λ_ z=>by cases z) (λ_ z=>by cases z)⟩
    ·rw[qd (λhb=>z2 (by rw[hb];exact q4))];exact o.ext.new b z1 z2
    ·rcases qe hj with⟨rfl,hl,z⟩|⟨ne,z⟩
     ·cases z;exact⟨_,q1,l,vs,rfl,⟨ob,qg⟩,q6,q5.mono s1⟩
     ·obtain⟨u,r1,r2⟩:=o.sh j e z
      exact Sr
    ·rcases qe hj with⟨rfl,hl,z⟩|⟨ne,z⟩
     ·cases z
     ·obtain⟨m,ws,r1,r2,r3,r4,r5⟩:=o.ow j fs z
      have hm:m≠l:=λy=>by rw[y,q2]at r2;cases r2
      exact⟨m,ws,r1,by rw[KA];exact r2,by rw[KA];exact r3,r4,r5.mono s1⟩
    ·rcases qe hj with⟨e1,hl,z⟩|⟨ne,z⟩
     ·cases z
     ·rcases qe hk with⟨e2,hl',z'⟩|⟨ne',z'⟩
      ·cases z'
      ·exact o.nd j k fs gs m z z' sj sk
    ·rcases qe hj with⟨e1,hl,z⟩|⟨ne,z⟩
     ·cases z
     ·obtain⟨m,ws,r1,r2,r3,r4,r5,r6,r7⟩:=o.od j ks fs z
      have hm:m≠l:=λy=>ne (q7 j ks fs z (by rw[<- y];exact r1));refine⟨m,ws,r1,by rw[KA];exact r2,by rw[KA];exact r3,r4,r5,r6.mono s1,λk ks' es hk sk=>?_⟩;rcases qe hk with⟨e2,hl',z'⟩|⟨ne',z'⟩
      ·cases z'
      ·exact r7 k ks' es z' sk
end
theorem Inv.freeze{X:Cx}{pins:ay}{σ:St}{H:Hp}{s:vH}{p:vF}{kvs:fJ}(I:aj)(hp:H p=some cV):∃ob,Inv X pins σ Dw s:=by
 have ok:=I.hok p _ hp;obtain⟨_,_,_,_,ob,_,_,e,_⟩:=id ok;have stay:∀b u,XH X.prog X.w H s.heap b u->XH X.prog X.w Dw s.heap b u:=λb u x=>
  x.stay NH (λc q=>by rw[qd (λz=>by rw[z,hp]at q;cases q)];exact q) λc xs q=>by rw[qd (λz=>by rw[z,hp]at q;cases q)];exact q
 refine⟨ob,I.step (H':=upd H p jj) (h':=s.heap) (g':=s.gens) (d':=s.drawn) (t':=s.toks) (ch:=[]) (λ_ z=>nomatch z) (λ_ _ _ _ _ e _=>e) (λ_ o _ _ _ e _=>⟨o.slots,e⟩) (λb o _ _ n=>by rw[qd (λz=>by rw[z,hp]at n;cases n)];exact n) (λ_ o _ e=>Hv)
  (λb xs q=>by rw[qd (λz=>by rw[z,hp]at q;cases q)];exact q) (λb o u q=>by rw[qd (λz=>by rw[z,hp]at q;cases q)];exact q) (λb ps q=>⟨#[],by rw[qd (λz=>by rw[z,hp]at q;cases q),q];simp⟩) (λ_ hm=>hm) (λb u q=>?_) I.bare⟩
 by_cases z:b=p
 ·subst z
  rw[qg]at q;cases q;exact⟨e,stay _ _ ok⟩
 ·rw[qd z]at q
  exact stay b u (I.hok b u q)
theorem q6Y{X:Cx}{sts:Dg}{t:TS}(i:Nat)(h:PSs X sts t):PSs X sts (λD σ H=>∃p kvs,σ[i]?=some fM/\H p=some cV/\∀ob,t D σ Dw):=by
 intro pins s σ H D I q;obtain⟨p,kvs,_,hp,q⟩:=q;obtain⟨ob,I'⟩:=Inv.freeze I hp;exact h pins s σ _ D I' (q ob)
noncomputable def Xo(i:Nat)(f:FS):FS:=λω=>f Pr
theorem q09{X:Cx}{sts:Dg}{f:FS}(i:Nat)(h:XSs X sts f):XSs X sts (Xo i f):=by
 obtain⟨t,h1,h2⟩:=h;refine⟨λD σ H=>t D σ H\/∃p kvs,σ[i]?=some fM/\H p=some cV/\∀ob,t D σ Dw,λpins s σ H D I q=>?_,λG0 H0 G ω σ H out ω' E o e k=>?_⟩
 ·rcases q with q|q
  ·exact h1 pins s σ H D I q
  ·exact q6Y i h1 pins s σ H D I q
 ·rcases o.share i with⟨G1,g1,o1⟩|⟨p,kvs,z1,z2,z3⟩
  ·exact .inl (h2 G0 H0 G1 _ σ H out ω' E o1 e λG2 σ2 H2 w2 g2=>k G2 σ2 H2 w2 NZ)
  ·refine .inr ⟨p,kvs,z1,z2,λob=>?_⟩
   obtain⟨G1,g1,o1⟩:=z3 ob;exact h2 G0 H0 G1 _ σ _ out ω' E o1 e λG2 σ2 H2 w2 g2=>k G2 σ2 H2 w2 NZ
noncomputable def setR(i:Nat)(r:R)(ω:WSt):Option WSt:=match r with
 | .sh d=>some mI
 | .fr ds=>some Pe
 | .vw _=>none
noncomputable def XZ(i:Nat)(f:FE):FS:=λω=>(f ω).bind λr=>(setR i r ω).map λw=>JN
section
variable{X:Cx}{e:vP}{f:FE}{pos pos':Pos}
theorem qcu{i:Nat}{t:TE}(h:zCE X.K t f):SimS X.K (zAa t (X9 i)) (XZ i f):=by
 intro G0 H0 G ω σ H out ω' E o e k;obtain⟨r,q,e⟩:=bnd e;obtain⟨w,q2,e⟩:=mpd e;cases e;refine h G0 H0 G ω σ H r _ o q λv G1 H1 x1 y1=>?_;have o1:=o.keep x1;show E.nx B3 H1;cases r with
 | sh d=>cases q2;exact k G1 _ H1 (o1.setSh y1) x1.gg
 | fr ds=>
  cases q2;obtain⟨l,vs,rfl,e2,e3,e4,e5⟩:=y1;refine k G1 _ H1 (o1.setOw e4 e3 aak e5 (λj es hj z=>?_) λj es hj y=>?_) x1.gg
  ·obtain⟨m,us,q1,q2,_⟩:=o.ow j es hj
   rw[q1]at z;cases z;rw[e2]at q2;cases q2
  ·obtain⟨us,_,q2,_⟩:=o.pw j es hj
   rw[y,e2]at q2;cases q2
 | vw ds=>cases q2
theorem qq{i:Nat}{x:Str}(hN:X.N.Nodup)(hi:X.N[i]?=some x)(hx:iI)(he:XE X e f)(hs:mP:=by rfl)(hf:be:=by first|exact .inl rfl|exact .inr rfl|assumption):
  XS X Fz (XZ i f):=let ⟨_,h1,h2⟩:=he;⟨_,SL,qcu h2⟩
noncomputable abbrev FG:=D->WSt->Option WSt
def SimG(K:zC)(g:TG)(fg:FG):Prop:=∀G0 H0 G ω σ H d v ω'(Q:AH),Own K G0 H0 G ω σ H->fg d ω=some ω'->Rep K G d v->(∀σ',Own K G0 H0 G ω' σ' H->Q σ' H)->g v σ H Q
def XG(X:Cx)(tg:vP)(fg:FG):Prop:=∃g,PG X tg g/\SimG X.K g fg
noncomputable def gN(i:Nat):FG:=λd ω=>some mI
theorem qh{i:Nat}{x:Str}(hN:X.N.Nodup)(hi:X.N[i]?=some x)(hx:iI)(hf:be:=by first|exact .inl rfl|exact .inr rfl|assumption):XG X jg Ud :=
 ⟨_,q4o hN hi hx hf,λG0 H0 G ω σ H d v ω' Q o e h k=>by cases e;exact k _ (o.setSh h)⟩
def SimGs(K:zC)(g:TGs)(fg:eU):Prop:=∀G0 H0 G ω σ H ds vs ω'(Q:AH),Own K G0 H0 G ω σ H->fg ds ω=some ω'->Y2 K G ds vs->(∀σ',Own K G0 H0 G ω' σ' H->Q σ' H)->g vs σ H Q
def XGs(X:Cx)(tg:jc)(fg:eU):Prop:=∃g,PGs X tg g/\SimGs X.K g fg
noncomputable def Xv:List D->WSt->Option WSt
 | [],ω=>some ω
 | _,_=>none
noncomputable def Y4(f:FG)(g:eU):List D->WSt->Option WSt
 | d::ds,ω=>(f d ω).bind λw=>g ds w
 | [],_=>none
theorem q1C:XGs X [] Xv:=⟨_,qcF,λG0 H0 G ω σ H ds vs ω' Q o e h k=>by
 cases ds with
 | nil=>cases e;cases (show vs=[]from h);exact⟨rfl,k σ o⟩
 | cons d r=>cases e⟩
theorem qG{es:jc}{fg:FG}{gs:eU}(h:XG X e fg)(h':XGs X es gs)(hs:(uN iV X.env).map (·.2)=assign e X.env::(uN es X.env).map (·.2):=by rfl):XGs X iV (Y4 fg gs):=by
 obtain⟨g,h1,h2⟩:=h;obtain⟨u,h3,h4⟩:=h';refine⟨_,q6U h1 h3 hs,λG0 H0 G ω σ H ds vs ω' Q o e h k=>?_⟩;cases ds with
 | nil=>cases e
 | cons d r=>
  obtain⟨w1,q,e1⟩:=bnd e;obtain⟨v,vr,rfl,r1,r2⟩:=h;exact⟨v,vr,rfl,h2 G0 H0 G ω σ H d v w1 _ o q r1 λσ1 o1=>h4 G0 H0 G w1 σ1 H r vr ω' Q o1 e1 r2 k⟩
noncomputable def gT(n:Nat)(g:eU):FG:=λd ω=>match d with
 | .tup ds=>if ds.length=n then g ds ω else none
 | _=>none
theorem q2C{es:jc}{k n:Nat}{gs:eU}(hc:cI)(h:XGs X es gs)(hn:Sm:=by rfl)(hst:(uN es X.env).findIdx? (·.1)=none:=by rfl):XG X VC (gT n gs):=by
 obtain⟨g,h1,h2⟩:=h;refine⟨_,qfo hc h1 hn hst,λG0 H0 G ω σ H d v ω' Q o e h k=>?_⟩;unfold gT at e;cases d with
 | tup ds=>
  dsimp only at e
  obtain⟨a,vs,rfl,r1,r2⟩:=h
  by_cases z:ds.length=n
  ·rw[fG]at e
   exact⟨a,vs,rfl,SqT.of (o.gh _ _ r1),by rw[<- r2.len];exact z,h2 G0 H0 G ω σ H ds vs ω' Q o e r2 k⟩
  ·rw[fm]at e;cases e
 | _=>cases e
noncomputable def sAsg(f:FD)(g:FG):FS:=λω=>(f ω).bind λd=>(g d ω).map λw=>JN
theorem qjD{tg:vP}{fd:FD}{fg:FG}(he:Lm)(hg:XG X tg fg)(hs:Ip:=by rfl)(hw:OL:=by rfl)(h1:(uN [tg] X.env).map (·.2)=aba:=by rfl):XS X Sk (sAsg fd fg):=by
 obtain⟨t,p1,p2⟩:=he;obtain⟨g,p3,p4⟩:=hg;refine⟨_,qdy p1 p3 hs hw h1,cz⟩;obtain⟨d,q,e⟩:=bnd e;obtain⟨w,q2,e⟩:=mpd e;cases e;refine p2 G0 H0 G ω σ H d _ o q λv G1 H1 x1 y1=>?_;exact p4 G0 H0 G1 ω σ H1 d v _ _ gW q2 y1 λσ1 o1=>k G1 σ1 H1 o1 x1.gg
end
noncomputable def sIf(c:FT)(f g:FS):FS:=λω=>(c ω).bind λb=>if b=true then f ω else g ω
noncomputable def XU(f:FE):FS:=λω=>(f ω).bind λr=>match r with
 | .sh d=>some nU
 | .fr ds=>some mT
 | .vw _=>none
noncomputable def Wk(i:Nat):FS:=λω=>match ω[i]? with
 | some ↥d=>some nU
 | some (some (.ow ds))=>some mT
 | _=>none
noncomputable def sNo:FS:=λ_=>none
noncomputable def zAn(f:FE):FS:=λω=>(f ω).map λ_=>Dp
section
variable{X:Cx}{c e:vP}{a b:List vn}{st:vn}{pos:Pos}{fc:FT}{f g:FS}{fe:FE}
theorem qM(hc:XT X c fc)(ha:XSs X a f)(hb:XSs X b g):XS X abJ (sIf fc f g):=by
 obtain⟨t,h1,h2⟩:=hc;obtain⟨u,h3,h4⟩:=ha;obtain⟨w,h5,h6⟩:=hb;refine⟨_,qhg h1 h3 h5,cz⟩;obtain⟨z,q,e⟩:=bnd e;refine h2 G0 H0 G ω σ H z _ o q λG1 H1 x1=>?_;cases z with
 | true=>rw[jT]at e ⊢;exact h4 G0 H0 G1 ω σ H1 out ω' E gW e λG2 σ2 H2 o2 g2=>k G2 σ2 H2 o2 VU
 | false=>exact h6 G0 H0 G1 ω σ H1 out ω' E gW e λG2 σ2 H2 o2 g2=>k G2 σ2 H2 o2 VU
theorem qj(he:XE X e fe):XS X DM (XU fe):=by
 obtain⟨t,h1,h2⟩:=he;refine⟨_,q5A h1,cz⟩;obtain⟨r,q,e⟩:=bnd e;refine h2 G0 H0 G ω σ H r _ o q λv G1 H1 x1 y1=>?_;cases r with
 | sh d=>cases e;exact k G1 σ H1 gW x1.gg v y1
 | fr ds=>
  cases e;obtain⟨l,vs,e1,e2,e3⟩:=y1;exact k G1 σ H1 gW x1.gg v ⟨l,vs,e1,aak,e3⟩
 | vw ds=>cases e
theorem q2a{i:Nat}(he:PE X e KI):XS X DM (Wk i):=by
 refine⟨_,q5A he,cz⟩;unfold Wk at e;cases q:ω[i]? with
 | none=>rw[q]at e;cases e
 | some w=>
  rw[q]at e;cases w with
  | none=>cases e
  | some w=>
   cases w with
   | sh d=>
    cases e;obtain⟨v,q1,q2⟩:=o.sh i d q;exact⟨v,q1,k G σ H o ig v q2⟩
   | ow ds=>
    cases e;obtain⟨l,vs,q1,q2,q3,q4,q5⟩:=o.ow i ds q;exact⟨_,q1,k G σ H o ig _ ⟨l,vs,rfl,q4,q3,q2,q5⟩⟩
   | od ks ds=>cases e
   | pw ds=>cases e
theorem q95:XS X st sNo:=⟨_,qgF,λG0 H0 G ω σ H out ω' E o e k=>by cases e⟩
theorem q5O(he:XE X e fe)(hs:Im:=by rfl):XS X (.Expr e pos) (zAn fe):=by
 obtain⟨t,h1,h2⟩:=he;refine⟨_,q17 h1 hs,cz⟩;obtain⟨r,q,e⟩:=mpd e;cases e;exact h2 G0 H0 G ω σ H r _ o q λv G1 H1 x1 y1=>k G1 σ H1 gW x1.gg
noncomputable def zBN(i:Nat)(f:FD):FS:=λω=>(f ω).bind λd=>match ω[i]? with
 | some (some (.ow ds))=>if ds.length<1000000 then some nK else none
 | _=>none
theorem q2t{i:Nat}{o e:vP}{fd:FD}{apos cpos:Pos}(ho:jp)(he:Lm)(hbase:Io:=by rfl)(hfew:((vU cpos fY).all (λx=>!x.1)&&(v5 cpos kP).all iC
   && decide (([e]:List vP).length+([]:List uF).length+(if ([]:List uF).isEmpty then 0 else 1)<30))=true:=by rfl)
  (hline:ff=true:=by rfl) (hs:vK [e] X.env=bV::vK [] X.env:=by rfl) (hplain:(vU cpos bQ).any (·.1)=false:=by rfl)
  (hsw:vz gE none pos.line X.env=pure false:=by rfl) :
  XS X acK (zBN i fd):=by
 obtain⟨t,h1,h2⟩:=he;refine dQ;obtain⟨d,q,e⟩:=bnd e;cases q2:ω[i]? with
 | none=>rw[q2]at e;cases e
 | some w=>
  rw[q2]at e;cases w with
  | none=>cases e
  | some w=>
   cases w with
   | sh d=>cases e
   | od ks ds=>cases e
   | pw ds=>cases e
   | ow ds=>
    dsimp only at e
    by_cases z:ds.length<1000000
    ·rw[fG]at e
     cases e;obtain⟨l,vs,r1,r2,r3,r4,r5⟩:=ow.ow i ds q2;refine lh;have o1:=ow.keep x1;have hz:vs.length<sizeLine:=by rw[<- r5.len,vh];omega
     refine⟨l,vs,v,rfl,rfl,oY,hz,?_⟩;exact k G1 σ _ (o1.mut q2 r1 oY (x1.new l r3 (by rw[r2];exact λz=>by cases z)) r4 Eo) x1.gg
    ·rw[fm]at e;cases e
end
end Hk
namespace PySem
open AutoSeq1 MeetsSeq MeetsSeq2 MeetsSeq3
theorem extTup(l b:vF)(xs ys:fw)(n m:Nat)(dd:Ib)(sl:UK)(h1:¬(!xs.isEmpty&&Builtin.List.listTooLong (xs.size+ys.size))=true)(h2:xs.size<=sizeLine)(h3:xs.size+ys.size<=sizeLine+1):
  Meets (Builtin.«list.extend» ⟨[cU,Az],[]⟩) (λ_ R s=>s.heap.get? l=some { cls:=.type "list", data:=.seq xs n }/\s.heap.get? b=some { cls:=.type "tuple", dict:=dd,data:=.seq ys m,slots:=sl } /\
   R (.ok (.ret Value.none)) { s with heap:=s.heap.update l (Obj.mapSeq λz=>z++ys),toks:=s.toks }) :=
 .of_wp λprog w A R s h=>by
  obtain⟨hp,g,d,tk,os⟩:=s;obtain⟨e1,e2,q⟩:=h;have p1:=idx_int;have p2:=sub_tuple_tuple;have p3:=sub_list_list;have p4:=sub_tuple_list;have p5:=sub_list_tuple;have fit:(xs++ys).size<=sizeLine+1:=by rw[Array.size_append];exact h3
  wp_walk using (v9 e1 rfl (hz:=h2) (_hz':=fit)),wpAny_loadPart' e1,wpAny_loadPart' e2
  exact⟨_,rfl,q⟩
end PySem
namespace Hk
open PySem L2
section
variable{X:Cx}{pos:Pos}
def rExtA:V->List V->Hp->VK->Prop:=λx vs H Q=>zA1 x vs H Q\/∃l b xs zs,x=.ref l/\vs=[Az]/\H l=some dJ/\H b=some (.tup zs)/\xs.length+zs.length<=sizeLine/\Q .non (upd H l LC)
theorem qj9:MtR X "list.extend" rExtA:=by
 intro pins s σ H x vs v us Q I rx rv h;rcases h with h|h
 ·exact qdD pins s σ H x vs v us Q I rx rv h
 obtain⟨l,b,xs,zs,rfl,rfl,hH,hB,hz,q⟩:=h;cases rx;obtain⟨u,rfl,ru⟩:=rv.one;cases ru;obtain⟨z,its,n,r,hl,e⟩:=I.lstM hH;obtain⟨its2,r2,⟨o2,e2,c2,n2,d2⟩,z2⟩:=I.tuple (SqT.of hB);have hl2:=r2.length;obtain⟨cls,dd,dt,sl⟩:=o2;cases c2;cases d2;have hsz:its.toArray.size+its2.toArray.size<=sizeLine:=by rw[zP,zP];omega
 have hlong:¬(!its.toArray.isEmpty&&Builtin.List.listTooLong Gx)=true:=by
  rw[W3 hsz,wk];exact yM
 refine uf F.slot_list_extend gk F.entry_list_extend M5
  (extTup l b its.toArray its2.toArray n n2 dd sl hlong (by rw[zP];omega) ∅) ⟨e,e2,?_⟩
 refine⟨.non,_,I.lset (its':=its++its2) hH e (by simp) NT ?_,rfl,q⟩;rw[zE];omega
noncomputable def itemsOf:D->Option aO
 | .lst ds=>some ds
 | .tup ds=>some ds
 | _=>none
noncomputable def sExt(i:Nat)(f:FD):FS:=λω=>(f ω).bind λd=>(itemsOf d).bind λes=>match ω[i]? with
 | some (some (.ow ds))=>if ds.length+es.length<=1000000 then some Hc else none
 | _=>none
theorem q9q{i:Nat}{o e:vP}{fd:FD}{apos cpos:Pos}(ho:jp)(he:Lm)(hbase:uB o "extend" X.env kr=eval o X.env:=by rfl)(hfew:((vU cpos fY).all (λx=>!x.1)&&(v5 cpos kP).all iC
   && decide (([e]:List vP).length+([]:List uF).length+(if ([]:List uF).isEmpty then 0 else 1)<30))=true:=by rfl)
  (hline:ff=true:=by rfl) (hs:vK [e] X.env=bV::vK [] X.env:=by rfl) (hplain:(vU cpos bQ).any (·.1)=false:=by rfl)
  (hsw:vz BU none pos.line X.env=pure false:=by rfl) :
  XS X (.Expr BU pos) (sExt i fd):=by
 obtain⟨t,h1,h2⟩:=he;refine⟨_,q17 (q2o PySem.F.plainAttrs_list PySem.F.slot_list_extend PySem.F.type_list_extend qj9 ho NU hbase hfew hline hs hplain) hsw,nC⟩;obtain⟨d,q,e⟩:=bnd e;obtain⟨es,q3,e⟩:=bnd e;cases q2:ω[i]? with
 | none=>rw[q2]at e;cases e
 | some w=>
  rw[q2]at e;cases w with
  | none=>cases e
  | some w=>
   cases w with
   | sh d=>cases e
   | od ks ds=>cases e
   | pw ds=>cases e
   | ow ds=>
    dsimp only at e
    by_cases z:ds.length+es.length<=1000000
    ·rw[fG]at e
     cases e;obtain⟨l,vs,r1,r2,r3,r4,r5⟩:=ow.ow i ds q2;refine lh;have o1:=ow.keep x1;have fin:∀us:List V,Y2 X.K G1 es us->vs.length+us.length<=sizeLine/\Post X.K H0 G1 E .nx σ (upd H1 l (.lst (vs++us))):=λus hu=>
      ⟨by rw[<- r5.len,<- hu.len];exact q6v z,k G1 σ _ (o1.mut q2 r1 oY (x1.new l r3 (by rw[r2];exact λz=>by cases z)) r4 ((r5.mono x1.gg).app hu)) x1.gg⟩
     cases d with
     | lst ds'=>
      cases q3;obtain⟨b,us,rfl,r6,r7⟩:=y1;obtain⟨f1,f2⟩:=fin us r7;exact .inl Dn
     | tup ds'=>
      cases q3;obtain⟨b,us,rfl,r6,r7⟩:=y1;obtain⟨f1,f2⟩:=fin us r7;exact .inr Dn
     | _=>cases q3
    ·rw[fm]at e;cases e
end
structure IterOf (K:zC) (J:It) (G:Hp) (ds:List D):Prop where
 go:∀H i,Y8 G H->i<ds.length->J.go i H
 yld:∀G2 H i x H' d,Y8 G G2->Y8 G2 H->ds[i]?=some d->J.yld i H x H'->∃G3,Ext G2 H G3 H'/\Rep K G3 d x
 stop:∀H,Y8 G H->J.stop ds.length H
noncomputable abbrev FI:=WSt->Option aO
def SimI(K:zC)(wi:TI)(f:FI):Prop:=∀G0 H0 G ω σ H ds(R:DJ),Own K G0 H0 G ω σ H->f ω=some ds->(∀J G' H',Ext G H G' H'->IterOf K J G' ds->R J H')->wi σ H R
def XI(X:Cx)(tg iter:vP)(f:FI):Prop:=∃wi,PI X tg iter wi/\SimI X.K wi f
section
variable{X:Cx}{tg e:vP}
theorem qgt{K:zC}{G:Hp}{a:vF}{ds:aO}{vs:bu}(h1:UH)(h2:rK):IterOf K abu G ds:=by
 refine⟨Ge,iP,λH s=>⟨vs,SqL.of iW,by rw[h2.len];exact zQ _⟩⟩
 ·have:i<vs.length:=by rw[<- h2.len];exact hi
  exact⟨vs,vs[i],Lo,zD this⟩
 ·obtain⟨e,y⟩:=hy
  obtain⟨v,q1,q2⟩:=h2.get hd;have:=y vs RU;rw[q1]at this;cases this;subst e;exact Kq
theorem qg2{K:zC}{G:Hp}{a:vF}{ds:aO}{vs:bu}(h1:G a=some O1)(h2:rK):IterOf K abt G ds:=by
 refine⟨Ge,iP,λH s=>⟨vs,SqT.of iW,by rw[h2.len];exact zQ _⟩⟩
 ·have:i<vs.length:=by rw[<- h2.len];exact hi
  exact⟨vs,vs[i],BZ,zD this⟩
 ·obtain⟨e,y⟩:=hy
  obtain⟨v,q1,q2⟩:=h2.get hd;have:=y vs (SqT.of Aa);rw[q1]at this;cases this;subst e;exact Kq
noncomputable def Xx(f:FD):FI:=λω=>(f ω).bind itemsOf
theorem qr{f:FD}(h:KL):XI X tg e (Xx f):=by
 obtain⟨t,h1,h2⟩:=h;refine⟨λσ H R=>iList X.K t σ H R\/iTup X.K t σ H R,λpins s σ H R I q=>?_,iE⟩
 ·rcases q with q|q
  ·exact q7U h1 pins s σ H R I q
  ·exact qk4 h1 pins s σ H R I q
 ·obtain⟨d,q,e⟩:=bnd e
  cases d with
  | lst es=>
   cases e;refine .inl (h2 G0 H0 G ω σ H _ _ o q λv G1 H1 x1 ⟨a,vs,e1,e2,e3⟩=>⟨a,e1,⟨vs,SqL.of ab1⟩,k _ G1 H1 x1 (qgt e2 e3)⟩)
  | tup es=>
   cases e;refine .inr (h2 G0 H0 G ω σ H _ _ o q λv G1 H1 x1 ⟨a,vs,e1,e2,e3⟩=>⟨a,e1,⟨vs,SqT.of ab1⟩,k _ G1 H1 x1 (qg2 e2 e3)⟩)
  | _=>cases e
noncomputable def upTo(lo:Int)(n:Nat):List D:=(zY n).map λ(i:Nat)=>D.int (lo+mX)
theorem qaj{K:zC}{G:Hp}(lo:Int)(n:Nat):IterOf K (Itr lo n) G (upTo lo n):=by
 have hl:(upTo lo n).length=n:=by unfold upTo;rw[zB,zk]
 refine⟨λH i s hi=>by rw[hl]at hi;exact hi,λG2 H i x H' d s0 s1 hd hy=>?_,λH s=>by rw[hl];exact zQ _⟩;obtain⟨e,y⟩:=hy;subst e;refine⟨G2,UI,?_⟩;unfold upTo at hd;rw[zZ]at hd;have hi:i<n:=by
  rcases yH i n with z|z
  ·exact z
  ·rw[yA (by rw[zk];exact z)]at hd;cases hd
 rw[yq hi]at hd;cases hd;exact y
noncomputable def iRg1(g:FA):FI:=λω=>(g ω).bind λds=>match ds with
 | [.int j]=>if -(2^62)<=j/\j<2^62 then some V1 else none
 | _=>none
noncomputable def iRg2(g:FA):FI:=λω=>(g ω).bind λds=>match ds with
 | [.int i,.int j]=>if (-(2^62)<=i/\i<2^62)/\-(2^62)<=j/\j<2^62 then some Rf else none
 | _=>none
theorem qek{a:vP}{g:FA}{p pos:Pos}(hg:BE)(hm:lD)(ha:XVA X [a] g)(hs:CC:=by rfl):XI X tg QM (iRg1 g):=by
 obtain⟨t,h1,h2⟩:=ha;refine⟨_,qeQ hg hm h1 hs,iE⟩;obtain⟨vs,q,e⟩:=bnd e;refine h2 G0 H0 G ω σ H vs _ o q λus G1 H1 x1 y1=>?_
 match vs,e with
 | [.int j],e=>
  dsimp only at e
  by_cases z:-(2^62)<=j/\j<2^62
  ·rw[fG]at e
   cases e;obtain⟨v,rfl,y2⟩:=y1.one;cases y2.int;exact⟨j,rfl,z.1,z.2,Ry⟩
  ·rw[fm]at e;cases e
theorem qeK{a b:vP}{g:FA}{p pos:Pos}(hg:BE)(hm:lD)(ha:XVA X pK g)(hs:AW:=by rfl)(hs2:CB:=by rfl):XI X tg Si (iRg2 g):=by
 obtain⟨t,h1,h2⟩:=ha;refine⟨_,qfs hg hm h1 hs hs2,iE⟩;obtain⟨vs,q,e⟩:=bnd e;refine h2 G0 H0 G ω σ H vs _ o q λus G1 H1 x1 y1=>?_
 match vs,e with
 | [.int i,.int j],e=>
  dsimp only at e
  by_cases z:(-(2^62)<=i/\i<2^62)/\-(2^62)<=j/\j<2^62
  ·rw[fG]at e
   cases e;obtain⟨v,u,rfl,y2,y3⟩:=y1.two;cases y2.int;cases y3.int;exact⟨i,j,rfl,⟨z.1.1,z.1.2,z.2.1,z.2.2⟩,Ry⟩
  ·rw[fm]at e;cases e
end
noncomputable def zAd(g:FG)(b:FS):List D->FS
 | [],ω=>some Dp
 | d::ds,ω=>(g d ω).bind λw=>(b w).bind λp=>match p.1 with
  | .nx=>zAd g b ds p.2
  | .ct=>zAd g b ds p.2
  | .bk=>some O5
  | .rt r=>some (.rt r,p.2)
noncomputable def Ww(fi:FI)(g:FG)(b:FS):FS:=λω=>(fi ω).bind λds=>zAd g b ds ω
section
variable{X:Cx}{tg iter:vP}{body:List vn}{pos:Pos}{fi:FI}{fg:FG}{fb:FS}
theorem q05(hp:kQ)(hc:cI)(hi:MW)(hg:XG X tg fg)(hb:XSs X body fb)(hs:∀x,uA iter X.env x=pure x:=by intro _;rfl):XS X Na (Ww fi fg fb):=by
 obtain⟨wi,h1,h2⟩:=hi;obtain⟨g,h3,h4⟩:=hg;obtain⟨tb,h5,h6⟩:=hb;refine⟨_,q7i hp hc h1 h3 h5 hs,cz⟩;obtain⟨ds,q,e⟩:=bnd e;refine h2 G0 H0 G ω σ H ds _ o q λJ G1 H1 x1 it=>?_;refine⟨λi m σ2 H2=>∃G2 ω2,Own X.K G0 H0 G2 ω2 σ2 H2/\Y8 G1 G2/\zAd fg fb (ds.drop i) ω2=some J8/\i<=ds.length/\m=ds.length-i,⟨_,G1,ω,gW,ig,e,Bv,rfl⟩,?_⟩;rintro i m σ2 H2 ⟨G2,ω2,o2,s2,f2,hi2,rfl⟩
 by_cases hlt:i<ds.length
 ·refine .inr ⟨it.go H2 i aad hlt,λσ3 H3=>∃G3 ω3,Own X.K G0 H0 G3 ω3 σ3 H3/\Y8 G1 G3/\zAd fg fb (ds.drop (i+1)) ω3=some J8,λσ3 H3 ⟨G3,ω3,a1,a2,a3⟩=>⟨ds.length-(i+1),∅,G3,ω3,a1,a2,a3,hlt,rfl⟩,λx H3 hy=>?_⟩
  have hd:ds[i]?=some ds[i]:=zD hlt;obtain⟨G4,x4,rx⟩:=it.yld G2 H2 i x H3 ds[i] s2 o2.gh hd hy;have o2:=o2.keep x4;have s2:=s2.trans x4.gg;rw[xn hlt]at f2;obtain⟨w,q1,f2⟩:=bnd f2;obtain⟨⟨o3,ω3⟩,q2,f2⟩:=bnd f2;refine h4 G0 H0 G4 ω2 σ2 H3 ds[i] x w _ o2 q1 rx λσ4 o4=>?_;refine h6 G0 H0 G4 w σ4 H3 o3 ω3 _ o4 q2 λG5 σ5 H5 o5 s5=>?_;cases o3 with
  | nx=>exact Sw
  | ct=>exact Sw
  | bk=>cases f2;exact k G5 σ5 H5 o5 VW
  | rt r=>cases f2;exact k G5 σ5 H5 o5 VW
 ·have ei:i=ds.length:=∅
  subst ei;rw[wP]at f2;cases f2;exact .inl ⟨it.stop H2 aad,k G2 σ2 H2 o2 (x1.gg.trans s2)⟩
end
noncomputable def X0(g:FG)(c:FT)(f:FD):List D->WSt->Option aO
 | [],_=>some []
 | d::ds,ω=>(g d ω).bind λw=>(c w).bind λb=>if b=true then (f w).bind λx=>(X0 g c f ds w).map λr=>x::r else X0 g c f ds w
noncomputable def WZ:Option cc->Option W
 | some ↥d=>↥d
 | _=>none
noncomputable def inW(M:Nat)(frees:cJ)(ω:WSt):WSt:=z8 M none++frees.map λj=>WZ ω[j]?
noncomputable def XY(M:Nat)(frees:cJ)(fi:FI)(g:FG)(c:FT)(f:FD):FE:=λω=>(fi ω).bind λds=>if ds.length<=1000000 then (X0 g c f ds DC).map R.fr else none
def XTs(X:Cx)(ifs:jc)(f:FT):Prop:=∃t,PTs X ifs t/\zAU X.K t f
noncomputable def XQ:FT:=λ_=>some true
theorem qD{X:Cx}:XTs X [] XQ:=⟨_,qja,λG0 H0 G ω σ H b Q o e k=>by cases e;exact k G H kG⟩
theorem q5R{X:Cx}{c:vP}{f:FT}(h:XT X c f):XTs X [c] f:=let ⟨t,h1,h2⟩:=h;⟨t,qiK h1,h2⟩
section
variable{X:Cx}{N:List Str}{M:Nat}{frees:List Nat}{scope:uu}{tg iter elt:vP}{ifs:List vP}{pos:Pos}{fi:FI}{fg:FG}{fc:FT}{fe:FD}
def X8(ω:WSt):Prop:=∀(i:Nat)w,ω[i]?=some (some w)->∃d,w=.sh d
theorem X8.ow{ω:WSt}(h:OV)(i:Nat)(ds:aO):ω[i]?≠some cW:=λz=>by obtain⟨d,e⟩:=h i _ z;cases e
theorem X8.od{ω:WSt}(h:OV)(i:Nat)(ks:aa)(ds:aO):ω[i]?≠some j9:=λz=>by obtain⟨d,e⟩:=h i _ z;cases e
theorem X8.pw{ω:WSt}(h:OV)(i:Nat)(ds:aO):ω[i]?≠some Bg:=λz=>by obtain⟨d,e⟩:=h i _ z;cases e
theorem q9j{wi:TI}{g:TG}{tc:TT}{te:TE}(h2:SimI X.K wi fi)(h4:SimG X.K g fg)(h6:zAU X.K tc fc)(h8:zAz X.K te fe)(hg:∀d ω ω',X8 ω->fg d ω=some ω'->X8 ω'):zCE X.K B9 Cp:=by
 intro G0 H0 G ω σ H r Q o e k;obtain⟨ds,q,e⟩:=bnd e
 by_cases hz:ds.length<=1000000
 ·rw[vC hz]at e
  obtain⟨rs,q2,e⟩:=mpd e;subst e;refine h2 G0 H0 G ω σ H ds _ o q λJ G1 H1 x1 it=>?_;intro A hA;have ow0:X8 DC:=by
   intro i es z;unfold inW at z;rcases yH i M with y|y
   ·rw[QZ,yl,JZ]at z;cases z
   ·rw[Q0,yX,zZ]at z
    cases e1:frees[i-M]? with
    | none=>rw[e1]at z;cases z
    | some j=>
     rw[e1]at z;have z':WZ ω[j]?=some es:=zy z;generalize ω[j]?=u at z';unfold WZ at z'
     split at z'
     ·cases z';exact cf
     ·cases z'
  have own0:∀G2 H2,Y8 G1 G2->Y8 G2 H2->Own X.K G2 (fr H2) G2 DC CS H2:=λG2 H2 s1 s2=>by
   have o1:=o.keep x1;refine⟨Ext.refl s2,by unfold inW zBO;simp,λi d hi=>?_,λi ds' hi=>vM hi ace,λi j ds' es l hi=>vM hi ace,λi ks ds' hi=>vM hi (ow0.od i ks ds'),Xy.no ow0.pw⟩;unfold inW at hi;unfold zBO;rcases yH i M with y|y
   ·rw[QZ,yl,JZ]at hi;cases hi
   ·rw[Q0,yX,zZ]at hi ⊢
    cases e1:frees[i-M]? with
    | none=>rw[e1]at hi;cases hi
    | some j=>
     rw[e1]at hi;have hi':WZ ω[j]?=↥d:=zy hi;cases e2:ω[j]? with
     | none=>rw[e2]at hi';cases hi'
     | some w=>
      rw[e2]at hi';cases w with
      | none=>cases hi'
      | some w=>
       cases w with
       | ow _=>cases hi'
       | od _ _=>cases hi'
       | pw _=>cases hi'
       | sh d'=>
        cases hi';obtain⟨v,q3,q4⟩:=o1.sh j _ e2;exact⟨v,by rw[xH,q3];rfl,q4.mono s1⟩
  refine⟨λi m σ2 H2=>∃G2 ω2 accd accv,Own X.K G2 (fr H2) G2 ω2 σ2 H2/\X8 ω2/\Ext G1 H1 G2 H2/\G2 A=none/\H2 A=some KR/\Y2 X.K G2 accd accv/\accd.length<=i/\i<=ds.length/\m=ds.length-i /\
   ∃rest,X0 fg fc fe (ds.drop i) ω2=some rest/\accd++rest=rs,⟨_,G1,DC,[],[],own0 _ _ ig (Y6 x1.gh (x1.gh.free hA) _),ow0,Ext.hide x1.gh hA _,x1.gh.free hA,qg,Y2.nil,cL,Bv,rfl,rs,q2,rfl⟩,?_⟩
  rintro i m σ2 H2 ⟨G2,ω2,accd,accv,o2,no2,x2,gA,hA2,ra,la,li,rfl,rest,cd,er⟩
  by_cases hlt:i<ds.length
  ·refine .inr ⟨it.go H2 i SE hlt,λx H3 hy=>?_⟩
   have hd:ds[i]?=some ds[i]:=zD hlt;obtain⟨G4,x4,rx⟩:=it.yld G2 H2 i x H3 ds[i] x2.gg x2.gh hd hy;have o2':=o2.keep x4;have o2:Own X.K G4 Vi G4 ω2 σ2 H3:=⟨Ext.refl x4.gh,o2'.len,o2'.sh,λi ds' hi=>vM hi aci,λi j ds' es l hi=>vM hi aci,λi ks ds' hi=>vM hi (no2.od i ks ds'),Xy.no no2.pw⟩;have gA:G4 A=none:=x4.new A gA (by rw[hA2];exact λz=>by cases z);have hA2:H3 A=some KR:=x4.hh _ _ hA2;have x2:=x2.trans x4;have ra:=ra.mono x4.gg;rw[xn hlt]at cd;obtain⟨w,q1,cd⟩:=bnd cd;obtain⟨b,q3,cd⟩:=bnd cd;have now:=hg _ _ _ no2 q1;refine h4 G4 Vi G4 ω2 σ2 H3 ds[i] x w _ o2 q1 rx λσ4 o4=>?_;refine h6 G4 Vi G4 w σ4 H3 b _ o4 q3 λG5 H5 x5=>?_;have o5:=o4.keep x5;have gA5:G5 A=none:=x5.new A gA (by rw[hA2];exact λz=>by cases z);have hA5:H5 A=some KR:=x5.hh _ _ hA2;cases b with
   | false=>
    rw[vG yM];rw[vG yM]at cd;have o6:Own X.K G5 (fr H5) G5 w σ4 H5:=⟨Ext.refl x5.gh,o5.len,o5.sh,Tq,Nf,Gb,Xy.no now.pw⟩;exact⟨ds.length-(i+1),∅,G5,w,accd,accv,o6,now,x2.trans x5,gA5,hA5,ra.mono x5.gg,∅,hlt,rfl,rest,cd,er⟩
   | true=>
    rw[jT]at cd ⊢;obtain⟨d,q4,cd⟩:=bnd cd;obtain⟨rest',q5,cd⟩:=mpd cd;subst cd;refine h8 G4 Vi G5 w σ4 H5 d _ o5 q4 λv G6 H6 x6 y6=>?_;have gA6:G6 A=none:=x6.new A gA5 (by rw[hA5];exact λz=>by cases z);have hA6:H6 A=some KR:=x6.hh _ _ hA5;have x26:=(x2.trans x5).trans x6;have raa:=ra.mono (x5.gg.trans x6.gg);have hl:accv.length<sizeLine:=by rw[<- raa.len,vh];omega
    refine⟨accv,hA6,hl,ds.length-(i+1),∅,G6,w,accd++[d],accv++[v],?_,now,⟨x26.gg,Y6 x26.gh gA6 _,Y6 x26.hh hA _,x26.new⟩,gA6,qg,raa.app (Y2.cons y6 Y2.nil),by rw[zE,zi];omega,hlt,rfl,rest',q5,by rw[yB];exact er⟩;have o6:=o5.keep x6;exact⟨Ext.refl (Y6 x6.gh gA6 _),o6.len,o6.sh,Tq,Nf,Gb,Xy.no now.pw⟩
  ·have ei:i=ds.length:=∅
   subst ei;rw[wP]at cd;cases cd;rw[zo]at er;subst er;refine .inl ⟨it.stop H2 SE,k _ G2 H2 dY ⟨A,accv,rfl,x1.hh.free hA,gA,hA2,ra⟩⟩
 ·rw[vG hz]at e;cases e
theorem qg7{ω:WSt}{i:Nat}{d:D}(h:OV):X8 mI:=by
 intro j ds z;rcases qe z with⟨_,_,y⟩|⟨_,y⟩
 ·cases y;exact LG
 ·exact h j ds y
def Tame(fg:FG):Prop:=∀d ω ω',X8 ω->fg d ω=some ω'->X8 ω'
def zBR(gs:eU):Prop:=∀ds ω ω',X8 ω->gs ds ω=some ω'->X8 ω'
theorem qw(i:Nat):Tame Ud:=λd ω ω' h e=>by cases e;exact qg7 h
theorem q2E:zBR Xv:=λds ω ω' h e=>by
 cases ds with
 | nil=>cases e;exact h
 | cons _ _=>cases e
theorem qZ{fg:FG}{gs:eU}(h:Tame fg)(h':zBR gs):zBR (Y4 fg gs):=λds ω ω' n e=>by
 cases ds with
 | nil=>cases e
 | cons d r=>obtain⟨w,q,e⟩:=bnd e;exact h' _ _ _ (h _ _ _ n q) e
theorem q5q{n:Nat}{gs:eU}(h:zBR gs):Tame (gT n gs):=λd ω ω' no e=>by
 unfold gT at e;cases d with
 | tup ds=>
  dsimp only at e
  by_cases z:ds.length=n
  ·rw[fG]at e;exact h _ _ _ no e
  ·rw[fm]at e;cases e
 | _=>cases e
noncomputable def canD(K:zC)(f:FD):TE:=λσ H Q=>∃G0 H0 G ω d,Own K G0 H0 G ω σ H/\f ω=some d/\∀v G' H',Ext G H G' H'->Rep K G' d v->Q v H'
noncomputable def canT(K:zC)(f:FT):TT:=λσ H Q=>∃G0 H0 G ω b,Own K G0 H0 G ω σ H/\f ω=some b/\∀G' H',Ext G H G' H'->Q b H'
noncomputable def canG(K:zC)(f:FG):TG:=λv σ H Q=>∃G0 H0 G ω d ω',Own K G0 H0 G ω σ H/\f d ω=some ω'/\Rep K G d v/\∀σ',Own K G0 H0 G ω' σ' H->Q σ' H
theorem XD.can{X:Cx}{e:vP}{f:FD}(h:KL):PE X e (canD X.K f):=λpins s σ H Q I ⟨G0,H0,G,ω,d,o,e,k⟩=>let ⟨_,h1,h2⟩:=h;h1 pins s σ H Q I Kc
theorem XTs.can{X:Cx}{e:jc}{f:FT}(h:XTs X e f):PTs X e (canT X.K f):=λpins s σ H Q I ⟨G0,H0,G,ω,d,o,e,k⟩=>let ⟨_,h1,h2⟩:=h;h1 pins s σ H Q I Kc
theorem XG.can{X:Cx}{e:vP}{f:FG}(h:XG X e f):PG X e (canG X.K f):=λpins s σ H v u Q I r ⟨G0,H0,G,ω,d,ω',o,e,y,k⟩=>let ⟨_,h1,h2⟩:=h;h1 pins s σ H v u Q I r (h2 G0 H0 G ω σ H d v ω' Q o e y k)
theorem q9L{K:zC}{f:FD}:zAz K (canD K f) f:=λG0 H0 G ω σ H d Q o e k=>Pd
theorem qaq{K:zC}{f:FT}:zAU K (canT K f) f:=λG0 H0 G ω σ H d Q o e k=>Pd
theorem qan{K:zC}{f:FG}:SimG K (canG K f) f:=λG0 H0 G ω σ H d v ω' Q o e y k=>⟨G0,H0,G,ω,d,ω',o,e,y,k⟩
theorem qR(hc:cI)(B:jH)(hi:MW)(ht:Tame fg)(hb:∀C s H fp,XG aV tg fg/\XTs aV ifs fc/\XD aV elt fe)(hs:∀x,uA iter X.env x=pure x:=by intro _;rfl):XE X bJ Cp:=by
 obtain⟨wi,h1,h2⟩:=hi;have b4:∀C s H fp,PG aV tg (canG X.K fg)/\PTs aV ifs (canT X.K fc)/\PE aV elt (canD X.K fe):=λC s H fp=>oD;exact⟨_,qim hc B h1 b4 hs,Qp⟩
theorem q1H{i:Nat}{x:Str}{pos' spos:Pos}(hc:cI)(hN:X.N.Nodup)(hi':X.N[i]?=some x)(hx:GK)(B:jH)(hi:MW)(ht:Tame fg)(hb:∀C s H fp,XG aV tg fg/\XTs aV ifs fc/\XD aV elt fe)(hsw:EN:=by rfl)(hs:∀x,uA iter X.env x=pure x:=by intro _;rfl):XS X P8 (XZ i Cp):=by
 obtain⟨wi,h1,h2⟩:=hi;have b4:∀C s H fp,PG aV tg (canG X.K fg)/\PTs aV ifs (canT X.K fc)/\PE aV elt (canD X.K fe):=λC s H fp=>oD;exact⟨_,qiB hc hN hi' hx B h1 b4 hsw hs,qcu Qp⟩
def W4(X:Cx)(scope:uu):List Str->List Nat->Prop
 | [],[]=>True
 | x::xs,j::js=>(X.N[j]?=some x/\Av/\scope.names.lookup x=some .free)/\W4 X scope xs js
 | _,_=>False
theorem q7p{X:Cx}{scope:uu}:∀{xs:dI}{js:cJ},W4 X scope xs js->∀(k:Nat)(x:Str),xs[k]?=some x->∃j,js[k]?=some j/\X.N[j]?=some x/\Av/\scope.names.lookup x=some .free
 | [],_,_,_,_,e=>by simp at e
 | _::_,[],h,_,_,_=>h.elim
 | y::ys,i::is,⟨h1,h2⟩,0,x,e=>by
  have:y=x:=by simpa using e
  subst this;exact⟨i,rfl,h1⟩
 | y::ys,i::is,⟨h1,h2⟩,k+1,x,e=>by
  obtain⟨j,q⟩:=q7p h2 k x ⇑e;exact⟨j,by simpa using q.1,q.2⟩
theorem q6h{X:Cx}{scope:uu}:∀{xs:dI}{js:cJ},W4 X scope xs js->xs.length=js.length
 | [],[],_=>rfl
 | [],_::_,h=>h.elim
 | _::_,[],h=>h.elim
 | _::ys,_::is,⟨_,h2⟩=>by rw[zM,zM,q6h h2]
theorem blk{X:Cx}{scope:uu}(own free:dI)(frees:cJ)(h1:scope.kind=.function)(h2:∀y∈scope.names,y.2≠.cell)(h3:∀y∈scope.names,y.2=.local->scope.names.lookup y.1=some .local)(h4:(scope.names.all λp=>p.2 != .free || (X.env.cells.lookup p.1).isSome)=true)(h5:W4 X scope free frees):BlkOk X (own++free) own.length frees scope:=by
 refine⟨h1,h2,h3,λp hp hf=>?_,λk x e=>?_,by rw[zE,q6h h5]⟩
 ·have:=yv.mp h4 p hp
  rw[hf]at this;simpa using this
 ·rw[zc (Nat.le_add_right _ _),ZI]at e
  exact q7p h5 k x e
end
noncomputable def entry(n:Nat)(ds:aO):WSt:=ds.map (λd=>↥d)++z8 (n-ds.length) none
noncomputable def mir(n:Nat)(body:FS)(ds:aO):Option O:=match body PL with
 | some (.rt r,_)=>some r
 | some (.nx,_)=>some Ic
 | _=>none
theorem qcV{K:zC}{H:Hp}{N:dI}{ds:aO}{vs:bu}(h:BA)(i:Nat)(d:D)(e:(entry N.length ds)[i]?=some ↥d):∃v,(L2.start N vs)[i]?=some nE/\Rep K H d v:=by
 unfold entry at e;unfold L2.start;have hl:=h.len;rcases yH i ds.length with y|y
 ·rw[QZ,zZ]at e
  have e1:ds[i]?=some d:=by
   cases q:ds[i]? with
   | none=>rw[q]at e;cases e
   | some d'=>rw[q]at e;cases e;rfl
  obtain⟨v,q1,q2⟩:=h.get e1;refine⟨v,?_,q2⟩;rw[zg ⇑((∅:i<vs.length)),zZ,q1];rfl
 ·rw[Q0,yl]at e
  split at e <;> cases e
theorem q30{n:Nat}{ds:aO}:X8 PL:=by
 intro i es z;unfold entry at z;rcases yH i ds.length with y|y
 ·rw[QZ,zZ]at z
  cases q:ds[i]? with
  | none=>rw[q]at z;cases z
  | some d=>rw[q]at z;cases z;exact LG
 ·rw[Q0,yl]at z
  split at z <;> cases z
theorem fnD{P:vQ}{w:vY}{K:zC}{mg:bO}{base:vf}{x qual:Str}{st:vn}{f:vF}{fd:vN}{N ps:dI}{k:Nat}{body:FS}(F:Ax)(S:M4)(hb:∀(cdv:vB)(A:ve)(outer:rN)(s:vH)(H:Hp)(E:XK),Room k ox->XSs (zAx CX0 P w K mg base N qual Co f cdv A outer s H E).nox PY body):
  FnOk P w K mg base CX0 (k+1) f fd ps (spD K ps.length (mir N.length body)):=by
 refine F.ok S Be jO
 ·obtain⟨G,ds,r,_,h2,_,h4,_⟩:=h
  rw[<- h4.len];exact h2
 ·obtain⟨G,ds,r,h1,h2,h3,h4,h5⟩:=h
  obtain⟨t,p1,p2⟩:=hb cdv A outer s H E hr;refine⟨t,p1,?_⟩;unfold mir at h1;have hl:=h4.len;have hpl:ps.length<=N.length:=by have:=vm yh S.pre;rw[zr]at this;omega
  have o0:Own K G BL G SR Eh H:=by
   refine⟨Ext.refl h3,?_,λi d e=>qcV h4 i d e,λi es e=>vM e (q30.ow i es),λi j es fs l e=>vM e (q30.ow i es),λi ks es e=>vM e (q30.od i ks es),Xy.no q30.pw⟩;unfold entry L2.start;simp only[zE,zB,yX];omega
  cases q:body SR with
  | none=>rw[q]at h1;cases h1
  | some p=>
   obtain⟨out,ω'⟩:=p;rw[q]at h1;refine p2 G BL G _ _ H out ω' _ o0 q λG' σ' H' o' s'=>?_;cases out with
   | nx=>cases h1;exact h5 _ G' H' o'.ext rfl
   | bk=>cases h1
   | ct=>cases h1
   | rt r'=>cases h1;exact λv y=>h5 v G' H' o'.ext y
theorem q0i:vg "len" = some aaJ:=⋯
theorem q4n:vg "all" = some aaK:=⋯
theorem q79:vg "sum" = some aaH:=⋯
theorem q9D:vg "min" = some Ko:=⋯
theorem qjB:vg "max" = some aaI:=⋯
theorem qfn:vg "abs" = some aaL:=⋯
theorem q3K:vg "sorted" = some jL:=⋯
theorem qf1:vg "int" = some (.type "int"):=⋯
theorem qb2:vg "bool" = some (.type "bool"):=⋯
theorem q0v:vg "list" = some Bp:=⋯
theorem q3j:vg "tuple" = some (.type "tuple"):=⋯
theorem qjM:vg "set" = some nH:=⋯
theorem qkm:vg "zip" = some Ou:=⋯
noncomputable def zBw(o:Ls)(g:FS):Option dD:=o.bind λp=>match p.1 with
 | .nx=>g p.2
 | o=>some (o,p.2)
noncomputable def setS(i:Nat)(ω:WSt)(o:KM):Option dD:=o.bind λr=>(setR i r ω).map λw=>JN
noncomputable def ifS(c:GT)(f g:FS)(ω:WSt):Option dD:=c.bind λb=>if b=true then f ω else g ω
noncomputable def retS(ω:WSt)(o:KM):Option dD:=o.bind λr=>match r with
 | .sh d=>some nU
 | .fr ds=>some mT
 | .vw _=>none
noncomputable def retV(ω:WSt)(o:kW):Option dD:=match o with
 | some ↥d=>some nU
 | some (some (.ow ds))=>some mT
 | _=>none
noncomputable def appS(i:Nat)(ω:WSt)(o:eY)(l:kW):Option dD:=o.bind λd=>match l with
 | some (some (.ow ds))=>if ds.length<1000000 then some nK else none
 | _=>none
noncomputable def extS(i:Nat)(ω:WSt)(o:eY)(l:kW):Option dD:=o.bind λd=>(itemsOf d).bind λes=>match l with
 | some (some (.ow ds))=>if ds.length+es.length<=1000000 then some Hc else none
 | _=>none
noncomputable def shrS(i:Nat)(ω:WSt)(o:kW):WSt:=match o with
 | some (some (.ow ds))=>ω.set i ↥fK
 | some (some (.od ks ds))=>ω.set i ↥DK
 | _=>ω
noncomputable def forS(o:kX)(g:FG)(b:FS)(ω:WSt):Option dD:=o.bind λds=>zAd g b ds ω
noncomputable def asgS(o:eY)(g:FG)(ω:WSt):Option dD:=o.bind λd=>(g d ω).map λw=>JN
noncomputable def zBz(o:kW):Option R:=match o with
 | some ↥d=>↥d
 | some (some (.ow ds))=>some JL
 | some (some (.pw ds))=>some JL
 | _=>none
noncomputable def eD(o:eY):Option R:=o.map R.sh
noncomputable def dR(o:KM):Option D:=match o with
 | ↥d=>some d
 | some (.fr ds)=>some fK
 | _=>none
noncomputable def vR(o:KM):Option D:=o.map R.d
noncomputable def op2(op:lK)(x y:eY):Option R:=x.bind λx=>y.bind λy=>op x y
noncomputable def callR(m:bL)(o:kX):Option R:=o.bind λds=>(m ds).map O.r
noncomputable def consA(o:eY)(r:kX):Option aO:=o.bind λd=>r.map λds=>d::ds
noncomputable def bltR(op:Lv)(o:kX):Option R:=o.bind op
noncomputable def slR(o:eY)(l h:Option fE):Option R:=o.bind λd=>l.bind λlo=>h.bind λhi=>oSl d lo hi
noncomputable def atP(o:eY):Option fE:=o.bind λd=>match d with|.int i=>some AB|_=>none
noncomputable def iteR(c:GT)(f g:FE)(ω:WSt):Option R:=c.bind λk=>if k=true then f ω else g ω
noncomputable def zBo(c:Ty)(o:eY):Option R:=o.bind λd=>match d with
 | .scr _=>none
 | .exc _=>none
 | .dic _ _=>none
 | d=>↥EG
noncomputable def tR(o:KM):Option Bool:=match o with
 | ↥(.bl k)=>some k
 | _=>none
noncomputable def andT(o:GT)(g:FT)(ω:WSt):Option Bool:=o.bind λc=>if c=true then g ω else some false
noncomputable def orT(o:GT)(g:FT)(ω:WSt):Option Bool:=o.bind λc=>if c=true then some true else g ω
noncomputable def notT(o:GT):Option Bool:=o.map (!·)
noncomputable def truT(o:eY):Option Bool:=o.bind truD
noncomputable def andV(o:eY)(g:FD)(ω:WSt):Option D:=o.bind λd=>(blOf d).bind λc=>if c=true then g ω else some l5
noncomputable def orV(o:eY)(g:FD)(ω:WSt):Option D:=o.bind λd=>(blOf d).bind λc=>if c=true then some cZ else g ω
noncomputable def seqI(o:eY):Option aO:=o.bind itemsOf
noncomputable def rg1I(o:kX):Option aO:=o.bind λds=>match ds with
 | [.int j]=>if -(2^62)<=j/\j<2^62 then some V1 else none
 | _=>none
noncomputable def rg2I(o:kX):Option aO:=o.bind λds=>match ds with
 | [.int i,.int j]=>if (-(2^62)<=i/\i<2^62)/\-(2^62)<=j/\j<2^62 then some Rf else none
 | _=>none
noncomputable def compR(M:Nat)(fr:cJ)(o:kX)(g:FG)(c:FT)(f:FD)(ω:WSt):Option R:=o.bind λds=>if ds.length<=1000000 then (X0 g c f ds (inW M fr ω)).map R.fr else none
noncomputable def outM(o:Ls):Option O:=match o with
 | some (.rt r,_)=>some r
 | some (.nx,_)=>some Ic
 | _=>none
section
variable{f g:FS}{ω w:WSt}{i:Nat}{fe fe':FE}{fd fd':FD}{ft ft':FT}{r:O}{d d':D}{ds ds':List D}{a b:Int}{p q:Bool}{fa:FA}{fg:FG}{fi:FI}{n:Nat}
theorem qhE:mir n f ds=outM (f PL):=rfl
theorem qbk:outM aab=some r:=rfl
theorem qbb:outM (some JN)=some Ic:=rfl
theorem q0d:Y5 f g ω=zBw (f ω) g:=rfl
theorem qbC:zBw (some JN) g=g w:=rfl
theorem qbX:zBw aab g=some (.rt r,w):=rfl
theorem qgX:WO ω=some Dp:=rfl
theorem qi4:XZ i fe ω=setS i ω MB:=rfl
theorem qck:setS i ω ↥d=some (.nx,mI):=rfl
theorem qbF:setS i ω ON=some (.nx,Pe):=rfl
theorem e_if:sIf ft f g ω=ifS PF f g ω:=rfl
theorem qfc:ifS E9 f g ω=f ω:=rfl
theorem qdB:ifS (some false) f g ω=g ω:=rfl
theorem qhK:XU fe ω=retS ω MB:=rfl
theorem qcx:retS ω ↥d=some nU:=rfl
theorem qci:retS ω ON=some mT:=rfl
theorem qeM:Wk i ω=retV ω ω[i]?:=rfl
theorem qc2:retV ω sn=some mT:=rfl
theorem qgR:zBN i fd ω=appS i ω lY ω[i]?:=rfl
theorem zBM(h:Ke):appS i ω pW sn=some nK:=vC h
theorem qhB:sExt i fd ω=extS i ω lY ω[i]?:=rfl
theorem q9Q(h:LQ):extS i ω (some (.tup ds')) sn=some FQ:=vC h
theorem q5o(h:LQ):extS i ω (some (.lst ds')) sn=some FQ:=vC h
theorem qcv:Xo i f ω=f (shrS i ω ω[i]?):=rfl
theorem qcb:shrS i ω sn=ω.set i ↥fK:=rfl
theorem qh1:Ww fi fg f ω=forS (fi ω) fg f ω:=rfl
theorem e_fs:forS Gh fg f ω=zAd fg f ds ω:=rfl
theorem qhD:sAsg fd fg ω=asgS lY fg ω:=rfl
theorem e_ag:asgS pW fg ω=(fg d ω).map λw=>JN:=rfl
theorem e_gn:gN i d ω=some mI:=rfl
theorem e_gt{gs}:gT n gs El ω=if ds.length=n then gs ds ω else none:=rfl
theorem e_gc{gs}:Y4 fg gs (d::ds) ω=(fg d ω).bind λw=>gs ds w:=rfl
theorem e_g0:Xv [] ω=some ω:=rfl
theorem qhd:Ys i ω=zBz ω[i]?:=rfl
theorem qcA:zBz (some ↥d)=↥d:=rfl
theorem qbv:zBz sn=some JL:=rfl
theorem e_c:fC d ω=some d:=rfl
theorem e_e:eOf fd ω=eD lY:=rfl
theorem e_ed:eD pW=↥d:=rfl
theorem e_d:dOf fe ω=dR MB:=rfl
theorem qbR:dR ↥d=some d:=rfl
theorem qbN:dR ON=some fK:=rfl
theorem e_v:vOf fe ω=vR MB:=rfl
theorem qbh:vR ↥d=some d:=rfl
theorem qc8:vR ON=some fK:=rfl
theorem qbc:vR (some JL)=some fK:=rfl
theorem e_op{op}:Yz op fd fd' ω=op2 op lY (fd' ω):=rfl
theorem e_o2{op}:op2 op pW (some d')=op d d':=rfl
theorem qfp{m}:Y0 m fa ω=callR m JH:=rfl
theorem e_cl{m}:callR m Gh=(m ds).map O.r:=rfl
theorem qc5:(O.sh d).r=.sh d:=rfl
theorem qbT:(O.fr ds).r=.fr ds:=rfl
theorem e_ac:Yq fd fa ω=consA lY JH:=rfl
theorem e_ca:consA pW Gh=some (d::ds):=rfl
theorem e_an:Y1 ω=some []:=rfl
theorem qgW:Wh fa ω=(fa ω).map R.fr:=rfl
theorem qh0:zAQ fa ω=(fa ω).map D.tup:=rfl
theorem qh2{op}:Xi op fa ω=bltR op JH:=rfl
theorem e_bl{op}:bltR op Gh=op ds:=rfl
theorem qhW{l h:FO}:fSl fd l h ω=slR lY (l ω) (h ω):=rfl
theorem e_sl{lo hi:fE}:slR pW (some lo) (some hi)=oSl d lo hi:=rfl
theorem e_po:pNo ω=some none:=rfl
theorem e_pa:pAt fd ω=atP lY:=rfl
theorem e_ap:atP (some cY)=some (some a):=rfl
theorem qhP:zCF ft fe fe' ω=iteR PF fe fe' ω:=rfl
theorem qe8:iteR E9 fe fe' ω=fe ω:=rfl
theorem qfm:iteR (some false) fe fe' ω=fe' ω:=rfl
theorem qhz{c}:zAM c fd ω=zBo c lY:=rfl
theorem q83{c}:zBo c (some cY)=↥(.bl (zAc .int c)):=rfl
theorem q9K{c}:zBo c Fa=↥(.bl (zAc .bl c)):=rfl
theorem q8y{c}:zBo c (some .non)=↥(.bl (zAc .non c)):=rfl
theorem q8l{c x}:zBo c (some Ht)=↥(.bl (zAc .str c)):=rfl
theorem q8d{c}:zBo c J4=↥(.bl (zAc .lst c)):=rfl
theorem q8q{c}:zBo c (some El)=↥(.bl (zAc .tup c)):=rfl
theorem e_t:tOf fe ω=tR MB:=rfl
theorem e_tr:tR ↥(.bl p)=some p:=rfl
theorem qen:zBD ft ft' ω=andT PF ft' ω:=rfl
theorem e_ta:andT (some p) ft ω=if p=true then ft ω else some false:=rfl
theorem qi1:(if p=true then some q else some false)=some (p&&q):=by cases p <;> rfl
theorem qhu:zAD ft ft' ω=orT PF ft' ω:=rfl
theorem e_to:orT (some p) ft ω=if p=true then some true else ft ω:=rfl
theorem qhF:(if p=true then some true else some q)=some (p || q):=by cases p <;> rfl
theorem qdG:Xh ft ω=notT PF:=rfl
theorem e_tn:notT (some p)=some (!p):=rfl
theorem qdM:WM fd ω=truT lY:=rfl
theorem qbZ:truT Fa=some p:=rfl
theorem qav:truT J4=some (!ds.isEmpty):=rfl
theorem qdw:W8 fd fd' ω=andV lY fd' ω:=rfl
theorem e_va:andV Fa fd ω=if p=true then fd ω else some l5:=rfl
theorem qhQ:(if p=true then some (D.bl q)else some (D.bl false))=some (.bl (p&&q)):=by cases p <;> rfl
theorem qi0:vOr fd fd' ω=orV lY fd' ω:=rfl
theorem e_vo:orV Fa fd ω=if p=true then some cZ else fd ω:=rfl
theorem qhh:(if p=true then some (D.bl true)else some (D.bl q))=some (.bl (p || q)):=by cases p <;> rfl
theorem qdW:Xx fd ω=seqI lY:=rfl
theorem qdQ:seqI J4=some ds:=rfl
theorem qdH:seqI (some El)=some ds:=rfl
theorem qhV:iRg1 fa ω=rg1I JH:=rfl
theorem qhI:iRg2 fa ω=rg2I JH:=rfl
theorem ql3(h:-(2^62)<=a/\a<2^62)(h':-(2^62)<=b/\b<2^62):rg2I (some [cY,gG])=some (upTo a (b-a).toNat):=vC ⟨h,h'⟩
theorem qfv{M fr}:XY M fr fi fg ft fd ω=compR M fr (fi ω) fg ft fd ω:=rfl
theorem WQ{M fr}(h:Je):compR M fr Gh fg ft fd ω=(X0 fg ft fd ds (inW M fr ω)).map R.fr:=vC h
theorem qhH:W0 fd ω=(fd ω).bind oNeg:=rfl
theorem e_ng:oNeg cY=↥(.int (-a)):=rfl
theorem qbd:Ws [fK]=↥Dk:=rfl
theorem qb1:Ws [El]=↥Dk:=rfl
theorem qbw{ns}:Ws [mM]=↥aaE:=rfl
theorem qdF:oEq false cY gG=↥(.bl Qv):=rfl
theorem qfq:oEq true cY gG=↥(.bl (! Qv)):=rfl
theorem qb4:zA5 cY gG=↥(.int (a-b)):=rfl
theorem qeV:oLt cY gG=↥(.bl (decide (a<b))):=rfl
theorem qeX:oGt cY gG=↥(.bl (decide (b<a))):=rfl
theorem qft:oGe cY gG=↥(.bl (decide (b<=a))):=rfl
theorem qbn:Xz cY gG=↥(.int (a+b)):=rfl
theorem qbO:oIs true (.bl p) (.bl q)=↥(.bl (!(p==q))):=rfl
theorem qhy:oIx fK cY=(atI ds a).map R.sh:=rfl
theorem qhe:oIx El cY=(atI ds a).map R.sh:=rfl
theorem qhL{ns:aa}:oIx mM cY=(atI ns a).map λn=>.sh bI:=rfl
theorem q0z{α:Type}{xs:bN}{i:Int}(h0:0<=i)(h1:i<xs.length):atI xs i=some (xs[i.toNat]'∅):=by
 unfold atI ixN;rw[vC h0,U3];show xs[i.toNat]?=_;rw[zD ∅]
theorem at0{α:Type}{x:α}{xs:bN}:atI NO 0=some x:=by
 rw[q0z (by decide) (by rw[zM];omega)];rfl
theorem at1{α:Type}{x y:α}{xs:bN}:atI (x::y::xs) 1=some y:=by
 rw[q0z (by decide) (by rw[zM,zM];omega)];rfl
theorem at2{α:Type}{x y z:α}{xs:bN}:atI (x::y::z::xs) 2=some z:=by
 rw[q0z (by decide) (by rw[zM,zM,zM];omega)];rfl
theorem qiJ{i j:Int}(h0:0<j)(h1:j<1073741824):cDiv i j=true:=by unfold cDiv;rw[vO h0,vO h1];rfl
theorem qjj{i j:Int}(h0:0<j):cMod i j=true:=by unfold cMod;rw[vO h0]
theorem qgL{i j:Int}(h0:-(2^64)<j)(h1:j<2^64):zBy i j=true:=by unfold zBy;rw[vO h0,vO h1];simp
theorem qfZ{i j:Int}(h0:-(2^64)<i)(h1:i<2^64):zBy i j=true:=by unfold zBy;rw[vO h0,vO h1];simp
theorem q1j(h:0<b):oMod cY gG=↥(.int (a%b)):=vC (qjj h)
theorem qby(h:0<b)(h':b<1073741824):oDiv cY gG=↥(.int (a/b)):=vC (qiJ h h')
theorem q6S(h:-(2^64)<b)(h':b<2^64):zBP cY gG=↥(.int (a*b)):=vC (qgL h h')
theorem qgB(h:-(2^64)<a)(h':a<2^64):zBP cY gG=↥(.int (a*b)):=vC (qfZ h h')
end
def zAm(o:Ls)(P:pP):Prop:=match o with
 | some (.nx,ω)=>P ω
 | some (.ct,ω)=>P ω
 | _=>False
theorem q7C{ω:WSt}{P:pP}:zAm (some Dp) P=P ω:=rfl
theorem qP{α:Type}{g:FG}{b:FS}(F:α->D)(xs:bN)(I:List α->WSt->Prop)(turn:∀pre x post ω,xs=pre++x::post->I pre ω->∃w,g (F x) ω=some w/\zAm (b w) (I (pre++[x]))){ω:WSt}(h0:I [] ω):∃ω',zAd g b (xs.map F) ω=some Kn/\I xs ω':=by
 have key:∀(post pre:bN)(ω:WSt),xs=pre++post->I pre ω->∃ω',zAd g b (post.map F) ω=some Kn/\I xs ω':=by
  intro post
  induction post with
  | nil=>intro pre ω e h;exact⟨ω,rfl,by rw[e,zo];exact h⟩
  | cons d post ih=>
   intro pre ω e h;obtain⟨w,h1,h2⟩:=turn pre d post ω e h;rw[zO,zAd,h1,yf]
   match hb:b w,h2 with
   | some (.nx,ω2),h2=>exact ih (pre++[d]) ω2 (by rw[e,yB];rfl) h2
   | some (.ct,ω2),h2=>exact ih (pre++[d]) ω2 (by rw[e,yB];rfl) h2
 exact key xs [] ω rfl h0
theorem qep{g:FG}{b:FS}(lo:Int)(n:Nat)(I:Nat->WSt->Prop)(turn:∀i ω,i<n->I i ω->∃w,g (.int (lo+i)) ω=some w/\zAm (b w) (I (i+1))){ω:WSt}(h0:I 0 ω):∃ω',zAd g b (Hk.upTo lo n) ω=some Kn/\I n ω':=by
 unfold Hk.upTo;obtain⟨ω',e,h⟩:=qP (g:=g) (b:=b) (λ(i:Nat)=>D.int (lo+mX)) Ij (λpre ω=>I pre.length ω) (λpre x post ω e h=>by
  have hx:x=pre.length:=by
   have:=vm (λl=>l[pre.length]?) e;rw[zc cL,wf]at this;rcases yH pre.length n with z|z
   ·rw[yq z]at this;simpa using this.symm
   ·rw[yA (by rw[zk];exact z)]at this;cases this
  have hlt:pre.length<n:=by
   have:=vm yh e;rw[zk,zE,zM]at this;omega
  subst hx;obtain⟨w,h1,h2⟩:=turn pre.length ω hlt h;refine⟨w,h1,?_⟩;rw[zE];exact h2) h0
 rw[zk]at h;exact⟨ω',e,h⟩
theorem q8u{g:FG}{c:FT}{f:FD}(P:pP)(q:D->Bool)(F:D->D):∀(ds:aO){ω:WSt},P ω ->
  (∀d∈ds,∀ω,P ω->∃w,g d ω=some w/\P w/\c w=some (q d)/\(q d=true->f w=some (F d)))->X0 g c f ds ω=some ((ds.filter q).map F)
 | [],_,_,_=>rfl
 | d::ds,ω,h,t=>by
  obtain⟨w,h1,h2,h3,h4⟩:=t d zG ω h;have ih:=q8u P q F ds h2 VP;rw[X0,h1,yf,h3,yf];cases hq:q d with
  | true=>rw[jT,h4 hq,yf,ih,xz hq];rfl
  | false=>rw[vG (by decide),ih,wA (by rw[hq];decide)]
theorem q82{i:Nat}{f:FD}(F:D->D)(ds:aO){ω:WSt}(h:∀d∈ds,f mI=some (F d)):X0 Ud XQ f ds ω=some (ds.map F):=by
 have:=q8u (g:=gN i) (c:=XQ) (f:=f) (λw=>∀x,w.set i x=ω.set i x) B6 F ds (ω:=ω) (λx=>rfl) λd hd w hw=>
  ⟨w.set i ↥d,rfl,λx=>by rw[List.set_set,hw],rfl,λ_=>by rw[hw];exact h d hd⟩
 rw[this,HF]
theorem qi2{ds:aO}{lo hi:fE}:oSl fK lo hi=some (.fr DX):=rfl
theorem qhJ{ns:aa}{lo hi:fE}:oSl mM lo hi=some Iz:=rfl
theorem q7B{xs ys:aO}(h:xs.length+ys.length<=1000000):Xz dJ pF=some (.fr Md):=vC h
theorem q9c(a:Int):∀(ns:aa),inD cY jn=decide (a∈ns)
 | []=>rfl
 | n::r=>by
  have ih:=q9c a r;unfold inD inV at ih ⊢;rw[zO,zO,xt,ih];have e:eqV (D.int n).v (D.int a).v=decide (a=n):=by
   show (n==a)=_
   by_cases h:a=n
   ·subst h;simp
   ·rw[vT h];simpa using λz=>h z.symm
  rw[e]
  by_cases h:a=n
  ·simp[h]
  ·by_cases h':a∈r <;> simp[h,h']
theorem q9B{d:D}(h:aac):eqD d d=true:=SeqAt.eqv_refl d.py (SeqAt.canLay_of_shaped h)
theorem q6m{d:D}(h:aac):oEq false d d=↥cZ:=by
 unfold oEq;rw[h];show some (R.sh (D.bl (eqD d d)))=_;rw[q9B h]
theorem q9U{d:D}(h:aac):oEq true d d=↥l5:=by
 unfold oEq;rw[h];show some (R.sh (D.bl (!eqD d d)))=_;rw[q9B h];rfl
theorem qbH{ds:aO}(n:Nat)(hn:n<64)(h:∀d∈ds,d.py.canLay0=true/\d.py.depth<=n):shp fK=true:=by
 unfold shp SeqAt.shaped;have:∀ds:List D,(∀d∈ds,d.py.canLay0=true/\d.py.depth<=n)->PyData.canLayAll0 pk=true/\PyData.depthAll pk<=n:=by
  intro ds
  induction ds with
  | nil=>intro _;exact⟨rfl,Bv⟩
  | cons d ds ih=>
   intro h;obtain⟨a,b⟩:=ih λe he=>h e JW;obtain⟨a',b'⟩:=h d zG;refine⟨?_,?_⟩
   ·rw[D.pys,PyData.canLayAll0,a,a'];rfl
   ·rw[D.pys,PyData.depthAll];exact Nat.max_le.mpr ⟨b',b⟩
 obtain⟨a,b⟩:=this ds h;show (PyData.canLayAll0 pk&&decide (PyData.depthAll pk+1<=64))=true;rw[a,vO ∅];rfl
noncomputable def zAi(x:Int):List Int->List Int
 | []=>[x]
 | y::r=>if x<y then x::y::r else if x=y then y::r else y::zAi x r
noncomputable def XF(ns:aa):List Int:=ns.foldr zAi []
theorem q6H{x y:Int}:∀{l:aa},y∈zAi x l↔y=x\/y∈l
 | []=>by simp[zAi]
 | z::r=>by
  unfold zAi
  split
  ·simp
  ·split
   ·rename_i h;subst h;simp
   ·simp only[zK,q6H (l:=r)]
    constructor
    ·rintro(h|h|h) <;> simp[h]
    ·rintro(h|h|h) <;> simp[h]
theorem q86{x:Int}:∀{l:aa},l.Pairwise (· < ·)->(zAi x l).Pairwise (· < ·)
 | [],_=>by simp[zAi]
 | z::r,h=>by
  obtain⟨h1,h2⟩:=zt.mp h;unfold zAi
  split
  ·rename_i hx
   refine zt.mpr ⟨HA,h⟩;rcases zK.mp hy with rfl|hy
   ·exact hx
   ·exact Int.lt_trans hx (h1 y hy)
  ·split
   ·exact h
   ·refine zt.mpr ⟨HA,q86 h2⟩
    rcases q6H.mp hy with rfl|hy
    ·omega
    ·exact h1 y hy
theorem qQ{y:Int}:∀{ns:aa},y∈XF ns↔y∈ns
 | []=>by simp[XF]
 | x::r=>by
  show y∈zAi x (XF r)↔_;rw[q6H,qQ (ns:=r),zK]
theorem qX:∀{ns:aa},(XF ns).Pairwise (· < ·)
 | []=>wC
 | x::r=>q86 (qX (ns:=r))
theorem qa7{x:Int}:∀(l:aa),(zAi x l).length<=l.length+1
 | []=>by simp[zAi]
 | z::r=>by
  have:=qa7 (x:=x) r;unfold zAi
  split
  ·simp
  ·split
   ·simp
   ·rw[zM,zM];omega
theorem q3R:∀(l:aa),(XF l).length<=l.length
 | []=>zQ _
 | x::r=>by
  have h1:=qa7 (x:=x) (XF r);have h2:=q3R r;show (zAi x (XF r)).length<=_;rw[zM];omega
theorem qcf:∀{l m:aa},l.Pairwise (· < ·)->m.Pairwise (· < ·)->(∀x,x∈l↔x∈m)->l=m
 | [],[],_,_,_=>rfl
 | [],y::r,_,_,h=>vM acL (by simp)
 | x::r,[],_,_,h=>vM ((h x).mp zG) (by simp)
 | x::r,y::q,hl,hm,h=>by
  obtain⟨a1,a2⟩:=zt.mp hl;obtain⟨b1,b2⟩:=zt.mp hm;have e:x=y:=by
   rcases zK.mp ((h x).mp zG)with e|e
   ·exact e
   ·rcases zK.mp acL with f|f
    ·exact f.symm
    ·have:=b1 x e;have:=a1 y f;omega
  subst e;rw[qcf a2 b2 λz=>?_]
  constructor
  ·intro hz
   rcases zK.mp ((h z).mp (zH _ hz))with f|f
   ·have:=a1 z hz;omega
   ·exact f
  ·intro hz
   rcases zK.mp ((h z).mpr (zH _ hz))with f|f
   ·have:=b1 z hz;omega
   ·exact f
theorem qaT{l:aa}(h:l.Pairwise (· <= ·))(n:l.Nodup):l.Pairwise (· < ·):=by
 induction l with
 | nil=>exact wC
 | cons x r ih=>
  obtain⟨h1,h2⟩:=zt.mp h;obtain⟨n1,n2⟩:=yZ.mp n;refine zt.mpr ⟨HA,ih h2 n2⟩;have:=h1 y hy;have:x≠y:=λe=>n1 (e▸hy);omega
def setP(w:vY)(S:vF)(ns:aa):vf->Prop:=λh=>zBa h S QA i9 ns.length
def rSet(w:vY):List V->Hp->VK->Prop:=λxs H Q=>∃p ns,xs=N8/\H p=some Dq/\ns.length+1<4096/\∀S,H S=none->Q gC (upd H S Se)
def fewS(ns:aa):Prop:=(XF ns).length<64/\ns.length<4000
noncomputable instance (ns:List Int):Decidable (fewS ns):=inferInstanceAs (Decidable (_/\_))
theorem qjO{ns:aa}(h:Rs):fewS ns:=⟨xx (q3R ns) h,∅⟩
def rSortS(w:vY):List V->Hp->VK->Prop:=λxs H Q=>∃S ns,xs=[gC]/\H S=some Se/\fewS ns/\∀l,H l=none->Q cU (upd H l (.lst Hh))
section
variable{X:Cx}
theorem qej{pins:ay}{σ:St}{H:Hp}{s:vH}(I:UC)(d:Drawn):L2.Inv X pins σ H { s with drawn:=d } :=
 ⟨I.ok,I.os,I.bare,I.base,I.loc,I.cell,I.free,I.freeC,I.pin,I.hok,I.len⟩
theorem qfW(hc:cI):X2 X nH (rSet X.w):=by
 intro pins s σ H xs us Q I r h;obtain⟨p,ns,rfl,hp,hz,q⟩:=h;obtain⟨u,rfl,rx⟩:=vals1 r;cases rx;obtain⟨its,n,rv,e,_⟩:=I.lst hp;have ia:=q1W rv;have hlen:its.length=ns.length:=by rw[<- rv.length,zB]
 refine qaK (items:=its.toArray) (ns:=ns) gB lx ⇑ia (by rw[zP,hlen];exact hz) λh' tk sv kp=>?_;have hsz:its.toArray.size=ns.length:=by rw[zP,hlen]
 rw[hsz]at sv;refine⟨aH,_,I.laid (t':=tk) (λb o e=>kp b o DP e) cL (show XH X.prog X.w _ h' _ (.ext (setP X.w s.heap.objs.size ns))from ⟨sv,?_,λh1 h2 a1 a2=>a1.at a2⟩),rfl,q _ lw⟩;obtain⟨_,⟨o,_,_,_,e,_⟩,_⟩:=sv;exact Hv
theorem qd4(hc:cI):X2 X jL (rSortS X.w):=by
 intro pins s σ H xs us Q I r h;obtain⟨S,ns,rfl,hp,hz,q⟩:=h;obtain⟨u,rfl,rx⟩:=vals1 r;cases rx;obtain⟨⟨zs,SI,hl,hm⟩,_⟩:=I.hok S _ hp;obtain⟨o,es,ep,t,go,gx,gd,T,gl,gb,gg,gv,gn⟩:=id SI;have mz:∀x,x∈zs↔x∈XF ns:=λx=>by
  rw[hm,qQ]
  constructor
  ·rintro⟨i,hi,rfl⟩
   dsimp only
   rw[zV,zD hi];exact zd hi
  ·intro hx
   obtain⟨i,hi,e⟩:=zw.mp hx;exact⟨i,hi,by dsimp only;rw[zV,zD hi];exact e⟩
 have zl:=((ym gn ((qX (ns:=ns)).imp λh=>∅)).mpr mz).length_eq;refine qd5 gB SI (by rw[zl];exact hz.1) λD h' tk d vs ys n kp hD hg ia pm pw=>?_;have ey:ys=XF ns:=qcf (qaT pw (pm.nodup_iff.mpr gn)) qX λx=>by rw[pm.mem_iff,mz]
 subst ey;have hvl:vs.length=(XF ns).length:=PyProof.Rows.IntsAre.length ia;have hsl:(XF ns).length<=sizeLine:=by
  have:=pm.length_eq;exact yL (show (XF ns).length<=64 from yb hz.1) (by decide)
 have I2:=qej (I.laid (a:=D) (o:=.lst Hh) (t':=tk) kp hD (show XH X.prog X.w _ h' _ (.lst _)from ⟨by rw[zB];exact hsl,vs,n,q2u ia,hg⟩)) d;exact⟨Iw,_,I2,rfl,q _ (I.hok.fresh hD)⟩
noncomputable def intsOf:List D->Option aa
 | []=>some []
 | .int i::r=>(intsOf r).map λl=>i::l
 | _=>none
theorem q1b:∀{ds:aO}{ns:aa},intsOf ds=some ns->ds=ns.map D.int
 | [],_,e=>by cases e;rfl
 | .int c::r,b,e=>by
  obtain⟨k,q,e⟩:=mpd e;subst e;rw[q1b q];rfl
 | .non::_,_,e=>by cases e
 | .bl _::_,_,e=>by cases e
 | .str _::_,_,e=>by cases e
 | .lst _::_,_,e=>by cases e
 | .tup _::_,_,e=>by cases e
 | .scr _::_,_,e=>by cases e
 | .exc _::_,_,e=>by cases e
 | .dic _ _::_,_,e=>by cases e
theorem q0N:∀(ns:aa),intsOf jn=some ns
 | []=>rfl
 | n::r=>by show (intsOf (r.map D.int)).map _=_;rw[q0N r];rfl
noncomputable def zAR:D->Option R
 | .lst ds=>(intsOf ds).bind λns=>if fewS ns then some (.fr ((XF ns).map D.int))else none
 | _=>none
noncomputable def W1(f:FD):FE:=λω=>(f ω).bind zAR
theorem qd6{a:vP}{f:FD}{p1 p2 q1 q2:Pos}(hg1:Iv)(hm1:nF)(hg2:Gl X "set")(hm2:X.mg "set" = none)(ha:eX)(hc:cI:=by rfl)(he1:jD:=by rfl)(hpl1:(vU q2 bQ).any (·.1)=false:=by rfl)(he2:vK [pT] X.env=(false,eval pT X.env)::vK [] X.env:=by rfl)(hpl2:(vU q1 bQ).any (·.1)=false:=by rfl):
  XE X (.Call (.Name "sorted" p1) [pT] [] q1) (W1 f):=by
 obtain⟨t,h1,h2⟩:=ha;refine⟨_,q3b (qd4 hc) hg1 hm1 q3K (qy (q81 (qfW hc) hg2 hm2 qjM (qy h1 qA he1) (by decide) (by decide) he1 hpl1) qA he2) (by decide) (by decide) he2 hpl2,dq⟩;obtain⟨d,q,e⟩:=bnd e;refine h2 G0 H0 G ω σ H d _ o q λv G1 H1 x1 y1=>?_;cases d with
 | lst ds=>
  obtain⟨ns,e1,e2⟩:=bnd (show (intsOf ds).bind _=some r from e);have hds:=q1b e1;subst hds
  by_cases hz:fewS ns
  ·rw[vC hz]at e2
   cases e2;obtain⟨p,vs,rfl,g1,g2⟩:=y1.lst x1.gh;have hv:=g2.of_ints;subst hv;refine⟨p,ns,rfl,g1,by have:=hz.2;omega,λS hS=>?_⟩;refine⟨S,ns,rfl,qg,hz,VM⟩;have x2:=Ext.hide x1.gh hS (.ext (setP X.w S ns));have x3:=Ext.hide x2.gh hl (.lst Hh);exact k _ G1 _ Cw ⟨l,_,rfl,(x1.trans x2).hh.free hl,x2.gh.free hl,qg,Qz⟩
  ·rw[vG hz]at e2;cases e2
 | _=>cases e
end
end Hk
namespace PySem.F
theorem noLenZip:uv Ou "__len__" = pure none:=by rw[uK,v3];kernel_rfl
theorem noHintZip:uv Ou "__length_hint__" = pure none:=by rw[uK,v3];kernel_rfl
end PySem.F
namespace Hk
open PySem PySem.Spec PyProof.Rows
section
variable{prog:vQ}{w:vY}{A:ve}{E:vB->vH->Prop}{s:vH}
abbrev zAE(h:vf)(z TI TO:vF)(f0 f1:vB):Prop:=h.get? z=some { cls:=.type "zip", dict:=none,data:=.fields #[f0,f1,.bool false,.ref TI,.ref TO],slots:=#[] }
theorem qfK{a:vF}{Q:Option Obj->vH->Prop}(h:Q (s.heap.get? a) s):vL am A (loadIfAlive a) Q E s:=λ_ _ _=>h
theorem qcq{z TI TO t:vF}{ot:Obj}{f1:vB}{Q:rP}(hz:AN)(ht:Fb)(k:∀h' f1',zAE h' z TI TO (uT t) f1'->xP z s.heap h'->Q false { s with heap:=h' }):vL am A (Builtin.SmallTypes.ownedTupleIsFree iR) Q E s:=by
 unfold Builtin.SmallTypes.ownedTupleIsFree;refine vA (uS hz rfl (x:=uT t) rfl ?_);show vL _ _ (loadIfAlive ((t:Int)).toNat >>= _) _ _ _;rw[yc];refine vA (qfK ?_);rw[ht];show vL _ _ (field iR 1 >>= _) _ _ _;refine vA (uS hz rfl (x:=f1) rfl ?_);refine vZ fN fN
 ·refine vA (uG hz (by simp) λh1 e1 sb=>vJ (k h1 m8 e1 sb))
 ·exact vJ (k s.heap f1 hz (YE z s.heap))
theorem qdE{z TI TO i1 i2 l1 l2 t:vF}{ot:Obj}{f1:vB}{k1 k2:Nat}{xs ys:fw}{x y:vB}{Q:iL}(D:jW)(hz:AN)(ht:Fb)(hTI:J0)(h1:NS)(h2:NR)(hl1:Va)(hl2:U9)(hx:xs[k1]?=some x)(hy:ys[k2]?=some y)(hQ:∀h' f1',zAE h' z TI TO (uT t) f1'->h'.IsListIter i1 l1 (k1+1)->h'.IsListIter i2 l2 (k2+1)->um h' s.heap.objs.size x y ->
   (∀c o,c≠z->c≠i1->c≠i2->s.heap.get? c=some o->h'.get? c=some o)->Q (some aH) { s with heap:=h' }) :
  vL am A U6 Q E s:=by
 have hT:s.TypeIs iR "zip" := NC;unfold uO;refine vA eK;show vL _ _ (field iR 2 >>= _) _ _ _;refine vA Hm;show vL _ _ (field iR 3 >>= _) _ _ _;refine vA JB;refine vA aaU;show vL _ _ (Builtin.SmallTypes.ownedTupleIsFree iR >>= _) _ _ _;refine vA IS;simp only[yF,if_false];have a1:=h1.extBut sb1.extBut D.i1z;have a2:=h2.extBut sb1.extBut D.i2z;have b1:=hl1.extBut sb1.extBut D.l1z;have b2:=hl2.extBut sb1.extBut D.l2z;rw[<- Z3];simp only[ZW,Yb];refine vA (vA IO);show vL _ _ (Builtin.SmallTypes.nextOf O3 >>= _) _ _ _;refine vA HG;refine vJ ?_;refine vA IO;show vL _ _ (Builtin.SmallTypes.nextOf O2 >>= _) _ _ _;refine vA (uo Iq KD hy λh₃ c2 sb3=>vJ ?_);refine vJ fP;show vL _ _ (newTuple [x,y] >>= _) _ _ _;refine vA (tf ?_);have hsz:h₃.objs.size=s.heap.objs.size:=by rw[sb3.1,sb2.1,sb1.1]
 refine vJ ⟨_,rfl,fP⟩
 dsimp only
 rw[hsz];refine hQ _ f1' ?_ ?_ ?_ ?_ ?_
 ·exact zJ _ (sb3.extBut _ _ D.i2z.symm (sb2.extBut _ _ D.i1z.symm hz1))
 ·exact(c1.extBut sb3.extBut D.i12).at λo e=>zJ _ e
 ·exact c2.at λo e=>zJ _ e
 ·have:=zX h₃ (o:={ cls:=.type "tuple", data:=.seq [x,y].toArray }) rfl
  rw[hsz]at this;exact this
 ·exact λc o n1 n2 n3 e=>zJ _ (sb3.extBut _ _ n3 DU)
theorem qgk{z TI TO i1 i2 l1 l2 t:vF}{ot:Obj}{f1:vB}{k1 k2:Nat}{xs ys:fw}{Q:iL}(hh:dE)(D:jW)(hz:AN)(ht:Fb)(hTI:J0)(h1:NS)(h2:NR)(hl1:Va)(hl2:U9)(hend:xs[k1]?=none\/ys[k2]?=none)(hQ:∀h',(∀c o,c≠z->c≠i1->c≠i2->s.heap.get? c=some o->h'.get? c=some o)->Q none { s with heap:=h' }):
  vL am A U6 Q E s:=by
 have hT:s.TypeIs iR "zip" := NC;unfold uO;refine vA eK;show vL _ _ (field iR 2 >>= _) _ _ _;refine vA Hm;show vL _ _ (field iR 3 >>= _) _ _ _;refine vA JB;refine vA aaU;show vL _ _ (Builtin.SmallTypes.ownedTupleIsFree iR >>= _) _ _ _;refine vA IS;simp only[yF,if_false];have a1:=h1.extBut sb1.extBut D.i1z;have a2:=h2.extBut sb1.extBut D.i2z;have b1:=hl1.extBut sb1.extBut D.l1z;have b2:=hl2.extBut sb1.extBut D.l2z;rw[<- Z3];simp only[ZW,Yb];refine vA (vA IO);show vL _ _ (Builtin.SmallTypes.nextOf O3 >>= _) _ _ _;cases hx:xs[k1]? with
 | none=>
  refine vA (tV hh a1 b1 hx λh₂ e sb2 he=>?_);obtain⟨o,ho,hc⟩:=he;refine vA (uR (T := "StopIteration") (b:=true) ⟨o,ho,hc⟩ tF ?_);exact vJ (hQ _ λc o n1 n2 n3 e=>sb2 _ _ n2 Eu)
 | some x=>
  have hy:ys[k2]?=none:=by rcases hend with h|h;rw[hx]at h;cases h;exact h
  refine vA HG;refine vJ ?_;refine vA IO;show vL _ _ (Builtin.SmallTypes.nextOf O2 >>= _) _ _ _;refine vA (tV hh Iq KD hy λh₃ e sb3 he=>?_);obtain⟨o,ho,hc⟩:=he;refine vA (uR (T := "StopIteration") (b:=true) ⟨o,ho,hc⟩ tF ?_);exact vJ (hQ _ λc o n1 n2 n3 e=>sb3 _ _ n3 DU)
structure ZSt (h0:vf) (S z TI TO i1 i2 l1 l2:vF) (xs ys:Array vB) (ts:List vF) (h:vf):Prop where
 zip:(ts=[]/\zAE h z TI TO .none (.bool false))\/∃t f1,t∈ts/\zAE h z TI TO (uT t) f1
 pTI:um h TI (.ref i1) (.ref i2)
 pTO:∃a b,um h TO a b
 it1:h.IsListIter i1 l1 ts.length
 it2:h.IsListIter i2 l2 ts.length
 hl1:h.IsList l1 xs
 hl2:h.IsList l2 ys
 tups:∀(j:Nat)t,ts[j]?=some t->∃x y,xs[j]?=some x/\ys[j]?=some y/\um h t x y
 old:∀t∈ts,t≠S/\t≠z/\t≠TO/\t≠i1/\t≠i2
 nd:ts.Nodup
 new:∀t∈ts,h0.objs.size<=t
 keep:∀b o,b≠S->h0.get? b=some o->h.get? b=some o
theorem qg5{h0:vf}{S z TI TO i1 i2 l1 l2:vF}{xs ys:fw}{ts:eA}{Q:iL}(D:jW)(hf:∀b∈[z,TO,i1,i2],h0.get? b=none)(hS:S∉sr)(Z:DF)(hSo:∃o,s.heap.get? S=some o)(hsz:Le)(hlt:ts.length<min xs.size ys.size)(k:∀h' t,ZSt h0 S z TI TO i1 i2 l1 l2 xs ys (ts++[t]) h'->(∀o,s.heap.get? S=some o->h'.get? S=some o)->s.heap.objs.size<=h'.objs.size->Q (some kw) { s with heap:=h' }):
  vL am A U6 Q E s:=by
 have hix:ts.length<xs.size:=yE hlt (ZX ..);have hiy:ts.length<ys.size:=yE hlt (YN ..);obtain⟨a,b,hTO⟩:=Z.pTO;obtain⟨oS,hoS⟩:=hSo;have gx:=yI hix;have gy:=yI hiy;simp only[zK,zq,or_false,not_or]at hS;have nz:∀b o,h0.get? b=some o->b≠z/\b≠TO/\b≠i1/\b≠i2:=λb o e=>
  ⟨λq=>(by have:=hf z (by simp);rw[q,this]at e;cases e),λq=>(by have:=hf TO (by simp);rw[q,this]at e;cases e),λq=>(by have:=hf i1 (by simp);rw[q,this]at e;cases e),λq=>(by have:=hf i2 (by simp);rw[q,this]at e;cases e)⟩
 have fin:∀(h':vf)(f1:vB)(u:vF),u∈ts++[s.heap.objs.size]->zAE h' z TI TO (uT u) f1->(∃a b,um h' TO a b)->h'.IsListIter i1 l1 (ts.length+1)->h'.IsListIter i2 l2 (ts.length+1)->um h' s.heap.objs.size xs[ts.length] ys[ts.length] ->
   (∀c o,c≠z->c≠TO->c≠i1->c≠i2->s.heap.get? c=some o->h'.get? c=some o)->Q (some aH) { s with heap:=h' }:=λh' f1 u hu g1 g2 g3 g4 g5 g6=>by
  refine k h' _ ⟨.inr ⟨u,f1,hu,g1⟩,g6 _ _ D.TIz D.TITO D.TIi1 D.TIi2 Z.pTI,g2,by rw[zE];exact g3,by rw[zE];exact g4,Z.hl1.at λo e=>g6 _ o D.l1z D.l1TO D.l1i1 D.l1i2 e,Z.hl2.at λo e=>g6 _ o D.l2z D.l2TO D.l2i1 D.l2i2 e,λj t ht=>?_,λt ht=>?_,?_,λt ht=>?_,λb o hb e=>?_⟩ (λo e=>?_) (yb (zU g5))
  ·rcases yH j ts.length with y|y
   ·rw[zg y]at ht
    obtain⟨p,q,r1,r2,r3⟩:=Z.tups j t ht;have ho:=Z.old t (yD ht);exact⟨p,q,r1,r2,g6 _ _ ho.2.1 ho.2.2.1 ho.2.2.2.1 ho.2.2.2.2 r3⟩
   ·rw[zc y]at ht
    have hj:j=ts.length:=by
     rcases yH (j-ts.length) 1 with c|c
     ·omega
     ·rw[yA ⇑c]at ht;cases ht
    subst hj;rw[wf]at ht;cases ht;exact⟨_,_,gx,gy,g5⟩
  ·rcases zL.mp ht with ht|ht
   ·exact Z.old t ht
   ·rw[zR.mp ht]
    have lt:∀{c o},s.heap.get? c=some o->s.heap.objs.size≠c:=λe=>xl DP;refine⟨lt hoS,?_,lt hTO,?_,?_⟩
    ·rcases Z.zip with⟨_,e⟩|⟨_,_,_,e⟩ <;> exact lt e
    ·obtain⟨_,e,_⟩:=Z.it1;exact lt e
    ·obtain⟨_,e,_⟩:=Z.it2;exact lt e
  ·refine yg.mpr ⟨Z.nd,by simp,λa ha b hb=>?_⟩
   rw[zR.mp hb];intro e;obtain⟨j,hj,ej⟩:=zw.mp ha;obtain⟨_,_,_,_,et⟩:=Z.tups j a (by rw[OI,ej]);exact vM (zU et) (by rw[e];exact xL _)
  ·rcases zL.mp ht with ht|ht
   ·exact Z.new t ht
   ·rw[zR.mp ht];exact hsz
  ·obtain⟨n1,n2,n3,n4⟩:=nz b o e
   exact g6 b o n1 n2 n3 n4 Jk
  ·exact g6 S o hS.1 hS.2.2.1 hS.2.2.2.1 hS.2.2.2.2.1 e
 rcases Z.zip with⟨_,hz⟩|⟨t,f1,ht,hz⟩
 ·exact tW D hz Z.pTI hTO Z.it1 Z.it2 Z.hl1 Z.hl2 gx gy λh' a1 a2 a3 a4 a5 a6 a7=>fin h' _ _ (by simp) a1 ⟨_,_,a2⟩ a3 a4 a5 a7
 ·obtain⟨j,hj,ej⟩:=zw.mp ht
  obtain⟨_,_,_,_,et⟩:=Z.tups j t (by rw[OI,ej]);refine qdE D hz et Z.pTI Z.it1 Z.it2 Z.hl1 Z.hl2 gx gy λh' f1' a1 a3 a4 a5 a7=>fin h' f1' t OE a1 ⟨a,b,?_⟩ a3 a4 a5 λc o n1 _ n3 n4 e=>a7 c o n1 n3 n4 e;exact a7 _ _ D.TOz D.TOi1 D.TOi2 hTO
theorem qj1{h0:vf}{S z TI TO i1 i2 l1 l2:vF}{xs ys:fw}{ts:eA}{Q:iL}(hh:dE)(D:jW)(Z:DF)(hlt:ts.length=min xs.size ys.size)(k:∀h',(∀c o,c≠z->c≠TO->c≠i1->c≠i2->s.heap.get? c=some o->h'.get? c=some o)->Q none { s with heap:=h' }):
  vL am A U6 Q E s:=by
 obtain⟨a,b,hTO⟩:=Z.pTO;have hend:xs[ts.length]?=none\/ys[ts.length]?=none:=by
  rcases YG xs.size ys.size with h|h
  ·left;exact yj ∅
  ·right;exact yj ∅
 rcases Z.zip with⟨_,hz⟩|⟨t,f1,ht,hz⟩
 ·exact tm hh D hz Z.pTI hTO Z.it1 Z.it2 Z.hl1 Z.hl2 hend λh' g=>k h' g
 ·obtain⟨j,hj,ej⟩:=zw.mp ht
  obtain⟨_,_,_,_,et⟩:=Z.tups j t (by rw[OI,ej]);exact qgk hh D hz et Z.pTI Z.it1 Z.it2 Z.hl1 Z.hl2 hend λh' g=>k h' λc o n1 _ n3 n4 e=>g c o n1 n3 n4 e
end
end Hk
namespace Hk
open PySem PySem.Spec PySem.W PyProof.Rows
section
variable{prog:vQ}{w:vY}{A:ve}{E:vB->vH->Prop}{R:tX->vH->Prop}{s:vH}
abbrev Wz(h:vf)(S:vF)(acc:fw)(c:Nat):Prop:=h.get? S=some { cls:=.type "list", dict:=none,data:=.seq acc c,slots:=#[] }
theorem q8A{h0 h h':vf}{S z TI TO i1 i2 l1 l2:vF}{xs ys:fw}{ts:eA}(hS:S∉sr)(Z:ZSt h0 S z TI TO i1 i2 l1 l2 xs ys ts h)(k:∀b o,b≠S->h.get? b=some o->h'.get? b=some o):
  ZSt h0 S z TI TO i1 i2 l1 l2 xs ys ts h':=by
 simp only[zK,zq,or_false,not_or]at hS;obtain⟨s1,s2,s3,s4,s5,s6,s7⟩:=hS;refine⟨?_,k _ _ (Ne.symm s2) Z.pTI,?_,Z.it1.at λo e=>k _ o (Ne.symm s4) e,Z.it2.at λo e=>k _ o (Ne.symm s5) e,Z.hl1.at λo e=>k _ o (Ne.symm s6) e,Z.hl2.at λo e=>k _ o (Ne.symm s7) e,λj t ht=>?_,Z.old,Z.nd,Z.new,λb o hb e=>k b o hb Jk⟩
 ·rcases Z.zip with⟨e1,e2⟩|⟨t,f1,e1,e2⟩
  ·exact .inl ⟨e1,SN⟩
  ·exact .inr ⟨t,f1,e1,SN⟩
 ·obtain⟨a,b,e⟩:=Z.pTO
  exact⟨a,b,k _ _ (Ne.symm s3) e⟩
 ·obtain⟨x,y,a1,a2,a3⟩:=Z.tups j t ht
  exact⟨x,y,a1,a2,k _ _ (Z.old t (yD ht)).1 a3⟩
theorem qgl{h0:vf}{S z TI TO i1 i2 l1 l2:vF}{xs ys:fw}{res:vB}(hh:dE)(D:jW)(hf:∀b∈[z,TO,i1,i2],h0.get? b=none)(hS:S∉sr)(hn:Ar)(g0:Array sC)(d0:Drawn)(o0)(hR:∀(h':vf)(tk:Nat)(ts:eA)(c:Nat),ts.length=min xs.size ys.size->ts.Nodup->(∀t∈ts,t≠S/\h0.objs.size<=t)->Wz h' S (ts.map Value.ref).toArray c->(∀b o,b≠S->h0.get? b=some o->h'.get? b=some o)->(∀(j:Nat)t,ts[j]?=some t->∃x y,xs[j]?=some x/\ys[j]?=some y/\um h' t x y)->R Dj ⟨h',g0,d0,tk,o0⟩):
  ∀(k:Nat)(h:vf)(tk:Nat)(ts:eA)(c:Nat),min xs.size ys.size-ts.length=k->ts.length<=min xs.size ys.size->ZSt h0 S z TI TO i1 i2 l1 l2 xs ys ts h->Wz h S (ts.map Value.ref).toArray c->h0.objs.size<=h.objs.size ->
   uU am A Br R ⟨h,g0,d0,tk,o0⟩:=by
 have hS':=hS;simp only[zK,zq,or_false,not_or]at hS';have nz:∀b o,h0.get? b=some o->b≠z/\b≠TO/\b≠i1/\b≠i2:=λb o e=>
  ⟨λq=>(by have:=hf z (by simp);rw[q,this]at e;cases e),λq=>(by have:=hf TO (by simp);rw[q,this]at e;cases e),λq=>(by have:=hf i1 (by simp);rw[q,this]at e;cases e),λq=>(by have:=hf i2 (by simp);rw[q,this]at e;cases e)⟩
 intro k
 induction k with
 | zero=>
  intro h tk ts c hk hi Z hl hsz;have hin:ts.length=min xs.size ys.size:=∅
  refine v7 PySem.F.entry_extend_loop ?_;rw[Cs];show vL _ A.in1 (uO iR >>= _) _ _ _;refine vA (qj1 (A:=A.in1) hh D Z hin λh' g=>?_);refine vJ (hR h' tk ts c hin Z.nd (λt ht=>⟨(Z.old t ht).1,Z.new t ht⟩) (g _ _ hS'.1 hS'.2.2.1 hS'.2.2.2.1 hS'.2.2.2.2.1 hl) JT λj t ht=>?_)
  ·obtain⟨n1,n2,n3,n4⟩:=nz b o e
   exact g b o n1 n2 n3 n4 Jk
  ·obtain⟨x,y,a1,a2,a3⟩:=Z.tups j t ht
   have ho:=Z.old t (yD ht);exact⟨x,y,a1,a2,g _ _ ho.2.1 ho.2.2.1 ho.2.2.2.1 ho.2.2.2.2 a3⟩
 | succ k ih=>
  intro h tk ts c hk hi Z hl hsz;have hlt:ts.length<min xs.size ys.size:=∅
  refine v7 PySem.F.entry_extend_loop ?_;rw[Cs];show vL _ A.in1 (uO iR >>= _) _ _ _;refine vA (qg5 (A:=A.in1) D hf hS Z ⟨_,hl⟩ hsz hlt λh' t Z' hk' hsz'=>?_);have hl':=hk' _ hl;show vL _ A.in1 (ui S (·.push kw) >>= _) _ _ _;refine vA ?_;have sz:(ts.map Value.ref).toArray.size=ts.length:=by simp
  have e:=get?_update_seq hl' (·.push (Value.ref t));have e2:(ts.map Value.ref).toArray.push kw=((ts++[t]).map Value.ref).toArray:=by simp
  rw[e2]at e;refine v9 hl' rfl (vJ ⟨gF,ih _ _ (ts++[t]) _ (by rw[zE,zi];omega) (by rw[zE,zi];omega) (q8A hS Z' λb o hb e=>?_) e (by rw[xW];exact yL hsz hsz')⟩)
   (by rw[sz];omega) (by show ((ts.map Value.ref).toArray.push kw).size<=sizeLine+1;rw[ZV,sz];omega)
  exact(zh _ _ fL).trans e
theorem qcU{h0:vf}{S z TI TO i1 i2 l1 l2:vF}{xs ys:fw}{res:vB}{c₀:Nat}(hh:dE)(D:jW)(hf:∀b∈[z,TO,i1,i2],h0.get? b=none)(hS:S∉sr)(hn:Ar)(Z:ZSt h0 S z TI TO i1 i2 l1 l2 xs ys [] s.heap)(hl:Wz s.heap S #[] c₀)(hsz:Le)(hR:∀(h':vf)(tk:Nat)(ts:eA)(c:Nat),ts.length=min xs.size ys.size->ts.Nodup->(∀t∈ts,t≠S/\h0.objs.size<=t)->Wz h' S (ts.map Value.ref).toArray c->(∀b o,b≠S->h0.get? b=some o->h'.get? b=some o)->(∀(j:Nat)t,ts[j]?=some t->∃x y,xs[j]?=some x/\ys[j]?=some y/\um h' t x y)->R Dj { s with heap:=h',toks:=tk }):
  vL am A.in1 (Builtin.List.listExtendWith gC iR res)
   (λfin s'=>match fin with|.done f=>R Vy s'|.again c'=>c'.quiet=true/\uU am A c' R s') BH s:=by
 obtain⟨hp,g,d,tk,os⟩:=s;have hS':=hS;simp only[zK,zq,or_false,not_or]at hS';obtain⟨_,hz⟩|⟨t,_,ht,_⟩:=Z.zip
 rotate_left
 ·cases ht
 have hT:Shared.TypeIs ⟨hp,g,d,tk,os⟩ iR "zip" := NC;unfold Builtin.List.listExtendWith;refine vA (uc (T := "zip") hT ?_);have h1:Builtin.List.listSameRef gC iR=false:=by simp[Builtin.List.listSameRef,hS'.1]
 have h2:(Value.type "zip" == Value.type "list")=false:=by decide
 have h3:(Value.type "zip" == Value.type "tuple")=false:=by decide
 simp only[h1,h2,h3,wV,yF,if_false];refine vA (tP hz ?_);refine vA U1;unfold Builtin.List.listLengthHint;refine vA (uY hT PySem.F.noLenZip ?_);show vL _ A.in1 (specialOf (Value.ref z) Jn >>= _) _ _ _;refine vA (uY hT PySem.F.noHintZip ?_);refine vJ ?_;have key:∀(h:vf)(c₁:Nat),ZSt h0 S z TI TO i1 i2 l1 l2 xs ys [] h->Wz h S #[] c₁->h0.objs.size<=h.objs.size->uU am A Br R ⟨h,g,d,tk,os⟩ :=
  λh c₁ Z' hl' z'=>qgl hh D hf hS hn g d os (λh' tk' ts c a1 a2 a3 a4 a5 a6=>hR h' tk' ts c a1 a2 a3 a4 a5 a6) _ h tk [] c₁ rfl (yG _) Z' hl' z'
 refine vZ fN (λ_=>vJ ⟨gF,key _ c₀ Z hl hsz⟩);refine vA U5;refine vA ?_;show vL _ _ (ui S (·.push .none) >>= λ_=>ui S (·.pop)) _ _ _;refine vA (v9 hl rfl ?_);have hS₂:=y8 (Obj.mapSeq (·.push Value.none)) hl rfl;refine v9 (hz:=by seq_fits) hS₂ rfl ?_;have hS₃:=y8 (Obj.mapSeq (·.pop)) hS₂ rfl;refine vJ ⟨gF,key _ _ (q8A hS Z λb o hb e=>?_) hS₃ (by rw[xW,xW];exact hsz)⟩;exact(zh _ _ fL).trans ((zh _ _ fL).trans e)
theorem qgM{l1 l2:vF}{xs ys:fw}{Q:aS}{s0:vH}(hh:dE)(hl1:s0.heap.IsList l1 xs)(hl2:s0.heap.IsList l2 ys)(hn:Ar)(hz:IsZip s.heap Qk Qm Ql .none)(hp1:um s.heap Qm (.ref s0.heap.objs.size) (.ref Qn))(hp2:um s.heap Ql .none .none)(hi1:s.heap.IsListIter s0.heap.objs.size l1 0)(hi2:s.heap.IsListIter Qn l2 0)(hs:s.heap.objs.size=s0.heap.objs.size+5)(hk:∀c o,s0.heap.get? c=some o->s.heap.get? c=some o)(hQ:∀(h':vf)(tk:Nat)(S:vF)(ts:eA)(c:Nat),s0.heap.objs.size<=S->ts.length=min xs.size ys.size->ts.Nodup->(∀t∈ts,t≠S/\s0.heap.objs.size<=t)->Wz h' S (ts.map Value.ref).toArray c->(∀b o,s0.heap.get? b=some o->h'.get? b=some o) ->
   (∀(j:Nat)t,ts[j]?=some t->∃x y,xs[j]?=some x/\ys[j]?=some y/\um h' t x y)->Q gC { s with heap:=h',toks:=tk }) :
  vL am A (call Bp [.ref Qk]) Q E s:=by
 refine callType_codes (Q₁:=λobj s₁=>obj=.ref s.heap.objs.size/\s₁={ s with heap:=s.heap.push { cls:=.type "list", data:=.seq #[] } }) PySem.F.called_list LW PySem.F.entry_list_init
  (code_list_new _ cH) λobj s₁ h₁=>?_
 obtain⟨rfl,rfl⟩:=h₁;have hS:(s.heap.push { cls:=.type "list", data:=.seq #[] }).get? s.heap.objs.size=some { cls:=.type "list", data:=.seq #[] }:=zX _ rfl;refine Bc;generalize hn0:s0.heap.objs.size=n at *;have e1:l1<n:=by obtain⟨_,e,_⟩:=hl1;rw[<- hn0];exact zU e
 have e2:l2<n:=by obtain⟨_,e,_⟩:=hl2;rw[<- hn0];exact zU e
 generalize hS0:s.heap.objs.size=S at *;have D:uz (n+4) (n+2) (n+3) n (n+1) l1 l2:=by
  constructor <;> (intro q;simp only[vF]at *;omega)
 have hSn:S∉[n+4,n+2,n+3,n,n+1,l1,l2]:=by
  simp only[zK,zq,or_false,not_or];refine⟨?_,?_,?_,?_,?_,?_,?_⟩ <;> (intro q;simp only[vF]at *;omega)
 have hf:∀b∈[n+4,n+3,n,n+1],s0.heap.get? b=none:=λb hb=>by
  cases q:s0.heap.get? b with
  | none=>rfl
  | some o=>
   have:=zU q;rw[hn0]at this;simp only[zK,zq,or_false]at hb;simp only[vF]at *;omega
 show vL _ _ (do let old <- Builtin.List.listItems (.ref S);Builtin.List.listUpdate gC (λ_=>#[]);letGo old.toList.reverse;Builtin.List.listExtendWith gC (.ref (n+4)) .none) _ _ _;refine vA ?_;unfold Builtin.List.listItems;refine vA ab6;show vL _ _ (ui S (λ_=>#[]) >>= λ_=>letGo (#[]:Array vB).toList.reverse >>= λ_=>Builtin.List.listExtendWith gC (.ref (n+4)) .none) _ _ _;refine vA ab4;have hS₂:=get?_update_seq hS (λ_=>(#[]:Array vB));have oth:∀b o,b≠S->s.heap.get? b=some o->((s.heap.push { cls:=.type "list", data:=.seq #[] }).update S (Obj.mapSeq (λ_=>(#[]:Array vB)))).get? b=some o :=
  λb o hb e=>(zh _ _ fL).trans EL
 refine vA U4;have hSn':=hSn;simp only[zK,zq,or_false,not_or]at hSn';refine qcU (A:=A.in1) (h0:=s0.heap) hh D hf hSn hn ⟨.inl ⟨rfl,oth _ _ (Ne.symm hSn'.1) hz⟩,oth _ _ (Ne.symm hSn'.2.1) hp1,⟨_,_,oth _ _ (Ne.symm hSn'.2.2.1) hp2⟩,hi1.at λo e=>oth _ o (Ne.symm hSn'.2.2.2.1) e,hi2.at λo e=>oth _ o (Ne.symm hSn'.2.2.2.2.1) e,
  hl1.at λo e=>oth _ o (Ne.symm hSn'.2.2.2.2.2.1) (hk _ o e),hl2.at λo e=>oth _ o (Ne.symm hSn'.2.2.2.2.2.2) (hk _ o e),λj t ht=>(by simp at ht),λt ht=>(by simp at ht),xV,λt ht=>(by simp at ht),λb o hb e=>oth b o hb (hk b o e)⟩ hS₂ (by rw[xW,ye,hn0,hS0];simp only[vF]at *;omega) λh' tk ts c a1 a2 a3 a4 a5 a6=>?_
 rw[hn0]at a3;exact⟨rfl,hQ h' tk S ts c (by simp only[vF]at *;omega) a1 a2 a3 a4 (λb o e=>a5 b o (λq=>by
  have:=zU e;rw[hn0,q]at this;simp only[vF]at *;omega) e) a6⟩
end
end Hk
namespace Hk
open PySem L2
section
variable{X:Cx}{pins:List (vF×Obj)}{σ:St}{H H':Hp}{s:vH}
theorem qgh{h':vf}{t':Nat}(I:UC)(k:∀b u,s.heap.get? b=some u->h'.get? b=some u)(hs:Oc)(hn:∀b,H b=none->H' b≠none->s.heap.objs.size<=b)(new:∀b u,H b=none->H' b=some u->XH X.prog X.w H' h' b u):L2.Inv X pins σ H' { s with heap:=h',toks:=t' }:=by
 refine I.un ⟨λb o q _ _ _=>k b o q,λb o q _ _ _=>⟨o.slots,k b o q⟩,λb o q n _=>?_,λb o q _=>⟨o,k b o q⟩,λb xs q=>hs _ _ q,λb o u q=>hs _ _ q,λb ps q=>⟨#[],by rw[hs _ _ q];simp⟩⟩ λb u e=>?_
 ·cases e:H' b with
  | none=>rfl
  | some u=>exact vM (zU q) (Ya.mpr (hn b n (by rw[e];exact λz=>by cases z)))
 ·cases q:H b with
  | none=>exact new b u q e
  | some u'=>
   have:=hs _ _ q;rw[e]at this;cases this;exact(I.hok b u q).stay (λc v _ z=>k c v z) (λc z=>hs _ _ z) λc xs z=>hs _ _ z
noncomputable def zAo(H:Hp):List vF->List V->List V->Hp
 | t::ts,x::xs,y::ys=>upd (zAo H ts xs ys) t Ba
 | _,_,_=>H
theorem q3z{b:vF}:∀{ts:eA}{xs ys:bu},b∉ts->zAo H ts xs ys b=H b
 | [],_,_,_=>rfl
 | _::_,[],_,_=>rfl
 | _::_,_::_,[],_=>rfl
 | t::ts,x::xs,y::ys,h=>by
  rw[zK,not_or]at h;show upd _ t _ b=_;rw[qd h.1];exact q3z h.2
theorem q7w:∀{ts:eA}{xs ys:bu}{j:Nat}{t:vF}{x y:V},ts.Nodup->ts[j]?=some t->xs[j]?=some x->ys[j]?=some y->zAo H ts xs ys t=some Ba
 | [],_,_,_,_,_,_,_,h,_,_=>by simp at h
 | _::_,[],_,_,_,_,_,_,_,h,_=>by simp at h
 | _::_,_::_,[],_,_,_,_,_,_,_,h=>by simp at h
 | u::ts,a::xs,b::ys,0,t,x,y,n,h1,h2,h3=>by
  simp at h1 h2 h3;subst h1;subst h2;subst h3;exact qg
 | u::ts,a::xs,b::ys,j+1,t,x,y,n,h1,h2,h3=>by
  simp only[xF]at h1 h2 h3;obtain⟨n1,n2⟩:=yZ.mp n;show upd _ u _ t=_;rw[qd (λe=>n1 (by rw[<- e];exact yD h1))];exact q7w n2 h1 h2 h3
def rLZ:List V->Hp->VK->Prop:=λvs H2 Q=>∃p q xs ys,vs=[bK,.ref q]/\H2 p=some dJ/\H2 q=some pF /\
 ∀(S:vF)(ts:eA),H2 S=none->(∀t∈ts,H2 t=none/\t≠S)->ts.Nodup->ts.length=min xs.length ys.length->Q gC (upd (zAo H2 ts xs ys) S kh)
theorem q6u:∀{xs:bu}{us:bH},Y7 xs us->∀{j:Nat}{u:vB},us[j]?=some u->∃x,xs[j]?=some x/\RelV x u
 | _,_,.nil,j,u,h=>by simp at h
 | _,_,.cons r1 r2,0,u,h=>by simp at h;subst h;exact NA
 | _,_,.cons r1 r2,j+1,u,h=>by
  simp only[xF]at h ⊢;exact q6u r2 h
theorem q8p:∀(ts:eA),Y7 Mi V4
 | []=>.nil
 | t::r=>.cons rfl (q8p r)
theorem qd9{a b:vP}{t:TA}{p1 p2 q1 q2:Pos}(hg1:G7)(hm1:pD)(hg2:Ot)(hm2:CI)(ha:PA X pK t)(hc:cI)(he1:Mg)(hpl1:(vU q2 ab3).any (·.1)=false)(he2:Cc)(hpl2:(vU q1 bQ).any (·.1)=false):
  PE X QJ (tCB rLZ t):=by
 intro pins s σ H Q I h;refine vp (q0p I hg1 hm1 q0v ?_ (by decide) (by decide));refine PyProof.Rows.callWith_type1 ?_ he2 hpl2;rw[he2];show vL _ _ lL _ _ s;refine Calls.spliced_cons ?_;refine vp (q0p I hg2 hm2 qkm ?_ (by decide) (by decide));refine PyProof.Rows.callWith_type1 (thn BK λus s1 ⟨vs,H1,I1,r1,q1⟩=>?_) he1 hpl1
 ·obtain⟨p,q,xs,ys,rfl,hp,hq,k⟩:=q1
  obtain⟨u1,u2,rfl,e1,e2⟩:=vals2 r1;cases e1;cases e2;obtain⟨its1,n1,rv1,g1,z1⟩:=I1.lst hp;obtain⟨its2,n2,rv2,g2,z2⟩:=I1.lst hq;have il1:s1.heap.IsList p its1.toArray:=⟨_,g1,rfl,n1,rfl⟩;have il2:s1.heap.IsList q its2.toArray:=⟨_,g2,rfl,n2,rfl⟩;refine call_zip_2 il1 il2 λh' a1 a2 a3 a4 a5 a6 a7=>?_;refine Calls.spliced_nil ?_;have len1:its1.toArray.size=xs.length:=by rw[zP,rv1.length]
  have len2:its2.toArray.size=ys.length:=by rw[zP,rv2.length]
  refine qgM (s0:=s1) (I1.ok.hd hc) il1 il2 (by rw[len1];exact yL (ZX _ _) z1) a1 a2 a3 a4 a5 a6 a7 λh2 tk S ts c b1 b2 b3 b4 b5 b6 b7=>?_;rw[len1,len2]at b2;have fS:H1 S=none:=I1.hok.fresh b1;have ft:∀t∈ts,H1 t=none:=λt ht=>I1.hok.fresh (b4 t ht).2;have hsame:Y8 H1 K5:=λb u e=>by
   have nS:b≠S:=λz=>by rw[z,fS]at e;cases e
   have nt:b∉ts:=λz=>by rw[ft b z]at e;cases e
   rw[qd nS,q3z nt];exact e
  have tup:∀(j:Nat)t,ts[j]?=some t->∃x y,xs[j]?=some x/\ys[j]?=some y/\zAo H1 ts xs ys t=some Ba/\XH X.prog X.w K5 h2 t Ba:=λj t ht=>by
   obtain⟨x',y',c1,c2,c3⟩:=b7 j t ht;obtain⟨x,d1,d2⟩:=q6u rv1 (j:=j) (u:=x') ⇑c1;obtain⟨y,d3,d4⟩:=q6u rv2 (j:=j) (u:=y') ⇑c2;exact⟨x,y,d1,d3,q7w b3 ht d1 d3,⟨by show 2<=sizeLine;decide,[x',y'],.cons d2 (.cons d4 .nil),⟨_,c3,rfl,_,rfl⟩⟩⟩
  refine⟨gC,_,qgh (s:=s1) (t':=tk) I1 b6 hsame (λb n1 n2=>?_) (λb u n1 n2=>?_),rfl,k S ts fS (λt ht=>⟨ft t ht,(b4 t ht).1⟩) b3 b2⟩
  ·by_cases e:b=S
   ·rw[e];exact b1
   ·by_cases e':b∈ts
    ·exact(b4 b e').2
    ·rw[qd e,q3z e']at n2;exact vM n1 n2
  ·by_cases e:b=S
   ·subst e
    rw[qg]at n2;cases n2;refine⟨?_,V4,c,q8p ts,b5⟩;rw[zB,b2];exact yL (ZX _ _) z1
   ·by_cases e':b∈ts
    ·obtain⟨j,hj,ej⟩:=zw.mp e'
     obtain⟨x,y,_,_,m1,m2⟩:=tup j b (by rw[OI,ej]);rw[qd e,m1]at n2;cases n2;exact m2
    ·rw[qd e,q3z e',n1]at n2;cases n2
noncomputable def pairD(x y:D):D:=.tup [x,y]
noncomputable def WW:List D->Option R
 | [.lst xs,.lst ys]=>some (.fr (ZO pairD xs ys))
 | _=>none
theorem q5i{K:zC}{G:Hp}:∀{ds:aO}{ts:eA},ds.length=ts.length->(∀(j:Nat)d t,ds[j]?=some d->ts[j]?=some t->Rep K G d kw)->Y2 K G ds Mi
 | [],[],_,_=>rfl
 | [],_::_,h,_=>by simp at h
 | _::_,[],h,_=>by simp at h
 | d::ds,t::ts,h,f=>⟨kw,_,rfl,f 0 d t rfl rfl,q5i ⇑h λj e u h1 h2=>f (j+1) e u ⇑h1 ⇑h2⟩
theorem qdm{K:zC}:WS K rLZ WW:=by
 intro G H ds vs d Q s e hv k
 match ds,e with
 | [.lst xs,.lst ys],e=>
  cases e;obtain⟨v,u,rfl,h,h'⟩:=hv.two;obtain⟨p,us,rfl,h1,h2⟩:=h.lst s;obtain⟨q,ws,rfl,h3,h4⟩:=h'.lst s;refine⟨p,q,us,ws,rfl,h1,h3,λS ts hS ht nd hl=>?_⟩
  let G':Hp:=λb=>if b∈ts then zAo H ts us ws b else G b
  have hout:∀b,b∉ts->G' b=G b:=λb z=>vG z;have hin:∀b,b∈ts->G' b=zAo H ts us ws b:=λb z=>vC z;have gg:Y8 G G':=λb o z=>by
   have n:b∉ts:=λy=>by rw[s.free (ht b y).1]at z;cases z
   rw[hout b n];exact z
  have hh:Y8 H AO:=λb o z=>by
   have nS:b≠S:=λy=>by rw[y,hS]at z;cases z
   have n:b∉ts:=λy=>by rw[(ht b y).1]at z;cases z
   rw[qd nS,q3z n];exact z
  have gh:Y8 G' AO:=λb o z=>by
   by_cases y:b∈ts
   ·rw[hin b y]at z
    rw[qd (ht b y).2];exact z
   ·rw[Ub]at z
    exact hh b o (s _ _ z)
  have x:Ext G H G' AO:=⟨gg,gh,hh,λb z1 z2=>by
   have n:b∉ts:=λy=>z2 (ht b y).1;rw[hout b n];exact z1⟩
  have nS:S∉ts:=λy=>(ht S y).2 rfl;refine k _ G' _ x ⟨S,_,rfl,hS,by rw[hout S nS];exact s.free hS,qg,q5i ?_ λj d t e1 e2=>?_⟩
  ·rw[List.length_zipWith,hl,h2.len,h4.len]
  ·rw[List.getElem?_zipWith]at e1
   cases q1:xs[j]? with
   | none=>rw[q1]at e1;cases e1
   | some a=>
    cases q2:ys[j]? with
    | none=>rw[q1,q2]at e1;cases e1
    | some b=>
     rw[q1,q2]at e1;cases e1;obtain⟨va,y1,y2⟩:=h2.get q1;obtain⟨vb,y3,y4⟩:=h4.get q2;refine⟨t,[va,vb],rfl,?_,Y2.cons (y2.mono gg) (Y2.cons (y4.mono gg) Y2.nil)⟩;rw[hin t (yD e2)];exact q7w nd e2 y1 y3
theorem qdd{a b:vP}{g:FA}{p1 p2 q1 q2:Pos}(hg1:G7)(hm1:pD)(hg2:Ot)(hm2:CI)(ha:XVA X pK g)(hc:cI:=by rfl)(he1:Mg:=by rfl)(hpl1:(vU q2 ab3).any (·.1)=false:=by rfl)(he2:Cc:=by rfl)(hpl2:(vU q1 bQ).any (·.1)=false:=by rfl):
  XE X QJ (Xi WW g):=by
 obtain⟨t,h1,h2⟩:=ha;exact⟨_,qd9 hg1 hm1 hg2 hm2 h1 hc he1 hpl1 he2 hpl2,q5S qdm h2⟩
end
noncomputable def zAG:List Int->Int
 | []=>0
 | [x]=>x
 | x::y::r=>if x<=zAG (y::r)then zAG (y::r)else x
noncomputable def WC:List Int->Int
 | []=>0
 | [x]=>x
 | x::y::r=>if WC (y::r)<=x then WC (y::r)else x
theorem q1F:∀{ns:aa},ns≠[]->zAG ns∈ns/\∀a∈ns,a<=zAG ns
 | [x],_=>⟨by simp[zAG],λa h=>by simp at h;subst h;exact yd _⟩
 | x::y::r,_=>by
  obtain⟨h1,h2⟩:=q1F (ns:=y::r) (by simp);unfold zAG
  split
  ·rename_i h
   refine abL;rcases zK.mp ha with rfl|ha
   ·exact h
   ·exact h2 a ha
  ·rename_i h
   refine⟨zG,Aj⟩;rcases zK.mp ha with rfl|ha
   ·exact yd _
   ·have:=h2 a ha;omega
theorem q0U:∀{ns:aa},ns≠[]->WC ns∈ns/\∀a∈ns,WC ns<=a
 | [x],_=>⟨by simp[WC],λa h=>by simp at h;subst h;exact yd _⟩
 | x::y::r,_=>by
  obtain⟨h1,h2⟩:=q0U (ns:=y::r) (by simp);unfold WC
  split
  ·rename_i h
   refine abL;rcases zK.mp ha with rfl|ha
   ·exact h
   ·exact h2 a ha
  ·rename_i h
   refine⟨zG,Aj⟩;rcases zK.mp ha with rfl|ha
   ·exact yd _
   ·have:=h2 a ha;omega
def rMax:List V->Hp->VK->Prop:=λxs H Q=>∃(p:vF) (ns:aa),xs=N8/\H p=some Dq/\ns≠[]/\Q LD H
def rMin:List V->Hp->VK->Prop:=λxs H Q=>∃(p:vF) (ns:aa),xs=N8/\H p=some Dq/\ns≠[]/\Q M8 H
section
variable{X:Cx}
open PyProof.Rows PySem.Spec in
theorem qev(hc:cI):X2 X aaI rMax:=by
 intro pins s σ H xs us Q I r h;obtain⟨p,ns,rfl,hp,hne,q⟩:=h;obtain⟨u,rfl,rx⟩:=vals1 r;cases rx;obtain⟨its,n,rv,e,hz⟩:=I.lst hp;have hi:=q1W rv;obtain⟨ys,ey⟩:=hi.allInts.items;have hns:ns=ys.toList.map (·.1):=by rw[<- hi.numsOf,<- nums_intItems,<- ey]
 have hl:s.heap.IsList p its.toArray:=lx;rw[ey]at hl;have hsz:0<ys.size:=by
  have h3:=we.mpr hne;rw[hns,zB,zW]at h3;exact h3
 refine max_intList gB hl hsz λv h' tk hv hk=>?_;obtain⟨t,rfl⟩:=intItems_at hv;obtain⟨h1,h2⟩:=argBest_gt (numAt ys) Ku;have em:numAt ys (uC (λi j=>decide (numAt ys i>numAt ys j)) Ku)=zAG ns:=by
  obtain⟨m1,m2⟩:=q1F hne;apply YS
  ·apply m2
   rw[hns,sV];exact getD_mem (by rw[zB,zW];omega)
  ·rw[hns]at m1
   obtain⟨j,hj,ej⟩:=mem_getD m1;rw[zB,zW]at hj;rw[<- hns]at ej;rw[<- ej,hns,<- sV];exact h2 j ∅
 rw[em];exact FY
open PyProof.Rows PySem.Spec in
theorem q8c(hc:cI):X2 X Ko rMin:=by
 intro pins s σ H xs us Q I r h;obtain⟨p,ns,rfl,hp,hne,q⟩:=h;obtain⟨u,rfl,rx⟩:=vals1 r;cases rx;obtain⟨its,n,rv,e,hz⟩:=I.lst hp;have hi:=q1W rv;obtain⟨ys,ey⟩:=hi.allInts.items;have hns:ns=ys.toList.map (·.1):=by rw[<- hi.numsOf,<- nums_intItems,<- ey]
 have hl:s.heap.IsList p its.toArray:=lx;rw[ey]at hl;have hsz:0<ys.size:=by
  have h3:=we.mpr hne;rw[hns,zB,zW]at h3;exact h3
 refine min_intList gB hl hsz λv h' tk hv hk=>?_;obtain⟨t,rfl⟩:=intItems_at hv;obtain⟨h1,h2⟩:=argBest_lt (numAt ys) Ku;have em:numAt ys (uC (λi j=>decide (numAt ys i<numAt ys j)) Ku)=WC ns:=by
  obtain⟨m1,m2⟩:=q0U hne;apply YS
  ·rw[hns]at m1
   obtain⟨j,hj,ej⟩:=mem_getD m1;rw[zB,zW]at hj;rw[<- hns]at ej;rw[<- ej,hns,<- sV];exact h2 j ∅
  ·apply m2
   rw[hns,sV];exact getD_mem (by rw[zB,zW];omega)
 rw[em];exact FY
noncomputable def bMax:List D->Option R
 | [.lst ds]=>(intsOf ds).bind λns=>if ns=[]then none else ↥LD
 | _=>none
noncomputable def bMin:List D->Option R
 | [.lst ds]=>(intsOf ds).bind λns=>if ns=[]then none else ↥M8
 | _=>none
theorem qjK{K:zC}:WS K rMax bMax:=by
 intro G H ds vs d Q s e hv k
 match ds,e with
 | [.lst ds],e=>
  obtain⟨ns,e1,e2⟩:=bnd (show (intsOf ds).bind _=some d from e);have hds:=q1b e1;subst hds
  by_cases hz:ns=[]
  ·rw[vC hz]at e2;cases e2
  ·rw[vG hz]at e2
   cases e2;obtain⟨v,rfl,h⟩:=hv.one;obtain⟨p,us,rfl,h1,h2⟩:=h.lst s;exact⟨p,ns,rfl,by rw[h1,h2.of_ints],hz,kq⟩
theorem qeT{K:zC}:WS K rMin bMin:=by
 intro G H ds vs d Q s e hv k
 match ds,e with
 | [.lst ds],e=>
  obtain⟨ns,e1,e2⟩:=bnd (show (intsOf ds).bind _=some d from e);have hds:=q1b e1;subst hds
  by_cases hz:ns=[]
  ·rw[vC hz]at e2;cases e2
  ·rw[vG hz]at e2
   cases e2;obtain⟨v,rfl,h⟩:=hv.one;obtain⟨p,us,rfl,h1,h2⟩:=h.lst s;exact⟨p,ns,rfl,by rw[h1,h2.of_ints],hz,kq⟩
theorem qjR{ns:aa}(h:ns≠[]):bMax [.lst jn]=↥LD:=by
 show (intsOf jn).bind _=_;rw[q0N];exact vG h
theorem qeN{ns:aa}(h:ns≠[]):bMin [.lst jn]=↥M8:=by
 show (intsOf jn).bind _=_;rw[q0N];exact vG h
end
noncomputable def whD(c:FT)(b:FS):Nat->FS
 | 0=>λ_=>none
 | n+1=>λω=>(c ω).bind λk=>if k=true then (b ω).bind (λp=>match p.1 with
   | .nx=>whD c b n p.2
   | .ct=>whD c b n p.2
   | .bk=>some O5
   | .rt r=>some (.rt r,p.2))else some Dp
noncomputable def sWh(n:Nat)(c:FT)(b:FS):FS:=whD c b n
section
variable{X:Cx}{c:vP}{body:List vn}{fc:FT}{fb:FS}{pos:Pos}{n:Nat}
theorem qeY{K:zC}{t:TT}{u:TS}(h2:zAU K t fc)(h4:SimS K u fb):SimS K (zA7 t u) (sWh n fc fb):=by
 intro G0 H0 G ω σ H out ω' E o e k;refine⟨λm σ1 H1=>∃G1 ω1,Own K G0 H0 G1 ω1 σ1 H1/\Y8 G G1/\whD fc fb m ω1=some J8,⟨n,G,ω,o,ig,e⟩,λm σ1 H1 ⟨G1,ω1,o1,g1,e1⟩=>?_⟩;cases m with
 | zero=>cases e1
 | succ m=>
  obtain⟨b,q,e1⟩:=bnd e1;refine h2 G0 H0 G1 ω1 σ1 H1 b _ o1 q λG2 H2 x2=>?_;cases b with
  | false=>cases e1;exact k G2 σ1 H2 (o1.keep x2) (g1.trans x2.gg)
  | true=>
   rw[jT];rw[jT]at e1;obtain⟨⟨o3,ω3⟩,q3,e1⟩:=bnd e1;refine⟨λσ' H'=>∃G1 ω1,Own K G0 H0 G1 ω1 σ' H'/\Y8 G G1/\whD fc fb m ω1=some J8,λσ' H' z=>⟨m,ya m,z⟩,?_⟩;refine h4 G0 H0 G2 ω1 σ1 H2 o3 ω3 _ (o1.keep x2) q3 λG4 σ4 H4 o4 g4=>?_;have gg:=(g1.trans x2.gg).trans g4;cases o3 with
   | nx=>exact Sz
   | ct=>exact Sz
   | bk=>cases e1;exact k G4 σ4 H4 o4 gg
   | rt r=>cases e1;exact k G4 σ4 H4 o4 gg
theorem qgg(hp:kQ)(hc:XT X c fc)(hb:XSs X body fb):XS X P5 (sWh n fc fb):=by
 obtain⟨t,h1,h2⟩:=hc;obtain⟨u,h3,h4⟩:=hb;exact⟨_,qam hp h1 h3,qeY h2 h4⟩
end
section
variable{fc:FT}{fb:FS}
def stepW(I:pP)(μ:WSt->Nat)(m:Nat)(J:pP)(o:Ls):Prop:=match o with
 | some (.nx,w)=>I w/\μ w<m
 | some (.ct,w)=>I w/\μ w<m
 | some (.bk,w)=>J w
 | _=>False
theorem q9W(I:pP)(μ:WSt->Nat)(J:pP)(stop:∀ω,I ω->fc ω=some false->J ω)(turn:∀ω,I ω->∃k,fc ω=some k/\Fi):
  ∀(n:Nat)(ω:WSt),I ω->μ ω<n->∃ω',whD fc fb n ω=some Kn/\J ω'
 | 0,_,_,z=>vM z Tw
 | n+1,ω,h,z=>by
  obtain⟨k,e,t⟩:=turn ω h;show ∃ω',((fc ω).bind _)=_/\_;rw[e];cases k with
  | false=>exact⟨ω,rfl,stop ω h e⟩
  | true=>
   have t:=t rfl;rw[show ∀(f:Bool->Option dD),(some true).bind f=f true from λ_=>rfl,vC rfl];cases q:fb ω with
   | none=>rw[q]at t;exact t.elim
   | some p=>
    rw[q]at t;obtain⟨o,w⟩:=p;cases o with
    | nx=>exact q9W I μ J stop turn n w t.1 (by have:=t.2;omega)
    | ct=>exact q9W I μ J stop turn n w t.1 (by have:=t.2;omega)
    | bk=>exact⟨w,rfl,t⟩
    | rt r=>exact t.elim
theorem qkq{n:Nat}(I:pP)(μ:WSt->Nat)(J:pP)(stop:∀ω,I ω->fc ω=some false->J ω)(turn:∀ω,I ω->∃k,fc ω=some k/\Fi){ω:WSt}(h:I ω)(z:μ ω<n):∃ω',sWh n fc fb ω=some Kn/\J ω':=q9W I μ J stop turn n ω h z
end
section
variable{X:Cx}{pos:Pos}{o:vP}{apos cpos:Pos}{i:Nat}
end
noncomputable abbrev FM:=WSt->Option nG
def SimM(K:zC)(t:TE)(f:FM):Prop:=∀G0 H0 G ω σ H d ω'(Q:VK),Own K G0 H0 G ω σ H->f ω=some MD ->
 (∀v G' H',Own K G0 H0 G' ω' σ H'->Y8 G G'->Rep K G' d v->Q v H')->t σ H Q
def XM(X:Cx)(e:vP)(f:FM):Prop:=∃t,PE X e t/\SimM X.K t f
noncomputable def popD(k:Int)(i:Nat)(ω:WSt):Option nG:=match ω[i]? with
 | some (some (.ow ds))=>if -(2^63)<=k/\k<2^63 then (tN k ds.length).bind λn=>(ds[n]?).map λd=>(d,ω.set i K6)else none
 | _=>none
noncomputable def mPop(i:Nat)(fd:FD):FM:=λω=>(fd ω).bind λd=>match d with
 | .int k=>popD k i ω
 | _=>none
theorem Y2.erase{K:zC}{H:Hp}:∀{ds:aO}{vs:bu}(n:Nat),Y2 K H ds vs->Y2 K H Lf (vs.eraseIdx n)
 | [],_,_,h=>by cases (show _=_ from h);rfl
 | _::_,_,0,⟨v,r,h1,h2,h3⟩=>by rw[h1];exact h3
 | _::_,_,n+1,⟨v,r,h1,h2,h3⟩=>by rw[h1];exact⟨v,_,rfl,h2,Y2.erase n h3⟩
section
variable{X:Cx}{pos:Pos}{o e:vP}{apos cpos pos':Pos}{i:Nat}{fd:FD}{f:FM}
theorem qko(ho:jp)(he:Lm)(hbase:J2:=by rfl)(hfew:((vU cpos fY).all (λx=>!x.1)&&(v5 cpos kP).all iC
   && decide (([e]:List vP).length+([]:List uF).length+(if ([]:List uF).isEmpty then 0 else 1)<30))=true:=by rfl)
  (hline:ff=true:=by rfl) (hs:vK [e] X.env=bV::vK [] X.env:=by rfl) (hplain:(vU cpos bQ).any (·.1)=false:=by rfl) :
  XM X (.Call Nv [e] [] cpos) (mPop i fd):=by
 obtain⟨t,h1,h2⟩:=he;refine⟨_,q2o PySem.F.plainAttrs_list PySem.F.slot_list_pop PySem.F.type_list_pop qfS ho NU hbase hfew hline hs hplain,HD⟩;obtain⟨d0,q,e⟩:=bnd e;cases d0 with
 | int m=>
  have e:popD m i ω=some MD:=e;unfold popD at e
  split at e
  ·rename_i ds q2
   by_cases z:-(2^63)<=m/\m<2^63
   ·rw[fG]at e
    obtain⟨n,hn,e⟩:=bnd e;cases hd:ds[n]? with
    | none=>rw[hd]at e;cases e
    | some d1=>
     rw[hd]at e;cases e;obtain⟨l,vs,r1,r2,r3,r4,r5⟩:=ow.ow i ds q2;refine⟨cU,r1,.inl pZ,h2 G0 H0 G ω σ H _ _ ow q λv G1 H1 x1 y1=>?_⟩;cases (show v=.int m from y1);have o1:=ow.keep x1;obtain⟨y,hy,ry⟩:=r5.get hd;exact⟨l,vs,m,n,y,rfl,rfl,x1.hh _ _ r2,z.1,z.2,by rw[<- r5.len];exact hn,hy,k y G1 _ (o1.mut q2 r1 oY (x1.new l r3 (by rw[r2];exact λz=>by cases z)) r4 ((r5.mono x1.gg).erase n)) x1.gg (ry.mono x1.gg)⟩
   ·rw[fm]at e;cases e
  ·cases e
 | _=>cases e
noncomputable def zAK(i:Nat)(f:FM):FS:=λω=>(f ω).map λp=>kH
theorem qbx{x:Str}(hN:X.N.Nodup)(hi:X.N[i]?=some x)(hx:iI)(he:XM X e f)(hs:mP:=by rfl)(hf:be:=by first|exact .inl rfl|exact .inr rfl|assumption):
  XS X Fz (zAK i f):=by
 obtain⟨t,h1,h2⟩:=he;refine⟨_,SL,cz⟩;unfold zAK at e;cases q:f ω with
 | none=>rw[q]at e;cases e
 | some p=>
  obtain⟨d,ω1⟩:=p;rw[q]at e;cases e;exact h2 G0 H0 G ω σ H d ω1 _ o q λv G1 H1 o1 g1 r1=>k G1 _ H1 (o1.setSh r1) g1
end
section
variable{X:Cx}{a b c:vP}{pos:Pos}{fa fb fc:FD}{op op':sK}{p p':Int->Int->Bool}
end
noncomputable def zCH(x:Int):List Int->List Int
 | []=>[x]
 | y::r=>if x<=y then x::y::r else y::zCH x r
noncomputable def XB(ns:aa):List Int:=ns.foldr zCH []
theorem q5x{x:Int}:∀{l:aa},(zCH x l).Perm (x::l)
 | []=>.refl _
 | y::r=>by
  unfold zCH
  by_cases h:x<=y
  ·rw[vC h]
  ·rw[vG h];exact(q5x.cons y).trans (.swap x y r)
theorem qE:∀{l:aa},(XB l).Perm l
 | []=>.refl _
 | y::r=>q5x.trans ((qE (l:=r)).cons y)
theorem qbA{x:Int}:∀{l:aa},l.Pairwise (· <= ·)->(zCH x l).Pairwise (· <= ·)
 | [],_=>ZJ _ _
 | y::r,h=>by
  obtain⟨h1,h2⟩:=zt.mp h;unfold zCH
  by_cases z:x<=y
  ·rw[fG]
   refine zt.mpr ⟨Aj,h⟩;cases ha with
   | head=>exact z
   | tail _ ha=>exact ZP z (h1 a ha)
  ·rw[fm]
   refine zt.mpr ⟨Aj,qbA h2⟩;cases (q5x.mem_iff.mp ha:a∈x::r)with
   | head=>omega
   | tail _ ha=>exact h1 a ha
theorem q1h:∀{l:aa},(XB l).Pairwise (· <= ·)
 | []=>.nil
 | y::r=>qbA (q1h (l:=r))
theorem q1O:∀{l m:aa},l.Pairwise (· <= ·)->m.Pairwise (· <= ·)->l.Perm m->l=m
 | [],m,_,_,p=>(List.Perm.nil_eq p)
 | a::l,m,h,h',p=>by
  cases m with
  | nil=>exact vM p.length_eq (by simp)
  | cons b m=>
   obtain⟨h1,h2⟩:=zt.mp h;obtain⟨h3,h4⟩:=zt.mp h';have hab:a=b:=by
    have x1:a∈b::m:=p.mem_iff.mp (.head _);have x2:b∈a::l:=p.mem_iff.mpr (.head _);cases x1 with
    | head=>rfl
    | tail _ x1=>
     cases x2 with
     | head=>rfl
     | tail _ x2=>have:=h3 a x1;have:=h1 b x2;omega
   subst hab;rw[q1O h2 h4 p.cons_inv]
theorem q8H(l:aa):(XB l).length=l.length:=qE.length_eq
theorem qa9{l m:aa}:XB l=XB m↔l.Perm m :=
 ⟨λh=>qE.symm.trans (h▸qE),λh=>q1O q1h q1h ((qE.trans h).trans qE.symm)⟩
def rSortL:List V->Hp->VK->Prop:=λxs H Q=>∃p ns,xs=N8/\H p=some Dq/\ns.length<64/\∀l,H l=none->Q cU SG
noncomputable def zBl:D->Option R
 | .lst ds=>(intsOf ds).bind λns=>if ns.length<64 then some Nu else none
 | _=>none
noncomputable def Wp(f:FD):FE:=λω=>(f ω).bind zBl
section
variable{X:Cx}
theorem qcQ:X2 X jL rSortL:=by
 intro pins s σ H xs us Q I r h;obtain⟨p,ns,rfl,hp,hz,q⟩:=h;obtain⟨u,rfl,rx⟩:=vals1 r;cases rx;obtain⟨its,n,rv,e,_⟩:=I.lst hp;have hlen:its.length=ns.length:=by rw[<- rv.length,zB]
 refine PyProof.Rows.sorted_ints lx (q1W rv) ∅ λout ns' a1 a2 a3=>?_;obtain⟨m,hm⟩:=PyProof.Rows.sortedAll_at s.heap its out;have en:ns'=XB ns:=q1O a3 q1h Ug;subst en;have hsl:(XB ns).length<=sizeLine:=by rw[q8H];exact yL (yb hz) (by decide)
 have I2:=I.laid (a:=s.heap.objs.size+1) (o:=.lst oa) (t':=s.toks) (λb o e=>PyProof.Rows.sortedAll_old e) Qd
  (show XH X.prog X.w _ (PyProof.Rows.sortedAll s.heap its out) _ (.lst _)from ⟨by rw[zB];exact hsl,out.toList,m,q2u a1,by rw[xS];exact hm⟩)
 exact⟨O4,_,I2,rfl,q _ Fv⟩
theorem q64{a:vP}{f:FD}{p q:Pos}(hg:Iv)(hm:nF)(ha:eX)(he:jD:=by rfl)(hpl:(vU q bQ).any (·.1)=false:=by rfl):XE X (.Call Bs [a] [] q) (Wp f):=by
 obtain⟨t,h1,h2⟩:=ha;refine⟨_,q3b qcQ hg hm q3K (qy h1 qA he) (by decide) (by decide) he hpl,dq⟩;obtain⟨d,z,e⟩:=bnd e;refine h2 G0 H0 G ω σ H d _ o z λv G1 H1 x1 y1=>?_;cases d with
 | lst ds=>
  obtain⟨ns,e1,e2⟩:=bnd (show (intsOf ds).bind _=some r from e);have hds:=q1b e1;subst hds
  by_cases hz:ns.length<64
  ·rw[vC hz]at e2
   cases e2;obtain⟨p,vs,rfl,g1,g2⟩:=y1.lst x1.gh;have hv:=g2.of_ints;subst hv;refine⟨p,ns,rfl,g1,hz,VM⟩;have x2:=Ext.hide x1.gh hl (.lst oa);exact k _ G1 _ dY ⟨l,_,rfl,x1.hh.free hl,x1.gh.free hl,qg,Qz⟩
  ·rw[vG hz]at e2;cases e2
 | _=>cases e
end
end Hk
namespace Hk
open PySem PySem.Spec PyProof.Rows
theorem zBS:uv Kl "__len__" = pure none:=by rw[uK,v3];kernel_rfl
theorem zB6:uv Kl "__length_hint__" = pure (some (.builtin "list_reverseiterator.__length_hint__")):=by rw[uK,v3];kernel_rfl
section
variable{prog:vQ}{w:vY}{A:ve}{E:vB->vH->Prop}{s:vH}
theorem qgK{r:vF}{Q:rP}(hT:s.TypeIs (.ref r) "list_reverseiterator")(h:Q false s):vL am A Fw Q E s:=by
 unfold Builtin.List.listLengthHint;refine vA (uY hT zBS ?_);show vL _ A (specialOf (Value.ref r) Jn >>= _) _ _ _;refine vA (uY hT zB6 ?_);generalize hid:("list_reverseiterator.__length_hint__" : String)=id0
 wp_delta
 rw[show splitId id0=some ("list_reverseiterator", "__length_hint__")from by subst hid;decide +kernel];subst hid;refine vA (uR (T := "list_reverseiterator") (b:=true) hT (by rw[uk];kernel_rfl) ?_);refine vZ (λhab=>vM hab (by decide)) fN;refine vZ fN SC;refine vZ (λhab=>vM hab ⋯) fN;exact vJ h
theorem qcR{R:Rk}{S I l:vF}{items:fw}{res:vB}{c₀:Nat}(hh:dE)(hn:Gy)(hSI:S≠I)(hSl:S≠l)(hne:l≠I)(hit:s.heap.IsRevIter I l (Ka-1))(hl:Fc)(hS:Wz s.heap S #[] c₀)(hR:∀(h':vf)(tk:Nat)(c:Nat),(∀b o,b≠S->b≠I->s.heap.get? b=some o->h'.get? b=some o)->Wz h' S items.reverse c->R Dj { s with heap:=h',toks:=tk }):
  vL am A.in1 (Builtin.List.listExtendWith gC CK res)
   (λfin s'=>match fin with|.done f=>R Vy s'|.again c'=>c'.quiet=true/\uU am A c' R s') BH s:=by
 have W:=Walks.listRev (prog:=prog) (w:=w) (A:=A.in1) hh I l hne items;have hT:=hit.typeIs;have hSf:S∉[I,l]:=by simp[hSI,hSl]
 unfold Builtin.List.listExtendWith;refine vA (uc (T := "list_reverseiterator") hT ?_);rw[show Builtin.List.listSameRef gC CK=false by simp[Builtin.List.listSameRef,hSI],show (Value.type "list_reverseiterator" == Value.type "list")=false by decide,show (Value.type "list_reverseiterator" == Value.type "tuple")=false by decide];refine vZ (λhab=>vM hab (by decide)) fN;refine vA (wpAny_pyIter_revIter hit ?_);refine vA (vX (qgK hT ?_));refine vZ (λhab=>vM hab (by decide)) fN;have st:0<=items.size/\s.heap.IsRevIter I l (Ka-1-Ah)/\s.heap.IsList l items:=⟨Bv,by simpa using hit,hl⟩;refine vJ ⟨gF,tj W.toS hn S hSf res items.size 0 _ #[] c₀ rfl (yG _) st hS abv λs' acc' c' hm hS' hacc=>?_⟩;rw[Lu];have e:acc'=items.reverse:=by
  apply Array.ext_getElem?;intro j;rcases yH j items.size with z|z
  ·have hz:j<acc'.size:=by rw[hacc.1];exact z
   have q:acc'[j]?=some acc'[j]:=yI hz;rw[q,Array.getElem?_reverse z];exact(hacc.2 j _ q).symm
  ·rw[yj (by rw[hacc.1];exact z),yj (by rw[Array.size_reverse];exact z)]
 subst e;exact hR s'.heap s'.toks c' (λb o b1 b2 e=>hm.heap b o (by simp[b1,b2]) e) hS'
theorem qgm{l:vF}{items:fw}{Q:aS}(hh:dE)(hn:Gy)(hl:Fc)(hQ:∀(h':vf)(tk:Nat)(S:vF)(c:Nat),s.heap.objs.size<=S->(∀b o,s.heap.get? b=some o->h'.get? b=some o)->Wz h' S items.reverse c->Q gC { s with heap:=h',toks:=tk }):
  vL am A acp Q E { s with heap:=s.heap.push iJ }:=by
 have hll:l<s.heap.objs.size:=by obtain⟨_,e,_⟩:=hl;exact zU e
 have gI:(s.heap.push iJ).get? s.heap.objs.size=some iJ:=zX _ rfl;have k1:∀b o,s.heap.get? b=some o->(s.heap.push iJ).get? b=some o:=λb o e=>zJ _ e;generalize hI:s.heap.objs.size=I at *;generalize hp:s.heap.push iJ=h1 at *;have hI1:I<h1.objs.size:=zU gI;have hS:(h1.push { cls:=.type "list", data:=.seq #[] }).get? h1.objs.size=some { cls:=.type "list", data:=.seq #[] }:=zX _ rfl;refine callType_codes (s:={ s with heap:=h1 }) (Q₁:=λobj s₁=>obj=.ref h1.objs.size/\s₁={ s with heap:=h1.push { cls:=.type "list", data:=.seq #[] } }) PySem.F.called_list LW PySem.F.entry_list_init
  (code_list_new _ cH) λobj s₁ z=>?_
 obtain⟨rfl,rfl⟩:=z;refine Bc;generalize hS0:h1.objs.size=S at *;show vL _ _ (do let old <- Builtin.List.listItems (.ref S);Builtin.List.listUpdate gC (λ_=>#[]);letGo old.toList.reverse;Builtin.List.listExtendWith gC CK .none) _ _ _;apply vA;unfold Builtin.List.listItems;refine vA ab6;show vL _ _ (ui S (λ_=>#[]) >>= λ_=>letGo (#[]:Array vB).toList.reverse >>= λ_=>Builtin.List.listExtendWith gC CK .none) _ _ _;refine vA ab4;have hS2:=get?_update_seq hS (λ_=>(#[]:Array vB));have oth:∀b o,b≠S->h1.get? b=some o->((h1.push { cls:=.type "list", data:=.seq #[] }).update S (Obj.mapSeq (λ_=>(#[]:Array vB)))).get? b=some o :=
  λb o hb e=>(zh _ _ fL).trans EL
 refine vA U4;have n1:S≠I:=by simp only[vF]at *;omega
 have n2:S≠l:=by simp only[vF]at *;omega
 have n3:l≠I:=by simp only[vF]at *;omega
 refine qcR (A:=A.in1) (items:=items) (I:=I) (l:=l) hh hn n1 n2 n3 ⟨_,oth _ _ (Ne.symm n1) gI,rfl,rfl⟩ (hl.at λo e=>oth l o (Ne.symm n2) (k1 l o e)) hS2 λh' tk c kp e=>?_;refine⟨rfl,hQ h' tk S c (by simp only[vF]at *;omega) (λb o z=>?_) e⟩;have hb:b<I:=hI▸zU z;exact kp b o (by simp only[vF]at *;omega) (by simp only[vF]at *;omega) (oth b o (by simp only[vF]at *;omega) (k1 b o z))
end
open L2
def rLR:List V->Hp->VK->Prop:=λvs H Q=>∃p xs,vs=N8/\H p=some dJ/\∀S,H S=none->Q gC (upd H S VA)
section
variable{X:Cx}
theorem qdj{a:vP}{t:TA}{p1 p2 q1 q2:Pos}(hg1:G7)(hm1:pD)(hg2:Gl X "reversed")(hm2:X.mg "reversed" = none)(ha:PA X [a] t)(hc:cI)(he1:jD)(hpl1:(vU q2 bQ).any (·.1)=false)(he2:vK [nL] X.env=(false,eval nL X.env)::vK [] X.env)(hpl2:(vU q1 bQ).any (·.1)=false):
  PE X (.Call pS [nL] [] q1) (tCB rLR t):=by
 intro pins s σ H Q I h;refine vp (q0p I hg1 hm1 q0v ?_ (by decide) (by decide));refine PyProof.Rows.callWith_type1 ?_ he2 hpl2;rw[he2];show vL _ _ lL _ _ s;refine Calls.spliced_cons ?_;refine vp (q0p I hg2 hm2 PyProof.Rows.boot_reversed ?_ (by decide) (by decide));refine PyProof.Rows.callWith_type1 (thn BK λus s1 ⟨vs,H1,I1,r1,z1⟩=>?_) he1 hpl1;obtain⟨p,xs,rfl,hp,k⟩:=z1;obtain⟨u,rfl,e1⟩:=vals1 r1;cases e1;obtain⟨its,n,rv,g1,sz⟩:=I1.lst hp;have il:s1.heap.IsList p its.toArray:=⟨_,g1,rfl,n,rfl⟩;refine call_reversed_list il (Calls.spliced_nil ?_);refine qgm (I1.ok.hd hc) (by rw[zP,<- rv.length];exact sz) il λh2 tk S c b1 b2 b3=>?_;refine⟨gC,_,I1.laid (t':=tk) b2 b1 (show XH X.prog X.w _ h2 S VA from ⟨by rw[xJ];exact sz,its.reverse,c,rv.reverse,by rw[b3];simp⟩),rfl,k S (I1.hok.fresh b1)⟩
end
end Hk
namespace L2
open PySem PySem.Spec PyProof.Rows
theorem Inv.turnedL{X:Cx}{pins:ay}{σ:List ss}{H:Hp}{s:vH}{h':vf}{t':Nat}{fp:eA}(I:aj)(k:∀b o,b∉fp->s.heap.get? b=some o->h'.get? b=some o)(hf:∀b∈fp,WA X pins H b):
  Inv X pins σ H { s with heap:=h',toks:=t' }:=by
 have nit:∀b u,H b=some u->b∉fp:=λb u e z=>by have:=(hf b z).1;rw[e]at this;cases this
 refine I.step (g':=s.gens) (d':=s.drawn) (ch:=fp) lR (λb o _ _ hc e _=>k b o hc e) (λb o _ _ hc e _=>⟨o.slots,k b o hc e⟩) VR
  (λb o hc e=>⟨o,k b o hc e⟩) (λ_ _ e=>e) abR (λb ps e=>⟨#[],by rw[e];simp⟩) K1 (λb u e=>?_) I.bare
 ·obtain⟨f0,f1,f2,f3,f4,f5⟩:=hf b hb
  exact aaP
 ·obtain⟨o,es,ep,ho,r⟩:=hm
  exact⟨o,es,ep,k _ o (λz=>(hf _ z).2.1 rfl) ho,r⟩
 ·refine(I.hok b u e).stay NG L9 λ_ _ q=>q
  rcases hc with z|z
  ·rw[z];exact nit b u e
  ·exact nit c _ z
noncomputable def Itz(K:zC)(a b:vF):It :=
 ⟨λi H=>∃xs ys x y,SqL K H a xs/\SqL K H b ys/\xs[i]?=some x/\ys[i]?=some y,
  λi H x H'=>∃t x1 y1,H t=none/\x=.ref t/\H'=upd H t acB/\∀xs ys,SqL K H a xs->SqL K H b ys->xs[i]?=some x1/\ys[i]?=some y1,
  λi H=>∃xs ys,SqL K H a xs/\SqL K H b ys/\(xs[i]?=none\/ys[i]?=none)⟩
theorem qgp{P:vQ}{w:vY}{K:zC}{elts:jc}{kx}{tpos:Pos}(a b z TI TO i1 i2:vF)(D:uz z TI TO i1 i2 a b):
  Turn P w K ki R3 [z,TI,TO,i1,i2] z (λi h=>IsZip h z TI TO .none/\um h TI O3 O2/\(∃x y,um h TO x y)/\h.IsListIter i1 a i/\h.IsListIter i2 b i) where
 mem:=by simp
 obj:=λi h st c hc=>by
  obtain⟨s1,s2,⟨_,_,s3⟩,⟨o4,e4,c4,d4⟩,⟨o5,e5,c5,d5⟩⟩:=st;simp only[zK,zq,or_false]at hc;rcases hc with rfl|rfl|rfl|rfl|rfl
  ·exact⟨_,s1,λv y=>by cases (show Data.fields _=Data.cell v from y)⟩
  ·exact⟨_,s2,λv y=>by cases (show Data.seq _ _=Data.cell v from y)⟩
  ·exact⟨_,s3,λv y=>by cases (show Data.seq _ _=Data.cell v from y)⟩
  ·exact⟨_,e4,λv y=>by rw[d4]at y;cases y⟩
  ·exact⟨_,e5,λv y=>by rw[d5]at y;cases y⟩
 keep:=λi h h' st k=>by
  obtain⟨s1,s2,⟨x,y,s3⟩,s4,s5⟩:=st;exact⟨k _ (by simp) _ s1,k _ (by simp) _ s2,⟨x,y,k _ (by simp) _ s3⟩,s4.at λo e=>k _ (by simp) o e,s5.at λo e=>k _ (by simp) o e⟩
 item:=by
  intro X hP hw hK hc i pins s σ H E I hf st hg;subst hP hw hK;obtain⟨xs,ys,x,y,hq1,hq2,hx,hy⟩:=hg;obtain⟨its1,rv1,p1,hz1⟩:=I.list hq1;obtain⟨its2,rv2,p2,hz2⟩:=I.list hq2;obtain⟨u1,hu1,ru1⟩:=rv1.get hx;obtain⟨u2,hu2,ru2⟩:=rv2.get hy;obtain⟨s1,s2,⟨_,_,s3⟩,s4,s5⟩:=st;have ex:∀c∈[z,TI,TO,i1,i2],∃o,s.heap.get? c=some o:=λc hc=>by
   simp only[zK,zq,or_false]at hc;rcases hc with rfl|rfl|rfl|rfl|rfl
   ·exact⟨_,s1⟩
   ·exact⟨_,s2⟩
   ·exact⟨_,s3⟩
   ·obtain⟨o,e,_⟩:=s4;exact Hv
   ·obtain⟨o,e,_⟩:=s5;exact Hv
  have nt:∀c∈[z,TI,TO,i1,i2],c≠s.heap.objs.size:=λc hc=>by
   obtain⟨o,e⟩:=ex c hc;exact zx DP
  refine tW D s1 s2 s3 s4 s5 p1.isList p2.isList (x:=u1) (y:=u2) (by simpa using hu1) (by simpa using hu2) λh' a1 a2 a3 a4 a5 a6 hk=>?_;have hn:H s.heap.objs.size=none:=I.hok.fresh cL;have I1:Inv X pins σ ju { s with heap:=s.heap.push { cls:=.type "tuple", data:=.seq #[u1,u2] },toks:=s.toks } :=
   I.laid UV cL (show XH X.prog X.w _ _ _ Ba from ⟨by show 2<=sizeLine;decide,[u1,u2],.cons ru1 (.cons ru2 .nil),FX⟩)
  have hf':∀c∈[z,TI,TO,i1,i2],WA X pins ju c:=λc hc=>by
   obtain⟨f0,f⟩:=hf c hc;exact⟨by rw[qd (nt c hc)];exact f0,f⟩
  have I2:Inv X pins σ ju { s with heap:=h',toks:=s.toks }:=I1.turnedL (λb o hb e=>by
   simp only[zK,zq,or_false,not_or]at hb
   by_cases q:b=s.heap.objs.size
   ·subst q
    rw[jt]at e;cases e;exact a5
   ·have e':s.heap.get? b=some o:=by
     rcases yH b s.heap.objs.size with l|l
     ·obtain⟨z1,z2⟩:=xy.mp e
      refine xy.mpr ⟨?_,z2⟩;rw[<- z1];show s.heap.objs[b]?=(s.heap.objs.push _)[b]?;rw[Zo,vG q]
     ·have:=zU e
      rw[ye]at this;exact vM (by simp only[vF]at *;omega) q
    exact hk b o hb.1 hb.2.2.1 hb.2.2.2.1 hb.2.2.2.2 e') hf'
  refine⟨_,rfl,wpAny_letOwnedTupleGo_zip a1 λh2 b1 sb=>?_⟩;have I3:Inv X pins σ ju { s with heap:=h2,toks:=s.toks }:=I2.turnedL (λb o hb e=>(sb.2 b (λq=>hb (by simp[q]))).trans e) hf';refine⟨aH,_,I3,rfl,⟨_,x,y,hn,rfl,rfl,λxs' ys' q1 q2=>⟨by rw[I.list_inj q1 hq1];exact hx,by rw[I.list_inj q2 hq2];exact hy⟩⟩,⟨b1,?_,⟨u1,u2,sb.extBut _ _ D.TOz a2⟩,a3.extBut sb.extBut D.i1z,a4.extBut sb.extBut D.i2z⟩,Tr⟩;exact sb.extBut _ _ D.TIz (hk _ _ D.TIz D.TITO D.TIi1 D.TIi2 s2)
 done:=by
  intro X hP hw hK hc i pins s σ H E I hf st hg;subst hP hw hK;obtain⟨xs,ys,hq1,hq2,hx⟩:=hg;obtain⟨its1,rv1,p1,hz1⟩:=I.list hq1;obtain⟨its2,rv2,p2,hz2⟩:=I.list hq2;obtain⟨s1,s2,⟨_,_,s3⟩,s4,s5⟩:=st;have l1:=rv1.length;have l2:=rv2.length;refine tm gB D s1 s2 s3 s4 s5 p1.isList p2.isList ?_ λh' hk=>Bd
  ·rcases hx with hx|hx
   ·exact .inl (by rw[xo]at hx;simp;omega)
   ·exact .inr (by rw[xo]at hx;simp;omega)
  ·simp only[zK,zq,or_false,not_or]at hb
   exact hk b o hb.1 hb.2.2.1 hb.2.2.2.1 hb.2.2.2.2 e
 self:=λ_ _ _ _ _ st h=>tP st.1 h
noncomputable def iZip(K:zC)(ta:TA):TI:=λσ H R=>ta σ H λvs H1=>∃a b xs ys,vs=[dF,Az]/\SqL K H1 a xs/\SqL K H1 b ys/\R R3 H1
theorem qk7{X:Cx}{a b:vP}{ta:TA}{p pos tpos:Pos}{elts:jc}{kx}(hg:Ot)(hm:CI)(ha:PA X pK ta)(hs:AW:=by rfl)(hs2:CB:=by rfl):
  PI X ki IB (iZip X.K ta):=by
 intro pins s σ H R I h;refine Call_ (q0p I hg hm PyProof.Rows.boot_zip (PyProof.Rows.callWith_type1 (thn fQ λus s1 ⟨vs,H1,I1,r1,q1⟩=>?_) (by rw[hs,hs2]) (by rw[hs2];rfl)));obtain⟨l1,l2,xs,ys,e,hq1,hq2,q⟩:=q1;subst e;cases r1 with
 | cons r rr=>
  cases rr with
  | cons r' rr=>
   cases rr;cases r;cases r';obtain⟨its1,rv1,p1,hz1⟩:=I1.list hq1;obtain⟨its2,rv2,p2,hz2⟩:=I1.list hq2;have e1:l1<s1.heap.objs.size:=by obtain⟨_,_,e,_⟩:=p1;exact zU e
   have e2:l2<s1.heap.objs.size:=by obtain⟨_,_,e,_⟩:=p2;exact zU e
   refine call_zip_2 p1.isList p2.isList λh' a1 a2 a3 a4 a5 a6 hk=>?_;refine tP a1 ?_;have D:uz Gm SK SJ s1.heap.objs.size AC l1 l2:=by
    generalize s1.heap.objs.size=n at *
    constructor <;> (intro q;simp only[vF]at *;omega)
   refine⟨Gm,[Gm,SK,SJ,s1.heap.objs.size,AC],_,_,H1,rfl,P3,qgp l1 l2 _ _ _ _ _ D,⟨a1,a2,⟨_,_,a3⟩,a4,a5⟩,λc hc=>?_,q⟩;have hle:s1.heap.objs.size<=c:=by
    simp only[zK,zq,or_false]at hc;simp only[vF]at *;omega
   have I2:=I1.kept (t':=s1.toks) hk;exact I1.fpOk hle UF
end L2
namespace Hk
open PySem L2
noncomputable def zAg:List D->List D->List D
 | a::as,b::bs=>.tup pK::zAg as bs
 | _,_=>[]
theorem q6V:∀(as bs:aO),(zAg as bs).length=min as.length bs.length
 | a::as,b::bs=>by show (zAg as bs).length+1=_;rw[q6V as bs,zM,zM];omega
 | [],bs=>by cases bs <;> simp[zAg]
 | a::as,[]=>by simp[zAg]
theorem q9t:∀(as bs:aO)(i:Nat)(d:D),(zAg as bs)[i]?=some d->∃a b,as[i]?=some a/\bs[i]?=some b/\d=.tup pK
 | a::as,b::bs,0,d,h=>by cases h;exact⟨a,b,rfl,rfl,rfl⟩
 | a::as,b::bs,i+1,d,h=>q9t as bs i d h
 | [],bs,i,d,h=>by cases bs <;> cases h
 | a::as,[],i,d,h=>by cases h
theorem qgs{K:zC}{G:Hp}{a b:vF}{ds es:aO}{vs us:bu}(h1:UH)(h2:rK)(h3:G b=some Hd)(h4:Kg):IterOf K R3 G (zAg ds es):=by
 have l1:=h2.len;have l2:=h4.len;refine⟨Ge,iP,λH s=>⟨vs,us,Lo,SqL.of Mk,?_⟩⟩
 ·rw[q6V]at hi
  exact⟨vs,us,vs[i]'∅,us[i]'∅,Lo,SqL.of Mk,zD _,zD _⟩
 ·obtain⟨t,x1,y1,ht,rfl,rfl,y⟩:=hy
  obtain⟨e1,e2⟩:=y vs us RU (SqL.of (s1 _ _ (s0 _ _ h3)));obtain⟨p,q,f1,f2,rfl⟩:=q9t ds es i d hd;obtain⟨v,q1,q2⟩:=h2.get f1;obtain⟨u,q3,q4⟩:=h4.get f2;rw[e1]at q1;cases q1;rw[e2]at q3;cases q3;have x2:=Ext.lay s1 ht acB;exact⟨_,x2,⟨t,_,rfl,qg,Y2.cons (q2.mono J5) (Y2.cons (q4.mono J5) Y2.nil)⟩⟩
 ·rw[q6V]
  rcases YG ds.length es.length with h|h
  ·exact .inl Tv
  ·exact .inr Tv
noncomputable def iZp(g:FA):FI:=λω=>(g ω).bind λds=>match ds with
 | [.lst a,.lst b]=>some (zAg a b)
 | _=>none
theorem q9T{X:Cx}{a b:vP}{g:FA}{p pos tpos:Pos}{elts:jc}{kx}(hg:Ot)(hm:CI)(ha:XA X pK g)(hs:AW:=by rfl)(hs2:CB:=by rfl):
  XI X ki IB (iZp g):=by
 obtain⟨⟨t,h1,h2⟩,_⟩:=ha;refine⟨_,qk7 hg hm h1 hs hs2,iE⟩;obtain⟨vs,q,e⟩:=bnd e;refine h2 G0 H0 G ω σ H vs _ o q λus G1 H1 x1 y1=>?_
 match vs,e with
 | [.lst as,.lst bs],e=>
  cases e;obtain⟨v1,r1,rfl,z1,z2⟩:=y1;obtain⟨v2,r2,rfl,z3,z4⟩:=z2;cases (show r2=[]from z4);obtain⟨a1,ws1,rfl,f1,f2⟩:=z1;obtain⟨a2,ws2,rfl,f3,f4⟩:=z3;exact⟨a1,a2,ws1,ws2,rfl,S8,SqL.of (x1.gh _ _ f3),k _ G1 H1 x1 (qgs f1 f2 f3 f4)⟩
noncomputable def zAW(lo:Int)(n:Nat):List Int:=(zY n).map λ(i:Nat)=>lo+mX
theorem q6C(lo:Int)(n:Nat):(zAW lo n).length=n:=by unfold zAW;rw[zB,zk]
theorem qcc:∀(vs:bu)(us:bH),vs.length=us.length->(∀(j:Nat)v u,vs[j]?=some v->us[j]?=some u->RelV v u)->Y7 vs us
 | [],[],_,_=>.nil
 | [],_::_,h,_=>by simp at h
 | _::_,[],h,_=>by simp at h
 | v::vs,u::us,h,f=>.cons (f 0 v u rfl rfl) (qcc vs us ⇑h λj a b e1 e2=>f (j+1) a b ⇑e1 ⇑e2)
def rLG(lo:List V->Option fW):List V->Hp->VK->Prop:=λvs H Q=>∃i j:Int,lo vs=some (i,j)/\(-(2^62)<=i/\i<2^62)/\(-(2^62)<=j/\j<2^62)/\(j-i).toNat<=1000000/\∀S,H S=none->Q gC (upd H S nA)
noncomputable def lo1:List V->Option fW
 | [.int j]=>some (0,j)
 | _=>none
section
open PySem.Spec PyProof.Rows
variable{X:Cx}
theorem qfG{pins:ay}{σ:L2.St}{H:Hp}{s:vH}{Q:VK}{E:aS}{lo hi:Int}{t u v:Tok}{tk:Nat}(I:aj)(hc:cI)(h1:-(2^62)<=lo/\lo<2^62)(h2:-(2^62)<=hi/\hi<2^62)(h3:(hi-lo).toNat<=1000000)(q:∀S,H S=none->Q gC (upd H S (.lst oU))):
  vL ai X.A acp cT E { s with heap:=s.heap.push { cls:=.type "range", data:=.fields #[BS,BT,Em] },toks:=tk }:=by
 refine call_list_range gB (IsRange.new ..) (small_one h1.1 h1.2 h2.1 h2.2) (n:=(hi-lo).toNat) (by rw[rangeSize_one];split <;> omega) ∅ λh' tk' acc c b1 b2 b3=>?_;have b1':∀b o,s.heap.get? b=some o->h'.get? b=some o:=λb o e=>b1 b o EL;have hle:s.heap.objs.size<=(s.heap.push { cls:=.type "range", data:=.fields #[BS,BT,Em] }).objs.size:=by rw[ye];omega
 have hv:Y7 oU acc.toList:=by
  refine qcc _ _ (by rw[zB,q6C,zW,b3.1]) λj x y e1 e2=>?_;obtain⟨t',rfl⟩:=b3.2 j y ⇑e2;have hj:j<(hi-lo).toNat:=by
   have:=(ze.mp e1).1;rw[zB,q6C]at this;exact this
  unfold zAW at e1;rw[zj,zZ,yq hj]at e1;cases e1;exact⟨t',by simp⟩
 refine⟨O4,_,I.laid (t':=tk') b1' hle (show XH X.prog X.w _ h' _ (.lst oU)from ⟨by rw[zB,q6C,vh];omega,acc.toList,c,hv,by rw[xS];exact b2⟩),rfl,q _ (I.hok.fresh hle)⟩
theorem qaZ{a:vP}{t:TA}{p1 p2 q1 q2:Pos}(hg1:G7)(hm1:pD)(hg2:BE)(hm2:lD)(ha:PA X [a] t)(hc:cI)(he1:jD)(hpl1:(vU q2 bQ).any (·.1)=false)(he2:Cd)(hpl2:(vU q1 bQ).any (·.1)=false):
  PE X QK (tCB (rLG lo1) t):=by
 intro pins s σ H Q I h;refine vp (q0p I hg1 hm1 q0v ?_ (by decide) (by decide));refine PyProof.Rows.callWith_type1 ?_ he2 hpl2;rw[he2];show vL _ _ lL _ _ s;refine Calls.spliced_cons ?_;refine vp (q0p I hg2 hm2 boot_range ?_ (by decide) (by decide));refine PyProof.Rows.callWith_type1 (thn BK λus s1 ⟨vs,H1,I1,r1,z1⟩=>?_) he1 hpl1;obtain⟨i,j,e,b1,b2,b3,k⟩:=z1
 match vs,e,r1 with
 | [.int j'],e,r1=>
  cases e;obtain⟨u,rfl,e1⟩:=vals1 r1;obtain⟨t',rfl⟩:=e1;exact call_range_1 (Calls.spliced_nil (qfG I1 hc b1 b2 b3 k))
end
noncomputable def zBF(i j:Int):Option R:=if ((-(2^62)<=i/\i<2^62)/\-(2^62)<=j/\j<2^62)/\(j-i).toNat<=1000000 then some (.fr ((zAW i (j-i).toNat).map D.int))else none
noncomputable def zAJ:List D->Option R
 | [.int j]=>zBF 0 j
 | _=>none
theorem qi5{K:zC}{G H:Hp}{i j:Int}{r:R}{Q:VK}(s:As)(e:zBF i j=some r)(k:∀v G' H',Ext G H G' H'->zBY K H G' H' r v->Q v H'):
  (-(2^62)<=i/\i<2^62)/\(-(2^62)<=j/\j<2^62)/\(j-i).toNat<=1000000/\∀S,H S=none->Q gC (upd H S nA):=by
 unfold zBF at e
 by_cases z:((-(2^62)<=i/\i<2^62)/\-(2^62)<=j/\j<2^62)/\(j-i).toNat<=1000000
 ·rw[fG]at e
  cases e;refine⟨z.1.1,z.1.2,z.2,λS hS=>?_⟩;have x2:=Ext.hide s hS nA;exact k _ G _ x2 ⟨S,_,rfl,hS,s.free hS,qg,Qz⟩
 ·rw[fm]at e;cases e
theorem qik{K:zC}:WS K (rLG lo1) zAJ:=by
 intro G H ds vs d Q s e hv k
 match ds,e with
 | [.int j],e=>
  obtain⟨v,rfl,h⟩:=hv.one;cases h.int;obtain⟨a1,a2,a3,a4⟩:=qi5 s e k;exact⟨0,j,rfl,a1,a2,a3,a4⟩
theorem q6d{X:Cx}{a:vP}{g:FA}{p1 p2 q1 q2:Pos}(hg1:G7)(hm1:pD)(hg2:BE)(hm2:lD)(ha:XVA X [a] g)(hc:cI:=by rfl)(he1:jD:=by rfl)(hpl1:(vU q2 bQ).any (·.1)=false:=by rfl)(he2:Cd:=by rfl)(hpl2:(vU q1 bQ).any (·.1)=false:=by rfl):
  XE X QK (Xi zAJ g):=by
 obtain⟨t,h1,h2⟩:=ha;exact⟨_,qaZ hg1 hm1 hg2 hm2 h1 hc he1 hpl1 he2 hpl2,q5S qik h2⟩
end Hk
namespace Hk
open PySem L2 PyProof.Rows
noncomputable def zBT(k:Int):List Int->Option Nat
 | []=>none
 | a::r=>if a=k then some 0 else (zBT k r).map (·+1)
theorem qct{k:Int}:∀{ns:aa}{its:bH},Y7 c9 its->PySem.W.kf_ints its=true/\Yj k its=zBT k ns
 | [],its,h=>by cases h;exact cH
 | a::r,its,h=>by
  cases h with
  | cons h1 h2=>
   obtain⟨t,rfl⟩:=h1;obtain⟨e1,e2⟩:=qct (k:=k) h2;refine⟨e1,?_⟩;unfold Yj zBT;rw[e2]
   by_cases z:a=k
   ·have:isInt k abk=true:=by simp[isInt,z]
    rw[this,fG];rfl
   ·have:isInt k abk=false:=by simp[isInt,z]
    rw[this,fm];cases zBT k r <;> rfl
section
variable{X:Cx}{pos:Pos}{o e:vP}{apos cpos:Pos}{i:Nat}{fd:FD}
theorem q8s{α β:Type}(f:SD):∀(l:bN)(j:Nat),(l.map f).eraseIdx j=(l.eraseIdx j).map f
 | [],_=>rfl
 | _::_,0=>rfl
 | a::l,j+1=>by simp[q8s f l j]
end
end Hk
namespace Hk
open PySem L2
section
variable{X:Cx}{o c:vP}{body:List vn}{pos ipos npos:Pos}{i j:Nat}{fc:FT}{fb:FS}
end
noncomputable def dropW(o:KM)(ω:WSt):Option dD:=o.map λ_=>Dp
noncomputable def zipI(o:kX):Option aO:=o.bind λds=>match ds with
 | [.lst a,.lst b]=>some (zAg a b)
 | _=>none
noncomputable def popW(i j:Nat)(ω:WSt)(o:eY)(l:kW):Option dD:=(o.bind λd=>match d with
 | .int k=>match l with
  | some (some (.ow ds))=>if -(2^63)<=k/\k<2^63 then (tN k ds.length).bind λn=>(ds[n]?).map λd=>(d,ω.set j K6)else none
  | _=>none
 | _=>none).map λp=>kH
noncomputable def sortR(o:eY):Option R:=o.bind zBl
section
variable{ω:WSt}{fe:FE}{fd:FD}{fa:FA}{r:R}{ds as bs:List D}{i j:Nat}{f:FS}{ft:FT}{m:List D->List D}
theorem qbL:zAn fe ω=dropW MB ω:=rfl
theorem e_wd:dropW (some r) ω=some Dp:=rfl
theorem qeB:iZp fa ω=zipI JH:=rfl
theorem e_wz:zipI (some [.lst as,.lst bs])=some (zAg as bs):=rfl
theorem qeL:zAK i (mPop j fd) ω=popW i j ω lY ω[j]?:=by
 unfold zAK mPop popD popW;cases fd ω with
 | none=>rfl
 | some d=>cases d <;> rfl
theorem qc7:Wp fd ω=sortR lY:=rfl
end
theorem q68{ns:aa}(h:Rs):sortR (some (.lst jn))=some Nu:=by
 show (intsOf jn).bind _=_;rw[q0N];exact vC h
theorem qcy{n:Int}(h:-(2^62)<=n/\n<=1000000):zAJ [bI]=some (.fr ((zAW 0 n.toNat).map D.int)):=by
 show zBF 0 n=_;unfold zBF;rw[vC ⟨⟨⟨by decide,by decide⟩,h.1,∅⟩,∅⟩,Int.sub_zero]
theorem qka{i j:Nat}{ω:WSt}{k:Int}{ds:aO}(h0:Tc)(h1:k<ds.length)(h2:Je):popW i j ω dO sn=some (.nx,(ω.set j (some (.ow (ds.eraseIdx k.toNat)))).set i ↥(ds[k.toNat]'∅)):=by
 have e1:tN k ds.length=some k.toNat:=by
  show (if (decide (0<=(if k<0 then k+DW else k))&&decide ((if k<0 then k+DW else k)<DW))=true then some (if k<0 then k+DW else k).toNat else none)=_;rw[vG (show ¬k<0 by omega)];exact vC (by simp;omega)
 show Yc _ (if -(2^63)<=k/\k<2^63 then _ else none)=_;rw[vC Ao,e1];show Yc _ ((ds[k.toNat]?).map _)=_;rw[zD (show k.toNat<ds.length by omega)];rfl
end Hk
namespace L2
open PySem PySem.Spec PyProof.Rows
section
variable{κ:Type}[DecidableEq κ]
noncomputable def Wi(kvs:iM)(k:κ):Option V:=(kvs.find? λkv=>decide Rv).map (·.2)
noncomputable def putK(kvs:iM)(k:κ)(v:V):List (κ×V) :=
 if kR=true then kvs.map (λkv=>if kv.1=k then (kv.1,v)else kv)else kvs++[(k,v)]
theorem q50{p:κ×V}{r:iM}{k:κ}(e:p.1=k):Wi (p::r) k=some p.2:=by simp[Wi,xb,e]
theorem q4I{p:κ×V}{r:iM}{k:κ}(e:¬p.1=k):Wi (p::r) k=Wi r k:=by simp[Wi,xb,e]
theorem q6n(k:κ):∀kvs:List (κ×V),kR=(Wi kvs k).isSome
 | []=>rfl
 | p::r=>by
  rw[xt]
  by_cases e:p.1=k
  ·simp only[q50 e,vO e,YH,Option.isSome_some]
  ·rw[q4I e,vT e,Zv];exact q6n k r
theorem q4a(kvs:iM)(k:κ)(v:V):(putK kvs k v).length<=kvs.length+1:=by
 unfold putK
 split
 ·rw[zB];omega
 ·rw[zE,zM,yy];omega
theorem qfE{kvs:iM}{k:κ}(v:V)(h:Wi kvs k=none):putK kvs k v=kvs++[(k,v)]:=by
 unfold putK;rw[q6n,h];exact vG (by decide)
theorem zAk.isSome_eq{o:ss}{u:BC}(r:zAk o u):o.isSome=u.isSome:=by
 cases o with
 | none=>cases u with
  | none=>rfl
  | some _=>exact(show False from r).elim
 | some _=>cases u with
  | none=>exact(show False from r).elim
  | some _=>rfl
theorem zAk.getD{o:ss}{u:BC}{d:V}{d':vB}(r:zAk o u)(rd:RelV d d'):RelV (o.getD d) (u.getD d'):=by
 cases o with
 | none=>cases u with
  | none=>exact rd
  | some _=>exact(show False from r).elim
 | some _=>cases u with
  | none=>exact(show False from r).elim
  | some _=>exact r
theorem KV.val{kvs:iM}{vs:ph}(r:BR)(k:κ):zAk MY (t5 vs k):=by
 unfold KV at r
 induction r with
 | nil=>exact True.intro
 | @cons p q ps qs h t ih=>
  obtain⟨h1,h2⟩:=h
  by_cases e:p.1=k
  ·have e':q.1=k:=h1.symm.trans e
   have b:t5 Vb k=some q.2:=by simp[t5,xb,e']
   rw[q50 e,b];exact h2
  ·have e':¬q.1=k:=λz=>e Jc
   have b:t5 Vb k=t5 qs k:=by simp[t5,xb,e']
   rw[q4I e,b];exact ih
theorem KV.any{kvs:iM}{vs:ph}(r:BR)(k:κ):kR=vs.any λkv=>decide Rv:=by
 unfold KV at r
 induction r with
 | nil=>rfl
 | cons h t ih=>rw[xt,xt,ih,h.1]
theorem KV.repl{kvs:iM}{vs:ph}(r:BR)(k:κ){y:V}{u:vB}(ry:rM):
  KV (kvs.map λkv=>if kv.1=k then (kv.1,y)else kv) (vs.map λkv=>if kv.1=k then (kv.1,u)else kv):=by
 unfold KV at r ⊢
 induction r with
 | nil=>exact .nil
 | @cons p q ps qs h t ih=>
  rw[zO,zO];refine .cons ?_ ih;obtain⟨h1,h2⟩:=h
  by_cases e:p.1=k
  ·rw[vC e,TD];exact⟨h1,ry⟩
  ·rw[vG e,vG (λz=>e Jc)];exact Tm
theorem KV.put{kvs:iM}{vs:ph}(r:BR)(k:κ){y:V}{u:vB}(ry:rM):KV acb (stored vs k u):=by
 unfold putK stored;rw[r.any k]
 by_cases e:(vs.any λkv=>decide Rv)=true
 ·rw[vC e,vC e];exact r.repl k ry
 ·rw[vG e,vG e];exact Paired.snoc r ⟨rfl,ry⟩
theorem KV.keys{kvs:iM}{vs:ph}(r:BR):kvs.map (·.1)=vs.map (·.1):=by
 unfold KV at r
 induction r with
 | nil=>rfl
 | cons h t ih=>rw[zO,zO,ih,h.1]
theorem KV.length{kvs:iM}{vs:ph}(r:BR):kvs.length=vs.length:=Paired.length r
end
theorem q4N{P:vQ}{w:vY}{k:Key}{u:vB}(r:RelV T9 u):(Y9 P w).is k u=true:=by
 cases k with
 | inl i=>obtain⟨t,e⟩:=(show ∃t,u=Value.int i t from r);subst e;exact qb0 P w i t
 | inr x=>obtain⟨t,e⟩:=(show ∃t,u=Value.str x t from r);subst e;exact qaF P w x t
theorem q7Z{P:vQ}{w:vY}:∀{ks:Oo}{us:bH},Y7 Rw us->ItemsAre pY ks us
 | [],_,r=>by rw[yS]at r;cases r;exact .nil
 | k::ks,_,r=>by
  rw[zO]at r;cases r with
  | cons h t=>exact .cons (q4N h) (q7Z t)
abbrev KT(H:Hp):List k8->List jd->Prop:=sJ λp q=>p.1=q.1/\H q.2.1=some Te/\RelV p.2 q.2.2
theorem KT.val{H:Hp}{kvs:ku}{xs:RZ}(r:LX)(k:Oo):zAk MY ((sN xs k).map (·.2)):=by
 induction r with
 | nil=>exact True.intro
 | @cons p q ps qs h t ih=>
  obtain⟨h1,_,h2⟩:=h
  by_cases e:p.1=k
  ·have e':q.1=k:=h1.symm.trans e
   have b:sN Vb k=some q.2:=by simp[sN,xb,e']
   rw[q50 e,b];exact h2
  ·have e':¬q.1=k:=λz=>e Jc
   have b:sN Vb k=sN qs k:=by simp[sN,xb,e']
   rw[q4I e,b];exact ih
theorem KT.repl{H:Hp}{kvs:ku}{xs:RZ}(r:LX)(k:Oo){y:V}{u:vB}(ry:rM):
  KT H (kvs.map λkv=>if kv.1=k then (kv.1,y)else kv) (xs.map (putAt k u)):=by
 induction r with
 | nil=>exact .nil
 | @cons p q ps qs h t ih=>
  rw[zO,zO];refine .cons ?_ ih;obtain⟨h1,h2,h3⟩:=h;unfold putAt
  by_cases e:p.1=k
  ·rw[vC e,TD];exact⟨h1,h2,ry⟩
  ·rw[vG e,vG (λz=>e Jc)];exact⟨h1,h2,h3⟩
theorem KT.put{H:Hp}{kvs:ku}{xs:RZ}(r:LX)(k:Oo){b:vF}{y:V}{u:vB}(hb:H b=some Jp)(ry:rM):
  KT H acb (storedH xs k b u):=by
 have e:kR=(sN xs k).isSome:=by
  rw[q6n,(r.val k).isSome_eq,YI]
 unfold putK storedH;rw[e]
 by_cases q:(sN xs k).isSome=true
 ·rw[vC q,vC q];exact r.repl k ry
 ·rw[vG q,vG q];exact Paired.snoc r ⟨rfl,hb,ry⟩
theorem KT.keeps{H H':Hp}{kvs:ku}{xs:RZ}(r:LX)(ht:∀b ys,H b=some abA->H' b=some abA):KT H' kvs xs :=
 Paired.mapP r λ_ _ z=>L4
section
variable{P:vQ}{w:vY}{H:Hp}{h:vf}{a:vF}
theorem qhc{u:HO}(ok:jz)(e:Rd H a u):XH P w H h a u:=e.ok ok
theorem q4T{kvs:fJ}(ok:jz)(e:Rd H a cV):kvs.length<=sizeLine/\Ck=false/\∃vs,KV kvs vs/\h.DictOf pY a vs :=
 show XH P w H h a cV from qhc ok e
theorem qcY{kvs:fJ}(ok:jz)(e:LZ):kvs.length<=sizeLine/\Ck=false/\∃vs,KV kvs vs/\h.DictOf pY a vs:=q4T ok UL
theorem q59{ks:Oo}(ok:jz)(e:H a=some (.tup Rw)):(tL pY).is h ks a:=by
 obtain⟨_,its,r,o,h1,h2,n,h3⟩:=(show XH P w H h a (.tup Rw)from ok a _ e);exact⟨o,its.toArray,n,h1,h2,h3,by simpa using q7Z r⟩
theorem q65{kvs:ku}(ok:jz)(e:Rd H a Bq):kvs.length<=sizeLine/\Ck=false /\
  ∃xs,KT H kvs xs/\h.DictOfH (tL pY) a xs:=by
 obtain⟨z,y,xs,r,o,es,ep,h1,h2,h3,h4,h5⟩:=(show XH P w H h a Bq from qhc ok e);refine⟨z,y,xs,r,o,es,ep,h1,h2,h3,h4,L8,h5⟩;have all:∀{l:ku}{m:RZ},KT H l m->∀x∈m,(tL pY).is h x.1 x.2.1:=by
  intro l m q
  induction q with
  | nil=>intro x hx;exact nomatch hx
  | @cons p q ps qs hq t ih=>
   intro x hx;rcases zK.mp hx with e|hx
   ·subst e
    exact q59 ok (by rw[<- hq.1];exact hq.2.1)
   ·exact ih x hx
 exact all r x hx
theorem ql4{kvs:ku}(ok:jz)(e:H a=some Bq):kvs.length<=sizeLine/\Ck=false /\
  ∃xs,KT H kvs xs/\h.DictOfH (tL pY) a xs:=q65 ok UL
end
def W9(H:Hp)(a:vF)(y:V)(r:ss):Prop :=
 (∃kvs k,Rd H a cV/\y=kV k/\r=Wi kvs k)\/∃kvs k b,Rd H a Bq/\y=.ref b/\H b=some Jp/\r=Wi kvs k
def zB5(H:Hp)(a:vF)(y v:V)(H':Hp):Prop :=
 (∃kvs k,H a=some cV/\y=kV k/\kvs.length<sizeLine/\H'=upd H a (.dK Mp)) \/
 ∃kvs k b,H a=some Bq/\y=.ref b/\H b=some Jp/\kvs.length<sizeLine/\H'=upd H a (.dT Mp)
theorem W9.k{H:Hp}{a:vF}{kvs:fJ}{k:Key}(e:LZ):W9 H a T9 MY:=.inl ⟨kvs,k,UL,rfl,rfl⟩
theorem zB5.k{H:Hp}{a:vF}{kvs:fJ}{k:Key}{v:V}(e:LZ)(hl:Vg):zB5 H a T9 v (upd H a (.dK Mp)):=.inl ⟨kvs,k,e,rfl,hl,rfl⟩
section
variable{X:Cx}{pins:List (vF×Obj)}{σ:St}{H:Hp}{s:vH}{a:vF}{y v:V}{u r:vB}{o:Option V}{A:ve}{E:vB->vH->Prop}
theorem Inv.big(I:aj):uJ<s.heap.objs.size:=by
 have h:vS<s.heap.objs.size:=(I.mod.glob.keeps I.bk).lt;exact YC (by decide) h
theorem qfD{Q:aS}(hu:Kk)(I:aj)(g:W9 H a y nE)(ry:rM)(h:∀w' s',Inv X pins σ H s'->RelV v w'->Q w' s'):
  vL ai A (u7 dF u) Q E s:=by
 rcases g with⟨kvs,k,e,ey,l⟩|⟨kvs,k,b,e,ey,eb,l⟩
 ·subst ey
  obtain⟨z,hd,vs,rel,dd⟩:=q4T I.hok e;obtain⟨w',hw,rw'⟩:=zAk.some_of (v:=v) (o:=t5 vs k) (by rw[l];exact rel.val k);exact wpAny_getItem_of Mm dd.mapOf hw (h w' _ jR rw')
 ·subst ey
  cases (show u=Value.ref b from ry);obtain⟨z,hd,xs,rel,dd⟩:=q65 I.hok e;obtain⟨w',hw,rw'⟩:=zAk.some_of (v:=v) (o:=(sN xs k).map (·.2)) (by rw[l];exact rel.val k);obtain⟨p,hp,hp2⟩:=wF.mp hw;refine wpAny_getItem_heap (ug hu) Gn dd hp ?_;rw[hp2];exact h w' _ jR rw'
theorem qjq{Q:aS}(hu:Kk)(I:aj)(g:abj)(ry:rM)(h:∀s',Inv X pins σ H s'->Q (.bool (!o.isSome)) s'):
  vL ai A (uM .NotIn u dF) Q E s:=by
 rcases g with⟨kvs,k,e,ey,l⟩|⟨kvs,k,b,e,ey,eb,l⟩
 ·subst ey
  obtain⟨z,hd,vs,rel,dd⟩:=q4T I.hok e;refine wpAny_notIn_of Mm hd dd.mapOf ?_;rw[<- (rel.val k).isSome_eq,<- l];exact h _ jR
 ·subst ey
  cases (show u=Value.ref b from ry);obtain⟨z,hd,xs,rel,dd⟩:=q65 I.hok e;refine wpAny_notIn_heap (ug hu) Gn hd dd ?_;have q:=(rel.val k).isSome_eq;rw[YI]at q;rw[<- q,<- l];exact h _ jR
theorem q62{h':vf}{t':Nat}{ob:HO}(I:aj)(mu:Mut (H a))(hs:xP a s.heap h')(he:∃q,h'.get? a=some q)(new:XH X.prog X.w (upd H a ob) h' a ob):
  Inv X pins σ (upd H a ob) { s with heap:=h',toks:=t' } :=
 I.write (x:=a) (e:=a) mu bD (λb q hb z=>(hs.2 b hb).trans z) he new
theorem q99{P:vQ}{w:vY}{H':Hp}{h':vf}{kvs:fJ}{vs:GX}(z:kvs.length<=sizeLine)(hd:Ck=false)(rel:BR)(dd:h'.DictOf pY a vs):
  XH P w H' h' a cV:=⟨z,hd,vs,rel,dd⟩
theorem qe3{H':Hp}{Q:rL}(hu:Kk)(I:aj)(g:zB5 H a y v H')(ry:rM)(rv:RelV v r)(h:∀s',Inv X pins σ H' s'->Q () s'):
  vL ai A (setItem dF u r) Q E s:=by
 rcases g with⟨kvs,k,e,ey,l,eH⟩|⟨kvs,k,b,e,ey,eb,l,eH⟩
 ·subst ey eH
  obtain⟨z,hd,vs,rel,dd⟩:=qcY I.hok e;have hz:vs.length<=sizeLine:=by rw[<- rel.length];exact z
  have hl:(putK kvs k v).length<=sizeLine:=by have:=q4a kvs k v;omega
  refine wpAny_setItem_pairs (hsz:=hz) Mm dd λh' dd' hs=>h _ ?_;have he:∃q,h'.get? a=some q:=let ⟨q,_,_,hq,_⟩:=dd';Nz
  exact q62 I (by rw[e];exact True.intro) hs he (q99 hl hd (rel.put k rv) dd')
 ·subst ey eH
  cases (show u=Value.ref b from ry);obtain⟨z,hd,xs,rel,dd⟩:=ql4 I.hok e;have hz:xs.length<=sizeLine:=by rw[<- Paired.length rel];exact z
  have hl:(putK kvs k v).length<=sizeLine:=by have:=q4a kvs k v;omega
  refine wpAny_setItem_heap (hsz:=hz) (ug hu) Gn dd λh' dd' hs=>h _ ?_;obtain⟨q,es,ep,hq,h2,h3,h4,_,h5⟩:=dd';refine q62 I (by rw[e];exact True.intro) hs Nz ⟨hl,hd,_,(rel.put k eb rv).keeps λc ys ec=>?_,q,es,ep,hq,h2,h3,h4,h5⟩;rw[qd (qlk ec e (λz=>nomatch z))];exact ec
end
section
variable{X:Cx}{pins:List (vF×Obj)}{σ:St}{H:Hp}{s:vH}{a:vF}{kvs:List (Key×V)}{k:Key}{u:vB}{A:ve}{E:vB->vH->Prop}
end
def NoSl(i:vP):Prop:=∀ov iv,subscripted i false ov iv=operate [ov,iv] (u7 ov iv)
theorem qj7{prog:vQ}{w:vY}{A:ve}{E:aS}{s:vH}{env:Env}{value slice:vP}{pos:Pos}{T id:String}{Q:aS}(hl:uv Bo "__getitem__" = pure (some jU))(hs:NoSl slice)(h:vL am A (eval value env) (λo s₁=>vL am A (eval slice env) (λi s₂=>s₂.TypeIs o T/\vL am A (u7 o i) Q E s₂) E s₁) E s):
  vL am A (eval (.Subscript value slice pos) env) Q E s:=by
 refine Subscript_ (vo h (λo s₁ h₁=>vo h₁ (λi s₂ h₂=>?_) λ_ _ x=>x) λ_ _ x=>x);obtain⟨hT,h₂⟩:=h₂;unfold t8;refine vA ?_;rw[getitemInPython_of_ne hT.not_modules];refine vA (uY hT hl ?_);have fin:vL am A (subscripted slice false o i) (λr s₃=>vL am A (letTemporaryGo value o r >>= λ_=>pure r) Q E s₃) E s₂:=by
  rw[hs o i];exact wpAny_operating (vo h₂ (λr s₃ h₃=>vA (wpAny_letTemporaryGo (vJ h₃))) λ_ _ x=>x)
 first
  | exact vJ (vA fin)
  | exact vA (vJ (vA fin))
  | exact vA fin
theorem qaW{X:Cx}{pins:ay}{σ:St}{H:Hp}{s:vH}{a:vF}{y:V}{o:ss}(I:aj)(g:abj):s.TypeIs dF "dict" := by
 rcases g with⟨kvs,k,e,_,_⟩|⟨kvs,k,b,e,_,_,_⟩
 ·obtain⟨_,_,vs,_,dd⟩:=q4T I.hok e
  exact dd.typeIs
 ·obtain⟨_,_,xs,_,dd⟩:=q65 I.hok e
  exact dd.typeIs
noncomputable def zB1(td ty:TE):TE:=λσ H Q=>td σ H λx H1=>ty σ H1 λy H2=>∃a v,x=.ref a/\W9 H2 a y nE/\Q v H2
noncomputable def tDIn(ty td:TE):TE:=λσ H Q=>ty σ H λy H1=>td σ H1 λx H2=>∃a o,x=.ref a/\W9 H2 a y o/\Q (.bl o.isSome) H2
noncomputable def zBL(ty td:TE):TE:=λσ H Q=>ty σ H λy H1=>td σ H1 λx H2=>∃a o,x=.ref a/\W9 H2 a y o/\Q (.bl (!o.isSome)) H2
noncomputable def sDPut(td ty tv:TE):TS:=λD σ H=>tv σ H λv H1=>td σ H1 λx H2=>ty σ H2 λy H3=>∃a H4,x=.ref a/\zB5 H3 a y v H4/\D.nx σ H4
section
variable{X:Cx}{o i e value:vP}{pos pos' tpos:Pos}{td ty tv:TE}
theorem q5P(hu:GL)(ho:Lr)(hi:PE X i ty)(hs:NoSl i):PE X Fx (zB1 td ty):=by
 intro pins s σ H Q I h;refine qj7 PySem.F.slot_dict_getitem.lookup hs (thn jQ λu s1 ⟨x,H1,I1,rx,q1⟩=>thn Mx λiv s2 ⟨y,H2,I2,ry,a,v,ex,g,q2⟩=>?_);subst ex;obtain rfl:u=Value.ref a:=rx;exact⟨qaW I2 g,qfD hu I2 g ry λw' s3 I3 rw'=>⟨v,H2,I3,rw',q2⟩⟩
theorem qeg(hu:GL)(hi:PE X i ty)(ho:Lr):PC X .NotIn i o (zBL ty td):=by
 intro pins s σ H Q I h;refine thn DE λiv s1 ⟨y,H1,I1,ry,q1⟩=>thn Mw λu s2 ⟨x,H2,I2,rx,a,ov,ex,g,q2⟩=>?_;subst ex;obtain rfl:u=Value.ref a:=rx;exact qjq hu I2 g ry λs3 I3=>⟨.bl (!ov.isSome),H2,I3,rfl,q2⟩
theorem qcE(hu:GL)(ho:Lr)(hi:PE X i ty)(hv:PE X value tv)(hs:vz value (some Tg) pos.line X.env=pure false):
  PS X (.Assign [Tg] value pos) (sDPut td ty tv):=by
 intro pins s σ H D I h;refine wpAny_Assign_Subscript (thn (hv pins s σ H _ I h) λr s1 ⟨v,H1,I1,rv,q1⟩=>thn Mw λu s2 ⟨x,H2,I2,rx,q2⟩=>thn (hi pins s2 σ H2 _ I2 q2) λiv s3 ⟨y,H3,I3,ry,a,H4,ex,g,q3⟩=>?_) hs;subst ex;obtain rfl:u=Value.ref a:=rx;exact qe3 hu I3 g ry rv λs4 I4=>⟨σ,H4,I4,q3⟩
end
theorem q9a{P:vQ}{w:vY}{H:Hp}(h:vf)(hb:uJ<h.objs.size):XH P w H (h.push { cls:=.type "dict", data:=.dict #[] }) h.objs.size JO :=
 ⟨Bv,beq_eq_false_iff_ne.mpr (Ne.symm (zx hb)),[],.nil,Heap.DictOf.new h⟩
noncomputable def tDNewK:TE:=λ_ H Q=>∀p,H p=none->Q bK lT
section
variable{X:Cx}{pos:Pos}
theorem q6I:PE X (.Dict [] [] pos) tDNewK:=λpins s σ H Q I h=>
 wpAny_Dict_empty ⟨aH,_,I.laid (a:=s.heap.objs.size) (o:=.dK []) (t':=s.toks) IJ cL TL,rfl,h _ lw⟩
end
def zAs:List (TE×TE)->St->Hp->QF->Prop
 | [],_,H,Q=>Q [] H
 | (tk,tv)::r,σ,H,Q=>tk σ H λx H1=>tv σ H1 λy H2=>zAs r σ H2 λps H3=>Q ((x,y)::ps) H3
abbrev VV:List (V×V)->List (vB×vB)->Prop:=sJ λp q=>RelV p.1 q.1/\RelV p.2 q.2
def PPs(X:Cx)(pos:Pos)(keys:List EB)(values:jc)(trs:Iu):Prop :=
 ∀(pins:ay)(s:vH)(σ:St)(H:Hp)(Q:QF),Inv X pins σ H s->zAs trs σ H Q ->
  vL ai X.A (evalPairs (pairTrees keys values X.env pos)) (λvs s'=>∃ps H',Inv X pins σ H' s'/\VV ps vs/\Q ps H') X.xe s
theorem qia{X:Cx}{pos:Pos}:PPs X pos [] [] []:=λpins s σ H Q I h=>pairTrees_nil_walk Hz
theorem qgE{X:Cx}{pos:Pos}{k v:vP}{ks:List EB}{vs:jc}{tk tv:TE}{trs:Iu}(hk:PE X k tk)(hv:PE X v tv)(hr:PPs X pos ks vs trs):
  PPs X pos (some k::ks) (v::vs) ((tk,tv)::trs):=λpins s σ H Q I h=>
 pairTrees_cons_walk (thn (hk pins s σ H _ I h) λu s1 ⟨x,H1,I1,rx,q1⟩=>thn (hv pins s1 σ H1 _ I1 q1) λw2 s2 ⟨y,H2,I2,ry,q2⟩=>
  thn (hr pins s2 σ H2 _ I2 q2) λws s3 ⟨ps,H3,I3,rel,q3⟩=>⟨(x,y)::ps,H3,I3,.cons ⟨rx,ry⟩ rel,q3⟩)
noncomputable def Wx(kvs more:fJ):List R1:=more.foldl (λacc kv=>putK acc kv.1 kv.2) kvs
theorem KV.merge:∀{more:fJ}{rs:GX}{kvs:fJ}{vs:GX},KV more rs->KV kvs vs->KV (Wx kvs more) (merged vs rs):=by
 intro more rs kvs vs r;unfold KV at r
 induction r generalizing kvs vs with
 | nil=>intro q;exact q
 | @cons p q ps qs h t ih=>
  intro r0;have e:KV HK (stored vs q.1 q.2):=by
   have:=r0.put p.1 h.2;rw[<- h.1];exact this
  exact ih e
theorem q55:∀(more kvs:fJ),(Wx kvs more).length<=kvs.length+more.length
 | [],kvs=>by show kvs.length<=kvs.length+0;omega
 | p::r,kvs=>by
  have h1:=q55 r HK;have h2:=q4a kvs p.1 p.2;show (Wx HK r).length<=_;rw[zM];omega
theorem q7c{P:vQ}{w:vY}:∀{kvs:fJ}{ws:List (vB×vB)},VV (kvs.map λkv=>ack) ws->∃rs,Carries pY ws rs/\KV kvs rs
 | [],_,r=>by rw[yS]at r;cases r;exact⟨[],True.intro,.nil⟩
 | p::kvs,_,r=>by
  rw[zO]at r;cases r with
  | @cons a b as bs h t=>
   obtain⟨rs,c,q⟩:=q7c (P:=P) (w:=w) t;obtain⟨b1,b2⟩:=b;exact⟨(p.1,b2)::rs,⟨q4N h.1,rfl,c⟩,.cons ⟨rfl,h.2⟩ q⟩
noncomputable def tDisp(trs:Iu):TE:=λσ H Q=>∀p,H p=none->zAs trs σ lT λps H2=>H2 p=some JO/\∃kvs:List R1,ps=kvs.map (λkv=>ack)/\kvs.length<=15/\Q bK (upd H2 p (.dK (Wx [] kvs)))
theorem qj5{X:Cx}{pos:Pos}{keys:List EB}{values:jc}{trs:Iu}(h:PPs X pos keys values trs)(hall:keys.all (·.isSome)=true)(hl:keys.length=values.length)(h0:keys≠[])(h15:keys.length<=15):PE X (.Dict keys values pos) (tDisp trs):=by
 intro pins s σ H Q I q;have hn:=I.hok.fresh (zQ s.heap.objs.size);have I1:=I.laid (a:=s.heap.objs.size) (o:=.dK []) (h':=s.heap.push { cls:=.type "dict", data:=.dict #[] }) (t':=s.toks) IJ cL TL;refine wpAny_Dict_walk (knd:=Y9 X.prog X.w) hall hl h0 h15 (thn (h pins _ σ _ _ I1 (q _ hn)) λws s2 ⟨ps,H2,I2,rel,e,kvs,ep,lk,q2⟩=>?_);subst ep;obtain⟨rs,c,rk⟩:=q7c (P:=X.prog) (w:=X.w) rel;obtain⟨z,hd,vs0,r0,dd⟩:=qcY I2.hok e;cases r0;refine⟨rs,c,dd,λh' dd' hs=>⟨aH,_,?_,rfl,q2⟩⟩;have hz:(Wx [] kvs).length<=sizeLine:=by
  have h1:=q55 kvs [];rw[yy]at h1;rw[vh];omega
 have he:∃q,h'.get? s.heap.objs.size=some q:=let ⟨q,_,_,hq,_⟩:=dd';Nz
 exact q62 I2 (by rw[e];exact True.intro) hs he (q99 hz hd (rk.merge .nil) dd')
structure M1 (X:Cx) (o:vP) (m:Str) (apos:Pos) (e:vP) (cpos:Pos):Prop where
 base:uB o m X.env (eval o X.env)=eval o X.env
 few:((vU cpos (vK [e] X.env)).all (λx=>!x.1)&&(v5 cpos (vc [] X.env)).all (λx=>x.1.isSome)
  && decide (([e]:List vP).length+([]:List uF).length+(if ([]:List uF).isEmpty then 0 else 1)<30))=true
 line:(apos.endLine==cpos.line)=true
 trees:vU cpos (vK [e] X.env)=[(false,eval e X.env)]
structure M2 (X:Cx) (o:vP) (m:Str) (apos:Pos) (e f:vP) (cpos:Pos):Prop where
 base:uB o m X.env (eval o X.env)=eval o X.env
 few:((vU cpos (vK [e,f] X.env)).all (λx=>!x.1)&&(v5 cpos (vc [] X.env)).all (λx=>x.1.isSome)
  && decide (([e,f]:List vP).length+([]:List uF).length+(if ([]:List uF).isEmpty then 0 else 1)<30))=true
 line:(apos.endLine==cpos.line)=true
 trees:vU cpos (vK [e,f] X.env)=[(false,eval e X.env),(false,eval f X.env)]
def IsD(H:Hp)(a:vF):Prop:=(∃kvs,Rd H a cV)\/∃kvs,Rd H a Bq
theorem qdu{X:Cx}{pins:ay}{σ:St}{H:Hp}{s:vH}{a:vF}(I:aj)(d:IsD H a):
  s.TypeIs dF "dict" /\ (∀b,Value.ref a=.ref b->∃ob,s.heap.get? b=some ob/\ob.dict=none)/\Ck=false:=by
 rcases d with⟨kvs,e⟩|⟨kvs,e⟩
 ·obtain⟨_,hd,vs,_,dd⟩:=q4T I.hok e
  refine L6;cases q;obtain⟨ob,_,_,h1,h2,_⟩:=dd;exact VH
 ·obtain⟨_,hd,xs,_,dd⟩:=q65 I.hok e
  refine L6;cases q;obtain⟨ob,_,_,h1,h2,_⟩:=dd;exact VH
section
variable{X:Cx}{pins:List (vF×Obj)}{σ:St}{H:Hp}{s:vH}{a:vF}{y d:V}{u r:vB}{o:Option V}{A:ve}{E:vB->vH->Prop}
theorem qjE{Q:aS}(hu:Kk)(I:aj)(g:abj)(ry:rM)(rd:RelV d r)(h:∀w' s',Inv X pins σ H s'->RelV (o.getD d) w'->Q w' s'):
  vL ai A (call (.builtin "dict.get") [dF,u,r]) Q E s:=by
 rcases g with⟨kvs,k,e,ey,l⟩|⟨kvs,k,b,e,ey,eb,l⟩
 ·subst ey
  obtain⟨z,hd,vs,rel,dd⟩:=q4T I.hok e;refine sI PySem.F.slot_dict_get dd.typeIs PySem.F.entry_dict_get JK (meets_dict_get_default oN a Mm hd r) ⟨_,dd.mapOf,h _ _ jR ?_⟩;rw[l];exact(rel.val k).getD rd
 ·subst ey
  cases (show u=Value.ref b from ry);obtain⟨z,hd,xs,rel,dd⟩:=q65 I.hok e;refine sI PySem.F.slot_dict_get dd.typeIs PySem.F.entry_dict_get JK (meetsH_dict_get_default (tL oN) a b hd r) ⟨ug hu,k,xs,Gn,dd,h _ _ jR ?_⟩;rw[l];exact(rel.val k).getD rd
end
noncomputable def zA2(td ty tx:TE):TE:=λσ H Q=>td σ H λx H1=>∃a,x=.ref a/\IsD H1 a/\ty σ H1 λy H2=>tx σ H2 λz H3=>∃o,W9 H3 a y o/\Q (o.getD z) H3
section
variable{X:Cx}{o e f:vP}{apos cpos:Pos}{td ty tx:TE}
theorem q9h(hu:GL)(ho:Lr)(he:PE X e ty)(hf:PE X f tx)(m:M2 X o "get" apos e f cpos):PE X (.Call (.Attribute o "get" apos) [e,f] [] cpos) (zA2 td ty tx):=by
 intro pins s σ H Q I h;refine wpAny_Call_method m.base m.few m.line PySem.F.plainAttrs_dict PySem.F.slot_dict_get PySem.F.type_dict_get (thn jQ λu s1 ⟨x,H1,I1,rx,a,ex,d,q1⟩=>?_);subst ex;obtain rfl:u=Value.ref a:=rx;obtain⟨t1,t2,_⟩:=qdu I1 d;refine⟨t1,t2,?_⟩;rw[m.trees];refine Calls.callWith_builtin rfl (Calls.evalArgs_plain (Calls.spliced_cons (thn Mz λiv s2 ⟨y,H2,I2,ry,q2⟩=>
  Calls.spliced_cons (thn My λfv s3 ⟨z,H3,I3,rz,ov,g,q3⟩=>Calls.spliced_nil ?_))))
 exact qjE hu I3 g ry rz λw' s4 I4 rw'=>⟨_,H3,I4,rw',q3⟩
end
section
variable{X:Cx}{pins:List (vF×Obj)}{σ:St}{H:Hp}{s:vH}{a:vF}{kvs:List (Key×V)}{A:ve}{E:vB->vH->Prop}
end
section
variable{X:Cx}{pins:List (vF×Obj)}{σ:St}{H:Hp}{s:vH}{a:vF}{y:V}{u:vB}{A:ve}{E:vB->vH->Prop}
end
end L2
namespace Hk
open PySem L2
noncomputable def XC{α:Type}:List Int->List α->Int->Option α
 | k'::ks,x::xs,k=>if k'=k then some x else XC ks xs k
 | _,_,_=>none
noncomputable def repA{α:Type}:List Int->List α->Int->α->List α
 | k'::ks,x::xs,k,y=>(if k'=k then y else x)::repA ks xs k y
 | _,xs,_,_=>xs
noncomputable def WN(ks:aa)(k:Int):List Int:=if k∈ks then ks else ks++[k]
noncomputable def putA{α:Type}(ks:aa)(xs:bN)(k:Int)(y:α):List α:=if k∈ks then repA ks xs k y else xs++[y]
theorem q9w{α:Type}:∀(ks:aa)(xs:bN)(k:Int)(y:α),(repA ks xs k y).length=xs.length
 | [],xs,_,_=>rfl
 | _::_,[],_,_=>rfl
 | k'::ks,x::xs,k,y=>by show (repA ks xs k y).length+1=xs.length+1;rw[q9w ks xs k y]
theorem qie{α:Type}{ks:aa}{xs:bN}(k:Int)(y:α)(h:ks.length=xs.length):(WN ks k).length=(putA ks xs k y).length:=by
 unfold WN putA
 by_cases z:k∈ks
 ·rw[fG,fG,q9w];exact h
 ·rw[fm,fm,zE,zE,h];rfl
theorem q0x:∀{ks:aa}{vs:bu},ks.length=vs.length->∀k,Wi Hr BB=XC ks vs k
 | [],[],_,k=>rfl
 | [],_::_,h,_=>by simp at h
 | _::_,[],h,_=>by simp at h
 | k'::ks,v::vs,h,k=>by
  show Wi ((abm,v)::kvsOf ks vs) BB=if k'=k then some v else XC ks vs k
  by_cases z:k'=k
  ·rw[fG,q50 (p:=(lr,v)) (by rw[z])]
  ·rw[fm,q4I (p:=(lr,v)) B4]
   exact q0x ⇑h k
theorem q2B:∀{ks:aa}{vs:bu},ks.length=vs.length->(kvsOf ks vs).length=ks.length
 | [],[],_=>rfl
 | [],_::_,h=>by simp at h
 | _::_,[],h=>by simp at h
 | k'::ks,v::vs,h=>by show (kvsOf ks vs).length+1=_;rw[q2B ⇑h];rfl
theorem q6Z:∀{ks:aa}{vs:bu},ks.length=vs.length->(kvsOf ks vs).map (·.1)=ks.map HZ
 | [],[],_=>rfl
 | [],_::_,h=>by simp at h
 | _::_,[],h=>by simp at h
 | k'::ks,v::vs,h=>by show lr::(kvsOf ks vs).map (·.1)=_;rw[q6Z ⇑h];rfl
theorem q8j:∀{ks:aa}{vs:bu},ks.length=vs.length->∀k,(kvsOf ks vs).any (λkv=>decide (kv.1=mf))=decide (k∈ks)
 | [],[],_,_=>rfl
 | [],_::_,h,_=>by simp at h
 | _::_,[],h,_=>by simp at h
 | k'::ks,v::vs,h,k=>by
  show (decide acj || (kvsOf ks vs).any _)=_;rw[q8j ⇑h k];have e:decide acj=decide (k'=k):=by
   by_cases z:k'=k
   ·rw[z];simp
   ·rw[vT z,vT B4]
  rw[e];simp only[zK]
  by_cases z:k'=k
  ·simp[z]
  ·have:¬k=k':=λy=>z y.symm
   simp[z,this]
theorem q8m:∀{ks:aa}{vs:bu},ks.length=vs.length->∀(k:Int)(v:V),(kvsOf ks vs).map (λkv=>if kv.1=mf then (kv.1,v)else kv)=kvsOf ks aaf
 | [],[],_,_,_=>rfl
 | [],_::_,h,_,_=>by simp at h
 | _::_,[],h,_,_=>by simp at h
 | k'::ks,u::vs,h,k,v=>by
  show (if lr=Sum.inl k then (lr,v)else (abm,u))::(kvsOf ks vs).map _=(abm,if k'=k then v else u)::kvsOf ks aaf;rw[q8m ⇑h k v]
  by_cases z:k'=k
  ·rw[vC (by rw[z]),fG]
  ·rw[vG B4,fm]
theorem q7h:∀{ks:aa}{vs:bu},ks.length=vs.length->∀(k:Int)(v:V),kvsOf ks vs++[(BB,v)]=kvsOf Gu (vs++[v])
 | [],[],_,_,_=>rfl
 | [],_::_,h,_,_=>by simp at h
 | _::_,[],h,_,_=>by simp at h
 | k'::ks,u::vs,h,k,v=>by show _::(kvsOf ks vs++[(BB,v)])=_;rw[q7h ⇑h k v];rfl
theorem q5C{ks:aa}{vs:bu}(h:Vh)(k:Int)(v:V):putK Hr BB v=kvsOf (WN ks k) (putA ks vs k v):=by
 unfold putK WN putA;rw[q8j h]
 by_cases z:k∈ks
 ·rw[vC (vO z),fG,fG];exact q8m h k v
 ·rw[vG (by rw[vT z];decide),fm,fm];exact q7h h k v
section
variable{K:zC}{G:Hp}
theorem Y2.val:∀{ks:aa}{ds:aO}{vs:bu}{k:Int}{d:D},Y2 K G ds vs->XC ks ds k=some d->∃v,XC ks vs k=some v/\Rep K G d v
 | [],_,_,_,_,_,e=>by cases e
 | _::_,[],_,_,_,_,e=>by cases e
 | k'::ks,d'::ds,_,k,d,⟨v,r,h1,h2,h3⟩,e=>by
  subst h1;have e:(if k'=k then some d' else XC ks ds k)=some d:=e;show ∃u,(if k'=k then some v else XC ks r k)=some u/\_
  by_cases z:k'=k
  ·rw[fG]at e ⊢;cases e;exact⟨v,rfl,h2⟩
  ·rw[fm]at e ⊢;exact Y2.val h3 e
theorem Y2.isVal:∀{ks:aa}{ds:aO}{vs:bu}(k:Int),Y2 K G ds vs->(XC ks vs k).isSome=(XC ks ds k).isSome
 | [],_,_,_,_=>rfl
 | _::_,[],_,_,h=>by cases (show _=[]from h);rfl
 | k'::ks,d'::ds,_,k,⟨v,r,h1,h2,h3⟩=>by
  subst h1;show (if k'=k then some v else XC ks r k).isSome=(if k'=k then some d' else XC ks ds k).isSome
  by_cases z:k'=k
  ·rw[fG,fG];rfl
  ·rw[fm,fm];exact Y2.isVal k h3
theorem Y2.repA:∀{ks:aa}{ds:aO}{vs:bu}(k:Int){d:D}{v:V},Y2 K G ds vs->Rep K G d v->Y2 K G (Hk.repA ks ds k d) (Hk.repA ks vs k v)
 | [],_,_,_,_,_,h,_=>h
 | _::_,[],_,_,_,_,h,_=>by cases (show _=[]from h);rfl
 | k'::ks,d'::ds,_,k,d,v,⟨u,r,h1,h2,h3⟩,hv=>by
  subst h1;refine⟨_,_,rfl,?_,Y2.repA k h3 hv⟩
  by_cases z:k'=k
  ·rw[fG,fG];exact hv
  ·rw[fm,fm];exact h2
theorem Y2.putA{ks:aa}{ds:aO}{vs:bu}(k:Int){d:D}{v:V}(h:rK)(hv:Rep K G d v):Y2 K G (Hk.putA ks ds k d) (Hk.putA ks vs k v):=by
 unfold Hk.putA
 by_cases z:k∈ks
 ·rw[fG,fG];exact h.repA k hv
 ·rw[fm,fm];exact h.app (Y2.cons hv Y2.nil)
end
noncomputable def Wn:Option cc->Option Bn
 | some (some (.od ks ds))=>some Gs
 | some ↥(.dic ks ds)=>some Gs
 | _=>none
theorem qc9{H H':Hp}{p:vF}{u:HO}(e:Oc)(h:Rd H p u):Rd H' p u:=by
 rcases h with h|⟨o,h⟩
 ·exact .inl ST
 ·exact .inr ⟨o,ST⟩
theorem qbt{H:Hp}{a:vF}{kvs:fJ}{k:Key}(e:Rd H a cV):W9 H a T9 MY:=.inl ⟨kvs,k,e,rfl,rfl⟩
theorem Own.dic{K:zC}{G0:Hp}{H0:Fr}{G:Hp}{ω:WSt}{σ:St}{H:Hp}{i:Nat}{ks:aa}{ds:aO}(o:bZ)(h:Wn ω[i]?=some Gs):
  ∃p vs,σ[i]?=some fM/\Rd H p jK/\ks.length=ds.length/\Y2 K G ds vs:=by
 unfold Wn at h
 split at h
 ·rename_i q
  cases h;obtain⟨p,vs,h1,h2,_,_,h5,h6,_⟩:=o.od i _ _ q;exact⟨p,vs,h1,.inl h2,h5,h6⟩
 ·rename_i q
  cases h;obtain⟨v,h1,p,vs,rfl,⟨ob,h2⟩,h3,h4⟩:=o.sh i _ q;exact⟨p,vs,h1,.inr ⟨ob,o.gh _ _ h2⟩,h3,h4⟩
 ·cases h
section
variable{X:Cx}{o k e:vP}{pos pos' dpos:Pos}{i:Nat}{fk fv:FD}
theorem hu1(hu:h9):X.A.units+1<ue:=∅
noncomputable def zBJ(i:Nat):FS:=λω=>some Vz
theorem q7O{x:Str}(hN:X.N.Nodup)(hi:X.N[i]?=some x)(hx:iI)(hs:vz UP OM pos.line X.env=pure false:=by rfl)(hf:be:=by first|exact .inl rfl|exact .inr rfl|assumption):
  XS X (.Assign [dX] UP pos) (zBJ i):=by
 refine⟨_,q0n hN hi hx q6I hs hf,nC⟩;cases e;intro p hp;have o1:=ow.keep (Ext.hide ow.gh hp JO);refine k G _ _ (o1.setOd (ks:=[]) (ds:=[]) (vs:=[]) qg aaV (ow.ext.hh.free hp) rfl Y2.nil λj ks' es hj z=>?_) ig;obtain⟨q,us,h1,h2,_⟩:=ow.od j ks' es hj;rw[h1]at z;cases z;rw[hp]at h2;cases h2
noncomputable def zAf(i:Nat)(fk fv:FD):FS:=λω=>(fv ω).bind λd=>(fk ω).bind λc=>match c,ω[i]? with
 | .int k,some (some (.od ks ds))=>if ks.length<1000000 then some jA else none
 | _,_=>none
theorem q5U(hu:h9)(ho:jp)(hk:Ll)(hv:XD X e fv)(hs:vz e (some iw) pos.line X.env=pure false:=by rfl):XS X Sl (zAf i fk fv):=by
 obtain⟨tk,h1,h2⟩:=hk;obtain⟨tv,h3,h4⟩:=hv;refine⟨_,qcE (hu1 hu) ho h1 h3 hs,m9⟩;obtain⟨d,q1,e⟩:=bnd e;obtain⟨c,q2,e⟩:=bnd e;refine h4 G0 H0 G ω σ H d _ ow q1 λv G1 H1 x1 y1=>?_;cases c with
 | int k=>
  split at e
  ·rename_i _ _ _ k' ks ds ek q3
   cases ek
   by_cases z:ks.length<1000000
   ·rw[fG]at e
    cases e;have o1:=ow.keep x1;obtain⟨p,vs,r1,r2,r3,r4,r5,r6,r7⟩:=o1.od i ks ds q3;refine⟨bK,r1,h2 G0 H0 G1 ω σ H1 _ _ o1 q2 λu G2 H2 x2 y2=>?_⟩;cases (show u=.int k from y2);have o2:=o1.keep x2;have hl:ks.length=vs.length:=by rw[r5];exact r6.len
    refine⟨p,_,rfl,zB5.k (k:=Sum.inl k) Gf (by rw[q2B hl,vh];omega),?_⟩;rw[q5C hl];exact kk G2 σ _ (o2.mutD q3 r1 Gf (x2.new p r3 (by rw[r2];exact λz=>by cases z)) r4 (qie k d r5) ((r6.mono x2.gg).putA k Bf)) nV
   ·rw[fm]at e;cases e
  ·cases e
 | _=>cases e
noncomputable def zAL(i:Nat)(fk:FD):FE:=λω=>(Wn ω[i]?).bind λp=>(fk ω).bind λc=>match c with
 | .int k=>(XC p.1 p.2 k).map R.sh
 | _=>none
theorem q4z(hu:h9)(ho:jp)(hk:Ll)(hs:NoSl k:=by intro _ _;rfl):XE X (.Subscript o k pos) (zAL i fk):=by
 obtain⟨tk,h1,h2⟩:=hk;refine⟨_,q5P (hu1 hu) ho h1 hs,Jx⟩;obtain⟨⟨ks,ds⟩,q1,e⟩:=bnd e;obtain⟨c,q2,e⟩:=bnd e;obtain⟨p,vs,r1,r2,r3,r4⟩:=ow.dic q1;refine⟨bK,r1,h2 G0 H0 G ω σ H c _ ow q2 λu G1 H1 x1 y1=>?_⟩;cases c with
 | int k=>
  cases (show u=.int k from y1);obtain⟨d,q3,e⟩:=mpd e;subst e;obtain⟨v,z1,z2⟩:=r4.val q3;have hl:ks.length=vs.length:=by rw[r3];exact r4.len
  have g:=qbt (k:=mf) aca;rw[q0x hl,z1]at g;exact⟨p,v,rfl,g,kk v G1 H1 x1 (z2.mono x1.gg)⟩
 | _=>cases e
noncomputable def zAw(neg:Bool)(i:Nat)(fk:FD):FT:=λω=>(fk ω).bind λc=>(Wn ω[i]?).bind λp=>match c with
 | .int k=>some (if neg then !(XC p.1 p.2 k).isSome else (XC p.1 p.2 k).isSome)
 | _=>none
theorem qiV{tk:TE}{neg:Bool}(h2:zAz X.K tk fk):zAU X.K (tB (if neg then zBL tk KI else L2.tDIn tk KI)) (zAw neg i fk):=by
 intro G0 H0 G ω σ H b Q ow e kk;obtain⟨c,q2,e⟩:=bnd e;obtain⟨⟨ks,ds⟩,q1,e⟩:=bnd e;cases c with
 | int k=>
  have fin:∀(u:V)G1 H1,Ext G H G1 H1->u=.int k->∃p vs,σ[i]?=some fM/\W9 H1 p u (XC ks vs k)/\(XC ks vs k).isSome=(XC ks ds k).isSome:=λu G1 H1 x1 hu=>by
   subst hu;obtain⟨p,vs,r1,r2,r3,r4⟩:=ow.dic q1;have hl:ks.length=vs.length:=by rw[r3];exact r4.len
   have g:=qbt (k:=mf) aca;rw[q0x hl]at g;exact⟨p,vs,r1,g,Y2.isVal k r4⟩
  cases neg with
  | true=>
   refine h2 G0 H0 G ω σ H _ _ ow q2 λu G1 H1 x1 y1=>?_;obtain⟨p,vs,r1,g,hs⟩:=fin u G1 H1 x1 y1;refine KY;cases e;rw[hs];exact kk G1 H1 x1
  | false=>
   refine h2 G0 H0 G ω σ H _ _ ow q2 λu G1 H1 x1 y1=>?_;obtain⟨p,vs,r1,g,hs⟩:=fin u G1 H1 x1 y1;refine KY;cases e;rw[hs];exact kk G1 H1 x1
 | _=>cases e
theorem q8C(hu:h9)(hk:Ll)(ho:jp)(hb:uD .NotIn o=false:=by rfl):XT X (.Compare k [.NotIn] [o] pos) (zAw true i fk):=by
 obtain⟨tk,h1,h2⟩:=hk;exact⟨_,qkF (qeg (hu1 hu) h1 ho) hb,qiV (neg:=true) h2⟩
end
section
variable{X:Cx}{o k e:vP}{pos pos' dpos:Pos}{i:Nat}{fk fv:FD}
noncomputable def zAt(i:Nat)(fk fv:FD):FS:=λω=>(fk ω).bind λc=>(fv ω).bind λd=>match c with
 | .int k=>some oy
 | _=>none
theorem qfU{x:Str}(hN:X.N.Nodup)(hi:X.N[i]?=some x)(hx:iI)(hk:Ll)(hv:XD X e fv)(hs:vz QI OM pos.line X.env=pure false:=by rfl)(hf:be:=by first|exact .inl rfl|exact .inr rfl|assumption):
  XS X (.Assign [dX] QI pos) (zAt i fk fv):=by
 obtain⟨tk,h1,h2⟩:=hk;obtain⟨tv,h3,h4⟩:=hv;refine⟨_,q0n hN hi hx (qj5 (qgE h1 h3 qia) rfl rfl (by simp) (by show 1<=15;decide)) hs hf,m9⟩;obtain⟨c,q1,e⟩:=bnd e;obtain⟨d,q2,e⟩:=bnd e;cases c with
 | int k=>
  cases e;intro p hp;have x0:=Ext.hide ow.gh hp JO;have o1:=ow.keep x0;refine h2 G0 H0 G ω σ _ _ _ o1 q1 λu G1 H1 x1 y1=>?_;cases (show u=.int k from y1);have o2:=o1.keep x1;refine h4 G0 H0 G1 ω σ H1 d _ o2 q2 λv G2 H2 x2 y2=>?_;have o3:=o2.keep x2;have hp2:H2 p=some JO:=x2.hh _ _ (x1.hh _ _ qg);have gp1:G1 p=none:=x1.new p aaV (by rw[qg];exact λz=>by cases z);have gp2:G2 p=none:=x2.new p gp1 (by rw[x1.hh _ _ qg];exact λz=>by cases z);have h0p:H0 p=none:=ow.ext.hh.free hp;refine⟨hp2,[(BB,v)],rfl,by show 1<=15;decide,?_⟩;have em:Wx [] [(mf,v)]=kvsOf [k] [v]:=by
   show putK [] mf v=_;unfold putK;rw[vG (by simp)];rfl
  rw[em];have ext4:Ext G0 H0.hp G2 IP:=⟨o3.ext.gg,Y6 o3.ext.gh gp2 _,Y6 o3.ext.hh h0p _,o3.ext.new⟩;have np:∀(j:Nat)ds',ω[j]?=some (some (.ow ds'))->∀l vs,σ[j]?=some lA->H2 l=some fO->l≠p:=λj ds' hj l vs _ h z=>by rw[z,hp2]at h;cases h
  have npd:∀(j:Nat)ks' es,ω[j]?=some Gk->σ[j]?≠some fM:=λj ks' es hj z=>by
   obtain⟨q,us,w1,w2,_⟩:=ow.od j ks' es hj;rw[w1]at z;cases z;rw[hp]at w2;cases w2
  have o4:Own X.K G0 H0 G2 ω σ IP:=by
   refine⟨ext4,o3.len,o3.sh,λj ds' hj=>?_,o3.nd,aaR,o3.pw.upd (o3.pw.ne_ob λvs z=>by rw[hp2]at z;cases z)⟩
   ·obtain⟨l,vs,w1,w2,w3,w4,w5⟩:=o3.ow j ds' hj
    exact⟨l,vs,w1,by rw[qd (np j ds' hj l vs w1 w2)];exact w2,w3,w4,w5⟩
   ·obtain⟨q,us,w1,w2,w3,w4,w5,w6,w7⟩:=o3.od j ks' es hj
    have nq:q≠p:=λz=>npd j ks' es hj (by rw[<- z];exact w1);exact⟨q,us,w1,by rw[qd nq];exact w2,w3,w4,w5,w6,w7⟩
  exact kk G2 _ _ (o4.setOd (ks:=[k]) (ds:=[d]) (vs:=[v]) qg gp2 h0p rfl (Y2.cons y2 Y2.nil) npd) nV
 | _=>cases e
end
section
open PySem.Spec PyProof.Rows PySem.W
theorem qbj:∀(vs:bH)(ns:aa),vs.length=ns.length->(∀(j:Nat)v n,vs[j]?=some v->ns[j]?=some n->∃t,v=.int n t)->uH vs ns
 | [],[],_,_=>.nil
 | [],_::_,h,_=>by simp at h
 | _::_,[],h,_=>by simp at h
 | v::vs,n::ns,h,f=>by
  obtain⟨t,rfl⟩:=f 0 v n rfl rfl;exact .cons _ _ (qbj vs ns ⇑h λj a b e1 e2=>f (j+1) a b ⇑e1 ⇑e2)
variable{prog:vQ}{w:vY}{A:ve}{E:vB->vH->Prop}{s:vH}
theorem qaV{a:vF}{kvs:GX}{ns:aa}{Q:aS}(hh:dE)(lo:Ck=false)(dd:s.heap.DictOf (Y9 prog w) a kvs)(hk:kvs.map (·.1)=ns.map HZ)(h64:Rs)(h:∀(h1 h':vf)(tk:Nat)(vs:bH)(ys:aa)(n:Nat),(∀b o,s.heap.get? b=some o->h1.get? b=some o)->(∀b o,h1.get? b=some o->h'.get? b=some o)->h'.get? h1.objs.size=some Cg->uH vs ys->ys.Perm ns->ys.Pairwise (· <= ·)->Q (.ref h1.objs.size) { s with heap:=h',toks:=tk }):
  vL am A aco Q E s:=by
 obtain⟨ep,hat⟩:=dd.dictAt;have hkl:kvs.length=ns.length:=by have:=vm yh hk;simpa using this
 refine Calls.call_function_entry sM sG sH aan ?_;unfold Builtin.«sorted»;refine vA (m:=checkCount "sorted" 1 1 _) fP;refine vA (kdu_collect (A:=A.in1) (kdl_dict (knd:=Y9 prog w) (kvs:=kvs) (ep:=ep) lo) hh hat (by rw[hkl];exact yL (yb h64) (by decide)) λh1 tk acc hk1 hacc=>?_);have y1:uH acc.toList ns:=by
  refine qbj _ _ (by rw[zW,hacc.1,hkl]) λj v n e1 e2=>?_;obtain⟨k,x,hx,hi⟩:=hacc.2 j v (by rw[<- zn];exact e1);have e3:(kvs.map (·.1))[j]?=some k:=by rw[zZ,hx];rfl
  rw[hk,zZ,e2]at e3;cases e3;rcases qV (k:=oP) hi with⟨i,t,e4,rfl⟩|⟨x,t,e4,_⟩
  ·cases e4;exact LE
  ·cases e4
 have hlen:acc.toList.length=ns.length:=IntsAre.length y1;refine vA (uy ?_ (yL (by rw[hlen];exact yb h64) (by decide)));generalize acc.toList=vs at y1 hlen;have hoL:(h1.push fD).get? h1.objs.size=some fD:=zX _ rfl;refine vA (vX (vq slot_list_sort ⟨_,hoL,rfl⟩ entry_list_sort (list_sort_tree hoL y1 (by rw[hlen];exact h64) λout ns' a1 a2 a3=>da) Uf));obtain⟨n,hn⟩:=sortedHeap_at (vs:=vs) (out:=out) hoL;refine vJ ⟨_,rfl,h h1 _ tk out.toList ns' n hk1 (λb o e1=>?_) ?_ a1 a2 a3⟩
 ·rw[sortedHeap_old (zx UX) (by rw[ye];exact yW UX)]
  exact zJ _ e1
 ·rw[xS];exact hn
end
def rSortD:List V->Hp->VK->Prop:=λxs H Q=>∃p kvs ns,xs=N8/\Rd H p cV/\kvs.map (·.1)=ns.map HZ/\ns.length<64/\∀l,H l=none->Q cU SG
section
variable{X:Cx}{o:vP}{i:Nat}
theorem qdl(hc:cI):X2 X jL rSortD:=by
 intro pins s σ H xs us Q I r h;obtain⟨p,kvs,ns,rfl,hp,hk,hz,q⟩:=h;obtain⟨u,rfl,rx⟩:=vals1 r;cases rx;obtain⟨_,lo,vs,rel,dd⟩:=q4T I.hok hp;refine qaV gB lo dd (by rw[<- rel.keys];exact hk) hz λh1 h' tk us ys n k1 k2 g1 a1 a2 a3=>?_;have en:ys=XB ns:=q1O a3 q1h Ug;subst en;have I1:Inv X pins σ H { s with heap:=h1,toks:=tk }:=I.kept k1;have hsl:(XB ns).length<=sizeLine:=by rw[q8H];exact yL (yb hz) (by decide)
 have I2:=I1.laid (a:=h1.objs.size) (o:=.lst oa) (t':=tk) (h':=h') k2 cL
  (show XH X.prog X.w _ h' _ (.lst _)from ⟨by rw[zB];exact hsl,us,n,q2u a1,g1⟩)
 exact⟨O4,_,I2,rfl,q _ pR⟩
noncomputable def zAr(i:Nat):FE:=λω=>(Wn ω[i]?).bind λp=>if p.1.length<64 then some M9 else none
theorem qgD{p q:Pos}(hc:cI)(hg:Iv)(hm:nF)(ho:jp)(he:vK [o] X.env=(false,kr)::vK [] X.env:=by rfl)(hpl:(vU q bQ).any (·.1)=false:=by rfl):XE X (.Call Bs [o] [] q) (zAr i):=by
 refine⟨_,q3b (qdl hc) hg hm q3K (qy ho qA he) (by decide) (by decide) he hpl,JU⟩;obtain⟨⟨ks,ds⟩,q1,e⟩:=bnd e;obtain⟨p,vs,r1,r2,r3,r4⟩:=ow.dic q1
 by_cases hz:ks.length<64
 ·have e:(if ks.length<64 then some (R.fr Hi)else none)=some r:=e
  rw[vC hz]at e;cases e;refine⟨bK,r1,p,_,ks,rfl,r2,q6Z (by rw[r3];exact r4.len),hz,VM⟩;have x2:=Ext.hide ow.gh hl (.lst ((XB ks).map V.int));exact k _ G _ x2 ⟨l,_,rfl,hl,ow.gh.free hl,qg,Qz⟩
 ·have e:(if ks.length<64 then some (R.fr Hi)else none)=some r:=e
  rw[vG hz]at e;cases e
noncomputable def zBf(i:Nat):FM:=λω=>match ω[i]? with
 | some (some (.ow ds))=>(ds[RD]?).map λd=>FJ
 | _=>none
theorem Y2.dropLast{K:zC}{H:Hp}{ds:aO}{vs:bu}(h:BA):Y2 K H ds.dropLast vs.dropLast:=by
 rw[Za,Za,h.len];exact h.take _
theorem qid{apos cpos:Pos}(ho:jp)(hbase:J2:=by rfl)(hline:ff=true:=by rfl):
  XM X (.Call Nv [] [] cpos) (zBf i):=by
 refine⟨_,q9s PySem.F.plainAttrs_list PySem.F.slot_list_pop PySem.F.type_list_pop qar ho hbase hline,HD⟩;unfold zBf at e
 split at e
 ·rename_i ds q2
  obtain⟨d1,hd,e⟩:=mpd e;cases e;obtain⟨l,vs,r1,r2,r3,r4,r5⟩:=ow.ow i ds q2;obtain⟨y,hy,ry⟩:=r5.get hd;refine⟨.ref l,r1,.inl pZ,l,vs,y,rfl,rfl,r2,by rw[<- r5.len];exact hy,k y G _ (ow.mut q2 r1 r2 r3 r4 r5.dropLast) ig ry⟩
 ·cases e
end
noncomputable def Wf:List Int->List aa->Int->Int->List aa
 | k::ks,x::xs,a,b=>if k=a then Q5::xs else x::Wf ks xs a b
 | _,xs,_,_=>xs
theorem q6B:∀(ks:aa)(xs:eO)(a b:Int),(Wf ks xs a b).length=xs.length
 | [],_,_,_=>rfl
 | _::_,[],_,_=>rfl
 | k::ks,x::xs,a,b=>by
  unfold Wf
  by_cases z:k=a
  ·rw[fG];rfl
  ·rw[fm,zM,zM,q6B ks xs a b]
structure Tab (G H0 H:Hp) (p:vF) (ks:List Int) (ls:List vF) (xss:List (List Int)):Prop where
 dict:H p=some (.dK (kvsOf ks (ls.map V.ref)))
 gp:G p=none
 hp:H0 p=none
 len:ks.length=ls.length
 len2:ls.length=xss.length
 lst:∀(j:Nat)l xs,ls[j]?=some l->xss[j]?=some xs->H l=some (.lst (xs.map V.int))
 gl:∀l∈ls,G l=none/\H0 l=none
 nd:ls.Nodup
theorem Tab.inn{G H0 H:Hp}{p:vF}{ks:aa}{ls:eA}{xss:eO}(T:dW){l:vF}(h:l∈ls):∃xs:List Int,H l=some EE:=by
 obtain⟨j,hj,rfl⟩:=zw.mp h;have hj2:j<xss.length:=by rw[<- T.len2];exact hj
 exact⟨xss[j],T.lst j _ _ OI (zD hj2)⟩
theorem Tab.pl{G H0 H:Hp}{p:vF}{ks:aa}{ls:eA}{xss:eO}(T:dW):p∉ls:=λh=>by
 obtain⟨xs,e⟩:=T.inn h;rw[T.dict]at e;cases e
theorem Tab.keep{G G' H0 H H':Hp}{p:vF}{ks:aa}{ls:eA}{xss:eO}(T:dW)(x:Di):Tab G' H0 H' p ks ls xss :=
 ⟨x.hh _ _ T.dict,x.new p T.gp (by rw[T.dict];exact λz=>by cases z),T.hp,T.len,T.len2,λj l xs h1 h2=>x.hh _ _ (T.lst j l xs h1 h2),λl h=>by
  obtain⟨xs,e⟩:=T.inn h;exact⟨x.new l (T.gl l h).1 (by rw[e];exact λz=>by cases z),(T.gl l h).2⟩,T.nd⟩
theorem qeJ:∀{ks:aa}{ls:eA}{a:Int},ks.length=ls.length->a∈ks->∃(j:Nat) (l:vF),ks[j]?=some a/\ls[j]?=some l/\XC ks eS a=some cU/\∀(xss:eO)(b:Int),xss.length=ls.length->∃xs,xss[j]?=some xs/\Wf ks xss a b=xss.set j (xs++[b])
 | [],_,_,_,h=>by simp at h
 | _::_,[],_,h,_=>by simp at h
 | k::ks,l::ls,a,h,ha=>by
  by_cases z:k=a
  ·refine⟨0,l,by rw[z];rfl,rfl,vC z,λxss b hx=>?_⟩
   cases xss with
   | nil=>simp at hx
   | cons x xs=>exact⟨x,rfl,fG⟩
  ·have ha':a∈ks:=(zK.mp ha).resolve_left λe=>z e.symm
   obtain⟨j,l',e1,e2,e3,e4⟩:=qeJ (ks:=ks) (ls:=ls) ⇑h ha';refine⟨j+1,l',e1,e2,?_,λxss b hx=>?_⟩
   ·show (if k=a then _ else _)=_
    rw[fm];exact e3
   ·cases xss with
    | nil=>simp at hx
    | cons x xs=>
     obtain⟨y,h1,h2⟩:=e4 xs b ⇑hx;refine⟨y,h1,?_⟩;show (if k=a then _ else x::Wf ks xs a b)=_;rw[fm,h2];rfl
theorem Tab.app{G H0 H:Hp}{p:vF}{ks:aa}{ls:eA}{xss:eO}(T:dW){a:Int}(b:Int)(ha:a∈ks):
  ∃(l:vF) (xs:aa),l∈ls/\xs∈xss/\XC ks eS a=some cU/\W9 H p cY lA/\H l=some EE/\Tab G H0 (upd H l (.lst ((xs++[b]).map V.int))) p ks ls Ed:=by
 obtain⟨j,l,e1,e2,e3,e4⟩:=qeJ T.len ha;obtain⟨xs,e5,e6⟩:=e4 xss b T.len2.symm;have hl:l∈ls:=yD e2;have hlp:p≠l:=λz=>T.pl (z▸hl);have g:=W9.k (k:=oQ) T.dict;rw[q0x (by rw[zB];exact T.len),e3]at g;refine⟨l,xs,hl,yD e5,e3,g,aau,?_⟩;rw[e6];refine⟨by rw[qd hlp];exact T.dict,T.gp,T.hp,T.len,by rw[yV];exact T.len2,λi m ys h1 h2=>?_,T.gl,T.nd⟩;rcases qe h2 with⟨rfl,_,rfl⟩|⟨ne,h3⟩
 ·rw[e2]at h1
  cases h1;exact qg
 ·have hm:m≠l:=λz=>by
   subst z;obtain⟨i1,i2⟩:=ze.mp h1;obtain⟨j1,j2⟩:=ze.mp e2;exact ne IC
  rw[KA];exact T.lst i m ys h1 h3
theorem Own.free{K:zC}{G0:Hp}{H0:Fr}{G:Hp}{ω:WSt}{σ:St}{H:Hp}{q:vF}{ob:HO}(o:bZ)(no:OV)(hG:G q=none)(h0:H0 q=none):Own K G0 H0 G ω σ (upd H q ob) :=
 ⟨⟨o.ext.gg,Y6 o.ext.gh hG _,Y6 o.ext.hh h0 _,o.ext.new⟩,o.len,o.sh,JS,o.nd,pN,Us⟩
theorem Tab.put{G H0 H:Hp}{p:vF}{ks:aa}{ls:eA}{xss:eO}(T:dW){k:Int}{l:vF}(hk:k∉ks)(hl:H l=none)(sg:As)(s0:Y8 H0 H)(hz:J9):
  ∃H4,zB5 (upd H l jC) p kY cU H4/\H4=upd (upd H l jC) p (.dK (kvsOf Gu QP))/\Tab G H0 H4 p Gu (ls++[l]) Q4:=by
 have hpl:p≠l:=λz=>by rw[<- z,T.dict]at hl;cases hl
 have hlen:ks.length=(ls.map V.ref).length:=by rw[zB];exact T.len
 have e:putK Ab BB cU=kvsOf Gu QP:=by
  rw[q5C hlen];unfold WN putA;rw[vG hk,vG hk,zN];rfl
 have d:=zB5.k (H:=upd H l jC) (a:=p) (kvs:=kvsOf ks eS) (k:=mf) (v:=.ref l) (by rw[qd hpl];exact T.dict) (by rw[q2B hlen,vh];omega);rw[e]at d;refine⟨_,d,rfl,qg,T.gp,T.hp,by rw[zE,zE,T.len];rfl,by rw[zE,zE,T.len2];rfl,λj m xs h1 h2=>?_,λm hm=>?_,?_⟩
 ·rcases yH j ls.length with z|z
  ·rw[zg z]at h1
   rw[zg (by rw[<- T.len2];exact z)]at h2;have e1:=T.lst j m xs h1 h2;have n1:m≠p:=λy=>T.pl (y▸yD h1);have n2:m≠l:=λy=>by rw[y,hl]at e1;cases e1
   rw[qd n1,qd n2];exact e1
  ·rw[zc z]at h1
   rw[zc (by rw[<- T.len2];exact z),<- T.len2]at h2;cases hj:j-ls.length with
   | zero=>
    rw[hj]at h1 h2;cases h1;cases h2;rw[qd (Ne.symm hpl)];exact qg
   | succ n=>rw[hj]at h1;cases h1
 ·rcases zL.mp hm with h|h
  ·exact T.gl m h
  ·cases zR.mp h;exact⟨sg.free hl,s0.free hl⟩
 ·rw[yg]
  refine⟨T.nd,by simp,λa ha b hb z=>?_⟩;cases zR.mp hb;obtain⟨xs,e1⟩:=T.inn ha;rw[z,hl]at e1;cases e1
noncomputable def pairsOf:List D->Option ah
 | []=>some []
 | .tup [.int a,.int b]::r=>(pairsOf r).map λl=>(a,b)::l
 | _=>none
noncomputable def Yx(e:fW):D:=.tup [FR,abG]
theorem q4L:∀{ds:aO}{es:ah},pairsOf ds=some es->ds=es.map Yx
 | [],_,h=>by cases h;rfl
 | d::r,es,h=>by
  unfold pairsOf at h
  split at h
  ·rename_i e;cases e
  ·rename_i e
   cases e;obtain⟨l,h1,h2⟩:=mpd h;subst h2;rw[q4L h1];rfl
  ·cases h
theorem q44:∀es:List fW,pairsOf Cj=some es
 | []=>rfl
 | e::r=>by show (pairsOf (r.map Yx)).map _=_;rw[q44 r];rfl
noncomputable def WG(ks:aa)(xss:eO)(e:fW):List aa:=Wf ks (Wf ks xss e.1 e.2) e.2 e.1
noncomputable def nbT(ts:aa)(es:ah):List aa:=es.foldl Vt J3
noncomputable def nbM(a b:aO):Option D:=(intsOf a).bind λts=>(pairsOf b).bind λes=>if ts.Nodup/\(∀e∈es,e.1∈ts/\e.2∈ts)/\ts.length<=1000/\es.length<=1000 then some (.dic ts ((nbT ts es).map λxs=>.lst nB))else none
noncomputable def sNb:FS:=λω=>match ω with
 | [↥(.lst a),↥(.lst b),none,none,none]=>(nbM a b).map λd=>nU
 | _=>none
theorem zCA{a b:D}{x:eY}:X8 [↥a,↥b,none,none,x.map W.sh]:=by
 intro i w e
 match i,e with
 | 0,e=>cases e;exact cf
 | 1,e=>cases e;exact cf
 | 2,e=>cases e
 | 3,e=>cases e
 | 4,e=>
  cases x with
  | none=>cases e
  | some d=>cases e;exact LG
 | i+5,e=>simp at e
theorem Own.other{K:zC}{G0:Hp}{H0:Fr}{G:Hp}{ω:WSt}{σ:St}{H:Hp}{i:Nat}{v:ss}(o:bZ)(no:OV)(hi:∀w,ω[i]?≠some (some w)):Own K G0 H0 G ω (σ.set i v) H :=
 ⟨o.ext,by rw[yV];exact o.len,λj d h=>by
  obtain⟨u,h1,h2⟩:=o.sh j d h;exact⟨u,by rw[zS (λz=>hi _ (z▸h))];exact h1,h2⟩,λi ds h=>vM h AZ,λi j ds es l h=>vM h AZ,λi ks ds h=>vM h aaX,Xy.no no.pw⟩
theorem q4t(n:Nat):∀(ks:aa)(xss:eO)(a b:Int),(∀x∈xss,x.length<=n)->∀x∈Wf ks xss a b,x.length<=n+1
 | [],xss,_,_,h,x,hx=>ZA (h x hx)
 | _::_,[],_,_,h,x,hx=>by cases hx
 | k::ks,y::xss,a,b,h,x,hx=>by
  unfold Wf at hx
  by_cases z:k=a
  ·rw[fG]at hx
   rcases zK.mp hx with rfl|hx
   ·have:=h y zG
    rw[zE,zi];omega
   ·exact ZA (h x gX)
  ·rw[fm]at hx
   rcases zK.mp hx with rfl|hx
   ·exact ZA (h _ zG)
   ·exact q4t n ks xss a b (λx h'=>h x (zH _ h')) x hx
theorem Tab.told{K:zC}{G0 G:Hp}{H0:Fr}{H:Hp}{ω:WSt}{σ:St}{p:vF}{ks:aa}{ls:eA}{xss:eO}(T:dW)(o:bZ)(no:OV)(ob:Obj):
  ∃G',Y8 G G'/\Own K G0 H0 G' ω σ (upd H p Ie)/\Rep K G' (.dic ks (xss.map λxs=>.lst nB)) bK:=by
 obtain⟨H',hH⟩:∃H':Hp,H'=upd H p Ie:=cf;rw[<- hH];have hp':H' p=some Ie:=by rw[hH];exact qg
 have hn':∀b,b≠p->H' b=H b:=λb h=>by rw[hH];exact qd h
 let G':Hp:=λb=>if b=p\/b∈ls then H' b else G b
 have hin:∀b,N7->G' b=H' b:=λb h=>vC h;have hout:∀b,¬N7->G' b=G b:=λb h=>vG h;have gn:∀b,N7->G b=none/\H0 b=none:=λb h=>by
  rcases h with rfl|h
  ·exact⟨T.gp,T.hp⟩
  ·exact T.gl b h
 have gg:Y8 G G':=λb u z=>by
  by_cases y:b=p\/b∈ls
  ·rw[(gn b y).1]at z;cases z
  ·rw[Ub];exact z
 have gh:Y8 G' H':=λb u z=>by
  by_cases y:b=p\/b∈ls
  ·rw[hin b y]at z;exact z
  ·rw[Ub]at z;rw[hn' b λw=>y (.inl w)];exact o.gh b u z
 have hh:Y8 H0.hp H':=λb u z=>by
  rw[hn' b λw=>by rw[w,T.hp]at z;cases z];exact o.ext.hh b u z
 refine⟨G',gg,⟨⟨o.ext.gg.trans gg,gh,hh,CP⟩,o.len,Gc,JS,o.nd,pN,Us⟩,p,ls.map V.ref,rfl,⟨ob,by rw[hin p bD];exact hp'⟩,by rw[zB,<- T.len2];exact T.len,?_⟩
 ·by_cases y:b=p\/b∈ls
  ·exact vM (gn b y).2 z2
  ·rw[Ub];exact o.ext.new b z1 z2
 ·obtain⟨v,h1,h2⟩:=o.sh i d h
  exact⟨v,h1,h2.mono gg⟩
 ·refine q5i (by rw[zB];exact T.len2.symm) λj d t h1 h2=>?_
  rw[zZ]at h1;cases q:xss[j]? with
  | none=>rw[q]at h1;cases h1
  | some xs=>
   rw[q]at h1;cases h1;have hl:=T.lst j t xs h2 q;exact⟨t,_,rfl,by rw[hin t (.inr (yD h2)),hn' t λw=>by rw[w,T.dict]at hl;cases hl];exact hl,Y2.ints xs⟩
theorem qdO{K:zC}{ta tb:TE}{g0 g1:FD}(k2:zAz K ta g0)(k4:zAz K tb g1){G0:Hp}{H0:Fr}{G:Hp}{ω:WSt}{σ:St}{H:Hp}{p:vF}{ks:aa}{ls:eA}{xss:eO}{a b:Int}{Q:VK}(o:bZ)(no:OV)(hσ:σ[2]?=some fM)(T:dW)(h0:g0 ω=some cY)(h1:g1 ω=some gG)(ha:a∈ks)(hz:∀xs∈xss,xs.length<1000000)(h:∀G' H',Own K G0 H0 G' ω σ H'->Y8 G G'->Tab G' H0 H' p ks ls Ed->Q .non H'):tBM K "list" X7 (zB1 FK ta) (Wm tb zAH) σ H Q:=by
 refine⟨bK,hσ,k2 G0 H0 G ω σ H _ _ o h0 λu G1 H1 x1 y1=>?_⟩;cases (show u=.int a from y1);have o1:=o.keep x1;have T1:=T.keep x1;obtain⟨l,xs,m1,m2,m3,m4,m5,_⟩:=T1.app b ha;refine⟨p,cU,rfl,m4,.inl ⟨rfl,_,SqL.of m5⟩,k4 G0 H0 G1 ω σ H1 _ _ o1 h1 λu G2 H2 x2 y2=>?_⟩;cases (show u=.int b from y2);have o2:=o1.keep x2;have T2:=T1.keep x2;obtain⟨l',xs',n1,n2,n3,n4,n5,n6⟩:=T2.app b ha;rw[m3]at n3;cases n3;refine⟨l,_,.int b,rfl,rfl,n5,by rw[zB,vh];have:=hz xs' n2;omega,?_⟩;rw[show xs'.map V.int++[V.int b]=(xs'++[b]).map V.int by rw[zN];rfl];exact h G2 _ Dz nV n6
theorem qdS{a b:vP}{p:Pos}{n:Str}{env:Env}(m:Sem vB):uB (.Subscript a b p) n env m=m:=rfl
section
variable{X:Cx}
theorem qjw{x2 x3 x4:Str}{o0 o1 o2 o3 o4 o4b e0 e1 e0b e1b e0':vP}{q1 q2 q3 q4 q5 q6 q7 q8 q9 q10 q11 q12 q13 q14 q15 a1 a2 c1 c2:Pos}{g0 g1:FD}(hu:h9)(hp:kQ)(hc:cI)(hN:X.N.Nodup)(i2:X.N[2]?=some x2)(i3:X.N[3]?=some x3)(i4:X.N[4]?=some x4)(l2:aaw)(l3:aav)(l4:Loc X.env.scope x4)(f2:A6)(f3:A5)(f4:X.fn x4=true\/X.env.scope.names.lookup x4=some .local)(h0:PE X o0 (Xf 0))(h1:PE X o1 Uv)(h2:PE X o2 FK)(h2':PE X o4 FK)(h2b:PE X o4b FK)(h3:PE X o3 (Xf 3))(h5:PE X e0' FK)(ha:XD X e0 g0)(hb:XD X e1 g1)(hab:XD X e0b g0)(hbb:XD X e1b g1)(hg0:∀(ω:WSt)e,ω[4]?=some Gj->g0 ω=some FR)(hg1:∀(ω:WSt)e,ω[4]?=some Gj->g1 ω=some abG)(s1:vz Dl (some (.Name x2 q2)) q3.line X.env=pure false:=by rfl)(s2:vz IA (some Tf) q6.line X.env=pure false:=by rfl)(n0:NoSl e0:=by intro _ _;rfl)(n1:NoSl e1b:=by intro _ _;rfl)(w1:((vU c1 aaT).all (λx=>!x.1)&&(v5 c1 kP).all iC&&decide (([e1]:List vP).length+([]:List uF).length+(if ([]:List uF).isEmpty then 0 else 1)<30))=true:=by rfl)(w2:((vU c2 (vK [e0b] X.env)).all (λx=>!x.1)&&(v5 c2 kP).all iC&&decide (([e0b]:List vP).length+([]:List uF).length+(if ([]:List uF).isEmpty then 0 else 1)<30))=true:=by rfl)(z1:(a1.endLine==c1.line)=true:=by rfl)(z2:OA:=by rfl)(t1:Ce:=by rfl)(t2:vK [e0b] X.env=(false,eval e0b X.env)::vK [] X.env:=by rfl)(p1:(vU c1 bQ).any (·.1)=false:=by rfl)(p2:(vU c2 bQ).any (·.1)=false:=by rfl)(v1:vz pr none q9.line X.env=pure false:=by rfl)(v2:vz oC none q10.line X.env=pure false:=by rfl)(y1:∀x,uA o0 X.env x=pure x:=by intro _;rfl)(y2:∀x,uA o1 X.env x=pure x:=by intro _;rfl):
  XSs X [.Assign [.Name x2 q2] Dl q3,.For (.Name x3 q11) o0 [.Assign [Tf] IA q6] [] q12,
   .For (.Name x4 q13) o1 [.Expr pr q9,.Expr oC q10] [] q14,.Return (some e0') q15] sNb:=by
 obtain⟨ta,k1,k2⟩:=ha;obtain⟨tb,k3,k4⟩:=hb;obtain⟨ta',k1',k2'⟩:=hab;obtain⟨tb',k3',k4'⟩:=hbb;have hu:=hu1 hu;refine⟨_,qO (q0n hN i2 l2 q6I s1 f2) (qO (q7i hp hc (q7U h0) Vc (q0W (qcE hu h2 h3 Mn s2)) y1)
  (qO (q7i hp hc (q7U h1) (q4o hN i4 l4 f4) (qO (q17 (q2o PySem.F.plainAttrs_list PySem.F.slot_list_append PySem.F.type_list_append q0L (q5P hu h2' k1 n0) (qy k3 qA t1) (qdS _) w1 z1 t1 p1) v1)
   (q0W (q17 (q2o PySem.F.plainAttrs_list PySem.F.slot_list_append PySem.F.type_list_append q0L (q5P hu h2b k3' n1) (qy k1' qA t2) (qdS _) w2 z2 t2 p2) v2))) y2) (q6Y 2 (q0W (q5A h5))))),λG0 H0 G ω σ H out ω' E ow e kk=>?_⟩
 unfold sNb at e
 split at e
 case h_2=>cases e
 case h_1 _ a b=>
 obtain⟨d,e2,e3⟩:=mpd e;clear e;cases e3;obtain⟨ts,e4,e5⟩:=bnd e2;obtain⟨es,e6,e7⟩:=bnd e5;clear e2 e5
 by_cases cond:ts.Nodup/\(∀e∈es,e.1∈ts/\e.2∈ts)/\ts.length<=1000/\es.length<=1000
 case neg=>rw[vG cond]at e7;cases e7
 rw[vC cond]at e7;cases e7;obtain⟨cd1,cd2,cd3,cd4⟩:=cond;have ha':=q1b e4;have hb':=q4L e6;subst ha' hb';clear e4 e6;have no:X8 ie:=zCA (x:=none);have hlen:σ.length=5:=ow.len.symm;obtain⟨v0,r0,A0,vs0,rfl,r1,r2⟩:=ow.sh 0 _ rfl;obtain⟨v1,r3,A1,vs1,rfl,r4,r5⟩:=ow.sh 1 _ rfl;have hvs0:=r2.of_ints;subst hvs0;intro p hpn;have o1:Own X.K G0 H0 G ie (σ.set 2 fM) lT:=(ow.free no acf TR).other no λw z=>by cases z
 have T0:Tab G H0 lT p (ts.take 0) [] ((ts.take 0).map λ_=>[]):=⟨qg,acf,TR,rfl,rfl,λj l xs h=>(by simp at h),λl h=>(by cases h),xV⟩;refine⟨.ref A0,by rw[zS (by decide)];exact r0,A0,rfl,⟨_,SqL.of ach⟩,λn m σ2 H2=>∃ls,Own X.K G0 H0 G ie σ2 H2/\σ2[2]?=some fM/\Tab G H0 H2 p (ts.take n) ls ((ts.take n).map λ_=>[])/\n<=ts.length/\m=ts.length-n,
  ⟨_,[],o1,yi (by rw[hlen];decide),T0,Bv,rfl⟩,?_⟩
 rintro n m σ2 H2 ⟨ls,o2,s22,T2,hn,rfl⟩
 by_cases hlt:n<ts.length
 ·have hq:=o2.gh _ _ r1
  refine .inr ⟨⟨_,.int ts[n],SqL.of hq,by rw[zZ,Jz];rfl⟩,λσ3 H3=>∃ls,Own X.K G0 H0 G ie σ3 H3/\σ3[2]?=some fM/\Tab G H0 H3 p (ts.take (n+1)) ls ((ts.take (n+1)).map λ_=>[]),
   λσ3 H3 ⟨ls,b1,b2,b3⟩=>⟨ts.length-(n+1),∅,ls,b1,b2,b3,hlt,rfl⟩,λy H3 hy=>?_⟩
  obtain⟨rfl,hy⟩:=hy;have hy:=hy _ Nq;rw[zZ,Jz]at hy;cases hy;have hl2:σ2.length=5:=o2.len.symm;refine⟨by show 0<=sizeLine;exact yG _,λl hl=>?_⟩;refine⟨.ref p,by rw[zS (by decide)];exact s22,.int ts[n],yi (by rw[hl2];decide),?_⟩;have nk:ts[n]∉ts.take n:=λz=>by
   obtain⟨j,hj,ej⟩:=zw.mp z;rw[YB]at ej;have hj':j<n:=by rw[zr]at hj;omega
   have:=(wM cd1).mp ej;omega
  obtain⟨H4,d1,d2,T4⟩:=T2.put nk hl o2.gh o2.ext.hh (by rw[zr];omega);refine⟨p,H4,rfl,d1,ls++[l],?_,by rw[zS (by decide)];exact s22,?_⟩
  ·subst d2
   exact((o2.free no (o2.gh.free hl) (o2.ext.hh.free hl)).free no T2.gp T2.hp).other no λw z=>by cases z
  ·rw[(ZF hlt).symm,zN]
   exact T4
 ·have en:n=ts.length:=∅
  subst en;rw[wO]at T2;refine .inl ⟨⟨_,SqL.of (o2.gh _ _ r1),by rw[zB];exact zQ _⟩,?_⟩;obtain⟨v1',r3',A1',vs1',rfl,r4',r5'⟩:=o2.sh 1 _ rfl;have hl5:es.length=vs1'.length:=by have:=r5'.len;rw[zB]at this;exact this
  refine⟨.ref A1',r3',A1',rfl,⟨_,SqL.of (o2.gh _ _ r4')⟩,λn m σ3 H3=>∃G3 x4,Own X.K G0 H0 G3 mF σ3 H3/\Y8 G G3/\σ3[2]?=some fM/\Tab G3 H0 H3 p ts ls ((es.take n).foldl Vt J3) /\
   (∀xs∈(es.take n).foldl (WG ts) (ts.map λ_=>[]),xs.length<=2*n)/\n<=es.length/\m=es.length-n,
   ⟨_,G,none,o2,Y8.refl _,s22,T2,λxs hx=>by obtain⟨_,_,rfl⟩:=zT.mp hx;exact zQ _,yG _,rfl⟩,?_⟩
  rintro n m σ3 H3 ⟨G3,x4,o3,g3,s32,T3,b3,hn3,rfl⟩
  by_cases hlt3:n<es.length
  ·have hq3:=o3.gh _ _ (g3 _ _ r4')
   have hlv:n<vs1'.length:=by rw[<- hl5];exact hlt3
   refine .inr ⟨⟨_,vs1'[n],SqL.of hq3,zD hlv⟩,λσ4 H4=>∃G4 x4,Own X.K G0 H0 G4 mF σ4 H4/\Y8 G G4/\σ4[2]?=some fM/\Tab G4 H0 H4 p ts ls ((es.take (n+1)).foldl Vt J3) /\
    (∀xs∈(es.take (n+1)).foldl (WG ts) (ts.map λ_=>[]),xs.length<=2*(n+1)),
    λσ4 H4 ⟨G4,x4,b1,b2,b4,b5,b6⟩=>⟨es.length-(n+1),∅,G4,x4,b1,b2,b4,b5,b6,hlt3,rfl⟩,λy H4 hy=>?_⟩
   obtain⟨rfl,hy⟩:=hy;have hy:=hy _ (SqL.of hq3);rw[zD hlv]at hy;cases hy;have hd:(es.map Yx)[n]?=some (Yx es[n]):=by rw[zZ,zD hlt3];rfl
   obtain⟨v,hv1,hv2⟩:=r5'.get hd;rw[zD hlv]at hv1;cases hv1;have hl3:σ3.length=5:=o3.len.symm;have o4:Own X.K G0 H0 G3 [Gi,cw,none,none,↥(Yx es[n])] (σ3.set 4 (some vs1'[n])) H4:=o3.setSh (i:=4) (hv2.mono g3);have no4:X8 [Gi,cw,none,none,↥(Yx es[n])]:=zCA (x:=some (Yx es[n]));have s42:(σ3.set 4 (some vs1'[n]))[2]?=some fM:=by rw[zS (by decide)];exact s32
   obtain⟨in1,in2⟩:=cd2 es[n] (zd hlt3);refine qdO k2 k4 o4 no4 s42 T3 (hg0 _ es[n] rfl) (hg1 _ es[n] rfl) in1 (λxs hx=>by have:=b3 xs hx;omega) λG5 H5 o5 g5 T5=>?_;have b5:=q4t (2*n) ts _ es[n].1 es[n].2 b3;refine qdO k4' k2' o5 no4 s42 T5 (hg1 _ es[n] rfl) (hg0 _ es[n] rfl) in2 (λxs hx=>by have:=b5 xs hx;omega) λG6 H6 o6 g6 T6=>?_;have b6:=q4t (2*n+1) ts _ es[n].2 es[n].1 b5;have et:es.take (n+1)=es.take n++[es[n]]:=(ZF hlt3).symm;refine⟨G6,some (Yx es[n]),o6,(g3.trans g5).trans g6,s42,?_,?_⟩
   ·rw[et,ZB];exact T6
   ·rw[et,ZB]
    intro xs hx;have:=b6 xs hx;omega
  ·have en3:n=es.length:=∅
   subst en3;rw[wO]at T3;refine .inl ⟨⟨_,SqL.of (o3.gh _ _ (g3 _ _ r4')),by rw[hl5];exact zQ _⟩,?_⟩;have no3:X8 mF:=zCA;refine⟨p,_,s32,T3.dict,λob=>?_⟩;obtain⟨G',g',o',rp⟩:=T3.told o3 no3 ob;generalize upd H3 p (.frz ob _)=H4 at o' ⊢;refine⟨bK,s32,?_⟩;have oF:Own X.K G0 H0 G' ie σ3 H4:=by
    refine⟨o'.ext,o'.len,Gc,JS,λi j ds es l h=>vM h AZ,pN,Us⟩
    match i,h with
    | 0,h=>exact o'.sh 0 d h
    | 1,h=>exact o'.sh 1 d h
    | 2,h=>cases h
    | 3,h=>cases h
    | 4,h=>cases h
    | i+5,h=>simp at h
   exact kk G' σ3 H4 oF (g3.trans g') bK rp
end
theorem qjH{ω:WSt}{e:fW}(h:ω[4]?=some ↥(Yx e)):dOf (Yz oIx dU aW) ω=some FR:=by
 unfold dOf Yz vOf Ys fC;rw[h];rfl
theorem qjL{ω:WSt}{e:fW}(h:ω[4]?=some ↥(Yx e)):dOf (Yz oIx dU aq) ω=some abG:=by
 unfold dOf Yz vOf Ys fC;rw[h];rfl
noncomputable def zBm(i:Nat)(ω:WSt)(c d:eY):Option dD:=c.bind λc=>d.bind λd=>match c with
 | .int k=>some oy
 | _=>none
noncomputable def dsetS(i:Nat)(ω:WSt)(v c:eY)(w:kW):Option dD:=v.bind λd=>c.bind λc=>match c,w with
 | .int k,some (some (.od ks ds))=>if ks.length<1000000 then some jA else none
 | _,_=>none
noncomputable def dgetR(o:Option Bn)(c:eY):Option R:=o.bind λp=>c.bind λc=>match c with
 | .int k=>(XC p.1 p.2 k).map R.sh
 | _=>none
noncomputable def dhasT(neg:Bool)(c:eY)(o:Option Bn):Option Bool:=c.bind λc=>o.bind λp=>match c with
 | .int k=>some (if neg then !(XC p.1 p.2 k).isSome else (XC p.1 p.2 k).isSome)
 | _=>none
noncomputable def zBj(o:Option Bn):Option R:=o.bind λp=>if p.1.length<64 then some M9 else none
noncomputable def pop0(i:Nat)(ω:WSt)(w:kW):Option nG:=match w with
 | some (some (.ow ds))=>(ds[RD]?).map λd=>FJ
 | _=>none
noncomputable def zB0(j i:Nat)(ω:WSt)(w:kW):Option dD:=(pop0 i ω w).map λp=>(.nx,p.2.set j aaa)
section
variable{ω:WSt}{fk fv:FD}{i j:Nat}{ks:List Int}{ds:List D}{k:Int}{d:D}{neg:Bool}
theorem qdV:zBJ i ω=some Vz:=rfl
theorem qbm:zAt i fk fv ω=zBm i ω PH (fv ω):=rfl
theorem qht:zBm i ω dO pW=some oy:=rfl
theorem qdI:zAf i fk fv ω=dsetS i ω (fv ω) PH ω[i]?:=rfl
theorem qdR:zAL i fk ω=dgetR (Wn ω[i]?) PH:=rfl
theorem qh9:dgetR V9 dO=(XC ks ds k).map R.sh:=rfl
theorem qhM:Wn V8=some Gs:=rfl
theorem qhw:Wn (some ↥DK)=some Gs:=rfl
theorem qef:zAw neg i fk ω=dhasT neg PH (Wn ω[i]?):=rfl
theorem qgV:dhasT true dO V9=some (!(XC ks ds k).isSome):=rfl
theorem qba:zAr i ω=zBj (Wn ω[i]?):=rfl
theorem qbI:zAK j (zBf i) ω=zB0 j i ω ω[i]?:=rfl
theorem qhs:shrS i ω V8=ω.set i ↥DK:=rfl
end
theorem q4s{i:Nat}{ω:WSt}{ks:aa}{ds:aO}{k:Int}{d:D}(h:J9):dsetS i ω pW dO V8=some jA:=vC h
theorem qgJ{ks:aa}{ds:aO}(h:ks.length<64):zBj V9=some (.fr Hi):=vC h
theorem qiq{j i:Nat}{ω:WSt}{ds:aO}{d:D}:zB0 j i ω (some Pq)=some (.nx,(ω.set i cW).set j ↥d):=by
 unfold zB0 pop0;have e1:(ds++[d])[aaM]?=some d:=by
  rw[zE,zi,Z4,zc cL,wf];rfl
 have e2:(ds++[d]).dropLast=ds:=by simp
 show Yc _ (((ds++[d])[aaM]?).map _)=_;rw[e1,e2];rfl
section
variable{X:Cx}{o k e:vP}{pos pos':Pos}{i:Nat}{fk fv:FD}
noncomputable def zB7(i:Nat)(fk fv:FD):FS:=λω=>(fv ω).bind λd=>(fk ω).bind λc=>match c,ω[i]? with
 | .int k,some (some (.ow ds))=>(ixN ds.length k).map λj=>ED
 | _,_=>none
theorem Y2.set{K:zC}{H:Hp}:∀{ds:aO}{vs:bu}(n:Nat){d:D}{v:V},Y2 K H ds vs->Rep K H d v->Y2 K H (ds.set n d) (vs.set n v)
 | [],_,_,_,_,h,_=>by cases (show _=_ from h);rfl
 | _::_,_,0,_,_,⟨v,r,h1,h2,h3⟩,hv=>by rw[h1];exact⟨_,_,rfl,hv,h3⟩
 | _::_,_,n+1,_,_,⟨v,r,h1,h2,h3⟩,hv=>by rw[h1];exact⟨v,_,rfl,h2,Y2.set n h3 hv⟩
theorem qii(ho:jp)(hk:Ll)(hv:XD X e fv)(hs:t6 [iw] e pos.line X.env=pure false:=by rfl)(hw:t7 [iw] e X.env=pure none:=by rfl)(h1':(uN [iw] X.env).map (·.2)=[assign iw X.env]:=by rfl)(ha:∀v,assign iw X.env v=(do
   let ov <- holding [v] (eval o X.env)
   let iv <- holding [v,ov] (eval k X.env)
   sP pos'
   holding Qx U7
   release Qx []):=by intro _;rfl):XS X Sl (zB7 i fk fv):=by
 obtain⟨tk,h1,h2⟩:=hk;obtain⟨tv,h3,h4⟩:=hv;refine⟨_,qdy h3 (qjX ho h1 qfR ha) hs hw h1',m9⟩;obtain⟨d,q1,e⟩:=bnd e;obtain⟨c,q2,e⟩:=bnd e;refine h4 G0 H0 G ω σ H d _ ow q1 λv G1 H1 x1 y1=>?_;cases c with
 | int m=>
  split at e
  ·rename_i _ _ _ m' ds ek q3
   cases ek;obtain⟨j,hj,e⟩:=mpd e;cases e;have o1:=ow.keep x1;obtain⟨l,vs,r1,r2,r3,r4,r5⟩:=o1.ow i ds q3;refine⟨cU,r1,h2 G0 H0 G1 ω σ H1 _ _ o1 q2 λu G2 H2 x2 y2=>?_⟩;cases (show u=.int m from y2);have o2:=o1.keep x2;refine⟨l,vs,m,j,rfl,rfl,x2.hh _ _ r2,by rw[<- r5.len];exact hj,?_⟩;exact kk G2 σ _ (o2.mut q3 r1 Gf (x2.new l r3 (by rw[r2];exact λz=>by cases z)) r4 ((r5.mono x2.gg).set j Bf)) nV
  ·cases e
 | _=>cases e
end
section
variable{X:Cx}{e:vP}{pos pos':Pos}{i:Nat}{fe:FD}
end
section
open PySem.Spec PyProof.Rows
variable{X:Cx}
end
end Hk
namespace L2
open PySem PySem.Spec PyProof.Rows
end L2
namespace Hk
open PySem L2
noncomputable def lsetS(i:Nat)(ω:WSt)(v c:eY)(w:kW):Option dD:=v.bind λd=>c.bind λc=>match c,w with
 | .int k,some (some (.ow ds))=>(ixN ds.length k).map λj=>ED
 | _,_=>none
section
variable{ω:WSt}{fk fv:FD}{fa:FA}{i j:Nat}{ds:List D}{a b c:Int}{d:D}{g:Int->Int->Int}
theorem qe9:zB7 i fk fv ω=lsetS i ω (fv ω) PH ω[i]?:=rfl
end
theorem qjb{i:Nat}{ω:WSt}{ds:aO}{d:D}{k:Int}(h0:Tc)(h1:k<ds.length):lsetS i ω pW dO sn=some (.nx,ω.set i (some (.ow (ds.set k.toNat d)))):=by
 show (ixN ds.length k).map _=_;have e:ixN ds.length k=some k.toNat:=by unfold ixN;rw[vC h0,U3]
 rw[e];rfl
end Hk
namespace L2
open PySem PySem.Spec PyProof.Rows
noncomputable def Ite(K:zC)(a:vF):It :=
 ⟨λi H=>∃xs x,SqL K H a xs/\xs[i]?=some x,
  λi H x H'=>∃t x1,H t=none/\x=.ref t/\H'=upd H t acC/\∀xs,SqL K H a xs->xs[i]?=some x1,
  λi H=>∃xs,SqL K H a xs/\xs[i]?=none⟩
theorem qeC{P:vQ}{w:vY}{K:zC}{elts:jc}{kx}{tpos:Pos}(a e it:vF)(hne:e≠it)(hae:a≠e)(hai:a≠it):
  Turn P w K ki abw [e,it] e (λi h=>(∃old,IsEnum h e it mX old)/\h.IsListIter it a i) where
 mem:=by simp
 obj:=λi h st c hc=>by
  obtain⟨⟨old,s1⟩,⟨o4,e4,c4,d4⟩⟩:=st;simp only[zK,zq,or_false]at hc;rcases hc with rfl|rfl
  ·exact⟨_,s1,λv y=>by cases (show Data.fields _=Data.cell v from y)⟩
  ·exact⟨_,e4,λv y=>by rw[d4]at y;cases y⟩
 keep:=λi h h' st k=>by
  obtain⟨⟨old,s1⟩,s4⟩:=st;exact⟨⟨old,k _ (by simp) _ s1⟩,s4.at λo e=>k _ (by simp) o e⟩
 item:=by
  intro X hP hw hK hc i pins s σ H E I hf st hg;subst hP hw hK;obtain⟨xs,x,hq,hx⟩:=hg;obtain⟨its,rv,p,hz⟩:=I.list hq;obtain⟨u,hu,ru⟩:=rv.get hx;obtain⟨⟨old,s1⟩,s4⟩:=st;have ex:∀c∈[e,it],∃o,s.heap.get? c=some o:=λc hc=>by
   simp only[zK,zq,or_false]at hc;rcases hc with rfl|rfl
   ·exact⟨_,s1⟩
   ·obtain⟨o,e,_⟩:=s4;exact Hv
  have nt:∀c∈[e,it],c≠s.heap.objs.size:=λc hc=>by
   obtain⟨o,e⟩:=ex c hc;exact zx DP
  refine wpAny_pyNext_enum_item s1 s4 p.isList (x:=u) (by simpa using hu) hne λh' a1 a2 a3 a4 hk=>?_;have hn:H s.heap.objs.size=none:=I.hok.fresh cL;have I1:Inv X pins σ iB { s with heap:=s.heap.push { cls:=.type "tuple", data:=.seq #[.int i s.toks,u] },toks:=s.toks+1 } :=
   I.laid UV cL (show XH X.prog X.w _ _ _ (.tup [kE,x])from ⟨by show 2<=sizeLine;decide,[.int i s.toks,u],.cons cf abI,FX⟩)
  have hf':∀c∈[e,it],WA X pins iB c:=λc hc=>by
   obtain⟨f0,f⟩:=hf c hc;exact⟨by rw[qd (nt c hc)];exact f0,f⟩
  have I2:Inv X pins σ iB { s with heap:=h',toks:=s.toks+1 }:=I1.turnedL (λb o hb e=>by
   simp only[zK,zq,or_false,not_or]at hb
   by_cases q:b=s.heap.objs.size
   ·subst q
    rw[jt]at e;cases e;exact a3
   ·have e':s.heap.get? b=some o:=by
     rcases yH b s.heap.objs.size with l|l
     ·obtain⟨z1,z2⟩:=xy.mp e
      refine xy.mpr ⟨?_,z2⟩;rw[<- z1];show s.heap.objs[b]?=(s.heap.objs.push _)[b]?;rw[Zo,vG q]
     ·have:=zU e
      rw[ye]at this;exact vM (by simp only[vF]at *;omega) q
    exact hk b o hb.1 hb.2 e') hf'
  refine⟨_,rfl,wpAny_letOwnedTupleGo_enum a1 λh2 b1 sb=>?_⟩;have I3:Inv X pins σ iB { s with heap:=h2,toks:=s.toks+1 }:=I2.turnedL (λb o hb e=>(sb.2 b (λq=>hb (by simp[q]))).trans e) hf';have hi:((i+1:Nat):Int)=mX+1:=by push_cast;rfl
  refine⟨aH,_,I3,rfl,⟨_,x,hn,rfl,rfl,λxs' q1=>by rw[I.list_inj q1 hq];exact hx⟩,⟨⟨u,by rw[hi];exact b1⟩,a2.extBut sb.extBut (Ne.symm hne)⟩,Tr⟩
 done:=by
  intro X hP hw hK hc i pins s σ H E I hf st hg;subst hP hw hK;obtain⟨xs,hq,hx⟩:=hg;obtain⟨its,rv,p,hz⟩:=I.list hq;obtain⟨⟨old,s1⟩,s4⟩:=st;have l1:=rv.length;refine wpAny_pyNext_enum_end gB s1 s4 p.isList ?_ λh' hk=>Bd
  ·rw[xo]at hx;simp;omega
  ·simp only[zK,zq,or_false,not_or]at hb
   exact hk b o hb.2 e
 self:=λ_ _ _ _ _ st h=>by
  obtain⟨⟨old,s1⟩,s4⟩:=st;exact wpAny_pyIter_enum s1 h
noncomputable def iEnum(K:zC)(ta:TA):TI:=λσ H R=>ta σ H λvs H1=>∃a xs,vs=[dF]/\SqL K H1 a xs/\R abw H1
theorem qbp{X:Cx}{a:vP}{ta:TA}{p pos tpos:Pos}{elts:jc}{kx}(hg:Lx)(hm:DG)(ha:PA X [a] ta)(hs:CC:=by rfl):
  PI X ki EH (iEnum X.K ta):=by
 intro pins s σ H R I h;refine Call_ (q0p I hg hm PyProof.Rows.boot_enumerate (PyProof.Rows.callWith_type1 (thn fQ λus s1 ⟨vs,H1,I1,r1,q1⟩=>?_) hs rfl));obtain⟨l,xs,e,hq,q⟩:=q1;subst e;cases r1 with
 | cons r rr=>
  cases rr;cases r;obtain⟨its,rv,p1,hz⟩:=I1.list hq;have hlt:l<s1.heap.objs.size:=by obtain⟨_,_,e,_⟩:=p1;exact zU e
  refine call_enumerate_list p1.isList λh' a1 a2 a3 hk=>?_;refine wpAny_pyIter_enum a1 ?_;refine⟨AC,[AC,s1.heap.objs.size],_,_,H1,rfl,P3,qeC l _ _ (Nat.succ_ne_self _) (zx (yW hlt)) Ma,⟨⟨_,a1⟩,a2⟩,λc hc=>?_,q⟩;have hle:s1.heap.objs.size<=c:=by
   simp only[zK,zq,or_false]at hc;simp only[vF]at *;omega
  exact I1.fpOk hle UF
end L2
namespace Hk
open PySem L2
noncomputable def Wd:Nat->List D->List D
 | i,a::as=>.tup [kE,a]::Wd (i+1) as
 | _,[]=>[]
theorem q5e:∀(i:Nat)(as:aO),(Wd i as).length=as.length
 | i,a::as=>by show (Wd (i+1) as).length+1=_;rw[q5e];rfl
 | i,[]=>rfl
theorem q8o:∀(k:Nat)(as:aO)(i:Nat)(d:D),(Wd k as)[i]?=some d->∃a,as[i]?=some a/\d=.tup [.int ((k+i:Nat):Int),a]
 | k,a::as,0,d,h=>by cases h;exact⟨a,rfl,rfl⟩
 | k,a::as,i+1,d,h=>by
  obtain⟨b,h1,h2⟩:=q8o (k+1) as i d h;exact⟨b,h1,by rw[h2];congr 4;omega⟩
 | k,[],i,d,h=>by cases h
theorem qdv{K:zC}{G:Hp}{a:vF}{ds:aO}{vs:bu}(h1:UH)(h2:rK):IterOf K abw G (Wd 0 ds):=by
 have l1:=h2.len;refine⟨Ge,iP,λH s=>⟨vs,Lo,?_⟩⟩
 ·rw[q5e]at hi
  exact⟨vs,vs[i]'∅,Lo,zD _⟩
 ·obtain⟨t,x1,ht,rfl,rfl,y⟩:=hy
  have e1:=y vs RU;obtain⟨p,f1,rfl⟩:=q8o 0 ds i d hd;obtain⟨v,q1,q2⟩:=h2.get f1;rw[e1]at q1;cases q1;have x2:=Ext.lay s1 ht acC;exact⟨_,x2,⟨t,_,rfl,qg,Y2.cons (by show (.int i:V)=.int abK;rw[wG]) (Y2.cons (q2.mono J5) Y2.nil)⟩⟩
 ·rw[q5e];exact yA ∅
noncomputable def iEn(g:FA):FI:=λω=>(g ω).bind λds=>match ds with
 | [.lst a]=>some (Wd 0 a)
 | _=>none
theorem qc3{X:Cx}{a:vP}{g:FA}{p pos tpos:Pos}{elts:jc}{kx}(hg:Lx)(hm:DG)(ha:XA X [a] g)(hs:CC:=by rfl):
  XI X ki EH (iEn g):=by
 obtain⟨⟨t,h1,h2⟩,_⟩:=ha;refine⟨_,qbp hg hm h1 hs,iE⟩;obtain⟨vs,q,e⟩:=bnd e;refine h2 G0 H0 G ω σ H vs _ o q λus G1 H1 x1 y1=>?_
 match vs,e with
 | [.lst as],e=>
  cases e;obtain⟨v1,r1,rfl,z1,z2⟩:=y1;cases (show r1=[]from z2);obtain⟨a1,ws1,rfl,f1,f2⟩:=z1;exact⟨a1,ws1,rfl,S8,k _ G1 H1 x1 (qdv f1 f2)⟩
noncomputable def enI(o:kX):Option aO:=o.bind λds=>match ds with
 | [.lst a]=>some (Wd 0 a)
 | _=>none
theorem qcM{fa:FA}{ω:WSt}:iEn fa ω=enI JH:=rfl
theorem qd0{ds:aO}:enI (some [fK])=some (Wd 0 ds):=rfl
section
open PyProof.Rows PySem.Spec
variable{prog:vQ}{w:vY}{A:ve}{E:vB->vH->Prop}{s:vH}{l:vF}{xs:Array (Int×Tok)}
end
section
variable{X:Cx}
open PyProof.Rows PySem.Spec
end
end Hk
namespace Hk
open PySem PySem.Spec PyProof.Rows L2
section
variable{prog:vQ}{w:vY}{A:ve}{E:vB->vH->Prop}{s:vH}
end
end Hk
namespace L2
open PySem PySem.Spec PyProof.Rows Hk
end L2
namespace Hk
open PySem L2
end Hk
namespace L2
open PySem PySem.Spec PyProof.Rows
noncomputable def Itk(a:vF)(ob:Obj)(kvs:fJ):It :=
 ⟨λi H=>H a=some jj/\i<kvs.length,λi H x H'=>H'=H/\∃n v,kvs[i]?=some (abl,v)/\x=.int n,λi H=>H a=some jj/\kvs.length<=i⟩
theorem qeo{X:Cx}{pins:ay}{σ:St}{H:Hp}{s:vH}{a:vF}{ob:Obj}{kvs:fJ}{es0:M6}{ep:Nat}(I:aj)(h:H a=some jj)(hd:TV):
  Ck=false/\∃vs,KV kvs vs/\s.heap.DictAt oN a vs ep:=by
 obtain⟨e,_,lo,vs,r,o,es,ep',e',c1,c2,c3⟩:=(show XH X.prog X.w H s.heap a jj from I.hok a _ h);refine⟨lo,vs,r,o,es,e',c1,?_,c3⟩;rw[e]at e';cases e';rw[hd]at c2;cases c2;exact hd
theorem qfj{P:vQ}{w:vY}{K:zC}{tg:vP}{ob:Obj}{kvs:fJ}{es0:M6}{ep:Nat}(a it:vF)(hne:a≠it)(hd:TV)(hk:∀p∈kvs,∃n:Int,p.1=oP):
  Turn P w K tg acz [it] it (λi h=>h.IsKeyIter it a i kvs.length ep) where
 mem:=by simp
 obj:=λi h st b hb=>by
  have e:b=it:=by simpa using hb
  subst e;obtain⟨o,e,c,d⟩:=st;exact⟨o,e,λv z=>by rw[d]at z;cases z⟩
 keep:=λi h h' st k=>st.at λo e=>k it (by simp) o e
 item:=by
  intro X hP hw hK hc i pins s σ H E I hf st hg;subst hP hw hK;obtain⟨hq,hi⟩:=hg;obtain⟨lo,vs,r,hm⟩:=qeo I hq hd;have hl:kvs.length=vs.length:=by have:=vm yh r.keys;simpa using this
  obtain⟨⟨k,v⟩,hx⟩:∃p,kvs[i]?=some p:=⟨kvs[i],zD hi⟩;obtain⟨n,rfl⟩:=hk _ (yD hx);obtain⟨⟨k',u⟩,hu⟩:∃p,vs[i]?=some p:=⟨vs[i]'∅,zD _⟩;have ek:k'=oP:=by
   have h1:(kvs.map (·.1))[i]?=some abl:=by rw[zZ,hx];rfl
   rw[r.keys,zZ,hu]at h1;exact zy h1
  subst ek;obtain⟨f0,f1,f2,f3,f4,f5⟩:=hf it (by simp);rw[hl]at st;refine wpAny_pyNext_dict_item st hm hu λkey h' hkey st' sb=>?_;have I1:Inv X pins σ H { s with heap:=h' }:=I.turned (t':=s.toks) pA f0 f1 f3 f4 f5;obtain⟨t,rfl⟩:∃t,key=.int n t:=by
   rcases qV (k:=oP) hkey with⟨i,t,e4,rfl⟩|⟨x,t,e4,_⟩
   ·cases e4;exact LE
   ·cases e4
  obtain⟨o,e,c,d⟩:=id st';rw[<- hl]at st';exact⟨.int n t,rfl,q93 (s:={ s with heap:=h' }) e c d (by decide) ⟨bI,H,I1,LE,⟨rfl,n,v,hx,rfl⟩,st',AU⟩⟩
 done:=by
  intro X hP hw hK hc i pins s σ H E I hf st hg;subst hP hw hK;obtain⟨hq,hi⟩:=hg;obtain⟨lo,vs,r,hm⟩:=qeo I hq hd;have hl:kvs.length=vs.length:=by have:=vm yh r.keys;simpa using this
  obtain⟨f0,f1,f2,f3,f4,f5⟩:=hf it (by simp);rw[hl]at st;exact wpAny_pyNext_dict_end gB st hm Tv λh' eb=>db
 self:=λ_ _ _ _ _ st h=>wpAny_pyIter_keyiter st h
noncomputable def iKeys(tl:TE):TI:=λσ H R=>tl σ H λv H1=>∃a ob kvs,v=.ref a/\H1 a=some jj/\(∀p∈kvs,∃n:Int,p.1=oP)/\R acz H1
theorem qjm{X:Cx}{tg l:vP}{tl:TE}(hl:PE X l tl):PI X tg l (iKeys tl):=by
 intro pins s σ H R I h;refine thn DD λv s1 ⟨x,H1,I1,r1,q1⟩=>?_;obtain⟨a,ob,kvs,e,hq,hk,q⟩:=q1;subst e;cases r1;obtain⟨e0,_,lo,vs,r,o,es,ep,e',c1,c2,c3⟩:=(show XH X.prog X.w H1 s1.heap a jj from I1.hok a _ hq);have hob:ob.data=.dict es ep:=by rw[e0]at e';cases e';exact c2
 have hm:s1.heap.DictAt oN a vs ep:=⟨o,es,e',c1,c2,c3⟩;have hlen:kvs.length=vs.length:=by have:=vm yh r.keys;simpa using this
 have hlt:a<s1.heap.objs.size:=zU e0;refine wpAny_pyIter_dict lo hm ?_;refine⟨s1.heap.objs.size,HN,_,_,H1,rfl,I1.kept (t':=s1.toks) λb o e=>zJ _ e,qfj a _ Ma hob hk,⟨_,zX _ rfl,rfl,by rw[hlen];rfl⟩,lR,q⟩;have e:b=s1.heap.objs.size:=by simpa using hb
 subst e;exact I1.fpOk cL pR
end L2
namespace Hk
open PySem L2
theorem q8n:∀{ks:aa}{vs:bu}{i:Nat}{n:Int}{v:V},(kvsOf ks vs)[i]?=some (abl,v)->ks[i]?=some n
 | [],_,_,_,_,h=>by cases h
 | _::_,[],_,_,_,h=>by cases h
 | k::ks,v::vs,0,n,u,h=>by cases h;rfl
 | k::ks,v::vs,i+1,n,u,h=>q8n (ks:=ks) (vs:=vs) h
theorem q8i:∀{ks:aa}{vs:bu},∀p∈kvsOf ks vs,∃n:Int,p.1=oP
 | [],_,_,h=>by cases h
 | _::_,[],_,h=>by cases h
 | k::ks,v::vs,p,h=>by
  rcases zK.mp h with rfl|h
  ·exact⟨k,rfl⟩
  ·exact q8i p h
theorem qdx{K:zC}{G:Hp}{a:vF}{ob:Obj}{ks:aa}{vs:bu}(h1:G a=some (.frz ob jK))(hl:Vh):IterOf K (Itk a ob Hr) G Mt:=by
 have l1:=q2B hl;refine⟨λH i s hi=>⟨s _ _ h1,by rw[zB]at hi;omega⟩,iP,λH s=>⟨s _ _ h1,by rw[zB];omega⟩⟩;obtain⟨e,n,v,q1,q2⟩:=hy;subst e q2;have:=q8n q1;rw[zZ,this]at hd;cases hd;exact⟨G2,UI,rfl⟩
noncomputable def zBZ:Option cc->Option aO
 | some ↥(.dic ks _)=>some Mt
 | _=>none
noncomputable def iDk(i:Nat):FI:=λω=>zBZ ω[i]?
theorem qi6{X:Cx}{tg o:vP}{i:Nat}(ho:jp):XI X tg o (iDk i):=by
 refine⟨_,qjm ho,λG0 H0 G ω σ H ds R ow e k=>?_⟩;unfold iDk zBZ at e
 split at e
 ·rename_i ks ds' q
  cases e;obtain⟨v,h1,p,vs,rfl,⟨ob,h2⟩,h3,h4⟩:=ow.sh i _ q;exact⟨bK,h1,p,ob,_,rfl,ow.gh _ _ h2,q8i,k _ G H aay (qdx h2 (by rw[h3];exact h4.len))⟩
 ·cases e
end Hk
namespace L2
open PySem PySem.Spec PyProof.Rows
section
variable{X:Cx}{pins:List (vF×Obj)}{σ:St}{H:Hp}{s:vH}{a:vF}{A:ve}{E:vB->vH->Prop}{kvs:List (Key×V)}{k:Key}{u r:vB}{z:V}
theorem qgy{Q:aS}(I:aj)(e:LZ)(hz:Vg)(ry:RelV T9 u)(rz:RelV z r)(h1:∀v w' s',Wi kvs k=some v->Inv X pins σ H s'->RelV v w'->Q w' s')(h2:Wi kvs k=none->∀s',Inv X pins σ (upd H a Sf) s'->Q r s'):
  vL ai A (call (.builtin "dict.setdefault") [dF,u,r]) Q E s:=by
 obtain⟨zl,hd,vs,rel,dd⟩:=qcY I.hok e;have rv:=rel.val k;refine sI PySem.F.slot_dict_setdefault dd.typeIs PySem.F.entry_dict_setdefault (PySem.F.args_dict_setdefault_3 _ _ _) (kt_meets_setdefault oN a Mm hd r)
  ⟨vs,dd,by rw[<- rel.length];exact zl,λv hv=>?_,λhn h' dd' hs=>?_⟩
 ·rw[hv]at rv
  cases q:Wi kvs k with
  | none=>rw[q]at rv;exact rv.elim
  | some v0=>rw[q]at rv;exact h1 v0 v _ q jR rv
 ·rw[hn]at rv
  cases q:Wi kvs k with
  | some v0=>rw[q]at rv;exact rv.elim
  | none=>
   refine h2 q _ ?_;have he:∃q,h'.get? a=some q:=let ⟨q,_,_,hq,_⟩:=dd';Nz
   have hl:(putK kvs k z).length<=sizeLine:=by rw[qfE z q,zE,zi];exact hz
   exact q62 I (by rw[e];exact True.intro) hs he (q99 hl hd (rel.put k rz) dd')
end
noncomputable def tDSd(td ty tx:TE):TE:=λσ H Q=>td σ H λx H1=>∃a,x=.ref a/\IsD H1 a/\ty σ H1 λy H2=>tx σ H2 λz H3=>∃kvs k,H3 a=some cV/\y=kV k/\kvs.length<sizeLine /\
 (∀v,Wi kvs k=some v->Q v H3)/\(Wi kvs k=none->Q z (upd H3 a Sf))
theorem qkb{X:Cx}{o e f:vP}{apos cpos:Pos}{td ty tx:TE}(ho:Lr)(he:PE X e ty)(hf:PE X f tx)(m:M2 X o "setdefault" apos e f cpos):PE X (.Call (.Attribute o "setdefault" apos) [e,f] [] cpos) (tDSd td ty tx):=by
 intro pins s σ H Q I h;refine wpAny_Call_method m.base m.few m.line PySem.F.plainAttrs_dict PySem.F.slot_dict_setdefault PySem.F.type_dict_setdefault (thn jQ λu s1 ⟨x,H1,I1,rx,a,ex,d,q1⟩=>?_);subst ex;obtain rfl:u=Value.ref a:=rx;obtain⟨t1,t2,_⟩:=qdu I1 d;refine⟨t1,t2,?_⟩;rw[m.trees];refine Calls.callWith_builtin rfl (Calls.evalArgs_plain (Calls.spliced_cons (thn Mz λiv s2 ⟨y,H2,I2,ry,q2⟩=>
  Calls.spliced_cons (thn My λfv s3 ⟨z,H3,I3,rz,kvs,k,ea,ey,hz,g1,g2⟩=>Calls.spliced_nil ?_))))
 subst ey;exact qgy I3 ea hz ry rz (λv w' s4 hv I4 rw'=>⟨v,H3,I4,rw',g1 v hv⟩) λhn s4 I4=>⟨z,_,I4,rz,g2 hn⟩
end L2
namespace Hk
open PySem L2
theorem q0V{α:Type}:∀{ks:aa}{xs:bN}{k:Int},ks.length=xs.length->(XC ks xs k).isSome=decide (k∈ks)
 | [],[],k,_=>by simp[XC]
 | [],_::_,_,h=>by simp at h
 | _::_,[],_,h=>by simp at h
 | k'::ks,x::xs,k,h=>by
  show (if k'=k then some x else XC ks xs k).isSome=_
  by_cases z:k'=k
  ·rw[fG,vO (by rw[z];exact zG)];rfl
  ·rw[fm,q0V ⇑h]
   have:(k∈k'::ks)↔k∈ks:=⟨λm=>(zK.mp m).resolve_left λe=>z e.symm,zH _⟩;rw[decide_eq_decide.mpr this]
theorem q8D{α:Type}{v:α}:∀{ks:aa}{xs:bN}{k:Int},ks.length=xs.length->k∉ks->XC Gu (xs++[v]) k=some v
 | [],[],k,_,_=>vC rfl
 | [],_::_,_,h,_=>by simp at h
 | _::_,[],_,h,_=>by simp at h
 | k'::ks,x::xs,k,h,hk=>by
  show (if k'=k then some x else XC Gu (xs++[v]) k)=some v;rw[vG (λz=>hk (by rw[z];exact zG))];exact q8D ⇑h λm=>hk Q3
noncomputable def Xp(st:List Int×List aa)(n:Int)(a:Int):List Int×List aa :=
 if a∈st.1 then (st.1,Wf st.1 st.2 a n)else (st.1++[a],Wf (st.1++[a]) (st.2++[[]]) a n)
noncomputable def byS(as:ah):Nat->List Int×List aa
 | 0=>([],[])
 | n+1=>match as[n]? with
  | some a=>Xp ME n a.1
  | none=>byS as n
noncomputable def spT(K:zC):Sp:=λvs H Q _=>∃(G:Hp) (as:ah),Y8 G H/\Y2 K G [bb] vs/\as.length<=9000 /\
 ∀G' p ls H',Ext G H G' H'->Tab G' H H' p (byS as as.length).1 ls (byS as as.length).2->Q bK H'
theorem qhq(as:ah):∀n:Nat,(byS as n).1.length<=n/\∀xs∈(byS as n).2,xs.length<=n
 | 0=>⟨cL,λxs h=>by cases h⟩
 | n+1=>by
  obtain⟨h1,h2⟩:=qhq as n;unfold byS;cases q:as[n]? with
  | none=>exact⟨by show (byS as n).1.length<=_;omega,λxs hx=>by have:=h2 xs hx;omega⟩
  | some a=>
   show (Xp ME n a.1).1.length<=_/\∀xs∈(Xp (byS as n) n a.1).2,_;unfold Xp
   split
   ·exact⟨by show (byS as n).1.length<=_;omega,q4t n _ _ _ _ h2⟩
   ·refine⟨by show ((byS as n).1++[a.1]).length<=_;rw[zE,zi];omega,q4t n _ _ _ _ λxs hx=>?_⟩
    rcases zL.mp hx with y|y
    ·exact h2 xs y
    ·cases zR.mp y;exact yG _
section
variable{K:zC}{G0:Hp}{H0:Fr}{G:Hp}{ω:WSt}{σ:St}{H:Hp}
end
theorem noOw4{d0 d2 d3:eY}:X8 [d0.map W.sh,none,d2.map W.sh,d3.map W.sh]:=by
 intro i w h
 match i,h with
 | 0,h=>cases d0 <;> cases h;exact cf
 | 1,h=>cases h
 | 2,h=>cases d2 <;> cases h;exact cf
 | 3,h=>cases d3 <;> cases h;exact cf
 | i+4,h=>simp at h
section
variable{X:Cx}
theorem qiF{ta:TE}{g0:FD}(k2:zAz X.K ta g0){G0:Hp}{H0:Fr}{G:Hp}{ω:WSt}{σ:St}{H:Hp}{p:vF}{ks:aa}{ls:eA}{xss:eO}{a n:Int}{Q:VK}(o:QD)(no:OV)(s1:σ[1]?=some fM)(s2:σ[2]?=some (some bI))(T:dW)(h0:g0 ω=some cY)(hk:J9)(hz:∀xs∈xss,xs.length<1000000)(h:∀G' H' ls',Own X.K G0 H0 G' ω σ H'->Y8 G G'->Tab G' H0 H' p (Xp (ks,xss) n a).1 ls' (Xp (ks,xss) n a).2->Q .non H'):
  tBM X.K "list" X7 (tDSd Uv ta JX) (Wm FK zAH) σ H Q:=by
 have hlen:ks.length=(ls.map V.ref).length:=by rw[zB];exact T.len
 refine⟨bK,s1,p,rfl,.inl ⟨_,.inl T.dict⟩,k2 G0 H0 G ω σ H _ _ o h0 λu G1 H1 x1 y1=>?_⟩;cases (show u=.int a from y1);have o1:=o.keep x1;have T1:=T.keep x1;refine⟨by show 0<=sizeLine;exact yG _,λq hq=>?_⟩;have hpq:p≠q:=λz=>by rw[<- z,T1.dict]at hq;cases hq
 have x2:=Ext.hide o1.gh hq jC;have o2:=o1.keep x2;have T2:=T1.keep x2;have vv:Wi Ab oQ=XC ks eS a:=q0x hlen a;refine⟨kvsOf ks eS,Sum.inl a,T2.dict,rfl,by rw[q2B hlen,vh];omega,λv hv=>?_,λhn=>?_⟩
 ·
  have ha:a∈ks:=by
   have:=q0V (ks:=ks) (xs:=ls.map V.ref) (k:=a) hlen;rw[vv]at hv;rw[hv]at this;exact of_decide_eq_true this.symm
  obtain⟨l,xs,n1,n2,n3,n4,n5,n6⟩:=T2.app n ha;rw[vv,n3]at hv;cases hv;refine⟨.inl ⟨rfl,_,SqL.of n5⟩,.int n,s2,l,_,.int n,rfl,rfl,n5,by rw[zB,vh];have:=hz xs n2;omega,?_⟩;rw[show xs.map V.int++[V.int n]=(xs++[n]).map V.int by rw[zN];rfl];refine h G1 _ ls Dz x1.gg ?_;unfold Xp;rw[vC ha];exact n6
 ·have ha:a∉ks:=λha=>by
   have:=q0V (ks:=ks) (xs:=ls.map V.ref) (k:=a) hlen;rw[vv]at hn;rw[hn,vO ha]at this;cases this
  obtain⟨H4,_,e4,T4⟩:=T1.put (l:=q) ha hq o1.gh o1.ext.hh hk;have ep:putK Ab (Sum.inl a) (.ref q)=kvsOf OR QO:=by
   rw[q5C hlen];unfold WN putA;rw[vG ha,vG ha,zN];rfl
  rw[ep,<- e4];have gp:=T1.gp;have gq:G1 q=none:=o1.gh.free hq;have h0q:H0 q=none:=o1.ext.hh.free hq;have o4:Own X.K G0 H0 G1 ω σ H4:=by rw[e4];exact o2.free no T1.gp T1.hp
  obtain⟨l,xs,n1,n2,n3,n4,n5,n6⟩:=T4.app n (a:=a) (by simp);have hq4:H4 q=some jC:=by rw[e4,qd (Ne.symm hpq)];exact qg
  have lq:l=q:=by
   have:XC OR QO a=some (.ref q):=by
    rw[zN];exact q8D hlen ha
   rw[this]at n3;cases n3;rfl
  subst lq;rw[hq4]at n5;have xe:xs=[]:=by
   cases xs with
   | nil=>rfl
   | cons y ys=>cases n5
  subst xe;refine⟨.inl ⟨rfl,_,SqL.of hq4⟩,.int n,s2,l,_,.int n,rfl,rfl,hq4,by show 0<sizeLine;rw[vh];omega,?_⟩;refine h G1 _ (ls++[l]) (o4.free no gq h0q) x1.gg ?_;unfold Xp;rw[vG ha];exact n6
theorem qir{x1 x2 x3:Str}{o0 o1 e0 e1 e2:vP}{q1 q2 q3 q4 q5 q6 q9 q12 q15 a1 a2 c1 c2 ep ec tp:Pos}{kx}{g0:FD}(hp:kQ)(hc:cI)(hN:X.N.Nodup)(i1:X.N[1]?=some x1)(i2:X.N[2]?=some x2)(i3:X.N[3]?=some x3)(l1:Loc X.env.scope x1)(l2:aaw)(l3:aav)(f1:X.fn x1=true\/X.env.scope.names.lookup x1=some .local)(f2:A6)(f3:A5)(hge:Lx)(hme:DG)(h0:PE X o0 (Xf 0))(h1:PE X o1 Uv)(h2:PE X e1 FK)(h3:PE X e2 Uv)(ha:XD X e0 g0)(hg0:∀(ω:WSt)e,ω[3]?=some Gj->g0 ω=some FR)(hl:X.N.length=4)(m2:M2 X o1 "setdefault" a1 e0 IA c1)(s1:vz Dl (some (.Name x1 q2)) q3.line X.env=pure false)(sE:vK [o0] X.env=[(false,eval o0 X.env)])(ab:uB cF "append" X.env (eval cF X.env)=eval cF X.env)(w1:((vU c2 aaT).all (λx=>!x.1)&&(v5 c2 kP).all iC&&decide (([e1]:List vP).length+([]:List uF).length+(if ([]:List uF).isEmpty then 0 else 1)<30))=true)(z1:OA)(t1:Ce)(p1:(vU c2 bQ).any (·.1)=false)(v1:vz Cv none q9.line X.env=pure false)(pg:∀t,PGs X Cm t->PG X VD (gTup X.K 2 t))(y1:∀x,uA En X.env x=pure x){vs:bu}{H:Hp}{Q:VK}{E:XK}(sp:spT X.K vs H Q E):
  ∃t,PSs X [.Assign [.Name x1 q2] Dl q3,.For VD En [.Expr Cv q9] [] q12,.Return (some e2) q15] t /\
   t { nx:=λ_ H'=>Q .non H',rt:=Q } (L2.start X.N vs) H:=by
 obtain⟨ta,k1,k2⟩:=ha;refine⟨_,qO (q0n hN i1 l1 q6I s1 f1) (qO (q7i hp hc (qbp hge hme (qy h0 qA sE) sE) (pg _ (q6U (q4o hN i2 l2 f2) (q6U Vc qcF)))
  (q0W (q17 (q2o PySem.F.plainAttrs_list PySem.F.slot_list_append PySem.F.type_list_append q0L (qkb h1 k1 Mn m2) (qy h2 qA t1) ab w1 z1 t1 p1) v1)) y1) (q0W (q5A h3))),?_⟩
 obtain⟨G,as,sg,rp,hlen,fin⟩:=sp;obtain⟨v0,rfl,A0,vs0,rfl,r1,r2⟩:=rp.one;have hl0:as.length=vs0.length:=by have:=r2.len;rw[zB]at this;exact this
 have hst:L2.start X.N [V.ref A0]=KH:=by
  unfold L2.start;rw[hl];rfl
 rw[hst];intro p hp0;have no0:X8 HP:=noOw4 (d0:=some bb) (d2:=none) (d3:=none);have o0:Own X.K G BL G HP KH H:=by
  refine fX
  match i,h with
  | 0,h=>cases h;exact⟨_,rfl,A0,vs0,rfl,r1,r2⟩
  | 1,h=>cases h
  | 2,h=>cases h
  | 3,h=>cases h
  | i+4,h=>simp at h
 have o1:Own X.K G BL G HP [some (.ref A0),fM,none,none] lT:=(o0.free no0 (sg.free hp0) hp0).other (i:=1) no0 λw z=>by cases z
 have T0:Tab G H lT p (byS as 0).1 [] (byS as 0).2:=⟨qg,sg.free hp0,hp0,rfl,rfl,λj l xs h=>(by simp at h),λl h=>(by cases h),xV⟩;refine⟨.ref A0,rfl,A0,vs0,rfl,SqL.of ach,λi m σ' H'=>∃(G':Hp) (ls:eA) (y2 y3:eY),Own X.K G BL G' JJ σ' H'/\Y8 G G'/\σ'[1]?=some fM/\Tab G' H H' p (byS as i).1 ls (byS as i).2/\i<=as.length/\m=as.length-i,
  ⟨_,G,[],none,none,o1,ig,rfl,T0,Bv,rfl⟩,?_⟩
 rintro i m σ' H' ⟨G',ls,y2,y3,o2,g2,s12,T2,hi,rfl⟩;have hq:=o2.gh _ _ (g2 _ _ r1)
 by_cases hlt:i<as.length
 ·refine .inr ⟨⟨vs0,vs0[i]'∅,Nq,zD _⟩,λσ3 H3=>∃(G':Hp) (ls:eA) (y2 y3:eY),Own X.K G BL G' JJ σ3 H3/\Y8 G G'/\σ3[1]?=some fM/\Tab G' H H3 p (byS as (i+1)).1 ls (byS as (i+1)).2,
   λσ3 H3 ⟨G3,ls3,z2,z3,b1,b2,b3,b4⟩=>⟨as.length-(i+1),∅,G3,ls3,z2,z3,b1,b2,b3,b4,hlt,rfl⟩,λx H3 hy=>?_⟩
  obtain⟨t,w1',ht,rfl,rfl,hy⟩:=hy;have hy:=hy _ Nq;have x3:=Ext.hide o2.gh ht abB;have o3:=o2.keep x3;have T3:=T2.keep x3;refine⟨t,_,rfl,SqT.of qg,rfl,kE,_,rfl,?_⟩;refine⟨w1',_,rfl,rfl,?_⟩;obtain⟨u,e1,e2⟩:=r2.get (i:=i) (d:=Yx as[i]) (by rw[zZ,Jz];rfl);rw[hy]at e1;cases e1;have o4:=(o3.setSh (i:=2) (d:=.int i) (v:=.int i) rfl).setSh (i:=3) (d:=Yx as[i]) (v:=w1') (e2.mono g2);have o4':Own X.K G BL G' [rJ,none,(some (D.int i)).map W.sh,(some (Yx as[i])).map W.sh] ((σ'.set 2 (some kE)).set 3 (some w1')) (upd H' t abB):=o4;have hl4:σ'.length=4:=o2.len.symm;have bd:=qhq as i;refine qiF k2 o4' (noOw4 (d0:=some bb) (d2:=some _) (d3:=some _)) (by rw[zS (by decide),zS (by decide)];exact s12) (by rw[zS (by decide)];exact yi (by rw[hl4];decide)) T3 (hg0 _ as[i] rfl) ∅ (λxs hx=>by have:=bd.2 xs hx;omega) λG5 H5 ls5 o5 g5 T5=>?_;have eb:byS as (i+1)=Xp (byS as i) i as[i].1:=by
   show (match as[i]? with|some a=>Xp (byS as i) i a.1|none=>byS as i)=_;rw[Jz]
  refine⟨G5,ls5,_,_,o5,g2.trans g5,by rw[zS (by decide),zS (by decide)];exact s12,?_⟩;rw[eb];exact T5
 ·have en:i=as.length:=∅
  subst en;refine .inl ⟨⟨vs0,Nq,Tv⟩,bK,s12,fin G' p ls H' ?_ T2⟩;exact⟨g2,o2.ext.gh,o2.ext.hh,o2.ext.new⟩
end
noncomputable def X5:List Int->List aa->Int->List aa
 | k::ks,x::xs,a=>if k=a then x.dropLast::xs else x::X5 ks xs a
 | _,xs,_=>xs
noncomputable def Xs(ks:aa)(xss:eO)(h:Int):List Int:=(XC ks xss h).getD []
theorem q7E:∀{ks:aa}{ls:eA}{a:Int},ks.length=ls.length->a∈ks->∃(j:Nat) (l:vF),ls[j]?=some l/\XC ks eS a=some cU/\∀(xss:eO),xss.length=ls.length->∃xs,xss[j]?=some xs/\XC ks xss a=some xs/\X5 ks xss a=xss.set j xs.dropLast
 | [],_,_,_,h=>by simp at h
 | _::_,[],_,h,_=>by simp at h
 | k::ks,l::ls,a,h,ha=>by
  by_cases z:k=a
  ·refine⟨0,l,rfl,fG,λxss hx=>?_⟩
   cases xss with
   | nil=>simp at hx
   | cons x xs=>exact⟨x,rfl,fG,fG⟩
  ·have ha':a∈ks:=(zK.mp ha).resolve_left λe=>z e.symm
   obtain⟨j,l',e2,e3,e4⟩:=q7E (ks:=ks) (ls:=ls) ⇑h ha';refine⟨j+1,l',e2,?_,λxss hx=>?_⟩
   ·show (if k=a then _ else _)=_
    rw[fm];exact e3
   ·cases xss with
    | nil=>simp at hx
    | cons x xs=>
     obtain⟨y,h1,h2,h3⟩:=e4 xs ⇑hx;refine⟨y,h1,?_,?_⟩
     ·show (if k=a then _ else _)=_
      rw[fm];exact h2
     ·show (if k=a then _ else x::X5 ks xs a)=_
      rw[fm,h3];rfl
theorem Tab.pop{G H0 H:Hp}{p:vF}{ks:aa}{ls:eA}{xss:eO}(T:dW){a:Int}(ha:a∈ks):
  ∃(l:vF) (xs:aa),l∈ls/\XC ks xss a=some xs/\W9 H p cY lA/\H l=some EE/\Tab G H0 (upd H l (.lst (xs.dropLast.map V.int))) p ks ls (X5 ks xss a):=by
 obtain⟨j,l,e2,e3,e4⟩:=q7E T.len ha;obtain⟨xs,e5,e7,e6⟩:=e4 xss T.len2.symm;have hl:l∈ls:=yD e2;have hlp:p≠l:=λz=>T.pl (z▸hl);have g:=W9.k (k:=oQ) T.dict;rw[q0x (by rw[zB];exact T.len),e3]at g;refine⟨l,xs,hl,e7,g,aau,?_⟩;rw[e6];refine⟨by rw[qd hlp];exact T.dict,T.gp,T.hp,T.len,by rw[yV];exact T.len2,λi m ys h1 h2=>?_,T.gl,T.nd⟩;rcases qe h2 with⟨rfl,_,rfl⟩|⟨ne,h3⟩
 ·rw[e2]at h1
  cases h1;exact qg
 ·have hm:m≠l:=λz=>by
   subst z;obtain⟨i1,i2⟩:=ze.mp h1;obtain⟨j1,j2⟩:=ze.mp e2;exact ne IC
  rw[KA];exact T.lst i m ys h1 h3
theorem Tab.beside{G H0 H:Hp}{p q:vF}{ob:HO}{ks:aa}{ls:eA}{xss:eO}(T:dW)(h1:q≠p)(h2:q∉ls):Tab G H0 (upd H q ob) p ks ls xss :=
 ⟨by rw[qd (Ne.symm h1)];exact T.dict,T.gp,T.hp,T.len,T.len2,λj l xs e1 e2=>by
  have hn:l≠q:=λz=>h2 (by rw[<- z];exact yD e1);rw[qd hn];exact T.lst j l xs e1 e2,T.gl,T.nd⟩
noncomputable def X3(as:ah)(ks:aa):Nat->List aa->List Int->List Int->Int->Option aa
 | 0,_,_,_,_=>none
 | n+1,xss,T,B,h=>match (Xs ks xss h).getLast? with
  | some k=>if 0<=k/\k<as.length/\T.length<1000000 then X3 as ks n mH (T++[k]) B (as.getD k.toNat (0,0)).2 else none
  | none=>match T.getLast? with
   | some k=>if 0<=k/\k<as.length/\B.length<1000000 then X3 as ks n xss T.dropLast R5 (as.getD k.toNat (0,0)).1 else none
   | none=>some B.reverse
structure RfS (K:zC) (G0:Hp) (H0:Fr) (G:Hp) (s:Int) (as:List (Int×Int)) (p t b:vF) (ks:List Int) (ls:List vF) (xss:List (List Int)) (T B:List Int) (h:Int) (y:Option D) (σ:St) (H:Hp):Prop where
 o:Own K G0 H0 G [some (W.sh (.int s)),↥(.lst (as.map Yx)),none,none,none,↥(.int h),y.map W.sh] σ H
 s2:σ[2]?=some (some (.ref p))
 s3:σ[3]?=some (some (.ref t))
 s4:σ[4]?=some (some (.ref b))
 s5:σ[5]?=some (some (.int h))
 tab:Tab G H0 H p ks ls xss
 ht:H t=some (.lst (T.map V.int))
 gt:G t=none
 ht0:H0 t=none
 hb:H b=some (.lst (B.map V.int))
 gb:G b=none
 hb0:H0 b=none
 tb:t≠b
 tl:t∉ls
 bl:b∉ls
theorem noOw7{d0 d1 d5 d6:eY}:X8 [d0.map W.sh,d1.map W.sh,none,none,none,d5.map W.sh,d6.map W.sh]:=by
 intro i w h
 match i,h with
 | 0,h=>cases d0 <;> cases h;exact cf
 | 1,h=>cases d1 <;> cases h;exact cf
 | 2,h=>cases h
 | 3,h=>cases h
 | 4,h=>cases h
 | 5,h=>cases d5 <;> cases h;exact cf
 | 6,h=>cases d6 <;> cases h;exact cf
 | i+7,h=>simp at h
section
variable{K:zC}{G0:Hp}{H0:Fr}{G:Hp}{s:Int}{as:List (Int×Int)}{p t b:vF}{ks:List Int}{ls:List vF}{xss:List (List Int)}{T B:List Int}{h:Int}{y:Option D}{σ:St}{H:Hp}
theorem RfS.no(S:aK):X8 [some (W.sh pG),↥bb,none,none,none,↥cu,y.map W.sh] :=
 noOw7 (d0:=some pG) (d1:=some bb) (d5:=some cu) (d6:=y)
theorem RfS.keep{G' H':Hp}(S:aK)(x:Di):RfS K G0 H0 G' s as p t b ks ls xss T B h y σ H' :=
 ⟨S.o.keep x,S.s2,S.s3,S.s4,S.s5,S.tab.keep x,x.hh _ _ S.ht,x.new t S.gt (by rw[S.ht];exact λz=>by cases z),S.ht0,x.hh _ _ S.hb,x.new b S.gb (by rw[S.hb];exact λz=>by cases z),S.hb0,S.tb,S.tl,S.bl⟩
theorem RfS.tp(S:aK):t≠p/\b≠p:=by
 have h1:=S.ht;have h2:=S.hb;have h3:=S.tab.dict;refine⟨JR,JR⟩
 ·rw[z,h3]at h1;cases h1
 ·rw[z,h3]at h2;cases h2
theorem RfS.setT{T':aa}(S:aK):RfS K G0 H0 G s as p t b ks ls xss T' B h y σ (upd H t (.lst (T'.map V.int))) :=
 ⟨S.o.free S.no S.gt S.ht0,S.s2,S.s3,S.s4,S.s5,S.tab.beside S.tp.1 S.tl,qg,S.gt,S.ht0,by rw[qd (Ne.symm S.tb)];exact S.hb,S.gb,S.hb0,S.tb,S.tl,S.bl⟩
theorem RfS.setB{B':aa}(S:aK):RfS K G0 H0 G s as p t b ks ls xss T B' h y σ (upd H b (.lst (B'.map V.int))) :=
 ⟨S.o.free S.no S.gb S.hb0,S.s2,S.s3,S.s4,S.s5,S.tab.beside S.tp.2 S.bl,by rw[qd S.tb];exact S.ht,S.gt,S.ht0,qg,S.gb,S.hb0,S.tb,S.tl,S.bl⟩
theorem RfS.len(S:aK):σ.length=7:=S.o.len.symm
theorem RfS.setN(S:aK)(k:Int):RfS K G0 H0 G s as p t b ks ls xss T B h dO NE H :=
 ⟨S.o.setSh (i:=6) (d:=.int k) (v:=.int k) rfl,by rw[zS (by decide)];exact S.s2,by rw[zS (by decide)];exact S.s3,by rw[zS (by decide)];exact S.s4,by rw[zS (by decide)];exact S.s5,S.tab,S.ht,S.gt,S.ht0,S.hb,S.gb,S.hb0,S.tb,S.tl,S.bl⟩
theorem RfS.setH(S:aK)(k:Int):RfS K G0 H0 G s as p t b ks ls xss T B k y (σ.set 5 dO) H :=
 ⟨S.o.setSh (i:=5) (d:=.int k) (v:=.int k) rfl,by rw[zS (by decide)];exact S.s2,by rw[zS (by decide)];exact S.s3,by rw[zS (by decide)];exact S.s4,yi (by rw[S.len];decide),S.tab,S.ht,S.gt,S.ht0,S.hb,S.gb,S.hb0,S.tb,S.tl,S.bl⟩
theorem RfS.popW(S:aK){l:vF}{H':HO}(hl:l∈ls){xss':eO}(T':Tab G H0 (upd H l H') p ks ls xss'):RfS K G0 H0 G s as p t b ks ls xss' T B h y σ (upd H l H') :=
 have n1:t≠l:=λz=>S.tl (by rw[z];exact hl);have n2:b≠l:=λz=>S.bl (by rw[z];exact hl)
 ⟨S.o.free S.no (S.tab.gl l hl).1 (S.tab.gl l hl).2,S.s2,S.s3,S.s4,S.s5,T',by rw[qd n1];exact S.ht,S.gt,S.ht0,by rw[qd n2];exact S.hb,S.gb,S.hb0,S.tb,S.tl,S.bl⟩
theorem qfe(S:aK){Q:j0}(q:∀H',RfS K G0 H0 G s as p t b ks ls xss T B h y σ H'->Q (!(Xs ks xss h).isEmpty) H'):
  (zA2 FK (Xf 5) JX) σ H λx H'=>∃k,TruV K x H' k/\Q k H':=by
 refine⟨.ref p,S.s2,p,rfl,.inl ⟨_,.inl S.tab.dict⟩,.int h,S.s5,by show 0<=sizeLine;exact yG _,λr hr=>?_⟩;have S1:=S.keep (Ext.hide S.o.gh hr jC);have hlen:ks.length=(ls.map V.ref).length:=by rw[zB];exact S.tab.len
 have g:=W9.k (k:=abn) S1.tab.dict;rw[q0x hlen]at g;refine⟨_,g,?_⟩
 by_cases hk:h∈ks
 ·obtain⟨l,xs,e1,e2,e3,e4,_⟩:=S1.tab.pop hk
  have ev:XC ks eS h=some cU:=by
   obtain⟨j,l',f2,f3,f4⟩:=q7E S.tab.len hk;obtain⟨xs',f5,f7,f6⟩:=f4 xss S.tab.len2.symm;have g2:=W9.k (k:=abn) S1.tab.dict;rw[q0x hlen,f3]at g2;rcases e3 with⟨kvs,k,d1,d2,d3⟩|⟨kvs,k,b,d1,d2,_⟩
   ·rcases d1 with d1|⟨ob,d1⟩
    ·rw[S1.tab.dict]at d1
     cases d1;cases k with
     | inl i=>cases d2;rw[q0x hlen]at d3;exact d3.symm
     | inr x=>cases d2
    ·rw[S1.tab.dict]at d1;cases d1
   ·cases d2
  rw[ev];refine⟨!xs.isEmpty,?_,?_⟩
  ·refine .inl ⟨_,SqL.of e4,?_⟩
   rw[List.isEmpty_map]
  ·have:Xs ks xss h=xs:=by unfold Xs;rw[e2];rfl
   rw[<- this];exact q _ S1
 ·have ev:XC ks eS h=none:=by
   have:=q0V (ks:=ks) (xs:=ls.map V.ref) (k:=h) hlen;rw[vT hk]at this;cases z:XC ks eS h with
   | none=>rfl
   | some v=>rw[z]at this;cases this
  have ev2:Xs ks xss h=[]:=by
   have:=q0V (ks:=ks) (xs:=xss) (k:=h) (by rw[S.tab.len];exact S.tab.len2);rw[vT hk]at this;unfold Xs;cases z:XC ks xss h with
   | none=>rfl
   | some v=>rw[z]at this;cases this
  rw[ev];refine⟨false,?_,by have:=q _ S1;rw[ev2]at this;exact this⟩;exact .inl ⟨_,SqL.of qg,rfl⟩
end
noncomputable def trT(K:zC)(t:TE):TT:=λσ H Q=>t σ H λx H'=>∃k,TruV K x H' k/\Q k H'
noncomputable def zB4:TE:=zA2 FK (Xf 5) JX
noncomputable def zA6(K:zC)(td:TE):TS:=zAp (zAa (tBM0 K "list" rPop (zB1 FK (Xf 5))) (X9 6)) (zAp Cb DQ)
noncomputable def zA0(K:zC)(td:TE):TS:=zAp (zAa (tBM0 K "list" rPop (Xf 3)) (X9 6)) (zAp Ca DQ)
section
variable{K:zC}{G0:Hp}{H0:Fr}{G:Hp}{s:Int}{as:List (Int×Int)}{p t b:vF}{ks:List Int}{ls:List vF}{xss:List (List Int)}{T B:List Int}{h:Int}{y:Option D}{σ:St}{H:Hp}
theorem q8a{xs:aa}{k:Int}(e:xs.getLast?=some k):(xs.map V.int)[(xs.map V.int).length-1]?=some kY/\(xs.map V.int).dropLast=xs.dropLast.map V.int:=by
 rw[List.getLast?_eq_getElem?]at e;refine⟨by rw[zB,zZ,e];rfl,by rw[List.map_dropLast]⟩
theorem RfS.s6(S:aK)(k:Int):(σ.set 6 dO)[6]?=some dO:=yi (by rw[S.len];decide)
theorem qib{td:TE}{f:FD}(hd:zAz K td f)(hf:∀(ω:WSt)(k:Int),ω[1]?=some ↥bb->ω[6]?=some ↥kY->0<=k->k<as.length->f ω=some kI)(S:aK){k:Int}(e:(Xs ks xss h).getLast?=some k)(k0:Tc)(k1:Gw)(hT:T.length<1000000){D0:Ends}(q:∀G' σ' H',RfS K G0 H0 G' s as p t b ks ls mH (T++[k]) B (as.getD k.toNat (0,0)).2 dO σ' H'->D0.nx σ' H'):zA6 K td D0 σ H:=by
 have hk:h∈ks:=by
  have:=q0V (ks:=ks) (xs:=xss) (k:=h) (by rw[S.tab.len];exact S.tab.len2);unfold Xs at e;cases z:XC ks xss h with
  | none=>rw[z]at e;cases e
  | some v=>rw[z]at this;exact of_decide_eq_true this.symm
 obtain⟨l,xs,e1,e2,e3,e4,e5⟩:=S.tab.pop hk;have ex:xs.getLast?=some k:=by unfold Xs at e;rw[e2]at e;exact e
 obtain⟨m1,m2⟩:=q8a ex;refine⟨bK,S.s2,cu,S.s5,p,cU,rfl,e3,.inl ⟨rfl,_,SqL.of e4⟩,l,_,kY,rfl,rfl,e4,m1,?_⟩;rw[m2];have S1:=(S.popW e1 e5).setN k;show zAp Cb DQ D0 NE _;refine⟨.ref t,S1.s3,.inl ⟨rfl,_,SqL.of S1.ht⟩,.int k,S.s6 k,t,_,.int k,rfl,rfl,S1.ht,by rw[zB,vh];omega,?_⟩;rw[show T.map V.int++[V.int k]=(T++[k]).map V.int by rw[zN];rfl];have S2:=S1.setT (T':=T++[k]);show td _ _ _;refine hd G0 H0 G _ _ _ _ _ S2.o Py λu G1 H1 x1 y1=>?_;cases (show u=.int _ from y1);exact q G1 _ H1 QQ
theorem qig{td:TE}{f:FD}(hd:zAz K td f)(hf:∀(ω:WSt)(k:Int),ω[1]?=some ↥bb->ω[6]?=some ↥kY->0<=k->k<as.length->f ω=some kJ)(S:aK){k:Int}(e:T.getLast?=some k)(k0:Tc)(k1:Gw)(hB:B.length<1000000){D0:Ends}(q:∀G' σ' H',RfS K G0 H0 G' s as p t b ks ls xss T.dropLast R5 (as.getD k.toNat (0,0)).1 dO σ' H'->D0.nx σ' H'):zA0 K td D0 σ H:=by
 obtain⟨m1,m2⟩:=q8a e;refine⟨kw,S.s3,.inl ⟨rfl,_,SqL.of S.ht⟩,t,_,kY,rfl,rfl,S.ht,m1,?_⟩;rw[m2];have S1:=(S.setT (T':=T.dropLast)).setN k;show zAp Ca DQ D0 NE _;refine⟨.ref b,S1.s4,.inl ⟨rfl,_,SqL.of S1.hb⟩,.int k,S.s6 k,b,_,.int k,rfl,rfl,S1.hb,by rw[zB,vh];omega,?_⟩;rw[show B.map V.int++[V.int k]=(B++[k]).map V.int by rw[zN];rfl];have S2:=S1.setB (B':=B++[k]);show td _ _ _;refine hd G0 H0 G _ _ _ _ _ S2.o Py λu G1 H1 x1 y1=>?_;cases (show u=.int _ from y1);exact q G1 _ H1 QQ
end
noncomputable def tRF(K:zC)(E:XK)(td1 td0:TE):TS :=
 zAp (zAa (zBt (spT K) [] E (Wm Uv zAH)) (X9 2)) (zAp (zAa JX (X9 3)) (zAp (zAa JX (X9 4)) (zAp (zAa (Xf 0) (X9 5))
  (zAp (zA7 (tOr (trT K (Xf 3)) Rj) (tIfS Rj (zA6 K td1) (zA0 K td0))) (tRet (tCB rLR (Wm (Xf 4) zAH)))))))
noncomputable def Wu(s:Int)(as:ah):Option aa:=if as.length<=9000 then X3 as (byS as as.length).1 100000 (byS as as.length).2 [] [] s else none
noncomputable def mRF:List D->Option O
 | [.int s,.lst ds]=>(pairsOf ds).bind λas=>(Wu s as).map λrow=>.fr K8
 | _=>none
theorem ql7{K:zC}{E E':XK}{td1 td0:TE}{f1 f0:FD}(h1:zAz K td1 f1)(h0:zAz K td0 f0)(hf1:∀(as:ah)(ω:WSt)(k:Int),ω[1]?=some ↥bb->ω[6]?=some ↥kY->0<=k->k<as.length->f1 ω=some kI)(hf0:∀(as:ah)(ω:WSt)(k:Int),ω[1]?=some ↥bb->ω[6]?=some ↥kY->0<=k->k<as.length->f0 ω=some kJ){N:dI}(hN:N.length=7){vs:bu}{H:Hp}{Q:VK}(sp:spD K 2 mRF vs H Q E'):tRF K E td1 td0 { nx:=λ_ H'=>Q .non H',rt:=Q } Eh H:=by
 obtain⟨G,ds,r,e,hl,sg,rp,fin⟩:=sp
 match ds,e with
 | [.int s,.lst ds],e=>
  obtain⟨as,ea,e⟩:=bnd e;obtain⟨row,er,e⟩:=mpd e;subst e;have hds:=q4L ea;subst hds;clear ea;unfold Wu at er
  by_cases hlen:as.length<=9000
  case neg=>rw[vG hlen]at er;cases er
  rw[vC hlen]at er;obtain⟨v0,v1,rfl,r0,r1⟩:=rp.two;cases (show v0=.int s from r0);have hst:L2.start N [V.int s,v1]=Ex:=by
   unfold L2.start;rw[hN];rfl
  rw[hst];have no0:X8 CG:=noOw7 (d0:=some pG) (d1:=some bb) (d5:=none) (d6:=none);have o0:Own K G BL G CG Ex H:=by
   refine fX
   match i,h with
   | 0,h=>cases h;exact⟨_,rfl,rfl⟩
   | 1,h=>cases h;exact NA
   | 2,h=>cases h
   | 3,h=>cases h
   | 4,h=>cases h
   | 5,h=>cases h
   | 6,h=>cases h
   | i+7,h=>simp at h
  refine⟨v1,rfl,G,as,sg,Y2.cons r1 Y2.nil,hlen,λG1 p ls H1 x1 T1=>?_⟩;have o1:=(o0.keep x1).other (i:=2) (v:=some bK) no0 λw z=>by cases z
  refine⟨by show 0<=sizeLine;exact yG _,λt ht=>?_⟩;have x2:=Ext.hide o1.gh ht jC;have o2:=(o1.keep x2).other (i:=3) (v:=some kw) no0 λw z=>by cases z
  have T2:=T1.keep x2;refine⟨by show 0<=sizeLine;exact yG _,λb hb=>?_⟩;have x3:=Ext.hide o2.gh hb jC;have o3:=(o2.keep x3).other (i:=4) (v:=some Az) no0 λw z=>by cases z
  have T3:=T2.keep x3;have tb:t≠b:=λz=>by rw[<- z,qg]at hb;cases hb
  have tl:t∉ls:=λz=>by
   obtain⟨xs,w⟩:=T1.inn z;rw[ht]at w;cases w
  have bl:b∉ls:=λz=>by
   obtain⟨xs,w⟩:=T2.inn z;rw[hb]at w;cases w
  have o4:=o3.setSh (i:=5) (d:=.int s) (v:=.int s) rfl;have S0:RfS K G BL G1 s as p t b (byS as as.length).1 ls (byS as as.length).2 [] [] s none [some pG,some v1,fM,some kw,some Az,some pG,none] (upd (upd H1 t jC) b jC) :=
   ⟨o4,rfl,rfl,rfl,rfl,T3,by rw[qd tb];exact qg,o1.gh.free ht,o1.ext.hh.free ht,qg,o2.gh.free hb,o2.ext.hh.free hb,tb,tl,bl⟩
  refine⟨pG,rfl,?_⟩;generalize (byS as as.length).1=ks at S0 er;generalize (byS as as.length).2=xss at S0 er;refine⟨λm σ' H'=>∃G' xss T B h y,RfS K G BL G' s as p t b ks ls xss T B h y σ' H'/\X3 as ks m xss T B h=some row,⟨100000,G1,xss,[],[],s,none,S0,er⟩,?_⟩;rintro m σ' H' ⟨G',xss,T,B,h,y,S,run⟩;cases m with
  | zero=>cases run
  | succ n=>
   have body:∀Hx,RfS K G BL G' s as p t b ks ls xss T B h y σ' Hx->(T≠[]\/Xs ks xss h≠[])->∀D0:Ends,∃NN:St->Hp->Prop,(∀σ2 H2,NN σ2 H2->∃m',m'<n+1/\∃G' xss T B h y,RfS K G BL G' s as p t b ks ls xss T B h y σ2 H2/\X3 as ks m' xss T B h=some row)/\tIfS Rj (zA6 K td1) (zA0 K td0) { D0 with nx:=NN,ct:=NN,bk:=D0.nx } σ' Hx:=by
    intro Hx Sx hne D0;refine⟨λσ2 H2=>∃G' xss T B h y,RfS K G BL G' s as p t b ks ls xss T B h y σ2 H2/\X3 as ks n xss T B h=some row,λσ2 H2 z=>⟨n,ya n,z⟩,?_⟩;refine qfe Sx λHy Sy=>?_;unfold X3 at run;cases eg:(Xs ks xss h).getLast? with
    | some k=>
     rw[eg]at run;have run:(if 0<=k/\k<as.length/\T.length<1000000 then X3 as ks n mH (T++[k]) B (as.getD k.toNat (0,0)).2 else none)=some row:=run;have hne:(Xs ks xss h).isEmpty=false:=by
      cases z:Xs ks xss h with
      | nil=>rw[z]at eg;cases eg
      | cons a r=>rfl
     rw[hne];show (if (!false)=true then _ else _);rw[vC (show (!false)=true from rfl)]
     by_cases c:0<=k/\k<as.length/\T.length<1000000
     ·rw[vC c]at run
      exact qib h1 (hf1 as) Sy eg c.1 c.2.1 c.2.2 λG2 σ2 H2 S2=>OC
     ·rw[vG c]at run;cases run
    | none=>
     rw[eg]at run;have hem:Xs ks xss h=[]:=xq.mp eg;rw[hem];show (if (!true)=true then _ else _);rw[vG (by decide)];cases et:T.getLast? with
     | none=>exact vM (xq.mp et) (hne.resolve_right λz=>z hem)
     | some k=>
      have run:(match T.getLast? with
       | some k=>if 0<=k/\k<as.length/\B.length<1000000 then X3 as ks n xss T.dropLast R5 (as.getD k.toNat (0,0)).1 else none
       | none=>some B.reverse)=some row:=run
      rw[et]at run;have run:(if 0<=k/\k<as.length/\B.length<1000000 then X3 as ks n xss T.dropLast R5 (as.getD k.toNat (0,0)).1 else none)=some row:=run
      by_cases c:0<=k/\k<as.length/\B.length<1000000
      ·rw[vC c]at run
       exact qig h0 (hf0 as) Sy et c.1 c.2.1 c.2.2 λG2 σ2 H2 S2=>OC
      ·rw[vG c]at run;cases run
   refine⟨kw,S.s3,!(T.map V.int).isEmpty,.inl ⟨_,SqL.of S.ht,rfl⟩,?_⟩;cases T with
   | cons a r=>
    show (if (!false)=true then _ else _);rw[vC (show (!false)=true from rfl)];show (if true=true then _ else _);rw[jT];exact body H' S (.inl (by simp)) _
   | nil=>
    show (if (!true)=true then _ else _);rw[vG (by decide)];refine qfe S λHx Sx=>?_;cases eg:Xs ks xss h with
    | cons a r=>
     show (if (!false)=true then _ else _);rw[vC (show (!false)=true from rfl)];exact body Hx Sx (.inr (by rw[eg];simp)) _
    | nil=>
     show (if (!true)=true then _ else _);rw[vG (by decide)];have rw0:row=B.reverse:=by
      unfold X3 at run;rw[eg]at run;have run:some B.reverse=some row:=run;exact(zy run).symm
     subst rw0;refine⟨Az,Sx.s4,b,_,rfl,Sx.hb,λSa hS=>?_⟩;have x9:=Ext.hide Sx.o.gh hS (.lst (B.map V.int).reverse);have o9:=Sx.o.keep x9;refine fin (.ref Sa) G' _ o9.ext ⟨Sa,_,rfl,Sx.o.ext.hh.free hS,Sx.o.gh.free hS,qg,?_⟩;rw[<- YQ];exact Y2.ints _
theorem qkz{ω:WSt}{e:fW}(h:ω[3]?=some ↥(Yx e)):dOf act ω=some FR:=by
 unfold dOf Yz vOf Ys fC;rw[h];rfl
theorem q94{as:ah}{k:Int}(k0:Tc)(k1:Gw):atI Fn k=some (Yx (as.getD k.toNat (0,0))):=by
 rw[q0z k0 (by rw[zB];exact k1)];have hk:k.toNat<as.length:=∅
 rw[xX,zV,zD hk];rfl
theorem qkP{as:ah}{ω:WSt}{k:Int}(h1:ω[1]?=some ↥bb)(h6:ω[6]?=some ↥kY)(k0:Tc)(k1:Gw):
  dOf acr ω=some kI:=by
 have e:=q94 (as:=as) k0 k1;show dR (op2 oIx (vR (op2 oIx (vR (zBz ω[1]?)) (vR (zBz ω[6]?)))) (some a9))=_;rw[h1,h6];show dR (op2 oIx Mf (some a9))=_;rw[e];rfl
theorem qjY{as:ah}{ω:WSt}{k:Int}(h1:ω[1]?=some ↥bb)(h6:ω[6]?=some ↥kY)(k0:Tc)(k1:Gw):
  dOf acs ω=some kJ:=by
 have e:=q94 (as:=as) k0 k1;show dR (op2 oIx (vR (op2 oIx (vR (zBz ω[1]?)) (vR (zBz ω[6]?)))) (some Sb))=_;rw[h1,h6];show dR (op2 oIx Mf (some Sb))=_;rw[e];rfl
theorem qkJ{X:Cx}{e1 e0:vP}{E E':XK}{f1 f0:FD}(h1:XD X e1 f1)(h0:XD X e0 f0)(hf1:∀(as:ah)(ω:WSt)(k:Int),ω[1]?=some ↥bb->ω[6]?=some ↥kY->0<=k->k<as.length->f1 ω=some kI)(hf0:∀(as:ah)(ω:WSt)(k:Int),ω[1]?=some ↥bb->ω[6]?=some ↥kY->0<=k->k<as.length->f0 ω=some kJ){N:dI}(hN:N.length=7){vs:bu}{H:Hp}{Q:VK}(sp:spD X.K 2 mRF vs H Q E'){sts:Dg}(hb:∀{td1 td0:TE},PE X e1 td1->PE X e0 td0->PSs X sts (tRF X.K E td1 td0)):
  ∃t,PSs X sts t/\t { nx:=λ_ H'=>Q .non H',rt:=Q } Eh H:=by
 obtain⟨td1,p1,q1⟩:=h1;obtain⟨td0,p0,q0⟩:=h0;exact⟨_,hb p1 p0,ql7 q1 q0 hf1 hf0 hN sp⟩
abbrev Cal(P:vQ)(w:vY)(K:zC)(mg:bO)(base:vf)(k:Nat)(f:vF)(d:vN)(x:Str)(ps:dI)(n:Nat)(m:bL):Prop :=
 FnOk P w K mg base CX0 k f d ps (spD K n m)/\mg x=some fh/\xM K fh=true/\Binds K d ps []
section
variable{X:Cx}{x:Str}{pos:Pos}
theorem xc{e:vP}{es:jc}{k k0:Nat}{f:vF}{fd:vN}{ps:dI}{m:bL}{p:Pos}{g:FA}(c:Cal X.prog X.w X.K X.mg X.base k f fd x ps (e::es).length m)(hr:AJ)(ha:XA X iV g)(hk:k<=k0:=by decide)(hg:pj:=by exact rfl)(hdb:aC:=by decide)(he:az:=by rfl)(hpl:(vU pos gY).any (·.1)=false:=by rfl):
  XE X bG (Y0 m g):=zBs c.1 Ja hg c.2.1 c.2.2.1 c.2.2.2 zBU ha hdb he hpl
theorem vE(i:Nat)(hN:X.N[i]?=some x:=by rfl)(hv:rC:=by first|exact Or.inl rfl|exact Or.inr aF|exact Or.inr DH)(hd:aC:=by decide)(hcd:ii:=by decide):XE X jg (Ys i):=zBB i Gq
theorem vV(i:Nat)(hN:X.N[i]?=some x:=by rfl)(hv:rC:=by first|exact Or.inl rfl|exact Or.inr aF|exact Or.inr DH)(hd:aC:=by decide)(hcd:ii:=by decide):XV X jg (vOf (Ys i)):=XE.toV (zBB i Gq)
theorem vD(i:Nat)(hN:X.N[i]?=some x:=by rfl)(hv:rC:=by first|exact Or.inl rfl|exact Or.inr aF|exact Or.inr DH)(hd:aC:=by decide)(hcd:ii:=by decide):XD X jg (dOf (Ys i)):=XE.toD (zBB i Gq)
end
def Fd(K:zC)(x:Str)(st:vn)(f:vF):Prop:=yU K vS x=some (some fh)/\∃fd,Fun K x x st f fd
section
variable{P:vQ}{w:vY}{K:zC}{mg:Str->Option vB}{base h:vf}{x:Str}{st:vn}{f:vF}{fd:vN}
theorem qlj{oc:vB}{od an:Ib}{osl:UK}{kV doc pm cdv ct:vB}(a:yU K vS x=some (some fh))(l:K.lookup f=some ⟨oc,od,.func rT,osl⟩)(c:wj K cdv x=true)(k:xM K fh=true):Fd K x st f:=⟨a,_,qjP l c k⟩
theorem qo(P:vQ)(w:vY)(base:vf)(X:K.In h)(G:h.Ns vS mg){x:Str}{st:vn}{f:vF}{fd:vN}{k n:Nat}{ps:dI}{m:bL}(D:Fd K x st f)(F:Fun K x x st f fd)(o:FnOk P w K mg base CX0 k f fd ps (spD K n m))(b:∀(kV doc pm:vB)(an:Ib)(cdv ct:vB)(us:bH),us.length=ps.length->bindArgs rT AA=pure Fe):Cal P w K mg base k f fd x ps n m :=
 ⟨o,wW X G D.1,F.kp,F.binds b⟩
end
noncomputable def zB8(i:Nat)(f:FD):FS:=λω=>(f ω).bind λd=>match ω[i]? with
 | some (some (.pw ds))=>if ds.length<1000000 then some nJ else none
 | _=>none
section
variable{X:Cx}{o e k:vP}{pos pos' apos cpos:Pos}{i:Nat}{fd fk fv:FD}
theorem qj0(ho:jp)(he:Lm)(hbase:Io:=by rfl)(hfew:((vU cpos fY).all (λx=>!x.1)&&(v5 cpos kP).all iC
   && decide (([e]:List vP).length+([]:List uF).length+(if ([]:List uF).isEmpty then 0 else 1)<30))=true:=by rfl)
  (hline:ff=true:=by rfl) (hs:vK [e] X.env=bV::vK [] X.env:=by rfl) (hplain:(vU cpos bQ).any (·.1)=false:=by rfl)
  (hsw:vz gE none pos.line X.env=pure false:=by rfl) :
  XS X acK (zB8 i fd):=by
 obtain⟨t,h1,h2⟩:=he;refine dQ;obtain⟨d,q,e⟩:=bnd e
 split at e
 ·rename_i ds q2
  by_cases z:ds.length<1000000
  ·rw[fG]at e
   cases e;obtain⟨vs,r1,r2,r3,r4,r5,r6⟩:=ow.pw i ds q2;refine⟨O4,r1,.inl pZ,h2 G0 H0 G ω σ H d _ ow q λv G1 H1 x1 y1=>?_⟩;have o1:=ow.keep x1;have hz:vs.length<sizeLine:=by rw[<- r5.len,vh];omega
   refine⟨_,vs,v,rfl,rfl,oY,hz,?_⟩;exact k G1 σ _ (o1.mutP q2 Eo) x1.gg
  ·rw[fm]at e;cases e
 ·cases e
end
structure ArgW (K:zC) (G H:Hp) (ws:List W) (vs:List V):Prop where
 len:ws.length=vs.length
 sh:∀(j:Nat)d,ws[j]?=↥d->∃v,vs[j]?=some v/\Rep K G d v
 pw:∀(j:Nat)ds,ws[j]?=some (.pw ds)->∃l us,vs[j]?=some (.ref l)/\H l=some (.lst us)/\G l=none/\Y2 K G ds us
 no:∀(j:Nat)w,ws[j]?=some w->(∃d,w=.sh d)\/∃ds,w=.pw ds
structure ArgI (ω:WSt) (σ:St) (is:List (Option Nat)) (ws:List W) (vs:List V):Prop where
 pw:∀(j:Nat)ds,ws[j]?=some (.pw ds)->∃i l,is[j]?=some (some i)/\vs[j]?=some (.ref l)/\σ[i]?=some (some (.ref l))/\(ω[i]?=some (some (.ow ds))\/ω[i]?=some (some (.pw ds)))
 is:∀(j:Nat)i,is[j]?=some (some i)->∃ds,ws[j]?=some (.pw ds)
noncomputable abbrev FW:=WSt->Option A8
def SimWA(K:zC)(t:TA)(is:gQ)(f:FW):Prop:=∀G0 H0 G ω σ H ws(Q:lu),Own K G0 H0 G ω σ H->f ω=some ws ->
 (∀vs G' H',Ext G H G' H'->ArgW K G' H' ws vs->ArgI ω σ is ws vs->Q vs H')->t σ H Q
def XWA(X:Cx)(es:jc)(is:gQ)(f:FW):Prop:=(∃t,PA X es t/\SimWA X.K t is f)/\∀ω ws,f ω=some ws->ws.length=es.length
noncomputable def zCC:FW:=λ_=>some []
noncomputable def wSh(f:FD)(g:FW):FW:=λω=>(f ω).bind λd=>(g ω).map λws=>.sh d::ws
noncomputable def pwOf(w:kW):Option aO:=match w with
 | some (some (.ow ds))=>some ds
 | some (some (.pw ds))=>some ds
 | _=>none
noncomputable def wPw(i:Nat)(g:FW):FW:=λω=>(pwOf ω[i]?).bind λds=>(g ω).map λws=>.pw ds::ws
theorem qea{w:kW}{ds:aO}(h:pwOf w=some ds):w=some cW\/w=some Bg:=by
 unfold pwOf at h
 split at h
 ·cases h;exact .inl rfl
 ·cases h;exact .inr rfl
 ·cases h
section
variable{X:Cx}{e:vP}{es:List vP}{is:List (Option Nat)}{g:FW}
theorem q67:XWA X [] [] zCC:=⟨⟨_,qA,λG0 H0 G ω σ H ds Q o e k=>by
 cases e;exact k [] G H kG ⟨rfl,λj d h=>by simp at h,λj d h=>by simp at h,λj w h=>by simp at h⟩ ⟨λj d h=>by simp at h,λj d h=>by simp at h⟩⟩,λω ds e=>by cases e;rfl⟩
theorem q0R{f:FD}(h:KL)(hr:XWA X es is g)(hs:az:=by rfl):XWA X iV TX (wSh f g):=by
 obtain⟨t,h1,h2⟩:=h;obtain⟨⟨u,h3,h4⟩,h5⟩:=hr;refine⟨jS,Pg⟩
 ·obtain⟨d,q,e⟩:=bnd e
  obtain⟨r,q2,e⟩:=mpd e;subst e;refine h2 G0 H0 G ω σ H d _ o q λv G1 H1 x1 y1=>?_;refine h4 G0 H0 G1 ω σ H1 r _ gW q2 λvs G2 H2 x2 a2 i2=>?_;refine k _ G2 H2 dY ⟨by rw[zM,zM,a2.len],λj d' hj=>?_,CN,λj w hj=>?_⟩ ⟨CN,λj i hj=>?_⟩
  ·cases j with
   | zero=>simp at hj;subst hj;exact⟨v,rfl,Bf⟩
   | succ j=>exact a2.sh j d' ⇑hj
  ·cases j with
   | zero=>simp at hj
   | succ j=>exact a2.pw j ds ⇑hj
  ·cases j with
   | zero=>simp at hj;subst hj;exact .inl cf
   | succ j=>exact a2.no j w ⇑hj
  ·cases j with
   | zero=>simp at hj
   | succ j=>exact i2.pw j ds ⇑hj
  ·cases j with
   | zero=>simp at hj
   | succ j=>exact i2.is j i ⇑hj
 ·obtain⟨d,q,e⟩:=bnd e
  obtain⟨r,q2,e⟩:=mpd e;subst e;rw[zM,zM,aa3]
theorem q7m{i:Nat}(h:PE X e KI)(hr:XWA X es is g)(hs:az:=by rfl):XWA X iV (some i::is) (wPw i g):=by
 obtain⟨⟨u,h3,h4⟩,h5⟩:=hr;refine⟨⟨_,qy h h3 hs,JV⟩,Pg⟩
 ·obtain⟨d,q,e⟩:=bnd e
  obtain⟨r,q2,e⟩:=mpd e;subst e;have hw:=qea q;obtain⟨l,us,r1,r2,r3,r4⟩:∃l us,σ[i]?=some lA/\H l=some Hd/\G l=none/\Y2 X.K G d us:=by
   rcases hw with hw|hw
   ·obtain⟨l,vs,z1,z2,z3,z4,z5⟩:=o.ow i d hw
    exact⟨l,vs,z1,z2,z3,z5⟩
   ·obtain⟨vs,z1,z2,z3,z4,z5,_⟩:=o.pw i d hw
    exact⟨_,vs,z1,z2,z3,z5⟩
  refine⟨cU,r1,?_⟩;refine h4 G0 H0 G ω σ H r _ o q2 λvs G2 H2 x2 a2 i2=>?_;refine k _ G2 H2 x2 ⟨by rw[zM,zM,a2.len],λj d' hj=>?_,CN,λj w hj=>?_⟩ ⟨CN,λj i' hj=>?_⟩
  ·cases j with
   | zero=>simp at hj
   | succ j=>exact a2.sh j d' ⇑hj
  ·cases j with
   | zero=>simp at hj;subst hj;exact⟨l,us,rfl,Gf,x2.new l r3 (by rw[r2];exact λz=>by cases z),r4.mono x2.gg⟩
   | succ j=>exact a2.pw j ds ⇑hj
  ·cases j with
   | zero=>simp at hj;subst hj;exact .inr cf
   | succ j=>exact a2.no j w ⇑hj
  ·cases j with
   | zero=>simp at hj;subst hj;exact⟨i,l,rfl,rfl,r1,hw⟩
   | succ j=>exact i2.pw j ds ⇑hj
  ·cases j with
   | zero=>exact LG
   | succ j=>exact i2.is j i' ⇑hj
 ·obtain⟨d,q,e⟩:=bnd e
  obtain⟨r,q2,e⟩:=mpd e;subst e;rw[zM,zM,aa3]
end
def Pn(ws:A8)(vs:bu)(b:vF):Prop:=∃(j:Nat) (ds:aO),ws[j]?=some jB/\vs[j]?=some Az
open Classical in
noncomputable def WV(P:TC)(H:Hp):Hp:=λb=>if P b then none else H b
theorem qca{P:TC}{H:Hp}{b:vF}(h:P b):WV P H b=none:=vC h
theorem q22{P:TC}{H:Hp}{b:vF}(h:¬P b):WV P H b=H b:=vG h
theorem qdU{P:TC}{H:Hp}:Y8 (WV P H) H:=λb u z=>by
 by_cases h:P b
 ·rw[qca h]at z;cases z
 ·rw[q22 h]at z;exact z
def NdW(ws:A8)(vs:bu):Prop:=∀(j k:Nat)ds es l,ws[j]?=some jB->ws[k]?=some (.pw es)->vs[j]?=some cU->vs[k]?=some cU->j=k
noncomputable def spW(K:zC)(n:Nat)(m:jG):Sp:=λvs H Q _=>∃G ws d ω',m ws=some MD/\ws.length=n/\Y8 G H/\ArgW K G H ws vs/\NdW ws vs /\
 ∀v G' H',Ext G Aw G' H'->(∀(j:Nat)ds ds' l,ws[j]?=some jB->vs[j]?=some cU->ω'[j]?=some (some (.pw ds'))->∃us,H' l=some Hd/\G' l=none/\Y2 K G' ds' us)->Rep K G' d v->Q v H'
noncomputable def WI(n:Nat)(ws:A8):WSt:=ws.map some++z8 (n-ws.length) none
noncomputable def mirW(n:Nat)(body:FS)(ws:A8):Option nG:=match body (WI n ws)with
 | some (.rt (.sh d),ω')=>some MD
 | some (.nx,ω')=>some (.non,ω')
 | _=>none
theorem q04{n:Nat}{ws:A8}{i:Nat}{w:W}(e:(WI n ws)[i]?=some (some w)):ws[i]?=some w:=by
 unfold WI at e;rcases yH i ws.length with y|y
 ·rw[QZ,zZ]at e
  cases q:ws[i]? with
  | none=>rw[q]at e;cases e
  | some d'=>rw[q]at e;cases e;rfl
 ·rw[Q0,yl]at e
  split at e <;> cases e
theorem q8e{N:dI}{vs:bu}{i:Nat}{v:V}(h:vs[i]?=some v):(L2.start N vs)[i]?=some nE:=by
 unfold L2.start;have hl:i<vs.length:=(ze.mp h).1;rw[zg ⇑hl,zZ,h];rfl
noncomputable def refOf(v:ss):vF:=match v with
 | some (.ref l)=>l
 | _=>0
theorem fnW{P:vQ}{w:vY}{K:zC}{mg:bO}{base:vf}{x qual:Str}{st:vn}{f:vF}{fd:vN}{N ps:dI}{k:Nat}{body:FS}(F:Ax)(S:M4)(hb:∀(cdv:vB)(A:ve)(outer:rN)(s:vH)(H:Hp)(E:XK),Room k ox->XSs (zAx CX0 P w K mg base N qual Co f cdv A outer s H E).nox PY body):
  FnOk P w K mg base CX0 (k+1) f fd ps (spW K ps.length (mirW N.length body)):=by
 refine F.ok S Be jO
 ·obtain⟨G,ws,d,ω',_,h2,_,h4,_⟩:=h
  rw[<- h4.len];exact h2
 ·obtain⟨G,ws,d,ω',h1,h2,h3,h4,hnd,h5⟩:=h
  obtain⟨t,p1,p2⟩:=hb cdv A outer s H E hr;refine⟨t,p1,?_⟩;unfold mirW at h1;have hl:=h4.len;have hpl:ps.length<=N.length:=by have:=vm yh S.pre;rw[zr]at this;omega
  have o0:Own K G ⟨Aw,λi=>refOf vs[i]?⟩ G aat Eh H:=by
   refine⟨⟨ig,h3,qdU,λb z _=>z⟩,?_,λi d e=>?_,λi es e=>?_,λi j es fs l e=>?_,λi ks es e=>?_,λi ds e=>?_⟩
   ·unfold WI L2.start
    simp only[zE,zB,yX];omega
   ·obtain⟨v,e1,e2⟩:=h4.sh i d KB
    exact⟨v,q8e e1,e2⟩
   ·rcases h4.no i _ KB with⟨_,z⟩|⟨_,z⟩ <;> cases z
   ·rcases h4.no i _ KB with⟨_,z⟩|⟨_,z⟩ <;> cases z
   ·rcases h4.no i _ KB with⟨_,z⟩|⟨_,z⟩ <;> cases z
   ·obtain⟨l,us,e1,e2,e3,e4⟩:=h4.pw i ds KB
    have er:(⟨Aw,λi=>refOf vs[i]?⟩:Fr).pin i=l:=by show refOf vs[i]?=l;rw[e1];rfl
    rw[er];refine⟨us,q8e e1,e2,e3,qca ⟨i,ds,KB,e1⟩,e4,λj es hj y=>?_,Pi⟩
    ·obtain⟨l',us',f1,_⟩:=h4.pw j es (q04 hj)
     have er':(⟨Aw,λi=>refOf vs[i]?⟩:Fr).pin j=l':=by show refOf vs[j]?=l';rw[f1];rfl
     rw[er']at y;exact hnd j i es ds l (q04 hj) KB (by rw[<- y];exact f1) e1
    ·rcases h4.no j _ (q04 hj)with⟨_,z⟩|⟨_,z⟩ <;> cases z
  have fin:∀G' σ' H' v,Own K G ⟨Aw,λi=>refOf vs[i]?⟩ G' ω' σ' H'->Rep K G' d v->Q v H':=λG' σ' H' v o' y=>by
   refine h5 v G' H' o'.ext (λj ds ds' l a1 a2 a3=>?_) y;obtain⟨us,_,b2,b3,_,b5,_⟩:=o'.pw j ds' a3;have er:refOf vs[j]?=l:=by rw[a2];rfl
   refine⟨us,?_,?_,b5⟩
   ·rw[<- er];exact b2
   ·rw[<- er];exact b3
  cases q:body aat with
  | none=>rw[q]at h1;cases h1
  | some p=>
   obtain⟨out,ω1⟩:=p;rw[q]at h1;refine p2 G _ G _ _ H out ω1 _ o0 q λG' σ' H' o' s'=>?_;cases out with
   | nx=>cases h1;exact fin G' σ' H' _ o' rfl
   | bk=>cases h1
   | ct=>cases h1
   | rt r'=>
    cases r' with
    | sh d'=>cases h1;exact λv y=>fin G' σ' H' v o' y
    | fr ds=>cases h1
noncomputable def zAN(c:kX)(w:cc):Option W:=match c,w with
 | some ds,some (.ow _)=>some FP
 | some ds,some (.pw _)=>some jB
 | _,w=>w
noncomputable def WH(I:Nat->Option aO)(ω:WSt):WSt:=ω.mapIdx λi w=>zAN (I i) w
theorem q0D{I:Nat->Option aO}{ω:WSt}{i:Nat}{w:cc}(h:(WH I ω)[i]?=some w):∃u,ω[i]?=some u/\zAN (I i) u=w:=by
 unfold WH at h;rw[List.getElem?_mapIdx]at h;exact mpd h
theorem q5m{w:cc}:zAN none w=w:=by unfold zAN;split <;> first|rfl|(rename_i h;cases h)
theorem qij{c:kX}{u:cc}{d:D}(h:zAN c u=↥d):u=↥d:=by
 unfold zAN at h;split at h <;> first|exact h|cases h
theorem qb5{c:kX}{u:cc}{ks:aa}{ds:aO}(h:zAN c u=some KQ):u=some KQ:=by
 unfold zAN at h;split at h <;> first|exact h|cases h
theorem q69{c:kX}{u:cc}{ds:aO}(h:zAN c u=some FP):(c=some ds/\∃es,u=some (.ow es))\/(c=none/\u=some FP):=by
 cases c with
 | none=>rw[q5m]at h;exact .inr ⟨rfl,h⟩
 | some es=>
  unfold zAN at h
  split at h
  ·rename_i hc;cases hc;cases h;exact .inl ⟨rfl,_,rfl⟩
  ·cases h
  ·rename_i z1 z2;subst h;exact vM rfl (z1 _ _ rfl)
theorem q7y{c:kX}{u:cc}{ds:aO}(h:zAN c u=some jB):(c=some ds/\∃es,u=some (.pw es))\/(c=none/\u=some jB):=by
 cases c with
 | none=>rw[q5m]at h;exact .inr ⟨rfl,h⟩
 | some es=>
  unfold zAN at h
  split at h
  ·cases h
  ·rename_i hc;cases hc;cases h;exact .inl ⟨rfl,_,rfl⟩
  ·rename_i z1 z2;subst h;exact vM rfl (z2 _ _ rfl)
section
variable{K:zC}{G0:Hp}{F:Fr}{G G' H H':Hp}{ω:WSt}{σ:St}{I:Nat->Option (List D)}{P:vF->Prop}
theorem Own.at(o:GQ){i:Nat}{es:aO}(h:ω[i]?=some g9\/ω[i]?=some fz):∃l vs,σ[i]?=some lA/\H l=some fO/\G l=none/\F.hp l=none:=by
 rcases h with h|h
 ·obtain⟨l,vs,z1,z2,z3,z4,z5⟩:=o.ow i es h
  exact⟨l,vs,z1,z2,z3,z4⟩
 ·obtain⟨vs,z1,z2,z3,z4,z5,_⟩:=o.pw i es h
  exact⟨_,vs,z1,z2,z3,z4⟩
theorem Own.apart(o:GQ){i j:Nat}{es fs:aO}{l:vF}(h:ω[i]?=some g9\/ω[i]?=some fz)(h':ω[j]?=some (some (.ow fs))\/ω[j]?=some (some (.pw fs)))(s:σ[i]?=some lA)(s':σ[j]?=some lA):i=j:=by
 rcases h with h|h
 ·rcases h' with h'|h'
  ·exact o.nd i j es fs l h h' s s'
  ·obtain⟨vs,z1,z2,z3,z4,z5,z6,z7⟩:=o.pw j fs h'
   rw[s']at z1;cases z1;exact vM s (z7 i es h)
 ·rcases h' with h'|h'
  ·obtain⟨vs,z1,z2,z3,z4,z5,z6,z7⟩:=o.pw i es h
   rw[s]at z1;cases z1;exact vM s' (z7 j fs h')
  ·obtain⟨vs,z1,z2,z3,z4,z5,z6,z7⟩:=o.pw i es h
   obtain⟨vs',y1,_⟩:=o.pw j fs h';rw[s]at z1;rw[s']at y1;have e1:l=F.pin i:=by cases z1;rfl
   have e2:l=F.pin j:=by cases y1;rfl
   exact(z6 j fs h' (e2.symm.trans e1)).symm
theorem Own.back(o:GQ)(hI:∀(i:Nat)ds,I i=some ds->∃es,ω[i]?=some g9\/ω[i]?=some fz)(hP:∀b,P b->∃i ds,I i=some ds/\σ[i]?=some (some Az))(x:Ext G (WV P H) G' H')(hn:∀(i:Nat)ds l,I i=some ds->σ[i]?=some lA->∃us,H' l=some Hd/\G' l=none/\Y2 K G' ds us):Own K G0 F G' (WH I ω) σ H':=by
 have nP:∀{i:Nat}{es:aO}{l:vF},I i=none->(ω[i]?=some g9\/ω[i]?=some fz)->σ[i]?=some lA->¬P l:=λ{i es l} h1 h2 h3 z=>by
  obtain⟨j,ds,a1,a2⟩:=hP l z;obtain⟨fs,a3⟩:=hI j ds a1;have:=o.apart h2 a3 h3 a2;subst this;rw[h1]at a1;cases a1
 have Pl:∀{b:vF},P b->∃vs,H b=some fO/\F.hp b=none:=λ{b} z=>by
  obtain⟨j,ds,a1,a2⟩:=hP b z;obtain⟨fs,a3⟩:=hI j ds a1;obtain⟨l,vs,b1,b2,b3,b4⟩:=o.at a3;rw[a2]at b1;cases b1;exact⟨vs,b2,b4⟩
 refine⟨⟨o.ext.gg.trans x.gg,x.gh,Ks,CP⟩,?_,Gc,QY,λi j ds es l h h' s s'=>?_,λi ks ds h=>?_,QY⟩
 ·refine x.hh b u ?_
  rw[q22 λp=>by obtain⟨_,_,e⟩:=Pl p;rw[e]at z;cases z];exact o.ext.hh b u z
 ·refine x.new b (o.ext.new b z1 z2) ?_
  rw[q22 λp=>z2 (Pl p).choose_spec.2];exact λe=>z2 (o.ext.hh.free e)
 ·unfold WH;rw[List.length_mapIdx,o.len]
 ·obtain⟨u,e1,e2⟩:=q0D h
  have:=qij e2;subst this;obtain⟨v,a1,a2⟩:=o.sh i d e1;exact⟨v,a1,a2.mono x.gg⟩
 ·obtain⟨u,e1,e2⟩:=q0D h
  rcases q69 e2 with⟨c1,es,rfl⟩|⟨c1,rfl⟩
  ·obtain⟨l,vs,a1,a2,a3,a4,a5⟩:=o.ow i es e1
   obtain⟨us,b1,b2,b3⟩:=hn i ds l c1 a1;exact⟨l,us,a1,b1,b2,a4,b3⟩
  ·obtain⟨l,vs,a1,a2,a3,a4,a5⟩:=o.ow i ds e1
   have np:=nP c1 (.inl e1) a1;have hl:WV P H l=some fO:=by rw[q22 np];exact a2
   exact⟨l,vs,a1,Tz,x.new l a3 (by rw[hl];exact λz=>by cases z),a4,a5.mono x.gg⟩
 ·obtain⟨u,e1,e2⟩:=q0D h
  obtain⟨u',e1',e2'⟩:=q0D h';have w:∃es,ω[i]?=some g9:=by rcases q69 e2 with⟨c1,es,rfl⟩|⟨c1,rfl⟩ <;> exact⟨_,e1⟩
  have w':∃es,ω[j]?=some g9:=by rcases q69 e2' with⟨c1,es,rfl⟩|⟨c1,rfl⟩ <;> exact⟨_,e1'⟩
  obtain⟨a,w⟩:=w;obtain⟨b,w'⟩:=w';exact o.nd i j a b l w w' s s'
 ·obtain⟨u,e1,e2⟩:=q0D h
  have:=qb5 e2;subst this;obtain⟨p,vs,a1,a2,a3,a4,a5,a6,a7⟩:=o.od i ks ds e1;have np:¬P p:=λz=>by obtain⟨_,e,_⟩:=Pl z;rw[a2]at e;cases e
  have hl:WV P H p=some jK:=by rw[q22 np];exact a2
  refine⟨p,vs,a1,Tz,x.new p a3 (by rw[hl];exact λz=>by cases z),a4,a5,a6.mono x.gg,λj ks' es h' s'=>?_⟩;obtain⟨u',e1',e2'⟩:=q0D h';have:=qb5 e2';subst this;exact a7 j ks' es e1' s'
 ·obtain⟨u,e1,e2⟩:=q0D h
  obtain⟨es,w⟩:∃es,ω[i]?=some fz:=by rcases q7y e2 with⟨c1,es,rfl⟩|⟨c1,rfl⟩ <;> exact⟨_,e1⟩
  obtain⟨vs,a1,a2,a3,a4,a5,a6,a7⟩:=o.pw i es w;have uq:∀(j:Nat)es',(WH I ω)[j]?=some (some (.pw es'))->F.pin j=F.pin i->j=i:=λj es' h' y=>by
   obtain⟨u',e1',e2'⟩:=q0D h';rcases q7y e2' with⟨c1,fs,rfl⟩|⟨c1,rfl⟩
   ·exact a6 j _ e1' y
   ·exact a6 j _ e1' y
  have ap:∀(j:Nat)es',(WH I ω)[j]?=some (some (.ow es'))->σ[j]?≠some CZ:=λj es' h'=>by
   obtain⟨u',e1',e2'⟩:=q0D h';rcases q69 e2' with⟨c1,fs,rfl⟩|⟨c1,rfl⟩
   ·exact a7 j _ e1'
   ·exact a7 j _ e1'
  rcases q7y e2 with⟨c1,fs,rfl⟩|⟨c1,rfl⟩
  ·obtain⟨us,b1,b2,b3⟩:=hn i ds _ c1 a1
   exact⟨us,a1,b1,b2,a4,b3,uq,ap⟩
  ·rw[w]at e1
   cases e1;have np:=nP c1 (.inr w) a1;have hl:WV P H Kj=some fO:=by rw[q22 np];exact a2
   exact⟨vs,a1,Tz,x.new _ a3 (by rw[hl];exact λz=>by cases z),a4,a5.mono x.gg,uq,ap⟩
end
noncomputable def Xe:List iG->WSt->Nat->Option aO
 | some k::is,some (.pw ds)::r,i=>if i=k then some ds else Xe is r i
 | _::is,_::r,i=>Xe is r i
 | _,_,_=>none
noncomputable def XN:List iG->WSt->Bool
 | some _::is,some (.pw _)::r=>XN is r
 | some _::_,_=>false
 | none::is,_::r=>XN is r
 | none::is,[]=>XN is []
 | [],_=>true
noncomputable def Xa:List iG->Bool
 | some i::is=>!is.contains AB&&Xa is
 | none::is=>Xa is
 | []=>true
theorem q0A:∀{is:gQ}{ω:WSt}{i:Nat}{ds:aO},Xe is ω i=some ds->∃j:Nat,is[j]?=some AB/\ω[j]?=some Bg
 | some k::is,some (.pw es)::r,i,ds,h=>by
  unfold Xe at h
  by_cases z:i=k
  ·rw[fG]at h;cases h;subst z;exact⟨0,rfl,rfl⟩
  ·rw[fm]at h
   obtain⟨j,a,b⟩:=q0A h;exact⟨j+1,by simpa using a,by simpa using b⟩
 | some k::is,none::r,i,ds,h=>by
  obtain⟨j,a,b⟩:=q0A (is:=is) (ω:=r) (i:=i) (ds:=ds) (by unfold Xe at h;exact h);exact⟨j+1,by simpa using a,by simpa using b⟩
 | some k::is,↥d::r,i,ds,h=>by
  obtain⟨j,a,b⟩:=q0A (is:=is) (ω:=r) (i:=i) (ds:=ds) (by unfold Xe at h;exact h);exact⟨j+1,by simpa using a,by simpa using b⟩
 | some k::is,some (.ow d)::r,i,ds,h=>by
  obtain⟨j,a,b⟩:=q0A (is:=is) (ω:=r) (i:=i) (ds:=ds) (by unfold Xe at h;exact h);exact⟨j+1,by simpa using a,by simpa using b⟩
 | some k::is,some (.od ks d)::r,i,ds,h=>by
  obtain⟨j,a,b⟩:=q0A (is:=is) (ω:=r) (i:=i) (ds:=ds) (by unfold Xe at h;exact h);exact⟨j+1,by simpa using a,by simpa using b⟩
 | none::is,w::r,i,ds,h=>by
  obtain⟨j,a,b⟩:=q0A (is:=is) (ω:=r) (i:=i) (ds:=ds) (by unfold Xe at h;exact h);exact⟨j+1,by simpa using a,by simpa using b⟩
 | [],_,_,_,h=>by unfold Xe at h;cases h
 | some _::_,[],_,_,h=>by unfold Xe at h;cases h
 | none::_,[],_,_,h=>by unfold Xe at h;cases h
theorem q3L:∀{is:gQ}{ω:WSt},XN is ω=true->Xa is=true->∀{j i:Nat},is[j]?=some AB->∃ds,Xe is ω i=some ds/\ω[j]?=some Bg
 | some k::is,some (.pw es)::r,hb,hs,j,i,h=>by
  rw[Xa,zv]at hs;rw[XN]at hb;cases j with
  | zero=>
   have:k=i:=by simpa using h
   subst this;exact⟨es,by unfold Xe;rw[jT],rfl⟩
  | succ j=>
   have h':is[j]?=some AB:=by simpa using h
   obtain⟨ds,a,b⟩:=q3L hb hs.2 h';refine⟨ds,?_,by simpa using b⟩;unfold Xe;rw[vG λz=>?_]
   ·exact a
   ·have:=hs.1
    rw[<- z]at this;have m:some i∈is:=yD h';simp[m]at this
 | none::is,w::r,hb,hs,j,i,h=>by
  rw[Xa]at hs;rw[XN]at hb;cases j with
  | zero=>simp at h
  | succ j=>
   obtain⟨ds,a,b⟩:=q3L hb hs (j:=j) (i:=i) ⇑h;exact⟨ds,by unfold Xe;exact a,by simpa using b⟩
 | none::is,[],hb,hs,j,i,h=>by
  rw[Xa]at hs;rw[XN]at hb;cases j with
  | zero=>simp at h
  | succ j=>
   obtain⟨ds,a,b⟩:=q3L hb hs (j:=j) (i:=i) ⇑h;simp at b
 | [],_,_,_,j,i,h=>by simp at h
 | some _::_,[],hb,_,_,_,_=>by unfold XN at hb;cases hb
 | some _::_,none::_,hb,_,_,_,_=>by unfold XN at hb;cases hb
 | some _::_,↥_::_,hb,_,_,_,_=>by unfold XN at hb;cases hb
 | some _::_,some (.ow _)::_,hb,_,_,_,_=>by unfold XN at hb;cases hb
 | some _::_,some (.od _ _)::_,hb,_,_,_,_=>by unfold XN at hb;cases hb
theorem q6T:∀{is:gQ},Xa is=true->∀{j k i:Nat},is[j]?=some AB->is[k]?=some AB->j=k
 | [],_,j,k,i,h,_=>by simp at h
 | none::is,hs,0,k,i,h,h'=>by simp at h
 | none::is,hs,j+1,0,i,h,h'=>by simp at h'
 | none::is,hs,j+1,k+1,i,h,h'=>by
  rw[Xa]at hs;rw[q6T hs (j:=j) (k:=k) (i:=i) ⇑h ⇑h']
 | some a::is,hs,0,0,i,h,h'=>rfl
 | some a::is,hs,0,k+1,i,h,h'=>by
  rw[Xa,zv]at hs;have e:a=i:=by simpa using h
  have m:some i∈is:=yD (i:=k) ⇑h';have:=hs.1;rw[e]at this;simp[m]at this
 | some a::is,hs,j+1,0,i,h,h'=>by
  rw[Xa,zv]at hs;have e:a=i:=by simpa using h'
  have m:some i∈is:=yD (i:=j) ⇑h;have:=hs.1;rw[e]at this;simp[m]at this
 | some a::is,hs,j+1,k+1,i,h,h'=>by
  rw[Xa,zv]at hs;rw[q6T hs.2 (j:=j) (k:=k) (i:=i) ⇑h ⇑h']
noncomputable def zAl(is:gQ)(m:jG)(g:FW)(ω:WSt):Option nG:=(g ω).bind λws=>(m ws).bind λp=>if XN is p.2=true then some Db else none
noncomputable def zAC(is:gQ)(m:jG)(g:FW):FS:=λω=>(zAl is m g ω).map λp=>O5
noncomputable def zBx(i:Nat)(is:gQ)(m:jG)(g:FW):FS:=λω=>(zAl is m g ω).map λp=>kH
section
variable{X:Cx}{e:vP}{es:List vP}{is:List (Option Nat)}{g:FW}{m:List W->Option (D×WSt)}{k k0:Nat}{f:vF}{fd:vN}{ps:List Str}{x:Str}{p pos pos' spos:Pos}
abbrev CalW(P:vQ)(w:vY)(K:zC)(mg:bO)(base:vf)(k:Nat)(f:vF)(d:vN)(x:Str)(ps:dI)(n:Nat)(m:jG):Prop :=
 FnOk P w K mg base CX0 k f d ps (spW K n m)/\mg x=some fh/\xM K fh=true/\Binds K d ps []
theorem q8g{E:XK}{n:Nat}{t:TA}(hs:abe)(h2:SimWA X.K t is g)(h5:∀ω ws,g ω=some ws->ws.length=n){G0:Hp}{H0:Fr}{G:Hp}{ω:WSt}{σ:St}{H:Hp}{d:D}{ω':WSt}{Q:VK}(o:QD)(ec:zAl is m g ω=some MD)(kk:∀v G' H',Own X.K G0 H0 G' ω' σ H'->Y8 G G'->Rep X.K G' d v->Q v H'):zBt (spW X.K n m) [] E t σ H Q:=by
 obtain⟨ws,q,ec⟩:=bnd ec;obtain⟨⟨d1,ω1⟩,q2,ec⟩:=bnd ec
 by_cases hb:XN is ω1=true
 case neg=>rw[LK]at ec;cases ec
 rw[Q9]at ec;cases ec;refine h2 G0 H0 G ω σ H ws _ o q λvs G1 H1 x1 a1 i1=>?_;have o1:=o.keep x1;refine⟨G1,ws,_,ω1,q2,h5 ω ws q,x1.gh,by rw[zo];exact a1,?_,λv G2 H2 x2 y2 y3=>kk v G2 H2 ?_ nV y3⟩
 ·rw[zo]
  intro j k ds es l hj hk vj vk;obtain⟨ij,lj,b1,b2,b3,b4⟩:=i1.pw j ds hj;obtain⟨ik,lk,c1,c2,c3,c4⟩:=i1.pw k es hk;rw[vj]at b2;cases b2;rw[vk]at c2;cases c2;have:=o.apart b4 c4 b3 c3;subst this;exact q6T hs b1 c1
 ·rw[zo]at x2 y2
  refine o1.back (P:=Pn ws vs) (λi ds hi=>?_) (λb ⟨j,ds,hj,hv⟩=>?_) x2 λi ds l hi hl=>?_
  ·obtain⟨j,b1,b2⟩:=q0A hi
   obtain⟨es,b3⟩:=i1.is j i b1;obtain⟨i',l,c1,c2,c3,c4⟩:=i1.pw j es b3;rw[b1]at c1;cases c1;exact⟨es,c4⟩
  ·obtain⟨i,l,c1,c2,c3,c4⟩:=i1.pw j ds hj
   rw[hv]at c2;cases c2;obtain⟨es,e1,e2⟩:=q3L hb hs c1;exact⟨i,es,e1,c3⟩
  ·obtain⟨j,b1,b2⟩:=q0A hi
   obtain⟨es,b3⟩:=i1.is j i b1;obtain⟨i',l',c1,c2,c3,c4⟩:=i1.pw j es b3;rw[b1]at c1;cases c1;rw[hl]at c3;cases c3;exact y2 j es ds l b3 c2 b2
theorem q6t(c:r8)(hr:AJ)(ha:XWA X iV is g)(hs:abe:=by rfl)(hk:k<=k0:=by decide)(hg:pj:=by exact rfl)(hdb:aC:=by decide)(he:az:=by rfl)(hpl:(vU pos gY).any (·.1)=false:=by rfl)(hsw:vz bG none spos.line X.env=pure false:=by rfl):XS X (.Expr bG spos) (zAC is m g):=by
 obtain⟨⟨t,h1,h2⟩,h5⟩:=ha;refine⟨_,q17 nW hsw,FC⟩;obtain⟨⟨d,ω1⟩,q,ec⟩:=mpd ec;cases ec;exact q8g hs h2 h5 o q λv G' H' o' s' _=>kk G' σ H' o' s'
theorem qiv{i:Nat}{y:Str}(hN:X.N.Nodup)(hi:X.N[i]?=some y)(hx:Loc X.env.scope y)(c:r8)(hr:AJ)(ha:XWA X iV is g)(hs:abe:=by rfl)(hk:k<=k0:=by decide)(hg:pj:=by exact rfl)(hdb:aC:=by decide)(he:az:=by rfl)(hpl:(vU pos gY).any (·.1)=false:=by rfl)(hsw:vz bG (some (.Name y pos')) spos.line X.env=pure false:=by rfl)(hf:X.fn y=true\/X.env.scope.names.lookup y=some .local:=by first|exact .inl rfl|exact .inr rfl|assumption):XS X (.Assign [.Name y pos'] bG spos) (zBx i is m g):=by
 obtain⟨⟨t,h1,h2⟩,h5⟩:=ha;refine⟨_,q0n hN hi hx nW hsw hf,FC⟩;obtain⟨⟨d,ω1⟩,q,ec⟩:=mpd ec;cases ec;exact q8g hs h2 h5 o q λv G' H' o' s' y'=>kk G' _ H' (o'.setSh y') s'
end
noncomputable def appP(i:Nat)(ω:WSt)(v:eY)(w:kW):Option dD:=v.bind λd=>match w with
 | some (some (.pw ds))=>if ds.length<1000000 then some nJ else none
 | _=>none
noncomputable def wshR(a:eY)(b:Option A8):Option A8:=a.bind λd=>b.map λws=>.sh d::ws
noncomputable def wpwR(a:kW)(b:Option A8):Option A8:=(pwOf a).bind λds=>b.map λws=>.pw ds::ws
noncomputable def cwR(is:gQ)(m:jG)(ω:WSt)(a:Option A8):Option nG:=a.bind λws=>(m ws).bind λp=>if XN is p.2=true then some Db else none
noncomputable def cwB(is:gQ)(ω:WSt)(a:Option nG):Option nG:=a.bind λp=>if XN is p.2=true then some Db else none
noncomputable def dropP(a:Option nG):Option dD:=a.map λp=>O5
noncomputable def setPw(i:Nat)(a:Option nG):Option dD:=a.map λp=>kH
noncomputable def outW(a:Ls):Option nG:=match a with
 | some (.rt (.sh d),ω')=>some MD
 | some (.nx,ω')=>some (.non,ω')
 | _=>none
section
variable{i k:Nat}{ω r:WSt}{d:D}{ds es:List D}{fd fk fv:FD}{g:FW}{ws:List W}{is:List (Option Nat)}{m:List W->Option (D×WSt)}{w:Option W}{I:Nat->Option (List D)}{b:FS}{n:Nat}
theorem qf7:zB8 i fd ω=appP i ω lY ω[i]?:=rfl
theorem p_as(h:Ke):appP i ω pW (some Bg)=some nJ:=vC h
theorem qfC:zCC ω=some []:=rfl
theorem qhb:wSh fd g ω=wshR lY (g ω):=rfl
theorem qhn:wshR pW V7=some (.sh d::ws):=rfl
theorem qh4:wPw i g ω=wpwR ω[i]? (g ω):=rfl
theorem qcd:wpwR sn V7=some (.pw ds::ws):=rfl
theorem e_cw:zAl is m g ω=cwR is m ω (g ω):=rfl
theorem qhp:cwR is m ω V7=cwB is ω (m ws):=rfl
theorem qhf:cwB is ω Pp=if XN is r=true then some (d,WH (Xe is r) ω)else none:=rfl
theorem qgY:zAC is m g ω=dropP aaS:=rfl
theorem e_dp:dropP Pp=some (.nx,r):=rfl
theorem qhj:zBx i is m g ω=setPw i aaS:=rfl
theorem e_sp:setPw i Pp=some (.nx,r.set i ↥d):=rfl
theorem qhO:XN (some k::is) (some jB::r)=XN is r:=rfl
theorem qhY:XN TX (w::r)=XN is r:=rfl
theorem qha:XN [] r=true:=by cases r <;> rfl
theorem qgU:WH I (w::r)=zAN (I 0) w::WH (λi=>I (i+1)) r:=by unfold WH;rw[List.mapIdx_cons]
theorem qh7:WH I []=[]:=rfl
theorem qhr{j:Nat}:Xe (some k::is) (some jB::r) j=if j=k then some ds else Xe is r j:=rfl
theorem qhi{j:Nat}:Xe TX (w::r) j=Xe is r j:=by
 cases w with
 | none=>rfl
 | some w=>cases w <;> rfl
theorem qhR{j:Nat}:Xe [] r j=none:=by cases r <;> rfl
theorem qhx:zAN none w=w:=q5m
theorem qhG:zAN Gh g9=some FP:=rfl
theorem qff:mirW n b ws=outW (b (WI n ws)):=rfl
theorem qbl:outW (some (.rt (.sh d),r))=some (d,r):=rfl
end
end Hk
namespace Hk
open PySem PyProof.Rows
noncomputable def kcl(c:Int)(l:RX):List ur:=l.filter λp=>t9 p.1==c
def zAS(l m:RX):Prop:=∀c,kcl c l=kcl c m
theorem q0Z(c:Int)(a b:RX):kcl c KG=kcl c a++kcl c b:=Z5 ..
theorem q5M(c:Int)(a:RX):kcl c a.reverse=(kcl c a).reverse:=List.filter_reverse ..
theorem q73{c:Int}{l:RX}(h:∀p∈l,t9 p.1≠c):kcl c l=[]:=xZ.mpr λp hp=>by simpa using h p hp
theorem q4w{xs:Ei}{i:Nat}{p:ur}(h:xs.toList[i]?=some p):K xs i=t9 p.1:=by
 unfold K;rw[<- zn,h]
theorem qbi{α:Type}{l:bN}{i j:Nat}{p:α}(h:p∈(l.take j).drop i):∃n,i<=n/\n<j/\l[n]?=some p:=by
 obtain⟨m,hm⟩:=xA.mp h;rw[xN,xD]at hm
 split at hm
 ·exact⟨i+m,∅,by assumption,hm⟩
 ·cases hm
theorem cut3{α:Type}(l:bN){i j:Nat}(h:i<=j):l.take i++((l.take j).drop i++l.drop j)=l:=by
 have:l.take i=(l.take j).take i:=by rw[Yd,ZY h]
 rw[this,<- yB,y9,y9]
theorem q4j{xs:Ei}{i j:Nat}(hij:i<=j)(hj:j<=xs.size):(mirror xs i j ((j-i)/2)).toList=xs.toList.take i++(((xs.toList.take j).drop i).reverse++xs.toList.drop j):=by
 apply xE;intro k;rw[zn,getElem?_mirror_all hj];have hl:xs.toList.length=xs.size:=zW;rcases yH k i with h1|h1
 ·rw[Cf,zg (by rw[zr];omega),xD,U3,zn]
 ·rw[zc (by rw[zr];omega),zr,show min i xs.toList.length=i by omega]
  have ld:((xs.toList.take j).drop i).length=j-i:=by rw[yN,zr];omega
  rcases yH k j with h2|h2
  ·rw[vC Tm,zg (by rw[xJ,ld];omega),List.getElem?_reverse (by rw[ld];omega),ld,xN,xD,EO,zn]
   congr 1;omega
  ·rw[Cf,zc (by rw[xJ,ld];omega),xJ,ld,xN,zn]
   congr 1;omega
theorem qaI{xs:Ei}{j l:Nat}(hs:j<xs.size)(hl:l<=j):(bubble xs j (j-l)).toList=xs.toList.take l++(xs[j]::BF):=by
 apply xE;intro k;rw[zn,getElem?_bubble hs _ ∅,show j-(j-l)=l by omega];have hn:xs.toList.length=xs.size:=zW;rcases yH k l with h1|h1
 ·rw[Cf,Cf,zg (by rw[zr];omega),xD,U3,zn]
 ·rw[zc (by rw[zr];omega),zr,show min l xs.toList.length=l by omega]
  rcases wo h1 with h2|h2
  ·subst h2
   rw[jT,wf,xT,Uc]
  ·rw[Cf]
   obtain⟨m,hm⟩:∃m,k-l=m+1:=⟨k-l-1,∅⟩;rw[hm,xF];have ld:((xs.toList.take j).drop l).length=j-l:=by rw[yN,zr];omega
   rcases yH m (j-l)with h3|h3
   ·rw[EO,zg (by rw[ld];exact h3),xN,xD,EO,zn]
    congr 1;omega
   ·rw[Cf,zc (by rw[ld];exact h3),ld,xN,zn]
    congr 1;omega
theorem qaJ{xs:Ei}{j l:Nat}(hs:j<xs.size)(hl:l<=j)(h:∀i,l<=i->i<j->K xs j<K xs i):zAS (bubble xs j (j-l)).toList xs.toList:=by
 intro c;have hx:xs.toList[j]?=some xs[j]:=by rw[zn,Uc]
 have e:xs.toList=xs.toList.take l++((xs.toList.take j).drop l++(xs[j]::xs.toList.drop (j+1))):=by
  have d:xs.toList.drop j=xs[j]::xs.toList.drop (j+1):=by
   rw[xn (by rw[zW];exact hs),Array.getElem_toList]
  rw[<- d,cut3 _ hl]
 rw[qaI hs hl,q0Z];have e2:kcl c xs.toList=kcl c (xs.toList.take l)++(kcl c L3++kcl c (xs[j]::xs.toList.drop (j+1))):=by
  conv=>lhs;rw[e]
  rw[q0Z,q0Z]
 rw[e2]
 congr 1
 show kcl c ([xs[j]]++BF)=_++kcl c ([xs[j]]++xs.toList.drop (j+1));rw[q0Z,q0Z,q0Z]
 by_cases z:t9 xs[j].1=c
 ·have no:kcl c L3=[]:=q73 λp hp=>by
   obtain⟨n,n1,n2,n3⟩:=qbi hp;have k1:=q4w n3;have k2:=q4w hx;have:=h n n1 n2;omega
  rw[no,yP,yP]
 ·have no:kcl c [xs[j]]=[]:=q73 λp hp=>by cases zR.mp hp;exact z
  rw[no,yP,yP]
structure DInv (a₀:Array ur) (xs:Array ur) (x neq:Nat):Prop where
 le:neq+1<=x
 ni:sW xs x
 eq:∀i,x-(neq+1)<=i->i<x->K xs i=K xs (x-1)
 lt:0<x-(neq+1)->K xs (x-(neq+1))<K xs (x-(neq+1)-1)
 cl:∀c,kcl c (xs.toList.take (x-(neq+1)))=(kcl c (a₀.toList.take (x-(neq+1)))).reverse
 dr:xs.toList.drop (x-(neq+1))=a₀.toList.drop (x-(neq+1))
theorem DInv.flip{a₀ xs:Ei}{x neq:Nat}(D:DInv a₀ xs x neq)(hx:x<=xs.size)(hz:xs.size=a₀.size):
  (∀c,kcl c ((mirror xs Qf x ((x-Qf)/2)).toList.take x)=(kcl c RG).reverse)/\(mirror xs Qf x ((x-Qf)/2)).toList.drop x=a₀.toList.drop x:=by
 have hb:x-rW<=x:=Nat.sub_le _ _;have hle:=D.le;have hbx:x-rW<x:=∅
 have lt:=D.lt;have eq:=D.eq;have ni:=D.ni;have cl:=D.cl;have dr:=D.dr;generalize x-rW=b at hb hbx lt eq cl dr;have hn:xs.toList.length=xs.size:=zW;have hn0:a₀.toList.length=a₀.size:=zW;have run:(xs.toList.take x).drop b=(a₀.toList.take x).drop b:=by
  rw[Ye,Ye,dr]
 have lrun:((xs.toList.take x).drop b).length=x-b:=by rw[yN,zr];omega
 rw[q4j hb hx];have l1:(xs.toList.take b++((xs.toList.take x).drop b).reverse).length=x:=by
  rw[zE,xJ,lrun,zr];omega
 rw[<- yB];refine⟨λc=>?_,?_⟩
 ·rw[YT l1,q0Z,q5M,run]
  have e0:a₀.toList.take x=a₀.toList.take b++(a₀.toList.take x).drop b:=by
   have:a₀.toList.take b=(a₀.toList.take x).take b:=by rw[Yd,ZY hb]
   rw[this,y9]
  have e9:kcl c RG=kcl c (a₀.toList.take b)++kcl c KW:=(vm (kcl c) e0).trans (q0Z c _ _);rw[e9,Zp,<- cl c]
  by_cases z:c=K xs (x-1)
  ·have no:kcl c (xs.toList.take b)=[]:=q73 λp hp=>by
    obtain⟨m,hm⟩:=xA.mp hp;rw[xD]at hm
    split at hm
    ·rename_i hmb
     have k1:=q4w hm;have k2:=lt ∅;have k3:=ni m (b-1) ∅ ∅;have k4:K xs b=K xs (x-1):=eq b cL hbx;omega
    ·cases hm
   rw[no,yP,zo]
  ·have no:kcl c KW=[]:=q73 λp hp=>by
    rw[<- run]at hp;obtain⟨n,n1,n2,n3⟩:=qbi hp;have k1:=q4w n3;have k2:=eq n n1 n2;intro y;exact z ∅
   rw[no,List.reverse_nil,zo,yP]
 ·rw[YU l1]
  have e1:xs.toList.drop x=(xs.toList.drop b).drop (x-b):=by rw[Zi];congr 1;omega
  have e2:a₀.toList.drop x=(a₀.toList.drop b).drop (x-b):=by rw[Zi];congr 1;omega
  rw[e1,e2,dr]
section
variable{prog:vQ}{w:vY}{A:ve}{E:vB->vH->Prop}{s:vH}{a₀:Array ur}
theorem q60{xs ys:Ei}{x:Nat}(h:sW xs x)(e:∀k,K ys k=K xs k)(hl:x=0\/K xs x<=K xs (x-1)):sW ys (x+1):=by
 intro i j hij hj;rw[e,e];rcases yH j x with y|y
 ·exact h i j hij y
 ·obtain rfl:j=x:=∅
  rcases wo hij with z|z
  ·rw[z];exact yd _
  ·rcases hl with hl|hl
   ·omega
   ·exact ZP hl (h i (j-1) ∅ ∅)
theorem qaB{st:ux}{n nrem:Nat}{Q:DescSt->ux->Prop}(h0:BD)(hn:ES)(h1:1<=n)(hnn:n<=nrem)(hB:ER)(hD:DInv a₀ lX n 0)(h:∀m neq st',tH a₀ st'->n<=m->m<=nrem->DInv a₀ eV m neq->Q (none,m,neq) st'):wpS am A E s (descLoop n nrem) Q st:=by
 unfold descLoop;refine u9 (I:=λx c st'=>∃neq,c=(none,x,neq)/\tH a₀ st'/\DInv a₀ eV x neq) ?turn ?done ⟨0,rfl,hB,hD⟩
 case done=>
  rintro c st' ⟨neq,rfl,b1,b2⟩;rw[Nat.max_eq_right hnn]at b2 ⊢;exact h nrem neq st' b1 hnn cL b2
 case turn=>
  rintro x c st' hx1 hx2 ⟨neq,rfl,b1,D⟩
  dsimp only
  have hsz:(vW st').size=a₀.size:=b1.size;have hle:=D.le;refine vt Me
  by_cases less:K eV x<K eV (x-1)
  ·rw[vO less]
   simp only[if_true];obtain⟨f1,f2⟩:=D.flip ∅ hsz;have ke:=tq (xs:=vW st') (i:=x-rW) (j:=x) ∅ D.eq;have next:DInv a₀ (mirror eV Qf x ((x-Qf)/2)) (x+1) 0:=by
    refine⟨∅,q60 D.ni ke (.inr (wH less)),CO,fN,?_,?_⟩
    ·congr 1;omega
    ·show K _ x<K _ (x-1)
     rw[ke,ke];exact less
    ·exact f1
    ·exact f2
   by_cases hq:neq>0
   ·rw[vC hq]
    exact vt (tt (uL ⟨0,rfl,b1.setArr IR,next⟩))
   ·rw[vG hq]
    have hq0:neq=0:=∅
    subst hq0;have e:mirror eV VX x ((x-VX)/2)=vW st':=by
     have:(x-VX)/2=0:=∅
     rw[this];rfl
    rw[e]at next
    exact uL ⟨0,rfl,b1,next⟩
  ·rw[vT less]
   simp only[yF,if_false];refine vt Me
   by_cases more:K eV (x-1)<K eV x
   ·rw[vO more]
    simp only[if_true];exact uL (h x neq st' b1 hx1 ∅ D)
   ·rw[vT more]
    simp only[yF,if_false];have ex:K eV x=K eV (x-1):=∅
    have eb:x+1-(neq+1+1)=x-rW:=∅
    refine uL ⟨rW,rfl,b1,∅,q60 D.ni Hj (.inr ∅),CO,?_,?_,?_⟩
    ·rw[eb]at i1
     rw[show x+1-1=x by omega,ex];rcases yH i x with y|y
     ·exact D.eq i i1 y
     ·obtain rfl:i=x:=∅
      exact ex
    ·rw[eb];exact D.lt
    ·rw[eb];exact D.cl
    ·rw[eb];exact D.dr
theorem qbM{st:ux}{n nrem:Nat}{Q:GR}(h0:BD)(hn:ES)(h1:1<=n)(hnn:n<=nrem)(hB:ER)(hs:sW lX n)(hc:∀c,kcl c ((vW st).toList.take n)=(kcl c RH).reverse)(hd:(vW st).toList.drop n=a₀.toList.drop n)(h:∀m st',tH a₀ st'->1<=m->m<=nrem->ut eV m->zAS (vW st').toList a₀.toList->Q (some m) st'):wpS am A E s (tail3 n nrem) Q st:=by
 unfold tail3;have hsz:n<=(vW st).size:=by rw[hB.size];omega
 refine vt (tt ?_);have b1:tH a₀ (setArr st (mirror lX 0 n ((n-0)/2))):=hB.setArr IR;have stb:zAS (mirror lX 0 n ((n-0)/2)).toList a₀.toList:=λc=>by
  rw[q4j Bv hsz,Yf,yP,wp,q0Z,q5M,hc c,Zj,hd,<- q0Z,y9]
 refine vt (wpS_ascLoop h0 hn h1 hnn b1 IH λm m1 m2 m3 _=>uL (h m _ b1 ∅ m2 m3 stb));show K (mirror lX 0 n ((n-0)/2)) i<=K (mirror lX 0 n ((n-0)/2)) j;rw[K_mirror hsz,K_mirror hsz,EO,EO];exact hs _ _ ∅ ∅
theorem q6j{st:ux}{n nrem:Nat}{Q:GR}(h0:BD)(hn:ES)(hnn:n+1<=nrem)(hB:ER)(hD:DInv a₀ lX (n+1) 0)(h:∀m st',tH a₀ st'->1<=m->m<=nrem->ut eV m->zAS (vW st').toList a₀.toList->Q (some m) st'):wpS am A E s (descPart n nrem) Q st:=by
 unfold descPart;refine vt K2;refine vt (qaB h0 hn ∅ hnn hB hD λm neq st' b1 m1 m2 D=>?_)
 dsimp only
 have hsz:(vW st').size=a₀.size:=b1.size;have hle:=D.le;obtain⟨f1,f2⟩:=D.flip ∅ hsz;have ke:=tq (xs:=vW st') (i:=m-rW) (j:=m) ∅ D.eq
 by_cases hq:neq>0
 ·rw[vC hq]
  refine vt (tt (qbM h0 hn ∅ m2 (b1.setArr IR) IH f1 f2 h));show K Vf j<=K Vf i;rw[ke,ke];exact D.ni i j hij hj
 ·rw[vG hq]
  have hq0:neq=0:=∅
  subst hq0;have e:mirror eV aaY m ((m-aaY)/2)=vW st':=by
   have:(m-aaY)/2=0:=∅
   rw[this];rfl
  rw[e]at f1 f2;exact qbM h0 hn ∅ m2 b1 D.ni f1 f2 h
theorem qaG{st:ux}{nrem:Nat}{Q:GR}(h0:BD)(hn:ES)(h1:1<=nrem)(hB:ER)(hA:vW st=a₀)(h:∀m st',tH a₀ st'->1<=m->m<=nrem->ut eV m->zAS (vW st').toList a₀.toList->Q (some m) st'):wpS am A E s (countRun' 0 nrem) Q st:=by
 rw[countRun0_eq];refine vt (wpS_ascLoop h0 hn (zQ 1) h1 hB (λi j hij hj=>by obtain rfl:i=j:=∅;exact yd _) λn n1 n2 n3 n4=>?_)
 dsimp only
 have same:zAS (vW st).toList a₀.toList:=λc=>by rw[hA]
 by_cases e1:n=nrem
 ·rw[vC ⇑e1]
  exact uL Nk
 ·rw[vG ⇑e1]
  have lt:=n4.resolve_left e1
  by_cases e2:n>1
  ·rw[vC e2]
   refine vt (wpS_ltK hB h0 ∅ ∅ ?_)
   by_cases rose:K lX 0<K lX (n-1)
   ·rw[vO rose]
    simp only[if_true];exact uL Nk
   ·rw[vT rose]
    simp only[yF,if_false];have hsz:n<=(vW st).size:=by rw[hB.size];omega
    have all:∀k,0<=k->k<n->K lX k=K lX (n-1):=λk _ hk=>by
     have a1:=n3 0 k ∅ hk;have a2:=n3 k (n-1) ∅ ∅;omega
    have ke:=tq (xs:=vW st) (i:=0) (j:=n) hsz all;refine vt (tt (q6j h0 hn ∅ (hB.setArr IR) ?_ h));show DInv a₀ (mirror lX 0 n ((n-0)/2)) (n+1) 0;have ml:=q4j (yG n) hsz;rw[Yf,yP,wp]at ml;have ll:(((vW st).toList.take n).reverse).length=n:=by rw[xJ,zr,zW];omega
    have ni:sW lX n:=λi j hij hj=>by rw[all i ∅ ∅,all j ∅ hj];exact yd _
    refine⟨∅,q60 ni ke acH,CO,fN,λc=>?_,?_⟩
    ·congr 1;omega
    ·show K _ n<K _ (n-1)
     rw[ke,ke];exact lt
    ·show kcl c ((mirror lX 0 n ((n-0)/2)).toList.take n)=(kcl c RH).reverse
     rw[ml,YT ll,q5M,hA]
    ·show (mirror lX 0 n ((n-0)/2)).toList.drop n=a₀.toList.drop n
     rw[ml,YU ll,hA]
  ·rw[vG e2]
   obtain rfl:n=1:=∅
   refine q6j h0 hn ∅ hB ?_ h;have ni:sW lX 1:=λi j hij hj=>by obtain rfl:i=j:=∅;exact yd _
   refine⟨∅,q60 ni Hj acH,CO,λ_=>lt,λc=>?_,?_⟩
   ·congr 1;omega
   ·show kcl c ((vW st).toList.take 1)=(kcl c (a₀.toList.take 1)).reverse
    rw[hA,<- q5M];cases a₀.toList with
    | nil=>rfl
    | cons p r=>rfl
   ·rw[hA]
theorem qf5{st:ux}{n ok:Nat}{Q:Bool->ux->Prop}(h0:BD)(hn:n<=a₀.size)(hok:ok<=n)(hB:ER)(hs:ut lX ok)(hS:zAS (vW st).toList a₀.toList)(h:∀st',tH a₀ st'->ut eV n->zAS (vW st').toList a₀.toList->Q true st'):wpS am A E s (binarySort' 0 n ok) Q st:=by
 rw[binarySort'_eq];simp only[wG];refine vt (sX (u9 (I:=λj c st'=>c=(none,())/\tH a₀ st'/\ut eV (min j n)/\zAS (vW st').toList a₀.toList)
  (Q:=λc st'=>c=(none,())/\tH a₀ st'/\ut eV n/\zAS (vW st').toList a₀.toList) ?turn ?done ?first) λc st' z=>?_)
 case first=>
  refine⟨rfl,hB,IH,hS⟩
  by_cases y:ok=0
  ·obtain rfl:i=j:=∅
   exact yd _
  ·exact hs i j hij ∅
 case done=>
  rintro c st' ⟨hc,b1,b2,b3⟩;rw[show min (max (max ok 1) n) n=n by omega]at b2;exact⟨hc,b1,b2,b3⟩
 case turn=>
  rintro j c st' j1 j2 ⟨rfl,b1,b2,b3⟩;rw[show min j n=j by omega]at b2;have hj:j<a₀.size:=∅
  have hjs:j<(vW st').size:=by rw[b1.size];exact hj
  refine vt (sX (u9 (I:=λx c st2=>st2=st'/\∃l r,c=(none,l,r)/\l<=r/\r<=j/\r-l<=j-x/\(∀i,i<l->K eV i<=K eV j)/\∀i,r<=i->i<j->K eV j<K eV i)
   (Q:=λc st2=>st2=st'/\∃l r,c=(none,l,r)/\l<=j/\(∀i,i<l->K eV i<=K eV j)/\∀i,l<=i->i<j->K eV j<K eV i) ?half ?found ?all) λc st2 z=>?_)
  case all=>exact⟨rfl,0,j,rfl,Bv,cL,∅,λi y=>∅,λi y1 y2=>∅⟩
  case found=>
   rintro c st2 ⟨rfl,l,r,rfl,c1,c2,c3,c4,c5⟩;obtain rfl:l=r:=∅
   exact Ny
  case half=>
   rintro x c st2 _ hx ⟨rfl,l,r,rfl,c1,c2,c3,c4,c5⟩
   dsimp only
   by_cases y:l>=r
   ·rw[JZ]
    obtain rfl:l=r:=∅
    exact uL Ny
   ·rw[K3]
    refine vt (wpS_ltK b1 h0 hj ∅ ?_)
    by_cases less:K (vW st2) j<K (vW st2) ((l+r)/2)
    ·rw[vO less]
     simp only[if_true];refine uL ⟨rfl,l,(l+r)/2,rfl,∅,∅,∅,c4,CO⟩;exact Int.lt_of_lt_of_le less (b2 _ _ i1 i2)
    ·rw[vT less]
     simp only[yF,if_false];refine uL ⟨rfl,(l+r)/2+1,r,rfl,∅,∅,∅,λi i1=>?_,c5⟩;have:=b2 i ((l+r)/2) ∅ ∅;omega
  obtain⟨rfl,l,r,rfl,c1,c2,c3⟩:=z;show wpS _ _ _ _ (do moveDown' j l;pure (ForInStep.yield (none,()))) _ _;rw[moveDown'_eq];refine vt (wpS_modify (uL ⟨rfl,b1.setArr (bubble_perm _ _ _),?_,?_⟩))
  ·rw[show min (j+1) n=j+1 by omega]
   intro i k hik hk;show K Nm i<=K Nm k;rw[acy,acy,show j-(j-l)=l by omega]
   repeat' split
   all_goals first
    | (exfalso;omega)
    | exact yd _
    | exact c2 _ ∅
    | exact wH (c3 _ ∅ ∅)
    | exact b2 _ _ ∅ ∅
  ·intro c
   rw[<- b3 c];exact qaJ hjs c1 c3 c
 obtain⟨rfl,b1,b2,b3⟩:=z;exact uL (h st' b1 b2 b3)
def zBn(a₀:Ei)(st:ux):Prop:=SDone a₀ st/\zAS (vW st).toList a₀.toList
theorem qaU{st:ux}{Q:Unit->ux->Prop}(h0:BD)(hB:ER)(hA:vW st=a₀)(h2:2<=a₀.size)(h64:a₀.size<64)(h:∀st',(vW st').Perm a₀->failedOf st'=none->ut eV a₀.size->zAS (vW st').toList a₀.toList->Q () st'):wpS am A E s sortRuns' Q st:=by
 rw[sortRuns'_eq];refine vt IM
 dsimp only
 have mr:minRun' a₀.size a₀.size 0=a₀.size:=by
  cases e:a₀.size with
  | zero=>omega
  | succ f=>rw[minRun'_succ,EO]
 simp only[hB.size,mr];refine vt (sX (u9 (I:=λx c st'=>(x=0/\c=(none,0)/\st'=st)\/(1<=x/\c=aal/\zBn a₀ st')) (Q:=λc st'=>c=aal/\zBn a₀ st') ?turn ?done (.inl aaO)) λc st' z=>?_)
 case done=>
  rintro c st' (⟨y,_,_⟩|⟨_,y1,y2⟩)
  ·omega
  ·exact⟨y1,y2⟩
 case turn=>
  rintro x c st' _ hx (⟨rfl,rfl,rfl⟩|⟨x1,rfl,D⟩)
  ·dsimp only
   rw[Cf];simp only[YJ,Nat.min_self,wG];refine vt (qaG h0 cL ∅ hB hA λm st2 b1 m1 m2 m3 m4=>?_)
   dsimp only
   by_cases y:m<a₀.size
   ·rw[JZ]
    refine vt K2;refine vt (qf5 h0 cL m2 b1 m3 m4 λst3 d1 d2 d3=>?_);simp only[Zw,yF,if_false];refine vt IM;have nb:(pendingOf st3).back?=none:=by rw[d1.pend];rfl
    rw[nb]
    dsimp only
    exact vt (wpS_modify (uL (.inr ⟨∅,rfl,d1.done d2,d3⟩)))
   ·rw[K3]
    obtain rfl:m=a₀.size:=∅
    refine vt IM;have nb:(pendingOf st2).back?=none:=by rw[b1.pend];rfl
    rw[nb]
    dsimp only
    exact vt (wpS_modify (uL (.inr ⟨∅,rfl,b1.done m3,m4⟩)))
  ·dsimp only
   rw[vC cL];exact uL ⟨rfl,D⟩
 obtain⟨rfl,D⟩:=z
 dsimp only
 refine vt (sX (u9 (I:=λ_ c st2=>st2=st'/\c=(none,())) (Q:=λc st2=>st2=st'/\c=(none,())) (λx c st2 _ _ y=>?_) (λ_ _ y=>y) cH) λc st2 y=>?_)
 ·obtain⟨rfl,rfl⟩:=y
  refine vt IM;rw[vC (by rw[D.1.2.2.1];exact zQ 1)];exact uL cH
 ·obtain⟨rfl,rfl⟩:=y
  exact uL (h _ D.1.1 D.1.2.1 D.1.2.2.2 D.2)
end
section
variable{α β:Type}
noncomputable def W6(f:k7)(x:α):List α->List α
 | []=>[x]
 | y::r=>if f x<=f y then x::y::r else y::W6 f x r
noncomputable def Y3(f:k7)(l:bN):List α:=l.foldr (W6 f) []
noncomputable def clK(f:k7)(c:Int)(l:bN):List α:=l.filter λx=>f x==c
theorem q5t{f:k7}{x:α}:∀{l:bN},(W6 f x l).Perm (x::l)
 | []=>.refl _
 | y::r=>by
  unfold W6
  split
  ·exact .refl _
  ·exact(q5t.cons y).trans (.swap x y r)
theorem qL{f:k7}:∀{l:bN},(Y3 f l).Perm l
 | []=>.refl _
 | y::r=>q5t.trans ((qL (l:=r)).cons y)
theorem q8t(f:k7)(l:bN):(Y3 f l).length=l.length:=qL.length_eq
theorem qcs{f:k7}{x:α}:∀{l:bN},l.Pairwise mO->(W6 f x l).Pairwise mO
 | [],_=>ZJ _ _
 | y::r,h=>by
  obtain⟨h1,h2⟩:=zt.mp h;unfold W6
  split
  ·rename_i z
   refine zt.mpr ⟨Aj,h⟩;rcases zK.mp ha with rfl|ha
   ·exact z
   ·exact ZP z (h1 a ha)
  ·rename_i z
   refine zt.mpr ⟨Aj,qcs h2⟩;rcases zK.mp (q5t.mem_iff.mp ha)with rfl|ha
   ·omega
   ·exact h1 a ha
theorem q4K{f:k7}:∀{l:bN},(Y3 f l).Pairwise mO
 | []=>.nil
 | y::r=>qcs (q4K (l:=r))
theorem qbP{f:k7}{x:α}(c:Int):∀{l:bN},l.Pairwise mO->clK f c (W6 f x l)=clK f c (x::l)
 | [],_=>rfl
 | y::r,h=>by
  obtain⟨h1,h2⟩:=zt.mp h;unfold W6
  split
  ·rfl
  ·rename_i z
   have ih:=qbP (x:=x) c h2;unfold clK at ih ⊢;rw[yO,ih,yO,yO,yO]
   by_cases a:f x=c
   ·have:¬f y=c:=∅
    simp[a,this]
   ·simp[a]
theorem q9i{f:k7}(c:Int):∀{l:bN},clK f c (Y3 f l)=clK f c l
 | []=>rfl
 | y::r=>by
  show clK f c (W6 f y (Y3 f r))=_;rw[qbP c q4K];unfold clK;rw[yO,yO];have ih:=q9i (f:=f) c (l:=r);unfold clK at ih;rw[ih]
theorem q36{f:k7}{a:α}{l:bN}:clK f (f a) (a::l)=a::clK f (f a) l:=by
 unfold clK;rw[yO,vC (by simp)]
theorem qbs{f:k7}:∀{l m:bN},l.Pairwise mO->m.Pairwise mO->(∀c,clK f c l=clK f c m)->l=m
 | [],m,_,_,h=>by
  cases m with
  | nil=>rfl
  | cons b m=>have:=h (f b);rw[q36]at this;cases this
 | a::l,m,h1,h2,h=>by
  cases m with
  | nil=>have:=h (f a);rw[q36]at this;cases this
  | cons b m=>
   obtain⟨p1,p2⟩:=zt.mp h1;obtain⟨q1,q2⟩:=zt.mp h2;have x1:a∈b::m:=by
    have:a∈clK f (f a) (b::m):=by rw[<- h,q36];exact zG
    exact(zm.mp this).1
   have x2:b∈a::l:=by
    have:b∈clK f (f b) (a::l):=by rw[h,q36];exact zG
    exact(zm.mp this).1
   have e:f a=f b:=by
    rcases zK.mp x1 with y|y
    ·rw[y]
    ·rcases zK.mp x2 with z|z
     ·rw[z]
     ·have:=q1 a y;have:=p1 b z;omega
   have hab:=h (f a);rw[q36]at hab;rw[e,q36]at hab;obtain⟨rfl,_⟩:=Yk hab;refine vm (a::·) (qbs p2 q2 λc=>?_);have hc:=h c;unfold clK at hc ⊢;rw[yO,yO]at hc
   by_cases z:(f a==c)=true
   ·rw[fG,fG]at hc;exact(Yk hc).2
   ·rw[fm,fm]at hc;exact hc
theorem q9g{f:β->Int}{g:SD}{x:α}:∀{l:bN},W6 f (g x) OQ=(W6 abQ x l).map g
 | []=>rfl
 | y::r=>by
  show (if f (g x)<=f (g y)then _ else _)=(if f (g x)<=f (g y)then _ else _:List α).map g
  split
  ·rfl
  ·rw[q9g];rfl
theorem q2z{f:β->Int}{g:SD}:∀{l:bN},Y3 f OQ=(Y3 abQ l).map g
 | []=>rfl
 | y::r=>by
  show W6 f (g y) (Y3 f (r.map g))=(W6 _ y (Y3 _ r)).map g;rw[q2z,q9g]
end
theorem qj3{a₀ xs:Ei}(hp:xs.Perm a₀)(hs:ut xs a₀.size)(hS:zAS xs.toList a₀.toList):xs.toList=Y3 (λp=>t9 p.1) a₀.toList:=by
 have hn:xs.size=a₀.size:=hp.size_eq;refine qbs (f:=λp:ur=>t9 p.1) (yY.mpr λi j hi hj hij=>?_) q4K λc=>(hS c).trans (q9i c).symm;have e1:=q4w (xs:=xs) (i:=i) (zD hi);have e2:=q4w (xs:=xs) (i:=j) OI;rw[<- e1,<- e2];exact hs i j ∅ (by rw[zW]at hj;omega)
end Hk
namespace Hk
open PySem PySem.Spec PyProof.Rows L2
section
variable{X:Cx}{pins:List (vF×Obj)}{σ:L2.St}{H:Hp}{s:vH}
theorem qfi{h':vf}{a:vF}{ys:bu}{its:bH}{n t':Nat}(I:aj)(fa:mR)(k:∀b o,b≠a->s.heap.get? b=some o->h'.get? b=some o)(new:h'.get? a=some { cls:=.type "list", data:=.seq its.toArray n })(hv:Y7 ys its)(hz:AV):Inv X pins σ (upd H a pF) { s with heap:=h',toks:=t' }:=by
 obtain⟨f0,f1,f2,f3,f4,f5⟩:=fa;have I1:=I.turned (h':=h') (t':=t') (it:=a) k f0 f1 f3 f4 f5;have na:∀{b:vF}{u:HO},H b=some u->b≠a:=λq z=>by rw[z,f0]at q;cases q
 refine Inv.step (s:={ s with heap:=h',toks:=t' }) (H':=upd H a pF) (h':=h') (g':=s.gens) (d':=s.drawn) (t':=t') (ch:=[a]) I1 lR (λb o _ _ _ e _=>e) (λb o _ _ _ e _=>⟨o.slots,e⟩)
  (λb o hc e n=>by rw[qd ⇑hc];exact n) (λb o _ e=>Hv) (λb xs q=>by rw[La];exact q) (λb o u q=>by rw[La];exact q)
  (λb ps q=>⟨#[],by rw[La,q];simp⟩) (λ_ hm=>hm) (λb u q=>?_) I1.bare
 ·cases zR.mp hb
  exact aaP
 ·by_cases z:b=a
  ·subst z
   rw[qg]at q;cases q;exact⟨hz,its,n,hv,new⟩
  ·rw[qd z]at q
   exact(I1.hok b u q).stay NH (λc q=>by rw[La];exact q) (λc xs q=>by rw[La];exact q)
theorem qit{k:Nat}{f:vF}{fd:vN}{ps:dI}{sp:Sp}{E:XK}{Q:VK}{us:bH}{vs:bu}{E':aS}(F:Cr)(hr:GP)(hb:je)(I:aj)(r:Ur)(h:sp vs H Q E):vL ai X.A.in1.in1 PN cT E' s:=by
 have hl:(us++[]).length=ps.length:=by rw[zo,<- r.length];exact F.len _ _ _ _ h
 have b:=hb s us I.kIn hl;rw[zo]at b;refine sA (uV (F.run X.A.in1.in1 X.stack s H AA us vs Q E hr.in1.in1 I.env0.in1.in1 b r h) λr s' hq=>?_);cases r with
 | error e=>exact False.elim hq
 | ok fl=>
  cases fl with
  | ret u=>exact I.after hq
  | next=>exact False.elim hq
  | brk=>exact False.elim hq
  | cont=>exact False.elim hq
end
theorem q4k{α:Type}{f g:k7}:∀{l:bN},(∀x∈l,f x=g x)->Y3 f l=Y3 g l
 | [],_=>rfl
 | y::r,h=>by
  show W6 f y (Y3 f r)=W6 g y (Y3 g r);rw[q4k λx hx=>h x gX];have:∀{l:bN},(∀x∈l,f x=g x)->W6 f y l=W6 g y l:=λ{l} hl=>by
   induction l with
   | nil=>rfl
   | cons z r ih=>
    unfold W6;rw[h y zG,hl z zG,ih λx hx=>hl x gX]
  exact this λx hx=>h x (zH _ (qL.mem_iff.mp hx))
theorem q9v{α:Type}{f:α->V}{g:α->vB}:∀{l:bN},(∀t∈l,RelV (f t) (g t))->Y7 (l.map f) OQ
 | [],_=>.nil
 | t::r,h=>.cons (h t zG) (q9v λx hx=>h x gX)
theorem q4x:∀{xs:bu}{vs:bH}{i:Nat}{v:vB},Y7 xs vs->vs[i]?=some v->∃x,xs[i]?=some x/\RelV x v
 | _,_,i,v,.nil,h=>by simp at h
 | _,_,0,v,.cons r _,h=>by simp at h;subst h;exact Pb
 | _,_,i+1,v,.cons _ r,h=>by
  obtain⟨x,a,b⟩:=q4x (i:=i) r ⇑h;exact⟨x,by simpa using a,b⟩
theorem qa8:∀{vs:bH}{ns:aa}{i:Nat}{v:vB},uH vs ns->vs[i]?=some v->ns[i]?=some (t9 v)
 | _,_,i,v,.nil,h=>by simp at h
 | _,_,0,v,.cons _ _ _,h=>by simp at h;subst h;rfl
 | _,_,i+1,v,.cons _ _ r,h=>by
  have:=qa8 (i:=i) r ⇑h;simpa using this
theorem qaP{xs:bu}{vs ks:bH}{ds:aO}{kf:Ta}(rv:Od)(hd:HM)(hk:uH ks (ds.map kf)):Y7 ((Y3 (λz:D×V=>kf z.1) lN).map (·.2)) ((Y3 (λp:vB×vB=>t9 p.1) (ks.zip vs)).map (·.2)):=by
 have l1:=rv.length;have l2:=hk.length;rw[zB]at l2
 let L:=(ds.zip xs).zip (ks.zip vs)
 have e1:ds.zip xs=L.map Prod.fst:=by
  rw[wQ];rw[yo,yo];omega
 have e2:ks.zip vs=L.map Prod.snd:=by
  rw[List.map_snd_zip];rw[yo,yo];omega
 have mem:∀t∈L,kf t.1.1=t9 t.2.1/\RelV t.1.2 t.2.2:=λt ht=>by
  obtain⟨i,hi⟩:=xA.mp ht;obtain⟨a1,a2⟩:=yz.mp hi;obtain⟨b1,b2⟩:=yz.mp a1;obtain⟨c1,c2⟩:=yz.mp a2;obtain⟨x,g1,g2⟩:=q4x rv c2;rw[b2]at g1;cases g1;have g3:=qa8 hk c1;rw[zZ,b1]at g3;exact⟨zy g3,g2⟩
 rw[e1,e2,q2z,q2z,zj,zj,q4k λt ht=>(mem t ht).1];exact q9v λt ht=>(mem t TK).2
section
variable{X:Cx}{pins:List (vF×Obj)}{σ:L2.St}{G H:Hp}{s:vH}{a kS:vF}{xs:List V}{vs:List vB}{ds:List D}{kf:D->Int}
noncomputable def apart(pins:ay)(a kS:vF)(e1:Nat)(ks:fw)(e:Nat):List Am:=pins++[(kS,Es),(a,v4 "list" #[] e1)]
theorem q6q(I:ge):s.heap.get? kS=some Es/\H kS=none:=by
 have:=I.pin (kS,Es) (zF _ OG);exact r9
theorem q7S(I:ge):s.heap.get? a=some (v4 "list" #[] e1)/\H a=none:=by
 have:=I.pin (a,v4 "list" #[] e1) OH;exact r9
theorem q8G(I:ge):Inv X pins σ H s:=I.unpinned
theorem qat{e1 e:Nat}{ks:fw}(I:aj)(fk:GN)(fa:mR)(hk:s.heap.get? kS=some Es)(ha:s.heap.get? a=some (v4 "list" #[] e1)):Inv X BM σ H s :=
 I.pins_of λp hp=>by
  rcases zL.mp hp with z|z
  ·exact I.pin p (zF _ z)
  ·rcases zK.mp z with rfl|z
   ·exact⟨hk,fk.1,fk.2.1,fk.2.2.1,λv h=>by cases h⟩
   ·cases zR.mp z
    exact⟨ha,fa.1,fa.2.1,fa.2.2.1,λv h=>by cases h⟩
theorem q4A{h:vf}{b:vF}{ys:fw}{n:Nat}(q:h.get? b=some (v4 "list" ys n))(f:aaA):∃n',(h.update b M3).get? b=some (v4 "list" (f ys) n'):=⟨_,get?_update_seq q f⟩
theorem q0b{H':Hp}{b:vF}(h:WA X pins H b)(n:H' b=none):WA X pins H' b:=⟨n,h.2⟩
theorem q9F{st:ux}{ks:fw}{e e1:Nat}{P:A7}{E:aS}{A:ve}(I:ge)(ne:kS≠a)(fk:GN)(fa:mR)(rv:Od)(hd:HM)(hk:Po)(h64:JY)(ho:(vW st).toList=Y3 (λp:ur=>t9 p.1) T8)(hf:failedOf st=none)(h:∀s',Inv X pins σ (upd H a (.lst ((Y3 (λz:D×V=>kf z.1) lN).map (·.2)))) s'->P Ag s'):
  vL ai A (ksk_tail a false e1 abE st) P E s:=by
 obtain⟨qk,hk0⟩:=q6q I;obtain⟨qa,ha0⟩:=q7S I;have I0:=q8G I;have lk:ks.toList.length=vs.length:=by have:=hk.length;have:=rv.length;rw[zB]at *;omega
 have lo:((vW st).map (·.2)).size=vs.length:=by
  rw[Array.size_map,<- zW,ho,q8t,yo];omega
 have qa1:(s.heap.update kS (Obj.mapSeq λ_=>(#[]:Array vB))).get? a=some (v4 "list" #[] e1):=(zh _ _ ne).trans qa;obtain⟨c2,qa2⟩:=q4A qa1 (λ_=>(vW st).map (·.2));have sv:=qaP rv hd hk;have el:((vW st).map (·.2)).toList=(Y3 (λp:vB×vB=>t9 p.1) T8).map (·.2):=by rw[Array.toList_map,ho]
 unfold ksk_tail
 try dsimp only
 refine vA (tK qk rfl (vA (uj (vA (seqEpoch_at qa1 rfl ?_)))) (by rw[<- zW,lk,vh];omega) Bv);refine vA (tK qa1 rfl ?_ Bv (by show ((vW st).map (·.2)).size<=_;rw[lo,vh];omega));rw[hf];simp only[bne_self_eq_false,yF,if_false];refine vJ (h _ ?_);have I1:=I0.turned (h':=s.heap.update kS (Obj.mapSeq λ_=>(#[]:Array vB))) (t':=s.toks) (it:=kS) kj fk.1 fk.2.1 fk.2.2.2.1 fk.2.2.2.2.1 fk.2.2.2.2.2;refine qfi (s:={ s with heap:=s.heap.update kS (Obj.mapSeq λ_=>(#[]:Array vB)) }) (its:=((vW st).map (·.2)).toList) (n:=c2) (t':=s.toks) I1 fa kj ?_ (by rw[el];exact sv) ?_
 ·rw[xS];exact qa2
 ·rw[sv.length,<- el,zW,lo,vh];omega
theorem qiH{ks:fw}{e e1:Nat}{P:A7}{E:aS}{A:ve}(I:ge)(ne:kS≠a)(fk:GN)(fa:mR)(rv:Od)(hd:HM)(hk:Po)(h64:JY)(h:∀s',Inv X pins σ (upd H a (.lst ((Y3 (λz:D×V=>kf z.1) lN).map (·.2)))) s'->P Ag s'):
  vL ai A (ksk_end a false vs.toArray e1 abE ks) P E s:=by
 have lk:ks.size=vs.length:=by rw[<- zW];have:=hk.length;have:=rv.length;rw[zB]at *;omega
 have lz:(ks.zip vs.toArray).size=vs.length:=by rw[Array.size_zip,lk,zP,Nat.min_self]
 have ez:(ks.zip vs.toArray).toList=ks.toList.zip vs:=ksk_zip ks vs;unfold ksk_end
 try dsimp only
 rw[vG (by decide)]
 by_cases h2:vs.toArray.size<2
 ·rw[vC h2,vC h2]
  refine vA fP;rw[StateT.run_pure];refine vA (vJ (q9F (st:=SortSt.mk' general' Gr #[] 7 none) I ne fk fa rv hd hk h64 ?_ rfl h));show (ks.zip vs.toArray).toList=_;rw[ez];rw[zP]at h2;have l2:(ks.toList.zip vs).length<2:=by rw[yo];omega
  match ks.toList.zip vs,l2 with
  | [],_=>rfl
  | [_],_=>rfl
  | _::_::_,l2=>simp at l2;omega
 ·rw[vG h2,vG h2]
  rw[zP]at h2;rw[ksk_kind hk (by rw[lk];omega)];refine vA (vJ (vA (vo (qaU (a₀:=ks.zip vs.toArray) (st:=SortSt.mk' oneType' Gr #[] 7 none)
   (Q:=λ_ st'=>(vW st').Perm Gr/\failedOf st'=none/\ut eV (ks.zip vs.toArray).size/\zAS (vW st').toList (ks.zip vs.toArray).toList)
   (ksk_intKeys hk) ⟨Array.Perm.refl _,rfl,rfl,rfl⟩ rfl (by rw[lz];omega) (by rw[lz];exact h64) λst' b1 b2 b3 b4=>⟨b1,b2,b3,b4⟩) ?_ λ_ _ z=>z)))
  rintro⟨⟨⟩,st'⟩ s' ⟨rfl,b1,b2,b3,b4⟩
  try dsimp only
  refine q9F I ne fk fa rv hd hk h64 ?_ b2 h;rw[qj3 b1 b3 b4,ez]
theorem qg1{k:Nat}{f:vF}{fd:vN}{ps:dI}{m:bL}{e1:Nat}{P:A7}{E:aS}(F:cP)(hr:GP)(hb:je)(I:Inv X (apart pins a kS e1 #[] 0) σ H s)(ne:kS≠a)(fk:GN)(fa:mR)(sg:As)(rp:BQ)(rv:Od)(h64:JY)(hm:∀d∈ds,m [d]=↥Cu)(h:∀G' H' s',Ext G H G' H'->H' a=none->Inv X pins σ (upd H' a (.lst ((Y3 (λz:D×V=>kf z.1) lN).map (·.2)))) s'->P Ag s'):
  vL ai X.A.in1.in1 (ksk_rest a fh false vs.toArray e1 abE) P E s:=by
 have ld:ds.length=xs.length:=rp.len;have lv:xs.length=vs.length:=rv.length;unfold ksk_rest;refine vA U5;rw[List.forIn_toArray];refine vA (ksk_fold (λi s'=>∃G' H' ks e,Inv X BM σ H' s'/\Ext G H G' H'/\uH ks.toList ((ds.map kf).take i)) vs 0 s
  ⟨G,H,#[],0,I,Ext.refl sg,by simpa using IntsAre.nil⟩ ?turn ?done)
 case turn=>
  rintro j x s' hx ⟨G',H',ks,e,I',x',hk⟩;simp only[wG]at hk ⊢;have hj:j<vs.length:=(ze.mp hx).1;obtain⟨y,hy,ry⟩:=q4x rv hx;have hdj:ds[j]?=some ds[j]:=zD ∅;obtain⟨y',hy',rd⟩:=rp.get hdj;rw[hy]at hy';cases hy';have lks:ks.size<=vs.length:=by
   have:=hk.length;rw[zW,zr]at this;omega
  refine vA (uZ (vo (qit (Q:=λv H2=>v=.int (kf ds[j])/\∃G2,Ext G H G2 H2) (E:=λ_ _ _=>False) (E':=λ_ _=>False) F hr hb I' (.cons ry .nil) ?_) K0 λ_ _ z=>False.elim z))
  ·exact⟨G',[ds[j]],_,Px,rfl,x'.gh,Y2.cons (rd.mono x'.gg) Y2.nil,λv G2 H2 x2 y2=>⟨y2,G2,x'.trans x2⟩⟩
  ·obtain⟨v,H2,I2,rvu,rfl,G2,x2⟩:=he
   obtain⟨t2,rfl⟩:∃t,u=.int (kf ds[j]) t:=by
    obtain⟨t,z⟩:=rvu;exact⟨t,z⟩
   try dsimp only
   obtain⟨qk,hk0⟩:=q6q I2;obtain⟨qa,ha0⟩:=q7S I2;obtain⟨c2,qk2⟩:=q4A qk (·.push (.int (kf ds[j]) t2));have fk2:=q0b fk hk0;refine vA (tK qk rfl (vJ ⟨rfl,G2,H2,ks.push (.int (kf ds[j]) t2),c2,?_,x2,?_⟩) (by rw[vh];omega) (by rw[ZV,vh];omega))
   ·have I3:=(q8G I2).turned (h':=s2.heap.update kS (Obj.mapSeq (·.push (.int (kf ds[j]) t2)))) (t':=s2.toks) (it:=kS) kj fk2.1 fk2.2.1 fk2.2.2.2.1 fk2.2.2.2.2.1 fk2.2.2.2.2.2
    exact qat I3 fk2 Ps qk2 ((zh _ _ ne).trans qa)
   ·have ek:(ds.map kf).take (j+1)=(ds.map kf).take j++[kf ds[j]]:=by
     rw[YF,zZ,hdj];rfl
    have ea:(ks.push (Value.int (kf ds[j]) t2)).toList=ks.toList++[Value.int (kf ds[j]) t2]:=by simp
    rw[ea,ek];exact ksk_snoc hk
 case done=>
  rintro s' ⟨G',H',ks,e,I',x',hk⟩;rw[wE (by rw[zB];omega)]at hk;obtain⟨qk,hk0⟩:=q6q I';obtain⟨qa,ha0⟩:=q7S I'
  try dsimp only
  exact vA (listItems_at qk rfl (qiH I' ne (q0b fk hk0) Ps rv ld hk h64 λs2 I2=>h G' H' s2 x' ha0 I2))
end
section
variable{X:Cx}{pins:List (vF×Obj)}{σ:L2.St}{G H:Hp}{s:vH}{a:vF}{xs:List V}{vs:List vB}{ds:List D}{kf:D->Int}{k:Nat}{f:vF}{fd:vN}{ps:List Str}{m:List D->Option O}
theorem qgH{n:Nat}{P:A7}{E:aS}(F:cP)(hr:GP)(hb:je)(I:aj)(fa:mR)(qa:s.heap.get? a=some Cg)(sg:As)(rp:BQ)(rv:Od)(h64:JY)(hm:∀d∈ds,m [d]=some (.sh Cu))(h:∀G' H' s',Ext G H G' H'->H' a=none->Inv X pins σ (upd H' a (.lst ((Y3 (λz:D×V=>kf z.1) lN).map (·.2)))) s'->P Ag s'):
  vL ai X.A.in1.in1 (ksk_tree a fh false) P E s:=by
 obtain⟨e1,qa1⟩:=q4A qa (λ_=>(#[]:Array vB));have la:a<s.heap.objs.size:=zU qa;have I3:=I.turned (h':=s.heap.update a (Obj.mapSeq λ_=>(#[]:Array vB))) (t':=s.toks) (it:=a) kj fa.1 fa.2.1 fa.2.2.2.1 fa.2.2.2.2.1 fa.2.2.2.2.2;have I4:=I3.kept (h':=(s.heap.update a (Obj.mapSeq λ_=>(#[]:Array vB))).push nM) (t':=s.toks) λb u q=>zJ _ q;have fk:=I4.fpOk cL (I4.hok.fresh cL);have I5:=I4.kept (h':=((s.heap.update a (Obj.mapSeq λ_=>(#[]:Array vB))).push nM).push (v4 "list" #[] 0)) (t':=s.toks) λb u q=>zJ _ q;have qa5:(((s.heap.update a (Obj.mapSeq λ_=>(#[]:Array vB))).push nM).push (v4 "list" #[] 0)).get? a=some (v4 "list" #[] e1):=zJ _ (zJ _ qa1);have hn:((s.heap.update a (Obj.mapSeq λ_=>(#[]:Array vB))).push nM).objs.size=s.heap.objs.size+1:=by rw[size_push',xW]
 have I6:=qat (e:=0) (ks:=#[]) I5 fk fa jt qa5;have z64:vs.toArray.size<=sizeLine:=by rw[zP,vh];omega
 unfold ksk_tree;refine vA (listItems_at qa rfl (vA (tK qa rfl (vA (seqEpoch_at qa1 rfl (vA (tf (vA (uy U1 Bv)) ⇑z64)))) z64 Bv)));exact qg1 F hr hb I6 (by rw[hn];exact xl (yW la)) fk fa sg rp rv h64 hm h
theorem qcK{p:vF}{Q:VK}{E:aS}(F:cP)(hr:GP)(hb:je)(I:aj)(hp:GZ)(sg:As)(rp:BQ)(h64:xs.length<64)(hm:∀d∈ds,m [d]=↥Cu)(q:∀G' H' l,Ext G H G' H'->H' l=none->H l=none->Q cU (upd H' l (.lst ((Y3 (λz:D×V=>kf z.1) lN).map (·.2))))):
  vL ai X.A (call jL N8 Ji) cT E s:=by
 obtain⟨vs,n0,rv,e0,_⟩:=I.lst hp;have lv:xs.length=vs.length:=rv.length;have z64:vs.length<=sizeLine:=by rw[vh];omega
 have hn:((s.heap.push (v4 "list" #[] 0)).update s.heap.objs.size (Obj.mapSeq (·++vs.toArray))).objs.size=s.heap.objs.size+1:=by rw[xW,size_push']
 have keep:∀b o,s.heap.get? b=some o->(((s.heap.push (v4 "list" #[] 0)).update s.heap.objs.size (Obj.mapSeq (·++vs.toArray))).push fD).get? b=some o:=λb o z=>by
  have lt:b<s.heap.objs.size:=zU z;exact zJ _ ((zh _ _ (xl lt)).trans (zJ _ z))
 have I2:=I.kept (t':=s.toks) keep;have fa:WA X pins H ng:=I.fpOk Qd Fv;have qa:(((s.heap.push (v4 "list" #[] 0)).update s.heap.objs.size (Obj.mapSeq (·++vs.toArray))).push fD).get? ng=some fD:=by
  rw[<- hn];exact zX _ rfl
 refine call_function_entry_kw sM sG sH (ksk_s1 _ _) ?_;unfold Builtin.«sorted»;apply vA (m:=checkCount "sorted" 1 1 _);apply vJ;refine vA (collect_list sd (vA (uy ?_ z64)) z64);show vL _ _ _ _ _ { s with heap:=((s.heap.push (v4 "list" #[] 0)).update s.heap.objs.size (Obj.mapSeq (·++vs.toArray))).push fD };rw[hn];refine vA (vX (wpAny_call_entry_kw slot_list_sort ⟨_,qa,rfl⟩ entry_list_sort ?go (ksk_l1 _ _)))
 case go=>
  show vL ai X.A.in1.in1 (Builtin.«list.sort» ⟨[.ref ng],Ji⟩) _ _ _;rw[ksk_t1];refine qgH F hr hb I2 fa qa sg rp rv ∅ hm λG' H' s' x' hn' I'=>da;exact vJ ⟨_,rfl,O4,_,I',rfl,q G' H' _ x' hn' fa.1⟩
theorem q9Z{K:zC}{G:Hp}:∀{l:List (D×V)},(∀t∈l,Rep K G t.1 t.2)->Y2 K G (l.map (·.1)) (l.map (·.2))
 | [],_=>rfl
 | t::r,h=>Y2.cons (h t zG) (q9Z λx hx=>h x gX)
theorem qdi{K:zC}{G:Hp}{ds:aO}{xs:bu}{kf:Ta}(h:Y2 K G ds xs):Y2 K G (Y3 kf ds) ((Y3 (λz:D×V=>kf z.1) lN).map (·.2)):=by
 have l:=h.len;have e:ds=(ds.zip xs).map Prod.fst:=by rw[wQ];omega
 have mem:∀t∈ds.zip xs,Rep K G t.1 t.2:=λt ht=>by
  obtain⟨i,hi⟩:=xA.mp ht;obtain⟨a1,a2⟩:=yz.mp hi;obtain⟨v,b1,b2⟩:=h.get a1;rw[a2]at b1;cases b1;exact b2
 have e2:Y3 kf ds=(Y3 (λz:D×V=>kf z.1) lN).map (·.1):=by
  conv=>lhs;rw[e]
  rw[q2z]
 rw[e2];exact q9Z λt ht=>mem t TK
noncomputable def Wa(m:bL)(d:D):Int:=match m [d]with
 | ↥(.int k)=>k
 | _=>0
noncomputable def keyOk(m:bL)(d:D):Bool:=match m [d]with
 | ↥(.int _)=>true
 | _=>false
theorem q9X{m:bL}{d:D}(h:keyOk m d=true):m [d]=↥(.int (Wa m d)):=by
 unfold keyOk at h;unfold Wa
 split at h
 ·rename_i k e;rw[e]
 ·cases h
noncomputable def tSortK(K:zC)(m:bL)(te:TE):TE:=λσ H Q=>te σ H λv H1=>∃p xs G ds,v=.ref p/\H1 p=some dJ/\Y8 G H1/\Y2 K G ds xs/\xs.length<64/\(∀d∈ds,keyOk m d=true) /\
 ∀G' H' l,Ext G H1 G' H'->H' l=none->H1 l=none->Q cU (upd H' l (.lst ((Y3 (λz:D×V=>Wa m z.1) lN).map (·.2))))
def askK(K:zC)(m:bL)(Q:VK):V->Hp->Prop:=λv H1=>∃p xs G ds,v=.ref p/\H1 p=some dJ/\Y8 G H1/\Y2 K G ds xs/\xs.length<64/\(∀d∈ds,keyOk m d=true) /\
 ∀G' H' l,Ext G H1 G' H'->H' l=none->H1 l=none->Q cU (upd H' l (.lst ((Y3 (λz:D×V=>Wa m z.1) lN).map (·.2))))
def one1(R:V->Hp->Prop):List V->Hp->Prop:=λus H1=>match us with
 | [v]=>R v H1
 | _=>False
theorem qbK{R:V->Hp->Prop}{us:bu}{H1:Hp}(h:one1 R us H1):∃v,us=[v]/\R v H1:=by
 unfold one1 at h
 split at h
 ·exact⟨_,rfl,h⟩
 ·exact h.elim
theorem qgu{e:vP}{te:TE}{x:Str}{p p2 p3 pos:Pos}{k0:Nat}(c:g8)(hr:AJ)(hg:Iv)(hm:nF)(hx:pj)(he:pQ)(hk:k+2<=k0)(hd:aC:=by decide)(hs:mB:=by rfl)(h1:pI:=by rfl)(h2:(vU pos fY).any (·.1)=false:=by rfl)(h3:(v5 pos iD).all (·.1.isSome)=true:=by rfl)(h4:(v5 pos iD).any (·.1.isNone)=false:=by rfl)(h5:(v5 pos iD).filterMap (·.1)=[dS]:=by rfl):
  PE X QL (tSortK X.K m te):=by
 intro pins s σ H Q I h;refine vp (q0p I hg hm q3K ?_ (by decide) (by decide));refine callWith_kw (thn (qy he qA hs pos pins s σ H (one1 (askK X.K m Q)) I h) λus s1 ⟨ws,H1,I1,r1,q1⟩=>?_) h1 h2 h3 h4;obtain⟨v,rfl,p,xs,G,ds,rfl,b1,b2,b3,b4,b5,b6⟩:=qbK q1;obtain⟨u,rfl,ru⟩:=vals1 r1;cases ru;refine thn iK λzs s2 ⟨ys,H2,I2,rz,e1,e2⟩=>?_;subst e1;subst e2;obtain⟨u,rfl,ru⟩:=vals1 rz;cases ru;rw[h5];exact qcK c.1 Ja c.2.2.2 I2 b1 b2 b3 b4 OD b6
end
noncomputable def zBk(m:bL):D->Option R
 | .lst ds=>if ds.length<64/\ds.all Gv=true then some (.fr MT)else none
 | _=>none
noncomputable def zA3(m:bL)(f:FD):FE:=λω=>(f ω).bind (zBk m)
theorem qgi{X:Cx}{k:Nat}{f:vF}{fd:vN}{ps:dI}{m:bL}{e:vP}{fe:FD}{x:Str}{p p2 p3 pos:Pos}{k0:Nat}(c:g8)(hr:AJ)(hm:nF)(he:XV X e fe)(hg:Gl X "sorted" := by exact rfl)(hx:pj:=by exact rfl)(hk:k+2<=k0:=by decide)(hd:aC:=by decide)(hs:mB:=by rfl)(h1:pI:=by rfl)(h2:(vU pos fY).any (·.1)=false:=by rfl)(h3:(v5 pos iD).all (·.1.isSome)=true:=by rfl)(h4:(v5 pos iD).any (·.1.isNone)=false:=by rfl)(h5:(v5 pos iD).filterMap (·.1)=[dS]:=by rfl):
  XE X QL (zA3 m fe):=by
 obtain⟨t,g1,g2⟩:=he;refine⟨_,qgu c hr hg hm hx g1 hk hd hs h1 h2 h3 h4 h5,Jy⟩;obtain⟨d,q,er⟩:=bnd er;refine g2 G0 H0 G ω σ H d _ o q λv G1 H1 x1 y1=>?_;cases d with
 | lst ds=>
  have er':(if ds.length<64/\ds.all Gv=true then some (R.fr MT)else none)=some r:=er
  by_cases z:ds.length<64/\ds.all Gv=true
  ·rw[fG]at er'
   cases er';obtain⟨p,vs,rfl,w1,w2⟩:=y1.lst x1.gh;refine⟨p,vs,G1,ds,rfl,w1,x1.gh,w2,by rw[<- w2.len];exact z.1,yv.mp z.2,λG2 H2 l x2 n2 n1=>?_⟩;have x3:=Ext.hide x2.gh n2 (.lst ((Y3 (λz:D×V=>Wa m z.1) (ds.zip vs)).map (·.2)));exact kk _ G2 _ Cw ⟨l,_,rfl,x1.hh.free n1,x2.gh.free n2,qg,qdi (w2.mono x2.gg)⟩
  ·rw[fm]at er';cases er'
 | _=>cases er
end Hk
namespace Hk
open PySem L2
noncomputable def skR(m:bL)(o:eY):Option R:=o.bind (zBk m)
section
variable{m:List D->Option O}{f:FD}{ω:WSt}{d:D}{i:Nat}{ks:List Int}{ds:List D}
theorem qbU:zA3 m f ω=skR m (f ω):=rfl
theorem qfk:iDk i ω=zBZ ω[i]?:=rfl
theorem qec:zBZ (some ↥DK)=some Mt:=rfl
theorem ql8(h:ds.length<64)(h':∀d∈ds,keyOk m d=true):skR m J4=some (.fr MT):=vC ⟨h,yv.mpr h'⟩
end
end Hk
namespace Hk
open PySem PySem.Spec PyProof.Rows L2
section
variable{X:Cx}{pins:List (vF×Obj)}{σ:L2.St}{G H:Hp}{s:vH}{it a p:vF}{xs:List V}{ds:List D}{kf:D->Int}{k:Nat}{f:vF}{fd:vN}{ps:List Str}{m:List D->Option O}
theorem qc4{sp:Sp}{E:XK}{Q:VK}{us:bH}{vs:bu}{E':aS}(F:Cr)(hr:Oh)(hb:je)(I:aj)(r:Ur)(h:sp vs H Q E):vL ai X.A.in1 PN cT E' s:=by
 have hl:(us++[]).length=ps.length:=by rw[zo,<- r.length];exact F.len _ _ _ _ h
 have b:=hb s us I.kIn hl;rw[zo]at b;refine sA (uV (F.run X.A.in1 X.stack s H AA us vs Q E hr.in1 I.env0.in1 b r h) λr s' hq=>?_);cases r with
 | error e=>exact False.elim hq
 | ok fl=>
  cases fl with
  | ret u=>exact I.after hq
  | next=>exact False.elim hq
  | brk=>exact False.elim hq
  | cont=>exact False.elim hq
theorem q6X{oI oS:Obj}(I:aj)(fi:WA X pins H it)(fa:mR)(hi:s.heap.get? it=some oI)(ha:s.heap.get? a=some oS)(ni:∀v,oI.data≠.cell v)(na:∀v,oS.data≠.cell v):Inv X Ci σ H s :=
 I.pins_of λp hp=>by
  rcases zL.mp hp with z|z
  ·exact I.pin p (zF _ z)
  ·rcases zK.mp z with rfl|z
   ·exact⟨hi,fi.1,fi.2.1,fi.2.2.1,ni⟩
   ·cases zR.mp z
    exact⟨ha,fa.1,fa.2.1,fa.2.2.1,na⟩
theorem q7b{oI oS:Obj}(I:Inv X Ci σ H s):s.heap.get? it=some oI/\H it=none:=by
 have:=I.pin (it,oI) (zF _ OG);exact r9
theorem q91{oI oS:Obj}(I:Inv X Ci σ H s):s.heap.get? a=some oS/\H a=none:=by
 have:=I.pin (a,oS) OH;exact r9
theorem q37{h':vf}{t':Nat}{b:vF}(I:aj)(fi:WA X pins H b)(k:∀c o,c≠b->s.heap.get? c=some o->h'.get? c=some o):Inv X pins σ H { s with heap:=h',toks:=t' } :=
 I.turned k fi.1 fi.2.1 fi.2.2.2.1 fi.2.2.2.2.1 fi.2.2.2.2.2
noncomputable def kn(kf:Ta)(ds:aO)(i:Nat):Int:=(ds[i]?.map kf).getD 0
noncomputable abbrev kbt(kf:Ta)(ds:aO):Nat->Nat->Bool:=λi j=>decide (kn kf ds i<kn kf ds j)
theorem qh5{i:Nat}(h:i<ds.length):kn kf ds i=kf ds[i]:=by unfold kn;rw[zD h];rfl
theorem qli{Z:Rk}(F:cP)(hr:Oh)(hb:je)(hh:acw)(fi:WA X pins H it)(fa:mR)(nia:it≠a)(hp:GZ)(sg:As)(rp:BQ)(hm:∀d∈ds,m [d]=↥Cu)(hZ:∀G' H' s' y u,Ext G H G' H'->Inv X pins σ H' s'->xs[uC eM Ik]?=some y->RelV y u->Z (.ok (.ret u)) s'):
  ∀(r j:Nat)(G' H':Hp)(s:vH)(y:V)(vb:vB)(tb:Tok)(c:Nat)(oI:Obj),xs.length-(j+1)=r->j+1<=xs.length->Ext G H G' H' ->
   Inv X (pins++[(it,oI),(a,v4 "list" #[vb,QH] c)]) σ H' s->(∀h:vf,h.get? it=some oI->h.IsListIter it p (j+1))->(∀v,oI.data≠.cell v)->xs[DR]?=some y->RelV y vb ->
   uU ai X.A (.builtin "min.loop" ⟨[ib,fh,dF],[]⟩) Z s:=by
 have nm:CD = "min.loop" := by decide
 have npi:p≠it:=λz=>by rw[z,fi.1]at hp;cases hp
 have ld:ds.length=xs.length:=rp.len;intro r
 induction r with
 | zero=>
  intro j G' H' s y vb tb c oI e1 e2 x I hI nI hy ry;obtain⟨qi,hi0⟩:=q7b I;obtain⟨qa,ha0⟩:=q91 I;obtain⟨vs,n0,rv,e0,_⟩:=I.lst (x.hh _ _ hp);have lv:xs.length=vs.length:=rv.length;have W:=Walks.list (prog:=X.prog) (w:=X.w) (A:=X.A.in1) hh it p npi vs.toArray;have hsz:vs.toArray.size=j+1:=by rw[zP];omega
  refine v7 PySem.F.entry_min_loop ?_;rw[lf];show vL _ X.A.in1 (seqItems? dF >>= _) _ _ s;refine vA ab5;show vL _ X.A.in1 (tryCatch Mh _ >>= _) _ _ s;refine vA (ub (W.done s _ _ ⟨by rw[hsz];exact hI _ qi,sd⟩ λh' tk' hk'=>?_));have I1:=q37 (h':=h') (t':=tk') I.unpinned (q0b fi hi0) λb o hb q=>hk' b o ⇑hb q;have qa':=hk' a _ ⇑(nia.symm) qa;show vL _ X.A.in1 (ui a (λ_=>#[]) >>= _) _ _ _;refine vA (v9 qa' rfl (vA (uj fP)));have I2:=q37 (h':=h'.update a (Obj.mapSeq λ_=>(#[]:Array vB))) (t':=tk') I1 Ps λb o hb q=>(zh _ _ fL).trans q;exact hZ G' H' _ y vb x I2 (by rw[show xs.length-1=j by omega];exact hy) ry
 | succ r ih=>
  intro j G' H' s y vb tb c oI e1 e2 x I hI nI hy ry;obtain⟨qi,hi0⟩:=q7b I;obtain⟨qa,ha0⟩:=q91 I;obtain⟨vs,n0,rv,e0,_⟩:=I.lst (x.hh _ _ hp);have lv:xs.length=vs.length:=rv.length;have hlt:j+1<xs.length:=∅
  have W:=Walks.list (prog:=X.prog) (w:=X.w) (A:=X.A.in1) hh it p npi vs.toArray;have hsz:vs.toArray.size=vs.length:=zP ..;refine v7 PySem.F.entry_min_loop ?_;rw[lf];show vL _ X.A.in1 (seqItems? dF >>= _) _ _ s;refine vA ab5;show vL _ X.A.in1 (tryCatch Mh _ >>= _) _ _ s;refine vA (ub (W.item (j+1) s _ _ (by rw[hsz,<- lv];exact hlt) ⟨hI _ qi,sd⟩ λv h' tk' hP hst' hk'=>?_));have hv:vs[j+1]?=some v:=by simpa using hP
  obtain⟨oI',hoI',hoc,hod⟩:=id hst'.1;have nI':∀v,oI'.data≠.cell v:=λv z=>by rw[hod]at z;cases z
  obtain⟨y',hy',ry'⟩:=q4x rv hv;have hdj:ds[j+1]?=some ds[j+1]:=zD ∅;obtain⟨y2,hy2,rd⟩:=rp.get hdj;rw[hy']at hy2;cases hy2;have fi':=q0b fi hi0;have fa':=q0b fa ha0;have I1:=q37 (h':=h') (t':=tk') I.unpinned fi' λb o hb q=>hk' b o ⇑hb q;have qa':=hk' a _ ⇑(nia.symm) qa;have I2:=q6X I1 fi' fa' hoI' qa' nI' (λv z=>by cases z);show vL _ X.A.in1 (tryCatch LO _ >>= _) _ _ _;refine vA (ub (vX (vo (qc4 (Q:=λv2 H2=>v2=.int (kf ds[j+1])/\∃G2,Ext G H G2 H2) (E:=λ_ _ _=>False) (E':=λ_ _=>False) F hr hb I2 aaG ?_) K0 λ_ _ z=>False.elim z)))
  ·exact⟨G',[ds[j+1]],_,Px,rfl,x.gh,Y2.cons (rd.mono x.gg) Y2.nil,λv2 G2 H2 x2 y2=>⟨y2,G2,x.trans x2⟩⟩
  ·obtain⟨v2,H2,I3,rvu,rfl,G2,x2⟩:=he
   obtain⟨t2,rfl⟩:∃t,u=.int (kf ds[j+1]) t:=by
    obtain⟨t,z⟩:=rvu;exact⟨t,z⟩
   rw[<- qh5 (kf:=kf) (show j+1<ds.length by omega)];obtain⟨qi3,hi3⟩:=q7b I3;obtain⟨qa3,ha3⟩:=q91 I3;show vL _ X.A.in1 (tryCatch (holding [v,oz] (richCompare .Lt oz QH >>= _)) _ >>= _) _ _ _;refine vA (ub (vX (vA (CmpOf.ints_lt (prog:=X.prog) (w:=X.w) (A:=X.A.in1) (P:=λi v=>∃t,v=.int (kn kf ds i) t) (kn kf ds) (λi v h=>h) (j+1) DR _ _ _ _ _ ⟨t2,rfl⟩ ⟨tb,rfl⟩ ?_))));refine vA (vX (uE ?_));refine vA (uj fP);cases hb':kbt kf ds (j+1) DR with
   | true=>
    have hb2:decide Lc=true:=hb';have ab:uC eM (j+1)=j+1:=by simp only[uC,hb',if_true]
    obtain⟨c2,qa4⟩:=q4A qa3 (λ_=>#[v,oz]);simp only[hb2,if_true];refine vA (v9 qa3 rfl (vA U4));rw[nm];have I4:=q37 (h':=s2.heap.update a (Obj.mapSeq λ_=>#[v,oz])) (t':=s2.toks) I3.unpinned IV λb o hb q=>(zh _ _ fL).trans q;have I5:=q6X I4 (q0b fi hi3) IV KU qa4 nI' (λv z=>by cases z);refine vJ ⟨mW,ih (j+1) G2 H2 _ y' v t2 c2 oI' ∅ hlt x2 (by rw[ab];exact I5) Aq nI' (by rw[ab];exact hy') ry'⟩
   | false=>
    have hb2:decide Lc=false:=hb';have ab:uC eM (j+1)=uC eM j:=by simp only[uC,hb',yF,if_false]
    simp only[hb2,yF,if_false];refine vA U4;rw[nm];exact vJ ⟨mW,ih (j+1) G2 H2 _ y vb tb c oI' ∅ hlt x2 (by rw[ab];exact I3) Aq nI' (by rw[ab];exact hy) ry⟩
theorem qkc{Q:VK}{E:aS}(F:cP)(hr:Oh)(hb:je)(hh:acw)(I:aj)(hp:GZ)(sg:As)(rp:BQ)(h0:0<xs.length)(hm:∀d∈ds,m [d]=↥Cu)(q:∀G' H' y,Ext G H G' H'->xs[uC eM Ik]?=some y->Q y H'):
  vL ai X.A (call Ko N8 Ji) cT E s:=by
 have nm:CD = "min.loop" := by decide
 obtain⟨vs,n0,rv,e0,_⟩:=I.lst hp;have lv:xs.length=vs.length:=rv.length;have ld:ds.length=xs.length:=rp.len;have hls:s.heap.IsList p vs.toArray:=sd;refine kmk_tree PySem.F.kind_min PySem.F.plain_min PySem.F.entry_min (kmk_min_key _ _) ?_;show vL _ X.A.in1 (Builtin.Builtins.bindParams "min" aar 0 ⟨[],Ji⟩ >>= _) _ _ s;refine vA (tZ (show Builtin.Builtins.bindParams "min" aar 0 ⟨[],Ji⟩=pure [some fh,none]from rfl) ?_);refine vA fP;refine vA (ua hls ?_);refine vA (uy ?_ Bv);rw[nm];generalize hA:({ cls:=.type "list_iterator", data:=.fields #[bK,.int 0 0] }:Obj)=oA;have hS:(s.heap.push oA).objs.size=s.heap.objs.size+1:=size_push' ..;have keep:∀b o,s.heap.get? b=some o->((s.heap.push oA).push (v4 "list" #[] 0)).get? b=some o:=λb o e=>zJ _ EL;have I2:=I.kept (t':=s.toks) keep;have fi:WA X pins H s.heap.objs.size:=I.fpOk cL lw;have fa:WA X pins H (s.heap.push oA).objs.size:=by rw[hS];exact I.fpOk Qd Fv
 have gI:((s.heap.push oA).push (v4 "list" #[] 0)).get? s.heap.objs.size=some oA:=zJ _ (zX _ (by rw[<- hA];rfl));have gS:((s.heap.push oA).push (v4 "list" #[] 0)).get? (s.heap.push oA).objs.size=some (v4 "list" #[] 0):=zX _ rfl;have nia:s.heap.objs.size≠(s.heap.push oA).objs.size:=by rw[hS];exact zx Qe
 have npi:p≠s.heap.objs.size:=zx (zU e0);refine vJ ⟨mW,?_⟩;have W:=Walks.list (prog:=X.prog) (w:=X.w) (A:=X.A.in1) hh s.heap.objs.size p npi vs.toArray;have hsz:vs.toArray.size=vs.length:=zP ..;generalize (s.heap.push oA).objs.size=a at *;refine v7 PySem.F.entry_min_loop ?_;rw[lf];show vL _ X.A.in1 (seqItems? dF >>= _) _ _ _;refine vA (uI gS rfl ?_);show vL _ X.A.in1 (tryCatch (uO aH) _ >>= _) _ _ _;refine vA (ub (W.item 0 _ _ _ (by rw[hsz,<- lv];exact h0) ⟨⟨_,gI,by rw[<- hA],by rw[<- hA];rfl⟩,⟨_,keep _ _ e0,rfl,n0,rfl⟩⟩ λv h' tk' hP hst' hk'=>?_));have hv:vs[0]?=some v:=by simpa using hP
 obtain⟨oI',hoI',hoc,hod⟩:=id hst'.1;have nI':∀v,oI'.data≠.cell v:=λv z=>by rw[hod]at z;cases z
 obtain⟨y',hy',ry'⟩:=q4x rv hv;have hdj:ds[0]?=some ds[0]:=zD ∅;obtain⟨y2,hy2,rd⟩:=rp.get hdj;rw[hy']at hy2;cases hy2;have I3:=q37 (h':=h') (t':=tk') I2 fi λb o hb q=>hk' b o ⇑hb q;have qa':=hk' a _ ⇑(nia.symm) gS;have I4:=q6X I3 fi fa hoI' qa' nI' (λv z=>by cases z);show vL _ X.A.in1 (tryCatch LO _ >>= _) _ _ _;refine vA (ub (vX (vo (qc4 (Q:=λv2 H2=>v2=.int (kf ds[0])/\∃G2,Ext G H G2 H2) (E:=λ_ _ _=>False) (E':=λ_ _=>False) F hr hb I4 aaG ?_) K0 λ_ _ z=>False.elim z)))
 ·exact⟨G,[ds[0]],_,Px,rfl,sg,Y2.cons rd Y2.nil,λv2 G2 H2 x2 y2=>⟨y2,G2,x2⟩⟩
 ·obtain⟨v2,H2,I5,rvu,rfl,G2,x2⟩:=he
  obtain⟨t2,rfl⟩:∃t,u=.int (kf ds[0]) t:=by
   obtain⟨t,z⟩:=rvu;exact⟨t,z⟩
  rw[<- qh5 (kf:=kf) (show 0<ds.length by omega)];obtain⟨qi3,hi3⟩:=q7b I5;obtain⟨qa3,ha3⟩:=q91 I5;obtain⟨c2,qa4⟩:=q4A qa3 (λ_=>#[v,Hf]);show vL _ X.A.in1 (ui a (λ_=>#[v,Hf]) >>= _) _ _ _;refine vA (v9 qa3 rfl ?_);rw[nm];have I6:=q37 (h':=s2.heap.update a (Obj.mapSeq λ_=>#[v,Hf])) (t':=s2.toks) I5.unpinned IV λb o hb q=>(zh _ _ fL).trans q;have I7:=q6X I6 (q0b fi hi3) IV KU qa4 nI' (λv z=>by cases z);refine vJ ⟨mW,qli F hr hb hh fi fa nia hp sg rp hm (λG' H' s' y u x' I' hy ru=>?_) _ 0 G2 H2 _ y' v t2 c2 oI' rfl h0 x2 I7 Aq nI' hy' ry'⟩;exact⟨y,H',I',ru,q G' H' y x' hy⟩
def askM(K:zC)(m:bL)(Q:VK):V->Hp->Prop:=λv H1=>∃p xs G ds,v=.ref p/\H1 p=some dJ/\Y8 G H1/\Y2 K G ds xs/\0<xs.length/\(∀d∈ds,keyOk m d=true) /\
 ∀G' H' y,Ext G H1 G' H'->xs[uC (kbt (Wa m) ds) Ik]?=some y->Q y H'
noncomputable def tMinK(K:zC)(m:bL)(te:TE):TE:=λσ H Q=>te σ H (askM K m Q)
theorem qiP{e:vP}{te:TE}{x:Str}{p p2 p3 pos:Pos}{k0:Nat}(c:g8)(hr:AJ)(hc:cI)(hg:Gl X "min")(hm:abh)(hx:pj)(he:pQ)(hk:k+1<=k0)(hd:aC:=by decide)(hs:mB:=by rfl)(h1:pI:=by rfl)(h2:(vU pos fY).any (·.1)=false:=by rfl)(h3:(v5 pos iD).all (·.1.isSome)=true:=by rfl)(h4:(v5 pos iD).any (·.1.isNone)=false:=by rfl)(h5:(v5 pos iD).filterMap (·.1)=[dS]:=by rfl):
  PE X Ig (tMinK X.K m te):=by
 intro pins s σ H Q I h;refine vp (q0p I hg hm q9D ?_ (by decide) (by decide));refine callWith_kw (thn (qy he qA hs pos pins s σ H (one1 (askM X.K m Q)) I h) λus s1 ⟨ws,H1,I1,r1,q1⟩=>?_) h1 h2 h3 h4;obtain⟨v,rfl,p,xs,G,ds,rfl,b1,b2,b3,b4,b5,b6⟩:=qbK q1;obtain⟨u,rfl,ru⟩:=vals1 r1;cases ru;refine thn iK λzs s2 ⟨ys,H2,I2,rz,e1,e2⟩=>?_;subst e1;subst e2;obtain⟨u,rfl,ru⟩:=vals1 rz;cases ru;rw[h5];exact qkc c.1 Ja c.2.2.2 gB I2 b1 b2 b3 b4 OD b6
end
noncomputable def zBv(kf:Ta)(ds:aO):Nat:=uC eM RD
noncomputable def oMinK(m:bL):D->Option R
 | .lst ds=>if ds.all Gv=true then ds[CQ]?.map R.sh else none
 | _=>none
noncomputable def zB3(m:bL)(f:FD):FE:=λω=>(f ω).bind (oMinK m)
theorem qiu{X:Cx}{k:Nat}{f:vF}{fd:vN}{ps:dI}{m:bL}{e:vP}{fe:FD}{x:Str}{p p2 p3 pos:Pos}{k0:Nat}(c:g8)(hr:AJ)(hc:cI)(hm:abh)(he:XV X e fe)(hg:Gl X "min" := by exact rfl)(hx:pj:=by exact rfl)(hk:k+1<=k0:=by decide)(hd:aC:=by decide)(hs:mB:=by rfl)(h1:pI:=by rfl)(h2:(vU pos fY).any (·.1)=false:=by rfl)(h3:(v5 pos iD).all (·.1.isSome)=true:=by rfl)(h4:(v5 pos iD).any (·.1.isNone)=false:=by rfl)(h5:(v5 pos iD).filterMap (·.1)=[dS]:=by rfl):
  XE X Ig (zB3 m fe):=by
 obtain⟨t,g1,g2⟩:=he;refine⟨_,qiP c hr hc hg hm hx g1 hk hd hs h1 h2 h3 h4 h5,Jy⟩;obtain⟨d,q,er⟩:=bnd er;refine g2 G0 H0 G ω σ H d _ o q λv G1 H1 x1 y1=>?_;cases d with
 | lst ds=>
  have er':(if ds.all Gv=true then ds[CQ]?.map R.sh else none)=some r:=er
  by_cases z:ds.all Gv=true
  ·rw[fG]at er'
   cases q2:ds[CQ]? with
   | none=>rw[q2]at er';cases er'
   | some d1=>
    rw[q2]at er';cases er';obtain⟨p,vs,rfl,w1,w2⟩:=y1.lst x1.gh;have hl:=w2.len;have h0:0<ds.length:=xx Bv (ze.mp q2).1;refine⟨p,vs,G1,ds,rfl,w1,x1.gh,w2,∅,yv.mp z,λG2 H2 y x2 hy=>?_⟩;obtain⟨y3,b1,b2⟩:=w2.get q2;rw[<- hl]at hy;rw[show vs[CQ]?=some y from hy]at b1;cases b1;exact kk _ G2 H2 dY (b2.mono x2.gg)
  ·rw[fm]at er';cases er'
 | _=>cases er
noncomputable def mkR(m:bL)(o:eY):Option R:=o.bind (oMinK m)
section
variable{m:List D->Option O}{f:FD}{ω:WSt}{ds:List D}
theorem qkM:zB3 m f ω=mkR m (f ω):=rfl
theorem ql5(h':∀d∈ds,keyOk m d=true):mkR m J4=ds[CQ]?.map R.sh:=vC (yv.mpr h')
end
end Hk
namespace Hk
open PySem L2
noncomputable def zBI:D->D->Option R
 | .lst xs,.int k=>if (0<=k/\k<=1000)/\xs.length<=1000 then some (.fr (z8 k.toNat xs).flatten)else none
 | _,_=>none
theorem Y2.rep{K:zC}{H:Hp}{ds:aO}{vs:bu}(h:BA):∀n:Nat,Y2 K H (z8 n ds).flatten (z8 n vs).flatten
 | 0=>rfl
 | n+1=>by
  rw[yT,yT,yr,yr];exact h.app (h.rep n)
theorem qiG{K:zC}:OpV K rRep zBI:=by
 intro G H x y d v u Q s e hx hy k
 match x,y,e with
 | .lst xs,.int n,e=>
  unfold zBI at e
  dsimp only at e
  by_cases z:(0<=n/\n<=1000)/\xs.length<=1000
  ·rw[fG]at e
   cases e;obtain⟨a,vs,rfl,h1,h2⟩:=hx.lst s;cases hy.int;have hz:vs.length*n.toNat<=sizeLine:=by
    rw[<- h2.len];have:=Nat.mul_le_mul z.2 (show n.toNat<=1000 by omega);rw[vh];omega
   refine⟨a,n,vs,rfl,rfl,h1,∅,∅,hz,Ai⟩;exact k _ G _ Vx ⟨p,_,rfl,hp,s.free hp,qg,h2.rep _⟩
  ·rw[fm]at e;cases e
section
variable{X:Cx}{a b:vP}{pos:Pos}{f g:FD}
theorem qk8(ha:eX)(hb:iz):XE X P7 (Yz zBI f g):=q3x qkT qiG ha hb
end
theorem qku{ds:aO}{k:Int}(h0:Tc)(h1:k<=1000)(h2:ds.length<=1000):zBI fK kY=some (.fr (z8 k.toNat ds).flatten):=vC ⟨⟨h0,h1⟩,h2⟩
def rIdx:V->List V->Hp->VK->Prop:=λx vs H Q=>∃(l:vF) (ns:aa) (k:Int) (j:Nat),x=.ref l/\vs=[kY]/\H l=some Dq/\zBT k ns=some j/\Q Js H
theorem qfM{X:Cx}:MtM X "list.index" rIdx:=by
 intro pins s σ H x vs v us Q I rx rv h;obtain⟨l,ns,k,j,rfl,rfl,hH,hj,q⟩:=h;cases rx;obtain⟨u,rfl,ru⟩:=rv.one;obtain⟨t,rfl⟩:=ru;obtain⟨z,its,n,r,hl,e⟩:=I.lstM hH;obtain⟨e1,e2⟩:=qct (k:=k) r;rw[hj]at e2;obtain⟨a,b,c⟩:=PySem.W.kf_at_spec e2;refine uf F.slot_list_index gk F.entry_list_index (F.args_list_index_2 _ _)
  (MeetsSeq.list_index l its.toArray n (.int k t) (PyProof.Rows.isInt k) (λy hy=>PySem.W.kf_eq e1 y ⇑hy) j ⇑a (by have:=Wg;omega) ⇑b (λi hi hlt=>(by simpa using c i ⇑hi hlt))) ID
 exact⟨Js,H,jR,cf,q⟩
noncomputable def idxD:D->D->Option R
 | .lst ds,.int k=>(intsOf ds).bind λns=>(zBT k ns).map λ(j:Nat)=>.sh Js
 | _,_=>none
noncomputable def fIdx(f g:FD):FE:=λω=>(f ω).bind λd=>(g ω).bind λc=>idxD d c
section
variable{X:Cx}{o e:vP}{apos cpos:Pos}{f g:FD}
theorem qfT(ho:XV X o f)(he:XD X e g)(hbase:uB o "index" X.env kr=eval o X.env:=by rfl)(hfew:((vU cpos fY).all (λx=>!x.1)&&(v5 cpos kP).all iC
   && decide (([e]:List vP).length+([]:List uF).length+(if ([]:List uF).isEmpty then 0 else 1)<30))=true:=by rfl)
  (hline:ff=true:=by rfl) (hs:vK [e] X.env=bV::vK [] X.env:=by rfl) (hplain:(vU cpos bQ).any (·.1)=false:=by rfl) :
  XE X (.Call (.Attribute o "index" apos) [e] [] cpos) (fIdx f g):=by
 obtain⟨t,h1,h2⟩:=ho;obtain⟨u,h3,h4⟩:=he;refine⟨_,q2o PySem.F.plainAttrs_list PySem.F.slot_list_index PySem.F.type_list_index qfM h1 (qy h3 qA hs) hbase hfew hline hs hplain,Jx⟩;obtain⟨d,q1,e⟩:=bnd e;obtain⟨c,q2,e⟩:=bnd e;obtain⟨ds,k,rfl,rfl,e⟩:∃ds k,d=.lst ds/\c=.int k/\((intsOf ds).bind λns=>(zBT k ns).map λ(j:Nat)=>R.sh Js)=some r:=by
  cases d with
  | lst ds=>
   cases c with
   | int k=>exact⟨ds,k,rfl,rfl,e⟩
   | _=>cases e
  | _=>cases e
 obtain⟨ns,q3,e⟩:=bnd e;obtain⟨j,q4,e⟩:=mpd e;subst e;have hds:=q1b q3;subst hds;refine h2 G0 H0 G ω σ H _ _ ow q1 λv G1 H1 x1 y1=>?_;obtain⟨p,vs,rfl,g1,g2⟩:=y1.lst x1.gh;have hv:=g2.of_ints;subst hv;refine⟨.inl ⟨rfl,_,SqL.of g1⟩,h4 G0 H0 G1 ω σ H1 _ _ Pu q2 λw G2 H2 x2 y2=>?_⟩;cases (show w=.int k from y2);exact⟨p,ns,k,j,rfl,rfl,x2.hh _ _ g1,q4,kk _ G2 H2 dY rfl⟩
end
end Hk
set_option maxHeartbeats 4000000
namespace Kx
open PySem L2 Hk
noncomputable def top(i:Nat):vn:=PySem.Challenge.pw_hookrail_k67_whole_no_ring_tour_is_short.main.body.getD i (.Pass ⟨0,0,0,0⟩)
section
variable{P:vQ}{w:vY}{K:zC}{mg:Str->Option vB}{base:vf}{f:vF}{fd:vN}
noncomputable def q7q:FS:=(XU (eOf (W8 (dOf (zAM .int aE)) (vNot (dOf (zAM .bl aE))))))
noncomputable def qH:List D->Option O:=mir 1 q7q
noncomputable abbrev q4Y:vn:=top 6
theorem qcT:FnScope mZ mZ (Yu q4Y):=ac
variable(z9:mg "isinstance" = none)
variable(z10:mg "bool" = none)
variable(z11:mg "int" = none)
variable(z12:IsT K .int)
variable(z13:IsT K .bl)
include z9 z10 z11 z12 z13 in
theorem qaO(F:Fun K "is_whole" "is_whole" q4Y f fd):FnOk P w K mg base CX0 1 f fd mZ (spD K 1 qH):=by
 have h:=fnD (P:=P) (w:=w) (mg:=mg) (base:=base) (k:=0) (body:=q7q) F qcT (λcdv A outer s H E hr=>
   (qc (qj (XD.toE (q0f (XE.toD (q0H eJ z12 rfl z9 rfl z11 qf1)) (q0T (qjI (XE.toD (q0H eJ z13 rfl z9 rfl z10 qb2)))))))))
 exact h
noncomputable def q6K:FS:=(XU (eOf (W8 (dOf Hl) (W8 (dOf (Yz fI om cn)) (W8 (dOf (Y0 qH (Yq io Y1))) N6)))))
noncomputable def q3t:List D->Option O:=mir 1 q6K
noncomputable abbrev q6y:vn:=top 7
theorem qg9:FnScope mZ mZ (Yu q6y):=ac
variable{fc14:vF}{dc14:vN}(c14:Cal P w K mg base 1 fc14 dc14 "is_whole" ["thing"] 1 qH)
variable(z15:mg "len" = none)
variable(z16:mg "tuple" = none)
variable(z17:IsT K .tup)
include z9 c14 z15 z16 z17 in
theorem qeD(F:Fun K "is_box" "is_box" q6y f fd):FnOk P w K mg base CX0 2 f fd mZ (spD K 1 q3t):=by
 have h:=fnD (P:=P) (w:=w) (mg:=mg) (base:=base) (k:=1) (body:=q6K) F qg9 (λcdv A outer s H E hr=>
   (qc (qj (XD.toE (q0f (XE.toD rj) (q0f (XE.toD (zAj hr.units lC af)) (q0f kU (q0T kU))))))))
 exact h
noncomputable def q5r:FD:=(dOf (Y0 q3t gM))
noncomputable def q49:FS:=(Y5 (sIf (zAD Ut (zAD (Xh (WM (vOf (Y0 qH MO)))) (Xh (WM (vOf (zAM .lst bY)))))) bE WO)
  (XU (Xi zAy (Yq (vOf (XY 1 [] Vs jN XQ q5r)) Y1))))
noncomputable def q0X:List D->Option O:=mir 3 q49
noncomputable abbrev q3U:vn:=top 8
theorem qaz:FnScope fu fu (Yu q3U):=ac
variable{fc18:vF}{dc18:vN}(c18:Cal P w K mg base 2 fc18 dc18 "is_box" ["thing"] 1 q3t)
variable(z19:mg "list" = none)
variable(z20:mg "all" = none)
variable(z21:IsT K .lst)
include z9 c14 c18 z19 z20 z21 in
theorem q9I(F:Fun K "is_errand" "is_errand" q3U f fd):FnOk P w K mg base CX0 3 f fd fu (spD K 3 q0X):=by
 have h:=fnD (P:=P) (w:=w) (mg:=mg) (base:=base) (k:=2) (body:=q49) F qaz (λcdv A outer s H E hr=>
   (qb (qM (XW.toT (q18 Qo (q18 (qW (qF (XE.toV abZ))) (q1J (qW (qF (XE.toV (q0H pC z21 rfl z9 rfl z19 q0v)))))))) cv qz)
   (qc (qj (qx Go q4y rfl z20 q4n (qm (XE.toV (qR rfl (blk Ob [] [] rfl ⋯ ⋯ rfl trivial) (qr iO) j5 (λ_ _ _ _=>⟨(qh (i:=0) (show (oM++dw:List Str).Nodup from by decide +kernel) rfl aF),qD,(XE.toD (xc c18 hr gO))⟩))) qp))))))
 exact h
noncomputable def q2d:FS:=(sIf (Xh (WM (vOf (Y0 q0X nv)))) sNo WO)
noncomputable def q0l:List D->Option O:=mir 3 q2d
noncomputable abbrev q2g:vn:=top 9
theorem q7G:FnScope fu fu (Yu q2g):=ac
variable{fc22:vF}{dc22:vN}(c22:Cal P w K mg base 3 fc22 dc22 "is_errand" ["home", "last", "boxes"] 3 q0X)
include c22 in
theorem q7g(F:Fun K "check_errand" "check_errand" q2g f fd):FnOk P w K mg base CX0 4 f fd fu (spD K 3 q0l):=by
 have h:=fnD (P:=P) (w:=w) (mg:=mg) (base:=base) (k:=3) (body:=q2d) F q7G (λcdv A outer s H E hr=>
   (qc (qM (qW (qF (XE.toV (xc c22 hr ny)))) Rm qz)))
 exact h
noncomputable def q6G:FS:=(sExt 3 de)
noncomputable def q7T:FS:=(Y5 UZ
  (Y5 (XZ 3 (Wh fT))
  (Y5 (Ww Vs Qt q6G)
  (XU (W1 du)))))
noncomputable def q4r:List D->Option O:=mir 5 q7T
noncomputable abbrev q7r:vn:=top 10
theorem q7s:FnScope ["home", "last", "boxes", "places", "box"] fu (Yu q7r):=ac
variable{fc23:vF}{dc23:vN}(c23:Cal P w K mg base 4 fc23 dc23 "check_errand" ["home", "last", "boxes"] 3 q0l)
variable(z24:mg "sorted" = none)
variable(z25:mg "set" = none)
include c23 z24 z25 in
theorem qfH(F:Fun K "stops" "stops" q7r f fd):FnOk P w K mg base CX0 5 f fd fu (spD K 3 q4r):=by
 have h:=fnD (P:=P) (w:=w) (mg:=mg) (base:=base) (k:=4) (body:=q7T) F q7s (λcdv A outer s H E hr=>
   (qb Ro
   (qb (qq (i:=3) q7s.nd rfl (Or.inl rfl) (XX fU))
   (qb (q05 PassesOwn.never rfl (qr iO) (qh (i:=4) q7s.nd rfl aF) (qc (q9q nN lF)))
   (qc (qj (qd6 rfl z24 rfl z25 oE)))))))
 exact h
noncomputable def q5J:FS:=sNb
noncomputable def q1T:List D->Option O:=mir 5 q5J
noncomputable abbrev q3o:vn:=top 12
theorem q5f:FnScope ["things", "ties", "beside", "thing", "tie"] BO (Yu q3o):=ac
theorem q8Q(F:Fun K "neighbours" "neighbours" q3o f fd):FnOk P w K mg base CX0 1 f fd BO (spD K 2 q1T):=by
 have h:=fnD (P:=P) (w:=w) (mg:=mg) (base:=base) (k:=0) (body:=q5J) F q5f (λcdv A outer s H E hr=>
   (qjw hr.units PassesOwn.never rfl q5f.nd rfl rfl rfl (by first|exact Or.inl rfl|exact Or.inr rfl) (by first|exact Or.inl rfl|exact Or.inr rfl) (by first|exact Or.inl rfl|exact Or.inr rfl) (by first|exact .inl rfl|exact .inr rfl) (by first|exact .inl rfl|exact .inr rfl) (by first|exact .inl rfl|exact .inr rfl) Nj Qr AQ AQ AQ nN AQ AF AF AF AF (λω e h=>qjH h) (λω e h=>qjL h)))
 exact h
noncomputable def q43:FS:=(sIf (zAw true 2 ji) (Y5 (zAf 2 ji Vl)
  (zBN 3 ji)) WO)
noncomputable def q2r:FT:=(WM du)
noncomputable def q4i:FS:=(Y5 (zAK 4 (zBf 3))
  (Ww (Xx (dOf (zAL 1 de))) Ue q43))
noncomputable def q51:FS:=(Y5 (zAt 2 au Vl)
  (Y5 (XZ 3 (Wh gM))
  (Y5 (sWh 1000000 q2r q4i)
  (XU (zAr 2)))))
noncomputable def q1P:List D->Option O:=mir 6 q51
noncomputable abbrev q4S:vn:=top 13
theorem q1U:FnScope ["thing", "beside", "found", "waiting", "here", "other"] Vr (Yu q4S):=ac
include z24 in
theorem qay(F:Fun K "group_of" "group_of" q4S f fd):FnOk P w K mg base CX0 1 f fd Vr (spD K 2 q1P):=by
 have h:=fnD (P:=P) (w:=w) (mg:=mg) (base:=base) (k:=0) (body:=q51) F q1U (λcdv A outer s H E hr=>
   (qb (qfU (i:=2) q1U.nd rfl (Or.inl rfl) cO Xw)
   (qb (qq (i:=3) q1U.nd rfl (Or.inl rfl) (XX gO))
   (qb (qgg PassesOwn.never (qF oE) (qb (qbx (i:=4) q1U.nd rfl (Or.inl rfl) (qid nN))
   (qc (q05 PassesOwn.never rfl (qr (XE.toD (q4z hr.units Qr lF))) (qh (i:=5) q1U.nd rfl aF) (qc (qM (q8C hr.units CU AQ) (qb (q5U hr.units AQ CU Xw)
   (qc (q2t nN CU))) qz))))))
   (qc (qj (qgD rfl rfl z24 AQ)))))))
 exact h
noncomputable def q5j:FS:=(zAf 3 Jf Vl)
noncomputable def q5p:FS:=(sIf (zAw true 3 ji) (Y5 (XZ 6 (eOf (dOf (Y0 q1P (Yq ji Bx)))))
  (Y5 (zBN 4 pX)
  (Ww (Xx pX) (gN 7) q5j))) WO)
noncomputable def q6O:FS:=(Y5 (XZ 2 (eOf (dOf (Y0 q1T fT))))
  (Y5 (zBJ 3)
  (Y5 abf
  (Y5 (Ww (Xx (dOf (Wp aE))) Ue q5p)
  (Wk 4)))))
noncomputable def q2l:List D->Option O:=mir 8 q6O
noncomputable abbrev q6P:vn:=top 14
theorem q1z:FnScope ["things", "ties", "beside", "grouped", "told", "thing", "group", "member"] BO (Yu q6P):=ac
variable{fc26:vF}{dc26:vN}(c26:Cal P w K mg base 1 fc26 dc26 "neighbours" ["things", "ties"] 2 q1T)
variable{fc27:vF}{dc27:vN}(c27:Cal P w K mg base 1 fc27 dc27 "group_of" ["thing", "beside"] 2 q1P)
include z24 c26 c27 in
theorem qdZ(F:Fun K "groups" "groups" q6P f fd):FnOk P w K mg base CX0 2 f fd BO (spD K 2 q2l):=by
 have h:=fnD (P:=P) (w:=w) (mg:=mg) (base:=base) (k:=1) (body:=q6O) F q1z (λcdv A outer s H E hr=>
   (qb (qq (i:=2) q1z.nd rfl (Or.inl rfl) (XD.toE (XE.toD (xc c26 hr fU))))
   (qb (q7O (i:=3) q1z.nd rfl aF)
   (qb (qq (i:=4) q1z.nd rfl (Or.inl rfl) GG)
   (qb (q05 PassesOwn.never rfl (qr (XE.toD (q64 rfl z24 eJ))) (qh (i:=5) q1z.nd rfl aF) (qc (qM (q8C hr.units CU nN) (qb (qq (i:=6) q1z.nd rfl (Or.inl rfl) (XD.toE (XE.toD (xc c27 hr (Yp CU Eb)))))
   (qb (q2t Qq Nh)
   (qc (q05 PassesOwn.never rfl (qr Nh) (qh (i:=7) q1z.nd rfl aF) (qc (q5U hr.units nN (vD 7) Xw)))))) qz)))
   IT)))))
 exact h
noncomputable def qeu:FS:=(XU Bk)
noncomputable def q1q:List D->Option O:=mir 1 qeu
noncomputable abbrev qaw:vn:=top 16
theorem qkU:FnScope nY nY (Yu qaw):=ac
theorem qi8(F:Fun K "cost" "cost" qaw f fd):FnOk P w K mg base CX0 1 f fd nY (spD K 1 q1q):=by
 have h:=fnD (P:=P) (w:=w) (mg:=mg) (base:=base) (k:=0) (body:=qeu) F qkU (λcdv A outer s H E hr=>
   (qc (qj ML)))
 exact h
noncomputable def q1B:FS:=(zAf 1 de bh)
noncomputable def q1A:FS:=(Ww GE Qt q1B)
noncomputable def q20:FS:=(Y5 (zBJ 1)
  (Y5 (Ww (iEn gM) (gT 2 MS) q1A)
  (Xo 1 (XU a8))))
noncomputable def q0e:List D->Option O:=mir 5 q20
noncomputable abbrev q1M:vn:=top 17
theorem q0B:FnScope ["parts", "numbers", "number", "part", "thing"] ["parts"] (Yu q1M):=ac
variable(z28:mg "enumerate" = none)
include z28 in
theorem q6N(F:Fun K "group_numbers" "group_numbers" q1M f fd):FnOk P w K mg base CX0 1 f fd ["parts"] (spD K 1 q0e):=by
 have h:=fnD (P:=P) (w:=w) (mg:=mg) (base:=base) (k:=0) (body:=q20) F q0B (λcdv A outer s H E hr=>
   (qb (q7O (i:=1) q0B.nd rfl aF)
   (qb (q05 PassesOwn.never rfl (qc3 rfl z28 gO) (q2C rfl (qG (qh (i:=2) q0B.nd rfl aF) (qG (qh (i:=3) q0B.nd rfl aF) q1C))) (qc (q05 PassesOwn.never rfl (qr jM) (qh (i:=4) q0B.nd rfl aF) (qc (q5U hr.units Qr lF iO)))))
   (q09 1 (qc (qj (vE 1)))))))
 exact h
noncomputable def q1c:FS:=(zAf 3 de (dOf (zCF (tOf (Yz fI (vOf (zAL 0 de)) bY)) a8 (zAL 0 de))))
noncomputable def q1l:FS:=(Y5 (zBJ 3)
  (Y5 (Ww (iDk 0) Qt q1c)
  (Xo 3 (XU (Ys 3)))))
noncomputable def q0h:List D->Option O:=mir 5 q1l
noncomputable abbrev q1o:vn:=top 18
theorem q1n:FnScope ["numbers", "one", "other", "joined", "thing"] No (Yu q1o):=ac
theorem q5z(F:Fun K "with_two_joined" "with_two_joined" q1o f fd):FnOk P w K mg base CX0 1 f fd No (spD K 3 q0h):=by
 have h:=fnD (P:=P) (w:=w) (mg:=mg) (base:=base) (k:=0) (body:=q1l) F q1n (λcdv A outer s H E hr=>
   (qb (q7O (i:=3) q1n.nd rfl aF)
   (qb (q05 PassesOwn.never rfl (qi6 Nj) (qh (i:=4) q1n.nd rfl aF) (qc (q5U hr.units nN lF (XE.toD (q7d (Wo hr.units (XE.toV Rp) pC) (vE 1) Rp)))))
   (q09 3 (qc (qj (vE 3)))))))
 exact h
noncomputable def q5l:FS:=(Y5 (XZ 6 (eOf (dOf (zAL 3 (dOf (Yz oIx fj aW))))))
  (Y5 (XZ 7 (eOf (dOf (zAL 3 (dOf (Yz oIx fj aq))))))
  (sIf (tOf (Yz jE gz (vOf (Ys 7)))) (Y5 (zBN 4 ji)
  (XZ 3 (eOf (dOf (Y0 q0h (Yq bA (Yq pX (Yq Jf Y1)))))))) WO)))
noncomputable def q6L:FS:=(Y5 (XZ 3 (eOf (dOf (Y0 q0e (Yq (dOf (Y0 q2l fT)) Y1)))))
  (Y5 abf
  (Y5 (Ww (Xx (dOf (zA3 q1q bY))) Ue q5l)
  (Wk 4))))
noncomputable def q3m:List D->Option O:=mir 8 q6L
noncomputable abbrev q6Q:vn:=top 19
theorem q1v:FnScope ["things", "knots", "edges", "numbers", "taken", "edge", "one", "other"] MG (Yu q6Q):=ac
variable{fc29:vF}{dc29:vN}(c29:Cal P w K mg base 1 fc29 dc29 "group_numbers" ["parts"] 1 q0e)
variable{fc30:vF}{dc30:vN}(c30:Cal P w K mg base 2 fc30 dc30 "groups" ["things", "ties"] 2 q2l)
variable{fc31:vF}{dc31:vN}(c31:Cal P w K mg base 1 fc31 dc31 "cost" ["edge"] 1 q1q)
variable{fc32:vF}{dc32:vN}(c32:Cal P w K mg base 1 fc32 dc32 "with_two_joined" ["numbers", "one", "other"] 3 q0h)
include z24 c29 c30 c31 c32 in
theorem qfb(F:Fun K "forest" "forest" q6Q f fd):FnOk P w K mg base CX0 4 f fd MG (spD K 3 q3m):=by
 have h:=fnD (P:=P) (w:=w) (mg:=mg) (base:=base) (k:=3) (body:=q6L) F q1v (λcdv A outer s H E hr=>
   (qb (qq (i:=3) q1v.nd rfl (Or.inl rfl) (XD.toE (XE.toD (xc c29 hr (Yp (XE.toD (xc c30 hr fU)) Yv)))))
   (qb (qq (i:=4) q1v.nd rfl (Or.inl rfl) GG)
   (qb (q05 PassesOwn.never rfl (qr (XE.toD (qgi c31 hr z24 pC))) (qh (i:=5) q1v.nd rfl aF) (qb (qq (i:=6) q1v.nd rfl (Or.inl rfl) An)
   (qb (qq (i:=7) q1v.nd rfl (Or.inl rfl) An)
   (qc (qM (WY hr.units BI (vV 7)) (qb (q2t Qq CU)
   (qc (qq (i:=3) q1v.nd rfl (Or.inl rfl) (XD.toE (XE.toD (xc c32 hr (Yp jM (Yp Nh (Yp (vD 7) Yv))))))))) qz)))))
   IT))))
 exact h
noncomputable def q6M:FS:=(XU (eOf (W8 (dOf MU) (dOf (Yz (oIn false) aE (zAQ lI))))))
noncomputable def q26:List D->Option O:=mir 1 q6M
noncomputable abbrev q6p:vn:=top 21
theorem qfY:FnScope mZ mZ (Yu q6p):=ac
include c14 in
theorem qeb(F:Fun K "is_way" "is_way" q6p f fd):FnOk P w K mg base CX0 2 f fd mZ (spD K 1 q26):=by
 have h:=fnD (P:=P) (w:=w) (mg:=mg) (base:=base) (k:=1) (body:=q6M) F qfY (λcdv A outer s H E hr=>
   (qc (qj (XD.toE (q0f (XE.toD E4) (q0T (XE.toD (xe_in eJ (XD.toV (Xu kt))))))))))
 exact h
noncomputable def q3V:FS:=(XU (eOf (W8 (dOf (Y0 qH MO)) (W8 (dOf (Yz oGe aT aW)) (dOf (Yz oLt aT aE))))))
noncomputable def qT:List D->Option O:=mir 2 q3V
noncomputable abbrev q45:vn:=top 22
theorem qaS:FnScope nu nu (Yu q45):=ac
include c14 in
theorem q9H(F:Fun K "has_place" "has_place" q45 f fd):FnOk P w K mg base CX0 2 f fd nu (spD K 2 qT):=by
 have h:=fnD (P:=P) (w:=w) (mg:=mg) (base:=base) (k:=1) (body:=q3V) F qaS (λcdv A outer s H E hr=>
   (qc (qj (XD.toE (q0f (XE.toD abZ) (q0f (XE.toD (qdo gu af)) (q0T (XE.toD (qdk gu eJ)))))))))
 exact h
noncomputable def q2V:FS:=(Y5 (sIf (zAD (Xh (WM (vOf (zAM .tup aT)))) (tOf (Yz jE oj gZ))) bE WO)
  (XU (eOf (W8 (dOf (Y0 qT (Yq au (Yq (dOf MK) Y1)))) (W8 (dOf (Y0 qT (Yq au (Yq (dOf MJ) Y1)))) (dOf (Y0 q26 (Yq (dOf (Yz oIx aT cn)) Y1))))))))
noncomputable def q0P:List D->Option O:=mir 2 q2V
noncomputable abbrev q2M:vn:=top 23
theorem q8R:FnScope nu nu (Yu q2M):=ac
variable{fc33:vF}{dc33:vN}(c33:Cal P w K mg base 2 fc33 dc33 "is_way" ["thing"] 1 q26)
variable{fc34:vF}{dc34:vN}(c34:Cal P w K mg base 2 fc34 dc34 "has_place" ["size", "thing"] 2 qT)
include z9 z15 z16 z17 c33 c34 in
theorem q7x(F:Fun K "is_ring_box" "is_ring_box" q2M f fd):FnOk P w K mg base CX0 3 f fd nu (spD K 2 q0P):=by
 have h:=fnD (P:=P) (w:=w) (mg:=mg) (base:=base) (k:=2) (body:=q2V) F q8R (λcdv A outer s H E hr=>
   (qb (qM (XW.toT (q18 (qW (qF (XE.toV (q0H gu z17 rfl z9 rfl z16 q3j)))) (q1J (WY hr.units ir af)))) cv qz)
   (qc (qj (XD.toE (q0f EX (q0f EX (q0T (XE.toD (xc c33 hr (Yp nZ Yv)))))))))))
 exact h
noncomputable def q4U:FD:=(dOf (Y0 q0P Um))
noncomputable def q5H:FS:=(Y5 (sIf (zAD Ut (zAD (Xh (WM (vOf (Y0 qT fT)))) (Xh (WM (vOf (Y0 qT (Yq au Bx))))))) bE WO)
  (XU (eOf (W8 (dOf (zAM .lst du)) (dOf (Xi zAy (Yq (vOf (XY 1 [0] GE jN XQ q4U)) Y1)))))))
noncomputable def q2F:List D->Option O:=mir 4 q5H
noncomputable abbrev q5w:vn:=top 24
theorem qeA:FnScope aA aA (Yu q5w):=ac
variable{fc35:vF}{dc35:vN}(c35:Cal P w K mg base 3 fc35 dc35 "is_ring_box" ["size", "thing"] 2 q0P)
include z9 c14 z19 z20 z21 c34 c35 in
theorem qds(F:Fun K "is_ring" "is_ring" q5w f fd):FnOk P w K mg base CX0 4 f fd aA (spD K 4 q2F):=by
 have h:=fnD (P:=P) (w:=w) (mg:=mg) (base:=base) (k:=3) (body:=q5H) F qeA (λcdv A outer s H E hr=>
   (qb (qM (XW.toT (q18 Qo (q18 (qW (qF (XE.toV (xc c34 hr fU)))) (q1J (qW (qF (XE.toV (xc c34 hr (Yp cO Eb))))))))) cv qz)
   (qc (qj (XD.toE (q0f (XE.toD JF) (q0T (XE.toD (qx Go q4y rfl z20 q4n (qm (XE.toV (qR rfl (blk Ob Oa [0] rfl ⋯ ⋯ rfl ⟨⟨rfl,(by first|exact Or.inl rfl|exact Or.inr rfl),rfl⟩,trivial⟩) JE j5 (λ_ _ _ _=>⟨(qh (i:=0) (show (oM++lc:List Str).Nodup from by decide +kernel) rfl aF),qD,(XE.toD (xc c35 hr Up))⟩))) qp))))))))))
 exact h
noncomputable def q3E:FS:=(sIf (Xh (WM (vOf (Y0 q2F br)))) sNo WO)
noncomputable def q0J:List D->Option O:=mir 4 q3E
noncomputable abbrev q3l:vn:=top 25
theorem q9e:FnScope aA aA (Yu q3l):=ac
variable{fc36:vF}{dc36:vN}(c36:Cal P w K mg base 4 fc36 dc36 "is_ring" ["size", "home", "last", "boxes"] 4 q2F)
include c36 in
theorem q8N(F:Fun K "check_ring" "check_ring" q3l f fd):FnOk P w K mg base CX0 5 f fd aA (spD K 4 q0J):=by
 have h:=fnD (P:=P) (w:=w) (mg:=mg) (base:=base) (k:=4) (body:=q3E) F q9e (λcdv A outer s H E hr=>
   (qc (qM (qW (qF (XE.toV (xc c36 hr aX)))) Rm qz)))
 exact h
noncomputable def q3M:FD:=LR
noncomputable def q2m:FS:=(XU (XY 1 [] (Xx au) jN XQ q3M))
noncomputable def q03:List D->Option O:=mir 1 q2m
noncomputable abbrev q2e:vn:=top 26
theorem q7t:FnScope BP BP (Yu q2e):=ac
theorem q7f(F:Fun K "without_ways" "without_ways" q2e f fd):FnOk P w K mg base CX0 1 f fd BP (spD K 1 q03):=by
 have h:=fnD (P:=P) (w:=w) (mg:=mg) (base:=base) (k:=0) (body:=q2m) F q7t (λcdv A outer s H E hr=>
   (qc (qj (qR rfl (blk Ob [] [] rfl ⋯ ⋯ rfl trivial) (qr cO) j5 (λ_ _ _ _=>⟨(qh (i:=0) (show (oM++dw:List Str).Nodup from by decide +kernel) rfl aF),qD,PZ⟩)))))
 exact h
noncomputable def q5W:FS:=(XU (Yz oMod (vOf (Yz zBP (vOf (Yz zA5 bY aT)) du)) aE))
noncomputable def q0t:List D->Option O:=mir 4 q5W
noncomputable abbrev q7Q:vn:=top 27
theorem qjv:FnScope rn rn (Yu q7Q):=ac
theorem qfQ(F:Fun K "steps" "steps" q7Q f fd):FnOk P w K mg base CX0 1 f fd rn (spD K 4 q0t):=by
 have h:=fnD (P:=P) (w:=w) (mg:=mg) (base:=base) (k:=0) (body:=q5W) F qjv (λcdv A outer s H E hr=>
   (qc (qj (qU (XE.toV (qas (XE.toV (q1X pC gu)) oE)) eJ))))
 exact h
noncomputable def q4h:FS:=(Y5 U0
  (Y5 (XZ 4 (eOf (dOf (Y0 q4r (Yq aG (Yq bh (Yq Vn Y1)))))))
  (XU (Xi WW (Yq dU (Yq (vOf (Yz Xz (vOf (fSl dU (pAt aq) pNo)) (vOf (fSl dU pNo (pAt aq))))) Y1))))))
noncomputable def q16:List D->Option O:=mir 5 q4h
noncomputable abbrev q4f:vn:=top 28
theorem q6g:FnScope ["size", "home", "last", "boxes", "places"] aA (Yu q4f):=ac
variable{fc37:vF}{dc37:vN}(c37:Cal P w K mg base 5 fc37 dc37 "check_ring" ["size", "home", "last", "boxes"] 4 q0J)
variable{fc38:vF}{dc38:vN}(c38:Cal P w K mg base 5 fc38 dc38 "stops" ["home", "last", "boxes"] 3 q4r)
variable{fc39:vF}{dc39:vN}(c39:Cal P w K mg base 1 fc39 dc39 "without_ways" ["boxes"] 1 q03)
variable(z40:mg "zip" = none)
include z19 c37 c38 c39 z40 in
theorem q97(F:Fun K "ring_gaps" "ring_gaps" q4f f fd):FnOk P w K mg base CX0 6 f fd aA (spD K 4 q16):=by
 have h:=fnD (P:=P) (w:=w) (mg:=mg) (base:=base) (k:=5) (body:=q4h) F q6g (λcdv A outer s H E hr=>
   (qb Rn
   (qb (qq (i:=4) q6g.nd rfl (Or.inl rfl) (XD.toE (XE.toD (xc c38 hr (Yp dN (Yp iO (Yp OU Yv)))))))
   (qc (qj (qdd rfl z19 rfl z40 (qm l7 (qm (XE.toV (qN (XE.toV (XL l7 Ec Xk)) (XE.toV (XL l7 Xk Ec)))) qp))))))))
 exact h
noncomputable def q3A:FS:=(XU (zCF (tOf (Yz fI (vOf MK) (vOf MJ))) (Ys 0) (Y0 q0t (Yq au (Yq (dOf MK) (Yq (dOf MJ) Ea))))))
noncomputable def q1g:List D->Option O:=mir 2 q3A
noncomputable abbrev q3d:vn:=top 29
theorem qae:FnScope mK mK (Yu q3d):=ac
variable{fc41:vF}{dc41:vN}(c41:Cal P w K mg base 1 fc41 dc41 "steps" ["size", "start", "goal", "way"] 4 q0t)
include c41 in
theorem q8U(F:Fun K "gap_length" "gap_length" q3d f fd):FnOk P w K mg base CX0 2 f fd mK (spD K 2 q1g):=by
 have h:=fnD (P:=P) (w:=w) (mg:=mg) (base:=base) (k:=1) (body:=q3A) F qae (λcdv A outer s H E hr=>
   (qc (qj (q7d (Wo hr.units S5 S5) (vE 0) (xc c41 hr (Yp cO (Yp nZ (Yp nZ o8))))))))
 exact h
noncomputable def q2Y:FD:=(dOf (Yz Xz aE (zAQ (Yq (dOf (Y0 q1g Um)) Y1))))
noncomputable def q3s:FS:=(XU (XY 1 [0] PX jN XQ q2Y))
noncomputable def q06:List D->Option O:=mir 4 q3s
noncomputable abbrev q3u:vn:=top 30
theorem q9J:FnScope aA aA (Yu q3u):=ac
variable{fc42:vF}{dc42:vN}(c42:Cal P w K mg base 6 fc42 dc42 "ring_gaps" ["size", "home", "last", "boxes"] 4 q16)
variable{fc43:vF}{dc43:vN}(c43:Cal P w K mg base 2 fc43 dc43 "gap_length" ["size", "gap"] 2 q1g)
include c42 c43 in
theorem q8O(F:Fun K "ring_edges" "ring_edges" q3u f fd):FnOk P w K mg base CX0 7 f fd aA (spD K 4 q06):=by
 have h:=fnD (P:=P) (w:=w) (mg:=mg) (base:=base) (k:=6) (body:=q3s) F q9J (λcdv A outer s H E hr=>
   (qc (qj (qR rfl (blk ["gap"] Oa [0] rfl ⋯ ⋯ rfl ⟨⟨rfl,(by first|exact Or.inl rfl|exact Or.inr rfl),rfl⟩,trivial⟩) K9 j5 (λ_ _ _ _=>⟨(qh (i:=0) (show (Uh++lc:List Str).Nodup from by decide +kernel) rfl aF),qD,(XE.toD (qN eJ (XD.toV (Xu (Yp (XE.toD (xc c43 hr Up)) Yv)))))⟩)))))
 exact h
noncomputable def q4b:FS:=(XU (Yz oLt (vOf (Y0 q0t (Yq au (Yq aG (Yq (dOf act) Ea))))) (vOf (Y0 q0t (Yq au (Yq aG (Yq bh Ea)))))))
noncomputable def q0G:List D->Option O:=mir 4 q4b
noncomputable abbrev q48:vn:=top 31
theorem qaD:FnScope rq rq (Yu q48):=ac
include c41 in
theorem qag(F:Fun K "goes_over" "goes_over" q48 f fd):FnOk P w K mg base CX0 2 f fd rq (spD K 4 q0G):=by
 have h:=fnD (P:=P) (w:=w) (mg:=mg) (base:=base) (k:=1) (body:=q4b) F qaD (λcdv A outer s H E hr=>
   (qc (qj (qdk (XE.toV (xc c41 hr (Yp cO (Yp dN (Yp S6 o8))))) (XE.toV (xc c41 hr (Yp cO (Yp dN (Yp iO o8)))))))))
 exact h
noncomputable def q3c:FT:=(zBD (tOf (Yz fI (vOf Bk) aq)) (WM (vOf (Y0 q0G (Yq aG (Yq io (Yq Bw Bx)))))))
noncomputable def q58:FD:=au
noncomputable def q3q:FT:=(zBD (tOf (Yz fI (vOf Bk) mw)) (WM (vOf (Y0 q0G (Yq aG (Yq Bw (Yq io Bx)))))))
noncomputable def q5b:FD:=au
noncomputable def q3X:FS:=(Y5 (XZ 5 (eOf (dOf (zCF (WM (vOf (Y0 q0G (Yq au (Yq aG (Yq bh HS)))))) (eOf aq) (eOf aW)))))
  (Y5 (XZ 6 (XY 1 [0,4] GE jN q3c q58))
  (Xo 6 (Y5 (XZ 7 (XY 1 [0,4] GE jN q3q q5b))
  (Xo 7 (XU (Yz Xz (vOf (Yz zA5 fj (vOf (Xi Ws (Yq gz Y1))))) (vOf (Xi Ws (Yq (vOf (Ys 7)) Y1))))))))))
noncomputable def q1p:List D->Option O:=mir 8 q3X
noncomputable abbrev q3W:vn:=top 32
theorem q2q:FnScope ["size", "home", "last", "boxes", "gap", "own", "rights", "lefts"] Fo (Yu q3W):=ac
variable{fc44:vF}{dc44:vN}(c44:Cal P w K mg base 2 fc44 dc44 "goes_over" ["size", "start", "goal", "gap"] 4 q0G)
include z15 c44 in
theorem q9E(F:Fun K "bare_lack" "bare_lack" q3W f fd):FnOk P w K mg base CX0 3 f fd Fo (spD K 5 q1p):=by
 have h:=fnD (P:=P) (w:=w) (mg:=mg) (base:=base) (k:=2) (body:=q3X) F q2q (λcdv A outer s H E hr=>
   (qb (qq (i:=5) q2q.nd rfl (Or.inl rfl) (XD.toE (XE.toD (q7d (qF (XE.toV (xc c44 hr (Yp cO (Yp dN (Yp iO HV)))))) KK KK))))
   (qb (q1H (i:=6) rfl q2q.nd rfl rfl (blk Ob mK [0,4] rfl ⋯ ⋯ rfl ⟨⟨rfl,(by first|exact Or.inl rfl|exact Or.inr rfl),rfl⟩,⟨⟨rfl,(by first|exact Or.inl rfl|exact Or.inr rfl),rfl⟩,trivial⟩⟩) JE j5 (λ_ _ _ _=>⟨(qh (i:=0) (show (oM++(mK:List Str):List Str).Nodup from by decide +kernel) rfl aF),(q5R (XW.toT (qfg (Wo hr.units gK af) oJ))),cO⟩))
   (q09 6 (qb (q1H (i:=7) rfl q2q.nd rfl rfl (blk Ob mK [0,4] rfl ⋯ ⋯ rfl ⟨⟨rfl,(by first|exact Or.inl rfl|exact Or.inr rfl),rfl⟩,⟨⟨rfl,(by first|exact Or.inl rfl|exact Or.inr rfl),rfl⟩,trivial⟩⟩) JE j5 (λ_ _ _ _=>⟨(qh (i:=0) (show (oM++(mK:List Str):List Str).Nodup from by decide +kernel) rfl aF),(q5R (XW.toT (qfg (Wo hr.units gK eW) oJ))),cO⟩))
   (q09 7 (qc (qj (qN (XE.toV (q1X pB (XE.toV (qx qu q0g rfl z15 q0i (qm BI qp))))) (XE.toV (qx qu q0g rfl z15 q0i (qm (vV 7) qp))))))))))))
 exact h
noncomputable def q2N:FD:=(dOf (Yz Xz aT (vOf (Y0 q1p (Yq bh (Yq bA (Yq de (Yq ji gM))))))))
noncomputable def q3e:FS:=(XU (XY 1 [4,0,1,2,3] PX jN XQ q2N))
noncomputable def q0m:List D->Option O:=mir 5 q3e
noncomputable abbrev q3a:vn:=top 33
theorem q98:FnScope gc gc (Yu q3a):=ac
variable{fc45:vF}{dc45:vN}(c45:Cal P w K mg base 3 fc45 dc45 "bare_lack" ["size", "home", "last", "boxes", "gap"] 5 q1p)
include c42 c45 in
theorem q8J(F:Fun K "ring_lacks" "ring_lacks" q3a f fd):FnOk P w K mg base CX0 7 f fd gc (spD K 5 q0m):=by
 have h:=fnD (P:=P) (w:=w) (mg:=mg) (base:=base) (k:=6) (body:=q3e) F q98 (λcdv A outer s H E hr=>
   (qc (qj (qR rfl (blk ["gap"] GD [4,0,1,2,3] rfl ⋯ ⋯ rfl ⟨⟨rfl,(by first|exact Or.inl rfl|exact Or.inr rfl),rfl⟩,⟨⟨rfl,(by first|exact Or.inl rfl|exact Or.inr rfl),rfl⟩,⟨⟨rfl,(by first|exact Or.inl rfl|exact Or.inr rfl),rfl⟩,⟨⟨rfl,(by first|exact Or.inl rfl|exact Or.inr rfl),rfl⟩,⟨⟨rfl,(by first|exact Or.inl rfl|exact Or.inr rfl),rfl⟩,trivial⟩⟩⟩⟩⟩) K9 j5 (λ_ _ _ _=>⟨(qh (i:=0) (show (Uh++(GD:List Str):List Str).Nodup from by decide +kernel) rfl aF),qD,(XE.toD (qN gu (XE.toV (xc c45 hr (Yp iO (Yp jM (Yp lF (Yp CU gO))))))))⟩)))))
 exact h
noncomputable def q2k:FT:=(tOf (Yz jE aT aW))
noncomputable def q4u:FD:=LR
noncomputable def q2b:FD:=io
noncomputable def q2W:FS:=(Y5 (XZ 5 (XY 2 [] (iZp Ul) Kd q2k q4u))
  (Xo 5 (Y5 (XZ 6 (XY 1 [] GE jN XQ q2b))
  (Xo 6 (XU (Y0 q3m (Yq pX (Yq (dOf (Yz Xz (vOf (Yz Xz (vOf (Y0 q03 Bx)) (vOf (Wh (Yq (zAQ fT) Y1))))) fj)) By))))))))
noncomputable def q0u:List D->Option O:=mir 7 q2W
noncomputable abbrev q2K:vn:=top 34
theorem q2R:FnScope ["home", "last", "boxes", "edges", "lacks", "lacking", "places"] iy (Yu q2K):=ac
variable{fc46:vF}{dc46:vN}(c46:Cal P w K mg base 4 fc46 dc46 "forest" ["things", "knots", "edges"] 3 q3m)
include c39 z40 c46 in
theorem q7v(F:Fun K "ring_forest" "ring_forest" q2K f fd):FnOk P w K mg base CX0 5 f fd iy (spD K 5 q0u):=by
 have h:=fnD (P:=P) (w:=w) (mg:=mg) (base:=base) (k:=4) (body:=q2W) F q2R (λcdv A outer s H E hr=>
   (qb (q1H (i:=5) rfl q2R.nd rfl rfl (blk Lj [] [] rfl ⋯ ⋯ rfl trivial) NV lG (λ_ _ _ _=>⟨(q2C rfl (qG (qh (i:=0) (show (mL++dw:List Str).Nodup from by decide +kernel) rfl aF) (qG (qh (i:=1) (show (mL++dw:List Str).Nodup from by decide +kernel) rfl aF) q1C))),(q5R (WY hr.units gu af)),PZ⟩))
   (q09 5 (qb (q1H (i:=6) rfl q2R.nd rfl rfl (blk nY [] [] rfl ⋯ ⋯ rfl trivial) JE j5 (λ_ _ _ _=>⟨(qh (i:=0) (show ((nY:List Str)++dw:List Str).Nodup from by decide +kernel) rfl aF),qD,bv⟩))
   (q09 6 (qc (qj (xc c46 hr (Yp Nh (Yp (XE.toD (qN (XE.toV (qN (XE.toV (xc c39 hr Eb)) (XE.toV (XX (Yp (Xu fU) Yv))))) pB)) Bz))))))))))
 exact h
noncomputable def q1K:FD:=(dOf (Yz zBP (vOf (Y0 q1q gM)) (vOf (Xi bAbs (Yq aT Y1)))))
noncomputable def q1L:FD:=(dOf (Y0 q1q gM))
noncomputable def q29:FS:=(Y5 (XZ 5 (XY 2 [] (iZp Ul) Kd XQ q1K))
  (Xo 5 (XU (Yz Xz (vOf (Xi zCI MM)) (vOf (Yz zBP cn (vOf (Xi zCI (Yq (vOf (XY 1 [] (Xx (dOf (Y0 q0u lP))) jN XQ q1L)) Y1)))))))))
noncomputable def qK:List D->Option O:=mir 6 q29
noncomputable abbrev q2n:vn:=top 35
theorem q4q:FnScope ["home", "last", "boxes", "edges", "lacks", "crossings"] iy (Yu q2n):=ac
variable{fc47:vF}{dc47:vN}(c47:Cal P w K mg base 5 fc47 dc47 "ring_forest" ["home", "last", "boxes", "edges", "lacks"] 5 q0u)
variable(z48:mg "abs" = none)
variable(z49:mg "sum" = none)
include c31 z40 c47 z48 z49 in
theorem q76(F:Fun K "empty_weight" "empty_weight" q2n f fd):FnOk P w K mg base CX0 6 f fd iy (spD K 5 qK):=by
 have h:=fnD (P:=P) (w:=w) (mg:=mg) (base:=base) (k:=5) (body:=q29) F q4q (λcdv A outer s H E hr=>
   (qb (q1H (i:=5) rfl q4q.nd rfl rfl (blk Lj [] [] rfl ⋯ ⋯ rfl trivial) NV lG (λ_ _ _ _=>⟨(q2C rfl (qG (qh (i:=0) (show (mL++dw:List Str).Nodup from by decide +kernel) rfl aF) (qG (qh (i:=1) (show (mL++dw:List Str).Nodup from by decide +kernel) rfl aF) q1C))),qD,(XE.toD (qas (XE.toV abY) (XE.toV (qx q9z qdz rfl z48 qfn (qm gu qp)))))⟩))
   (q09 5 (qc (qj (qN (XE.toV (qx OP q78 rfl z49 q79 Ml)) (XE.toV (qas af (XE.toV (qx OP q78 rfl z49 q79 (qm (XE.toV (qR rfl (blk nY [] [] rfl ⋯ ⋯ rfl trivial) (qr (XE.toD (xc c47 hr kM))) j5 (λ_ _ _ _=>⟨(qh (i:=0) (show ((nY:List Str)++dw:List Str).Nodup from by decide +kernel) rfl aF),qD,(XE.toD abY)⟩))) qp)))))))))))
 exact h
noncomputable def q3v:FD:=(dOf (Y0 q0t (Yq bA nv)))
noncomputable def q6s:FD:=(dOf (Yz Xz aE aT))
noncomputable def q4Q:FS:=(Y5 (XZ 9 (XY 1 [8] (Xx ji) jN XQ q6s))
  (Xo 9 (zBN 7 (zAQ (Yq A3 (Yq (dOf (Yz Xz gz (vOf (Y0 qK (Yq aG (Yq bh (Yq bA (Yq de (Yq (dOf (Ys 9)) Y1))))))))) Y1))))))
noncomputable def q7z:FS:=(Y5 (XZ 4 OS)
  (Y5 (XZ 5 (eOf (dOf (Y0 q0m (Yq au (Yq aG (Yq bh (Yq bA (Yq aW Y1)))))))))
  (Y5 (XZ 6 (eOf (dOf (Xi zCI (Yq (vOf (XY 3 [0] GE (gT 3 oO) XQ q3v)) Y1)))))
  (Y5 (XZ 7 GM)
  (Y5 (Ww (iRg2 (Yq (vOf (Yz zA5 mw (vOf (Xi bMax MM)))) (Yq (vOf (Yz zA5 cn (vOf (Xi bMin MM)))) Y1))) (gN 8) q4Q)
  (Wk 7))))))
noncomputable def q1E:List D->Option O:=mir 10 q7z
noncomputable abbrev q7W:vn:=top 36
theorem q2f:FnScope ["size", "home", "last", "boxes", "edges", "bare", "loaded", "told", "c", "lacks"] aA (Yu q7W):=ac
variable{fc50:vF}{dc50:vN}(c50:Cal P w K mg base 7 fc50 dc50 "ring_edges" ["size", "home", "last", "boxes"] 4 q06)
variable{fc51:vF}{dc51:vN}(c51:Cal P w K mg base 7 fc51 dc51 "ring_lacks" ["size", "home", "last", "boxes", "c"] 5 q0m)
variable{fc52:vF}{dc52:vN}(c52:Cal P w K mg base 6 fc52 dc52 "empty_weight" ["home", "last", "boxes", "edges", "lacks"] 5 qK)
variable(z53:mg "min" = none)
variable(z54:mg "max" = none)
variable(z55:mg "range" = none)
include c41 z49 c50 c51 c52 z53 z54 z55 in
theorem qfV(F:Fun K "turns" "turns" q7W f fd):FnOk P w K mg base CX0 8 f fd aA (spD K 4 q1E):=by
 have h:=fnD (P:=P) (w:=w) (mg:=mg) (base:=base) (k:=7) (body:=q7z) F q2f (λcdv A outer s H E hr=>
   (qb (qq (i:=4) q2f.nd rfl (Or.inl rfl) Jm)
   (qb (qq (i:=5) q2f.nd rfl (Or.inl rfl) (XD.toE (XE.toD (xc c51 hr (Yp cO (Yp dN (Yp iO (Yp jM o8))))))))
   (qb (qq (i:=6) q2f.nd rfl (Or.inl rfl) (XD.toE (XE.toD (qx OP q78 rfl z49 q79 (qm (XE.toV (qR rfl (blk PU Oa [0] rfl ⋯ ⋯ rfl ⟨⟨rfl,(by first|exact Or.inl rfl|exact Or.inr rfl),rfl⟩,trivial⟩) JE (q5q (qZ j5 (qZ (qw 1) (qZ (qw 2) q2E)))) (λ_ _ _ _=>⟨(q2C rfl (qG (qh (i:=0) (show (oq++lc:List Str).Nodup from by decide +kernel) rfl aF) (qG (qh (i:=1) (show (oq++lc:List Str).Nodup from by decide +kernel) rfl aF) (qG (qh (i:=2) (show (oq++lc:List Str).Nodup from by decide +kernel) rfl aF) q1C)))),qD,(XE.toD (xc c41 hr (Yp jM ny)))⟩))) qp)))))
   (qb (qq (i:=7) q2f.nd rfl (Or.inl rfl) GG)
   (qb (q05 PassesOwn.never rfl (qeK rfl z55 (qm (XE.toV (q1X eW (XE.toV (qx (qev rfl) qjK rfl z54 qjB Ml)))) (qm (XE.toV (q1X af (XE.toV (qx (q8c rfl) qeT rfl z53 q9D Ml)))) qp))) (qh (i:=8) q2f.nd rfl DH) (qb (q1H (i:=9) rfl q2f.nd rfl rfl (blk ["lack"] ["c"] [8] rfl ⋯ ⋯ rfl ⟨⟨rfl,(by first|exact Or.inl rfl|exact Or.inr rfl),rfl⟩,trivial⟩) (qr CU) j5 (λ_ _ _ _=>⟨(qh (i:=0) (show ((["lack"]:List Str)++(["c"]:List Str):List Str).Nodup from by decide +kernel) rfl aF),qD,(XE.toD (qN eJ gu))⟩))
   (q09 9 (qc (q2t TN (Xu (Yp (vD 8) (Yp (XE.toD (qN BI (XE.toV (xc c52 hr (Yp dN (Yp iO (Yp jM (Yp lF (Yp (vD 9) Yv))))))))) Yv))))))))
   (qc (q2a TN))))))))
 exact h
noncomputable def q56:FD:=aG
noncomputable def q3r:FS:=(XU (Xi bMin (Yq (vOf (XY 2 [] (Xx (dOf (Y0 q1E br))) Kd XQ q56)) Y1)))
noncomputable def q0o:List D->Option O:=mir 4 q3r
noncomputable abbrev q3i:vn:=top 37
theorem qab:FnScope aA aA (Yu q3i):=ac
variable{fc56:vF}{dc56:vN}(c56:Cal P w K mg base 8 fc56 dc56 "turns" ["size", "home", "last", "boxes"] 4 q1E)
include z53 c56 in
theorem q8Y(F:Fun K "ring_least" "ring_least" q3i f fd):FnOk P w K mg base CX0 9 f fd aA (spD K 4 q0o):=by
 have h:=fnD (P:=P) (w:=w) (mg:=mg) (base:=base) (k:=8) (body:=q3r) F qab (λcdv A outer s H E hr=>
   (qc (qj (qx (q8c rfl) qeT rfl z53 q9D (qm (XE.toV (qR rfl (blk ["c", "weight"] [] [] rfl ⋯ ⋯ rfl trivial) (qr (XE.toD abX)) lG (λ_ _ _ _=>⟨(q2C rfl (qG (qh (i:=0) (show (MI++dw:List Str).Nodup from by decide +kernel) rfl aF) (qG (qh (i:=1) (show (MI++dw:List Str).Nodup from by decide +kernel) rfl aF) q1C))),qD,dN⟩))) qp)))))
 exact h
noncomputable abbrev q0y:vn:=top 39
theorem q2x:FnScope HQ DZ (Yu q0y):=ac
theorem q57(F:Fun K "numbers_by_start" "numbers_by_start" q0y f fd)(z28:mg "enumerate" = none):FnOk P w K mg base CX0 1 f fd DZ (spT K):=by
 refine F.ok q2x Be jO
 ·obtain⟨G,as,_,rp,_⟩:=h
  rw[<- rp.len];rfl
 ·exact qir (X:=(zAx CX0 P w K mg base HQ "numbers_by_start" (Yu q0y) f cdv A outer s H E).nox) PassesOwn.never rfl q2x.nd rfl rfl rfl (by first|exact Or.inl rfl|exact Or.inr rfl) (by first|exact Or.inl rfl|exact Or.inr rfl) (by first|exact Or.inl rfl|exact Or.inr rfl) (by first|exact .inl rfl|exact .inr rfl) (by first|exact .inl rfl|exact .inr rfl) (by first|exact .inl rfl|exact .inr rfl) rfl z28 Nj Qr AQ Qr S6 (λω e h=>qkz h) rfl Ss rfl rfl rfl rfl rfl rfl rfl rfl (λt h=>qfo rfl h) (by intro _;rfl) h
noncomputable def q0s:FD:=io
noncomputable def q0r:FD:=Bw
noncomputable def q0F:FS:=(XU (Yz fI (vOf (Wp (vOf (XY 1 [] (Xx au) jN XQ q0s)))) (vOf (Wp (vOf (XY 1 [] (Xx au) jN XQ q0r))))))
noncomputable def qS:List D->Option O:=mir 1 q0F
noncomputable abbrev q0E:vn:=top 40
theorem q40:FnScope DZ DZ (Yu q0E):=ac
include z24 in
theorem q3I(F:Fun K "as_many_begin_as_end" "as_many_begin_as_end" q0E f fd):FnOk P w K mg base CX0 1 f fd DZ (spD K 1 qS):=by
 have h:=fnD (P:=P) (w:=w) (mg:=mg) (base:=base) (k:=0) (body:=q0F) F q40 (λcdv A outer s H E hr=>
   (qc (qj (zAj hr.units (XE.toV (q64 rfl z24 (XE.toV (qR rfl (blk ["arc"] [] [] rfl ⋯ ⋯ rfl trivial) (qr cO) j5 (λ_ _ _ _=>⟨(qh (i:=0) (show (Ui++dw:List Str).Nodup from by decide +kernel) rfl aF),qD,bv⟩))))) (XE.toV (q64 rfl z24 (XE.toV (qR rfl (blk ["arc"] [] [] rfl ⋯ ⋯ rfl trivial) (qr cO) j5 (λ_ _ _ _=>⟨(qh (i:=0) (show (Ui++dw:List Str).Nodup from by decide +kernel) rfl aF),qD,bv⟩)))))))))
 exact h
noncomputable abbrev q1a:vn:=top 41
theorem qY:FnScope g7 CH (Yu q1a):=ac
noncomputable def q1V:List D->Option O:=mRF
theorem q8S{f_n:vF}{d_n:vN}(F:Fun K "round_from" "round_from" q1a f fd)(G_n:FnOk P w K mg base CX0 1 f_n d_n DZ (spT K))(a_n:mg "numbers_by_start" = some (.ref f_n))(k_n:xM K (.ref f_n)=true)(b_n:Binds K d_n DZ [])(z19:mg "list" = none)(z_reversed:mg "reversed" = none):FnOk P w K mg base CX0 2 f fd CH (spD K 2 q1V):=by
 refine F.ok qY Be jO
 ·obtain⟨G,ds,r,_,h2,_,h4,_⟩:=h
  rw[<- h4.len];exact h2
 ·have hu:=hu1 (X:=(zAx CX0 P w K mg base g7 "round_from" (Yu q1a) f cdv A outer s H E).nox) hr.units
  exact qkJ (X:=(zAx CX0 P w K mg base g7 "round_from" (Yu q1a) f cdv A outer s H E).nox) (f1:=(dOf acr)) (f0:=(dOf acs)) GJ GJ (λ_ _ _=>qkP) (λ_ _ _=>qjY) rfl h (λp1 p0=>(qO (q0n (i:=2) qY.nd rfl (by first|exact Or.inl rfl|exact Or.inr rfl) (q61 G_n (hr.mono (by decide)) rfl a_n k_n b_n .nil zBU (qy Qr qA rfl)) rfl (by first|exact .inl rfl|exact .inr rfl)) (qO (q0n (i:=3) qY.nd rfl (by first|exact Or.inl rfl|exact Or.inr rfl) Mn rfl (by first|exact .inl rfl|exact .inr rfl)) (qO (q0n (i:=4) qY.nd rfl (by first|exact Or.inl rfl|exact Or.inr rfl) Mn rfl (by first|exact .inl rfl|exact .inr rfl)) (qO (q0n (i:=5) qY.nd rfl (by first|exact Or.inl rfl|exact Or.inr rfl) Nj rfl (by first|exact .inl rfl|exact .inr rfl)) (qO (qam PassesOwn.never (qgS (q4D nN (by intro _;rfl)) (qdN (q4D AD (by intro _;rfl)))).pt (q0W (qhg (q4D AD (by intro _;rfl)) (qO (q0n (i:=6) qY.nd rfl (by first|exact Or.inl rfl|exact Or.inr rfl) (q9s PySem.F.plainAttrs_list PySem.F.slot_list_pop PySem.F.type_list_pop qar (q5P hu AQ (pv 5) (by intro _ _;rfl)) rfl rfl) rfl (by first|exact .inl rfl|exact .inr rfl)) (qO (q17 (q2o PySem.F.plainAttrs_list PySem.F.slot_list_append PySem.F.type_list_append q0L nN TJ rfl rfl rfl rfl rfl) rfl) (q0W (q0n (i:=5) qY.nd rfl (by first|exact Or.inl rfl|exact Or.inr rfl) p1 rfl (by first|exact .inl rfl|exact .inr rfl))))) (qO (q0n (i:=6) qY.nd rfl (by first|exact Or.inl rfl|exact Or.inr rfl) (q9s PySem.F.plainAttrs_list PySem.F.slot_list_pop PySem.F.type_list_pop qar nN rfl rfl) rfl (by first|exact .inl rfl|exact .inr rfl)) (qO (q17 (q2o PySem.F.plainAttrs_list PySem.F.slot_list_append PySem.F.type_list_append q0L Qq TJ rfl rfl rfl rfl rfl) rfl) (q0W (q0n (i:=5) qY.nd rfl (by first|exact Or.inl rfl|exact Or.inr rfl) p0 rfl (by first|exact .inl rfl|exact .inr rfl)))))))) (q0W (q5A (qdj rfl z19 rfl z_reversed (qy Qq qA rfl) rfl rfl rfl rfl rfl)))))))))
noncomputable def q6r:FS:=(Y5 (sIf (Xh (WM (vOf (Y0 qS MO)))) sNo WO)
  (Y5 (XZ 2 (eOf (dOf (Y0 q1V fT))))
  (Y5 (sIf (tOf (Yz jE (vOf Bl) oj)) sNo WO)
  RN)))
noncomputable def q3y:List D->Option O:=mir 3 q6r
noncomputable abbrev q6E:vn:=top 42
theorem q9y:FnScope ["start", "arcs", "row"] CH (Yu q6E):=ac
variable{fc57:vF}{dc57:vN}(c57:Cal P w K mg base 1 fc57 dc57 "as_many_begin_as_end" ["arcs"] 1 qS)
variable{fc58:vF}{dc58:vN}(c58:Cal P w K mg base 2 fc58 dc58 "round_from" ["start", "arcs"] 2 q1V)
include z15 c57 c58 in
theorem qfh(F:Fun K "row_of" "row_of" q6E f fd):FnOk P w K mg base CX0 3 f fd CH (spD K 2 q3y):=by
 have h:=fnD (P:=P) (w:=w) (mg:=mg) (base:=base) (k:=2) (body:=q6r) F q9y (λcdv A outer s H E hr=>
   (qb (qM (qW (qF (XE.toV (xc c57 hr MP)))) Rm qz)
   (qb (qq (i:=2) q9y.nd rfl (Or.inl rfl) (XD.toE (XE.toD (xc c58 hr fU))))
   (qb (qM (WY hr.units RO ir) Rm qz)
   J7))))
 exact h
noncomputable def q2I:FS:=(Y5 (XZ 3 (eOf (dOf (Y0 q3y (Yq au (Yq (dOf (Yz Xz bY (vOf (Wh (Yq (zAQ Um) Y1))))) Y1))))))
  (Y5 (XZ 4 (eOf (dOf (fIdx du (dOf Bl)))))
  (XU (Yz Xz (vOf (fSl du (pAt (vOf (Yz Xz dU aq))) pNo)) (vOf (fSl du pNo (pAt dU)))))))
noncomputable def q0w:List D->Option O:=mir 5 q2I
noncomputable abbrev q2P:vn:=top 43
theorem q2G:FnScope ["home", "last", "arcs", "row", "cut"] PV (Yu q2P):=ac
variable{fc59:vF}{dc59:vN}(c59:Cal P w K mg base 3 fc59 dc59 "row_of" ["start", "arcs"] 2 q3y)
include z15 c59 in
theorem q7X(F:Fun K "row_between" "row_between" q2P f fd):FnOk P w K mg base CX0 4 f fd PV (spD K 3 q0w):=by
 have h:=fnD (P:=P) (w:=w) (mg:=mg) (base:=base) (k:=3) (body:=q2I) F q2G (λcdv A outer s H E hr=>
   (qb (qq (i:=3) q2G.nd rfl (Or.inl rfl) (XD.toE (XE.toD (xc c59 hr (Yp cO (Yp (XE.toD (qN pC (XE.toV (XX (Yp (Xu Up) Yv))))) Yv))))))
   (qb (qq (i:=4) q2G.nd rfl (Or.inl rfl) (XD.toE (XE.toD (qfT oE (XE.toD jh)))))
   (qc (qj (qN (XE.toV (XL oE (XR (XE.toV (qN l7 af))) Xk)) (XE.toV (XL oE Xk (XR l7)))))))))
 exact h
noncomputable def q5Z:FS:=(Y5 (sIf (zAD Uu (zAD (tOf (Yz jE om gZ)) (tOf (Yz jE E5 Vj)))) bE WO)
  (XU (eOf (W8 N6 (W8 (dOf (Y0 qH (Yq (dOf Bk) Y1))) (dOf (Yz jE Q8 (vOf Bk))))))))
noncomputable def q28:List D->Option O:=mir 1 q5Z
noncomputable abbrev q7J:vn:=top 45
theorem qiM:FnScope mZ mZ (Yu q7J):=ac
include z9 c14 z15 z16 z17 in
theorem qgO(F:Fun K "is_go" "is_go" q7J f fd):FnOk P w K mg base CX0 2 f fd mZ (spD K 1 q28):=by
 have h:=fnD (P:=P) (w:=w) (mg:=mg) (base:=base) (k:=1) (body:=q5Z) F qiM (λcdv A outer s H E hr=>
   (qb di
   (qc (qj (XD.toE (q0f kU (q0f kU (q0T (XE.toD (xe_ne hr.units gK gK))))))))))
 exact h
noncomputable def q1m:FD:=(dOf MU)
noncomputable def q1y:FS:=(Y5 (sIf (zAD Uu (zAD (tOf (Yz jE om mD)) (tOf (Yz jE E5 PJ)))) bE WO)
  (Y5 (sIf (Xh (WM (vOf (Xi zAy (Yq (vOf (XY 1 [] (Xx (dOf (fSl aE (pAt aq) pNo))) jN XQ q1m)) Y1))))) bE WO)
  (XU (eOf (W8 (dOf (Yz oGe Q8 aW)) (dOf (Yz oLt Q8 oj)))))))
noncomputable def q0q:List D->Option O:=mir 2 q1y
noncomputable abbrev q1x:vn:=top 46
theorem q6x:FnScope ip ip (Yu q1x):=ac
include z9 c14 z15 z16 z17 z20 in
theorem q6c(F:Fun K "has_carry_form" "has_carry_form" q1x f fd):FnOk P w K mg base CX0 2 f fd ip (spD K 2 q0q):=by
 have h:=fnD (P:=P) (w:=w) (mg:=mg) (base:=base) (k:=1) (body:=q1y) F q6x (λcdv A outer s H E hr=>
   (qb di
   (qb (qM (qW (qF (XE.toV (qx Go q4y rfl z20 q4n (qm (XE.toV (qR rfl (blk ["part"] [] [] rfl ⋯ ⋯ rfl trivial) (qr (XE.toD (XL eJ Ec Xk))) j5 (λ_ _ _ _=>⟨(qh (i:=0) (show ((["part"]:List Str)++dw:List Str).Nodup from by decide +kernel) rfl aF),qD,(XE.toD E4)⟩))) qp))))) cv qz)
   (qc (qj (XD.toE (q0f (XE.toD (qdo gK af)) (q0T (XE.toD (qdk gK ir))))))))))
 exact h
noncomputable def q4V:FS:=(XU (eOf (W8 (dOf (Y0 q0q fT)) (dOf (Yz fI (vOf (fSl aE (pAt cn) pNo)) (vOf (Yz oIx aT Q8)))))))
noncomputable def q1Q:List D->Option O:=mir 2 q4V
noncomputable abbrev q4O:vn:=top 47
theorem qd3:FnScope ip ip (Yu q4O):=ac
variable{fc60:vF}{dc60:vN}(c60:Cal P w K mg base 2 fc60 dc60 "has_carry_form" ["thing", "boxes"] 2 q0q)
include c60 in
theorem qaR(F:Fun K "is_carry" "is_carry" q4O f fd):FnOk P w K mg base CX0 3 f fd ip (spD K 2 q1Q):=by
 have h:=fnD (P:=P) (w:=w) (mg:=mg) (base:=base) (k:=2) (body:=q4V) F qd3 (λcdv A outer s H E hr=>
   (qc (qj (XD.toE (q0f (XE.toD (xc c60 hr fU)) (q0T (XE.toD (zAj hr.units (XE.toV (XL eJ Ec Xk)) (XE.toV (Yt gu gK))))))))))
 exact h
noncomputable def q5a:FS:=(XU (eOf (vOr (dOf (Y0 q28 gM)) (dOf (Y0 q1Q fT)))))
noncomputable def q2D:List D->Option O:=mir 2 q5a
noncomputable abbrev q5B:vn:=top 48
theorem qed:FnScope ip ip (Yu q5B):=ac
variable{fc61:vF}{dc61:vN}(c61:Cal P w K mg base 3 fc61 dc61 "is_carry" ["thing", "boxes"] 2 q1Q)
variable{fc62:vF}{dc62:vN}(c62:Cal P w K mg base 2 fc62 dc62 "is_go" ["thing"] 1 q28)
include c61 c62 in
theorem qcN(F:Fun K "is_move" "is_move" q5B f fd):FnOk P w K mg base CX0 4 f fd ip (spD K 2 q2D):=by
 have h:=fnD (P:=P) (w:=w) (mg:=mg) (base:=base) (k:=3) (body:=q5a) F qed (λcdv A outer s H E hr=>
   (qc (qj (XD.toE (qla (XE.toD (xc c62 hr gO)) (q0T (XE.toD (xc c61 hr fU))))))))
 exact h
noncomputable def q4J:FS:=(Y5 (sIf (tOf (Yz jE (vOf (Yz oIx dU (vOf (W0 cn)))) du)) bE WO)
  (XZ 3 (eOf (dOf (Yz oIx dU mw)))))
noncomputable def q7F:FS:=(Y5 (XZ 3 (eOf au))
  (Y5 (Ww Vs Qt q4J)
  (XU (Yz fI du aT))))
noncomputable def q4m:List D->Option O:=mir 5 q7F
noncomputable abbrev q7P:vn:=top 49
theorem q5N:FnScope ["home", "last", "moves", "here", "move"] OT (Yu q7P):=ac
theorem qgd(F:Fun K "leads" "leads" q7P f fd):FnOk P w K mg base CX0 1 f fd OT (spD K 3 q4m):=by
 have h:=fnD (P:=P) (w:=w) (mg:=mg) (base:=base) (k:=0) (body:=q7F) F q5N (λcdv A outer s H E hr=>
   (qb (qq (i:=3) q5N.nd rfl (Or.inl rfl) (XD.toE cO))
   (qb (q05 PassesOwn.never rfl (qr iO) (qh (i:=4) q5N.nd rfl aF) (qb (qM (WY hr.units (XE.toV (Yt l7 eW)) oE) cv qz)
   (qc (qq (i:=3) q5N.nd rfl (Or.inl rfl) (XD.toE (XE.toD (Yt l7 eW)))))))
   (qc (qj (zAj hr.units oE gu))))))
 exact h
noncomputable def q4C:FD:=(dOf (Y0 q2D fT))
noncomputable def q32:FT:=(tOf (Yz fI E5 PJ))
noncomputable def q33:FD:=Bw
noncomputable def q5d:FS:=(Y5 UZ
  (Y5 (sIf (zAD (Xh (WM (vOf (zAM .lst du)))) (Xh (WM (vOf (Xi zAy (Yq (vOf (XY 1 [2] GE jN XQ q4C)) Y1)))))) bE WO)
  (Y5 (XZ 4 (XY 1 [] GE jN q32 q33))
  (Xo 4 (XU (eOf (W8 (dOf (Yz fI (vOf (Wp dU)) (vOf (Xi zAJ (Yq (vOf Bl) Y1))))) (dOf (Y0 q4m (Yq au (Yq aG By)))))))))))
noncomputable def q2w:List D->Option O:=mir 5 q5d
noncomputable abbrev q5s:vn:=top 50
theorem q80:FnScope ["home", "last", "boxes", "thing", "carried"] Jj (Yu q5s):=ac
variable{fc63:vF}{dc63:vN}(c63:Cal P w K mg base 4 fc63 dc63 "is_move" ["thing", "boxes"] 2 q2D)
variable{fc64:vF}{dc64:vN}(c64:Cal P w K mg base 1 fc64 dc64 "leads" ["home", "last", "moves"] 3 q4m)
include z9 z15 z19 z20 z21 c23 z24 z55 c63 c64 in
theorem qcL(F:Fun K "is_tour" "is_tour" q5s f fd):FnOk P w K mg base CX0 5 f fd Jj (spD K 4 q2w):=by
 have h:=fnD (P:=P) (w:=w) (mg:=mg) (base:=base) (k:=4) (body:=q5d) F q80 (λcdv A outer s H E hr=>
   (qb Ro
   (qb (qM (XW.toT (q18 (qW (qF (XE.toV JF))) (q1J (qW (qF (XE.toV (qx Go q4y rfl z20 q4n (qm (XE.toV (qR rfl (blk DY BP [2] rfl ⋯ ⋯ rfl ⟨⟨rfl,(by first|exact Or.inl rfl|exact Or.inr rfl),rfl⟩,trivial⟩) JE j5 (λ_ _ _ _=>⟨(qh (i:=0) (show (jJ++(BP:List Str):List Str).Nodup from by decide +kernel) rfl aF),qD,(XE.toD (xc c63 hr fU))⟩))) qp)))))))) cv qz)
   (qb (q1H (i:=4) rfl q80.nd rfl rfl (blk DY [] [] rfl ⋯ ⋯ rfl trivial) JE j5 (λ_ _ _ _=>⟨(qh (i:=0) (show (jJ++dw:List Str).Nodup from by decide +kernel) rfl aF),(q5R (Wo hr.units gK RS)),bv⟩))
   (q09 4 (qc (qj (XD.toE (q0f (XE.toD (zAj hr.units (XE.toV (q64 rfl z24 l7)) (XE.toV (q6d rfl z19 rfl z55 (qm RO qp))))) (q0T (XE.toD (xc c64 hr (Yp cO (Yp dN Bz))))))))))))))
 exact h
noncomputable def q1I:FS:=(Y5 (sIf (Xh (WM (vOf (Y0 q26 (Yq (dOf acu) Y1))))) bE WO)
  (Y5 (sIf (tOf (Yz fI (vOf acv) PJ)) (XU (Yz fI (vOf acu) (vOf (Yz oIx (vOf (Yz oIx aT (vOf Fp))) cn)))) WO)
  (XU (eOf (W8 (dOf (Y0 qT (Yq au (Yq Fj Y1)))) (dOf (Y0 qT (Yq au (Yq (dOf (Yz oIx bY cn)) Y1)))))))))
noncomputable def q0C:List D->Option O:=mir 3 q1I
noncomputable abbrev q1N:vn:=top 52
theorem q71:FnScope Cn Cn (Yu q1N):=ac
include c33 c34 in
theorem q6o(F:Fun K "keeps_to_ring" "keeps_to_ring" q1N f fd):FnOk P w K mg base CX0 3 f fd Cn (spD K 3 q0C):=by
 have h:=fnD (P:=P) (w:=w) (mg:=mg) (base:=base) (k:=2) (body:=q1I) F q71 (λcdv A outer s H E hr=>
   (qb (qM (qW (qF (XE.toV (xc c33 hr (Yp (XE.toD (Yt pC eW)) Yv))))) cv qz)
   (qb (qM (Wo hr.units S4 RS) (qc (qj (zAj hr.units (XE.toV (Yt pC eW)) (XE.toV (Yt (XE.toV (Yt gu S4)) af))))) qz)
   (qc (qj (XD.toE (q0f EY (q0T EY))))))))
 exact h
noncomputable def q1Y:FD:=(dOf Hl)
noncomputable def q1R:FD:=(dOf (fSl aE pNo (pAt mw)))
noncomputable def q1S:FD:=(dOf (Y0 q0C (Yq aG (Yq bh gM))))
noncomputable def q23:FS:=(Y5 U0
  (Y5 (sIf (zAD (Xh (WM (vOf (zAM .lst dU)))) (Xh (WM (vOf (Xi zAy (Yq (vOf (XY 1 [] (Xx de) jN XQ q1Y)) Y1)))))) bE WO)
  (Y5 (sIf (Xh (WM (vOf (Y0 q2w (Yq aG (Yq bh (Yq Vn (Yq (dOf (XY 1 [] (Xx de) jN XQ q1R)) Y1)))))))) bE WO)
  (XU (Xi zAy (Yq (vOf (XY 1 [0,3] (Xx de) jN XQ q1S)) Y1))))))
noncomputable def q0K:List D->Option O:=mir 5 q23
noncomputable abbrev q2c:vn:=top 53
theorem q7V:FnScope lZ lZ (Yu q2c):=ac
variable{fc65:vF}{dc65:vN}(c65:Cal P w K mg base 5 fc65 dc65 "is_tour" ["home", "last", "boxes", "thing"] 4 q2w)
variable{fc66:vF}{dc66:vN}(c66:Cal P w K mg base 3 fc66 dc66 "keeps_to_ring" ["size", "boxes", "move"] 3 q0C)
include z9 z16 z17 z19 z20 z21 c37 c39 c65 c66 in
theorem q7j(F:Fun K "is_ring_tour" "is_ring_tour" q2c f fd):FnOk P w K mg base CX0 6 f fd lZ (spD K 5 q0K):=by
 have h:=fnD (P:=P) (w:=w) (mg:=mg) (base:=base) (k:=5) (body:=q23) F q7V (λcdv A outer s H E hr=>
   (qb Rn
   (qb (qM (XW.toT (q18 (qW (qF (XE.toV (q0H l7 z21 rfl z9 rfl z19 q0v)))) (q1J (qW (qF (XE.toV (qx Go q4y rfl z20 q4n (qm (XE.toV (qR rfl (blk DY [] [] rfl ⋯ ⋯ rfl trivial) (qr lF) j5 (λ_ _ _ _=>⟨(qh (i:=0) (show (jJ++dw:List Str).Nodup from by decide +kernel) rfl aF),qD,(XE.toD rj)⟩))) qp)))))))) cv qz)
   (qb (qM (qW (qF (XE.toV (xc c65 hr (Yp dN (Yp iO (Yp OU (Yp (XE.toD (qR rfl (blk DY [] [] rfl ⋯ ⋯ rfl trivial) (qr lF) j5 (λ_ _ _ _=>⟨(qh (i:=0) (show (jJ++dw:List Str).Nodup from by decide +kernel) rfl aF),qD,(XE.toD (XL eJ Xk (XR eW)))⟩))) Yv)))))))) cv qz)
   (qc (qj (qx Go q4y rfl z20 q4n (qm (XE.toV (qR rfl (blk DY abb [0,3] rfl ⋯ ⋯ rfl ⟨⟨rfl,(by first|exact Or.inl rfl|exact Or.inr rfl),rfl⟩,⟨⟨rfl,(by first|exact Or.inl rfl|exact Or.inr rfl),rfl⟩,trivial⟩⟩) (qr lF) j5 (λ_ _ _ _=>⟨(qh (i:=0) (show (jJ++(abb:List Str):List Str).Nodup from by decide +kernel) rfl aF),qD,(XE.toD (xc c66 hr (Yp dN (Yp iO gO))))⟩))) qp))))))))
 exact h
noncomputable def q2j:FD:=(dOf (Y0 q0t (Yq aG (Yq (dOf (Yz oIx aE (vOf (W0 gZ)))) (Yq (dOf (Yz oIx aE (vOf (W0 cn)))) (Yq (dOf (Yz oIx aE mw)) Y1))))))
noncomputable def q2T:FS:=(XU (Xi zCI (Yq (vOf (XY 1 [0] (Xx aG) jN XQ q2j)) Y1)))
noncomputable def q0S:List D->Option O:=mir 2 q2T
noncomputable abbrev q2Z:vn:=top 54
theorem q8W:FnScope rA rA (Yu q2Z):=ac
include c41 z49 in
theorem q7Y(F:Fun K "ring_length" "ring_length" q2Z f fd):FnOk P w K mg base CX0 2 f fd rA (spD K 2 q0S):=by
 have h:=fnD (P:=P) (w:=w) (mg:=mg) (base:=base) (k:=1) (body:=q2T) F q8W (λcdv A outer s H E hr=>
   (qc (qj (qx OP q78 rfl z49 q79 (qm (XE.toV (qR rfl (blk DY Oa [0] rfl ⋯ ⋯ rfl ⟨⟨rfl,(by first|exact Or.inl rfl|exact Or.inr rfl),rfl⟩,trivial⟩) (qr dN) j5 (λ_ _ _ _=>⟨(qh (i:=0) (show (jJ++lc:List Str).Nodup from by decide +kernel) rfl aF),qD,(XE.toD (xc c41 hr (Yp dN (Yp GH (Yp GH (Yp GH Yv))))))⟩))) qp)))))
 exact h
noncomputable def q2J:FS:=(XU fB)
noncomputable def qC:List D->Option O:=mir 1 q2J
noncomputable abbrev q2U:vn:=top 55
theorem q8T:FnScope ["turn"] ["turn"] (Yu q2U):=ac
theorem q7I(F:Fun K "turn_weight" "turn_weight" q2U f fd):FnOk P w K mg base CX0 1 f fd ["turn"] (spD K 1 qC):=by
 have h:=fnD (P:=P) (w:=w) (mg:=mg) (base:=base) (k:=0) (body:=q2J) F q8T (λcdv A outer s H E hr=>
   (qc (qj ML)))
 exact h
noncomputable def q41:FS:=(XU (Yz oIx (vOf (zB3 qC (vOf (Y0 q1E br)))) aW))
noncomputable def q0Y:List D->Option O:=mir 4 q41
noncomputable abbrev q3Z:vn:=top 56
theorem qaY:FnScope aA aA (Yu q3Z):=ac
variable{fc67:vF}{dc67:vN}(c67:Cal P w K mg base 1 fc67 dc67 "turn_weight" ["turn"] 1 qC)
include z53 c56 c67 in
theorem q9b(F:Fun K "best_turn" "best_turn" q3Z f fd):FnOk P w K mg base CX0 9 f fd aA (spD K 4 q0Y):=by
 have h:=fnD (P:=P) (w:=w) (mg:=mg) (base:=base) (k:=8) (body:=q41) F qaY (λcdv A outer s H E hr=>
   (qc (qj (Yt (XE.toV (qiu c67 hr rfl z53 (XE.toV abX))) af))))
 exact h
noncomputable def q75:FD:=(dOf (Yz Xz (zAQ (Yq PJ gM)) aT))
noncomputable def q5I:FS:=(XU (XY 2 [] (iEn gM) Kd XQ q75))
noncomputable def q2v:List D->Option O:=mir 1 q5I
noncomputable abbrev q5h:vn:=top 57
theorem qdC:FnScope BP BP (Yu q5h):=ac
include z28 in
theorem qcJ(F:Fun K "carries" "carries" q5h f fd):FnOk P w K mg base CX0 1 f fd BP (spD K 1 q2v):=by
 have h:=fnD (P:=P) (w:=w) (mg:=mg) (base:=base) (k:=0) (body:=q5I) F qdC (λcdv A outer s H E hr=>
   (qc (qj (qR rfl (blk Kf [] [] rfl ⋯ ⋯ rfl trivial) (qc3 rfl z28 gO) lG (λ_ _ _ _=>⟨(q2C rfl (qG (qh (i:=0) (show ((Kf:List Str)++dw:List Str).Nodup from by decide +kernel) rfl aF) (qG (qh (i:=1) (show ((Kf:List Str)++dw:List Str).Nodup from by decide +kernel) rfl aF) q1C))),qD,(XE.toD (qN (XD.toV (Xu (Yp X4 gO))) gu))⟩)))))
 exact h
noncomputable def q4W:FS:=(XU (eOf (zAQ (Yq Vj (Yq io (Yq Bw Ea))))))
noncomputable def q1k:List D->Option O:=mir 1 q4W
noncomputable abbrev q52:vn:=top 58
theorem qcH:FnScope nY nY (Yu q52):=ac
theorem qaL(F:Fun K "go_right" "go_right" q52 f fd):FnOk P w K mg base CX0 1 f fd nY (spD K 1 q1k):=by
 have h:=fnD (P:=P) (w:=w) (mg:=mg) (base:=base) (k:=0) (body:=q4W) F qcH (λcdv A outer s H E hr=>
   (qc (qj (XD.toE (Xu (Yp X4 (Yp bv (Yp bv o8))))))))
 exact h
noncomputable def q5y:FS:=(XU (eOf (zAQ (Yq Vj (Yq Bw (Yq io Qy))))))
noncomputable def q1D:List D->Option O:=mir 1 q5y
noncomputable abbrev q5g:vn:=top 59
theorem qeW:FnScope nY nY (Yu q5g):=ac
theorem qd7(F:Fun K "go_left" "go_left" q5g f fd):FnOk P w K mg base CX0 1 f fd nY (spD K 1 q1D):=by
 have h:=fnD (P:=P) (w:=w) (mg:=mg) (base:=base) (k:=0) (body:=q5y) F qeW (λcdv A outer s H E hr=>
   (qc (qj (XD.toE (Xu (Yp X4 (Yp bv (Yp bv Np))))))))
 exact h
noncomputable def q27:FS:=(Y5 (XZ 10 (eOf (dOf (zCF (tOf (Yz oGt (vOf (Ys 9)) aW)) (Y0 q1k Ac) (Y0 q1D Ac)))))
  (sExt 7 (dOf (Yz zBI (vOf (Wh (Yq (dOf (Ys 10)) Y1))) (vOf (Xi bAbs (Yq (vOf (Ys 9)) Y1)))))))
noncomputable def q2h:FS:=(sExt 7 (dOf (Wh (Yq (dOf (Y0 q1k Ac)) (Yq (dOf (Y0 q1D Ac)) Y1)))))
noncomputable def q2O:FS:=(Y5 (XZ 5 OS)
  (Y5 (XZ 6 (eOf (dOf (Y0 q0m lP))))
  (Y5 (XZ 7 GM)
  (Y5 (Ww (iZp (Yq ji Uk)) (gT 2 MR) q27)
  (Y5 (Ww (Xx (dOf (Y0 q0u (Yq aG (Yq bh (Yq bA (Yq ji Uk))))))) (gN 8) q2h)
  (Wk 7))))))
noncomputable def q0Q:List D->Option O:=mir 11 q2O
noncomputable abbrev q2S:vn:=top 60
theorem q00:FnScope ["size", "home", "last", "boxes", "c", "edges", "lacks", "moves", "edge", "lack", "move"] gc (Yu q2S):=ac
variable{fc68:vF}{dc68:vN}(c68:Cal P w K mg base 1 fc68 dc68 "go_right" ["edge"] 1 q1k)
variable{fc69:vF}{dc69:vN}(c69:Cal P w K mg base 1 fc69 dc69 "go_left" ["edge"] 1 q1D)
include z40 c47 z48 c50 c51 c68 c69 in
theorem q7N(F:Fun K "empty_moves" "empty_moves" q2S f fd):FnOk P w K mg base CX0 8 f fd gc (spD K 5 q0Q):=by
 have h:=fnD (P:=P) (w:=w) (mg:=mg) (base:=base) (k:=7) (body:=q2O) F q00 (λcdv A outer s H E hr=>
   (qb (qq (i:=5) q00.nd rfl (Or.inl rfl) Jm)
   (qb (qq (i:=6) q00.nd rfl (Or.inl rfl) (XD.toE (XE.toD (xc c51 hr kM))))
   (qb (qq (i:=7) q00.nd rfl (Or.inl rfl) GG)
   (qb (q05 PassesOwn.never rfl (q9T rfl z40 (Yp CU MQ)) (q2C rfl (qG Ni (qG (qh (i:=9) q00.nd rfl aF) q1C))) (qb (qq (i:=10) q00.nd rfl (Or.inl rfl) (XD.toE (XE.toD (q7d (qlc (vV 9) af) abW abV))))
   (qc (q9q TN (XE.toD (qk8 (XE.toV (XX (Yp (vD 10) Yv))) (XE.toV (qx q9z qdz rfl z48 qfn (qm (vV 9) qp)))))))))
   (qb (q05 PassesOwn.never rfl (qr (XE.toD (xc c47 hr (Yp dN (Yp iO (Yp jM (Yp CU MQ))))))) Ni (qc (q9q TN (XE.toD (XX (Yp (XE.toD abW) (Yp (XE.toD abV) Yv)))))))
   (qc (q2a TN))))))))
 exact h
noncomputable def q3w:FD:=(dOf (fSl aE (pAt (vOf (W0 gZ))) (pAt mw)))
noncomputable def q3h:FD:=(dOf (Yz oIx aT aE))
noncomputable def q4e:FS:=(Y5 (XZ 4 (eOf (dOf (Y0 q0Y br))))
  (Y5 (XZ 5 (eOf (dOf (Yz Xz (vOf (Y0 q2v By)) (vOf (Y0 q0Q lP))))))
  (Y5 (XZ 6 (XY 1 [] (Xx ji) jN XQ q3w))
  (Xo 6 (XU (XY 1 [5] (Xx (dOf (Y0 q0w (Yq aG (Yq bh Uk))))) jN XQ q3h))))))
noncomputable def q1r:List D->Option O:=mir 7 q4e
noncomputable abbrev q46:vn:=top 61
theorem q2p:FnScope ["size", "home", "last", "boxes", "c", "moves", "arcs"] aA (Yu q46):=ac
variable{fc70:vF}{dc70:vN}(c70:Cal P w K mg base 9 fc70 dc70 "best_turn" ["size", "home", "last", "boxes"] 4 q0Y)
variable{fc71:vF}{dc71:vN}(c71:Cal P w K mg base 1 fc71 dc71 "carries" ["boxes"] 1 q2v)
variable{fc72:vF}{dc72:vN}(c72:Cal P w K mg base 8 fc72 dc72 "empty_moves" ["size", "home", "last", "boxes", "c"] 5 q0Q)
variable{fc73:vF}{dc73:vN}(c73:Cal P w K mg base 4 fc73 dc73 "row_between" ["home", "last", "arcs"] 3 q0w)
include c70 c71 c72 c73 in
theorem q9k(F:Fun K "ring_tour" "ring_tour" q46 f fd):FnOk P w K mg base CX0 10 f fd aA (spD K 4 q1r):=by
 have h:=fnD (P:=P) (w:=w) (mg:=mg) (base:=base) (k:=9) (body:=q4e) F q2p (λcdv A outer s H E hr=>
   (qb (qq (i:=4) q2p.nd rfl (Or.inl rfl) (XD.toE (XE.toD (xc c70 hr aX))))
   (qb (qq (i:=5) q2p.nd rfl (Or.inr rfl) (XD.toE (XE.toD (qN (XE.toV (xc c71 hr Bz)) (XE.toV (xc c72 hr kM))))))
   (qb (q1H (i:=6) rfl q2p.nd rfl rfl (blk DY [] [] rfl ⋯ ⋯ rfl trivial) (qr CU) j5 (λ_ _ _ _=>⟨(qh (i:=0) (show (jJ++dw:List Str).Nodup from by decide +kernel) rfl aF),qD,(XE.toD (XL eJ (XR eW) (XR eW)))⟩))
   (q09 6 (qc (qj (qR rfl (blk ["number"] ["moves"] [5] rfl ⋯ ⋯ rfl ⟨⟨rfl,(by first|exact Or.inl rfl|exact Or.inr rfl),rfl⟩,trivial⟩) (qr (XE.toD (xc c73 hr (Yp dN (Yp iO MQ))))) j5 (λ_ _ _ _=>⟨(qh (i:=0) (show ((["number"]:List Str)++(["moves"]:List Str):List Str).Nodup from by decide +kernel) rfl aF),qD,(XE.toD (Yt gu eJ))⟩)))))))))
 exact h
noncomputable def q4l:FS:=(Y5 (sIf (tOf (Yz oLt aT om)) (XU (Yz oIx aE aT)) WO)
  (XU (eOf aW)))
noncomputable def q0k:List D->Option O:=mir 2 q4l
noncomputable abbrev q4d:vn:=top 63
theorem qaE:FnScope MH MH (Yu q4d):=ac
include z15 in
theorem q9S(F:Fun K "_law_cell" "_law_cell" q4d f fd):FnOk P w K mg base CX0 1 f fd MH (spD K 2 q0k):=by
 have h:=fnD (P:=P) (w:=w) (mg:=mg) (base:=base) (k:=0) (body:=q4l) F qaE (λcdv A outer s H E hr=>
   (qb (qM (qh8 gu lC) (qc (qj (Yt eJ gu))) qz)
   (qc (qj KK))))
 exact h
noncomputable def q42:FS:=(Y5 (XZ 1 (eOf (dOf (Y0 q0k (Yq au (Yq aW Y1))))))
  (XU (Yz oIx (vOf (Wh (Yq (dOf (Yz Xz aq (vOf (Yz oMod Er (fC (.int 12)))))) (Yq (dOf (Yz Xz aq (vOf (Yz oMod Er (fC (.int 100)))))) (Yq (dOf (Yz Xz aq (vOf (Yz oMod Er (vOf (Yz oPow (fC (.int 10)) (fC (.int 39)))))))) (Yq (fC (.int 24)) Y1)))))) (vOf (Yz oMod aT mD)))))
noncomputable def q1s:List D->Option O:=mir 2 q42
noncomputable abbrev q3Y:vn:=top 64
theorem q6f:FnScope ["script", "cell"] EW (Yu q3Y):=ac
variable{fc74:vF}{dc74:vN}(c74:Cal P w K mg base 1 fc74 dc74 "_law_cell" ["script", "k"] 2 q0k)
include c74 in
theorem q9A(F:Fun K "_law_size" "_law_size" q3Y f fd):FnOk P w K mg base CX0 2 f fd EW (spD K 1 q1s):=by
 have h:=fnD (P:=P) (w:=w) (mg:=mg) (base:=base) (k:=1) (body:=q42) F q6f (λcdv A outer s H E hr=>
   (qb (qq (i:=1) q6f.nd rfl (Or.inl rfl) RT)
   (qc (qj (Yt (XE.toV (XX (Yp At (Yp At (Yp (XE.toD (qN af (XE.toV (qU RQ (XE.toV (qkN af af)))))) o8))))) (XE.toV (qU gu af)))))))
 exact h
noncomputable def q3D:FS:=(Y5 (XZ 4 (eOf (dOf (Y0 q0k (Yq au (Yq (dOf (Yz Xz cn du)) Y1))))))
  (zBN 2 (dOf (Yz oMod (vOf (Yz oIx (vOf (Wh (Yq (dOf (Yz Xz du (vOf Lk))) (Yq (dOf Lk) (Yq (dOf (Yz zA5 (vOf (Yz zA5 aW aq)) (vOf Lk))) Y1))))) (vOf (Yz oMod dU gZ)))) aT))))
noncomputable def q3T:FS:=(Y5 (XZ 2 GM)
  (Y5 (Ww (iRg1 (Yq Hs Y1)) (gN 3) q3D)
  (Y5 (sIf (tOf (Yz fI (vOf (Yz oMod (vOf (Yz oDiv (vOf SY) (fC (.int 28)))) gZ)) aq)) (zB7 2 aq Fk) WO)
  (Wk 2))))
noncomputable def q1t:List D->Option O:=mir 5 q3T
noncomputable abbrev q3S:vn:=top 65
theorem q2s:FnScope ["script", "size", "some", "k", "cell"] aaq (Yu q3S):=ac
include z55 c74 in
theorem qau(F:Fun K "_law_menu" "_law_menu" q3S f fd):FnOk P w K mg base CX0 2 f fd aaq (spD K 2 q1t):=by
 have h:=fnD (P:=P) (w:=w) (mg:=mg) (base:=base) (k:=1) (body:=q3T) F q2s (λcdv A outer s H E hr=>
   (qb (qq (i:=2) q2s.nd rfl (Or.inl rfl) GG)
   (qb (q05 PassesOwn.never rfl (qek rfl z55 (qm af qp)) (qh (i:=3) q2s.nd rfl aF) (qb (qq (i:=4) q2s.nd rfl (Or.inl rfl) (XD.toE (XE.toD (xc c74 hr (Yp cO (Yp (XE.toD (qN af oE)) Yv))))))
   (qc (q2t AQ (XE.toD (qU (XE.toV (Yt (XE.toV (XX (Yp (XE.toD (qN oE (XE.toV Rr))) (Yp (XE.toD Rr) (Yp (XE.toD (q1X (XE.toV (q1X af af)) (XE.toV Rr))) Yv))))) (XE.toV (qU l7 af)))) gu))))))
   (qb (qM (Wo hr.units (XE.toV (qU (XE.toV (q0a (XE.toV Dv) af)) af)) af) (qc (qii AQ Yr eN)) qz)
   (qc (q2a AQ))))))
 exact h
noncomputable def q2Q:FS:=(zBN 4 (zAQ (Yq (dOf (Yz oIx aT (vOf (Yz oMod (vOf (Yz oDiv fj cn)) Hs)))) (Yq (dOf (Yz oIx aT (vOf (Yz oMod (vOf (Yz oDiv fj (fC (.int 14)))) Hs)))) (Yq (dOf (Yz oIx NP (vOf (Yz oMod fj cn)))) Y1)))))
noncomputable def q3H:FS:=(Y5 (XZ 2 (eOf (dOf SY)))
  (Y5 (XZ 3 (eOf (dOf (Yz oIx (vOf (Wh (Yq (fC acE) (Yq (fC acE) (Yq (dOf (Yz oMod Qg (fC (.int 6)))) (Yq (dOf (Yz oMod Qg gZ)) Y1)))))) (vOf (Yz oMod bY mD))))))
  (Y5 abf
  (Y5 (Ww (Xx (dOf (fSl aE (pAt (fC (.int 9))) (pAt (vOf (Yz Xz (fC (.int 9)) du)))))) Ue q2Q)
  (Wk 4)))))
noncomputable def q1d:List D->Option O:=mir 6 q3H
noncomputable abbrev q3F:vn:=top 66
theorem q1f:FnScope ["script", "some", "cell", "many", "boxes", "one"] aap (Yu q3F):=ac
include c74 in
theorem q8M(F:Fun K "_law_boxes" "_law_boxes" q3F f fd):FnOk P w K mg base CX0 2 f fd aap (spD K 2 q1d):=by
 have h:=fnD (P:=P) (w:=w) (mg:=mg) (base:=base) (k:=1) (body:=q3H) F q1f (λcdv A outer s H E hr=>
   (qb (qq (i:=2) q1f.nd rfl (Or.inl rfl) RT)
   (qb (qq (i:=3) q1f.nd rfl (Or.inl rfl) (XD.toE (XE.toD (Yt (XE.toV (XX (Yp Yr (Yp Yr (Yp FL (Yp FL Yv)))))) (XE.toV (qU pC af))))))
   (qb (qq (i:=4) q1f.nd rfl (Or.inl rfl) GG)
   (qb (q05 PassesOwn.never rfl (qr (XE.toD (XL eJ Ec (XR (XE.toV (qN af oE)))))) (qh (i:=5) q1f.nd rfl aF) (qc (q2t Qq (Xu (Yp Au (Yp Au (Yp (XE.toD (Yt Kh (XE.toV (qU pB af)))) Yv)))))))
   IT)))))
 exact h
noncomputable def q47:FS:=(Y5 (sIf (tOf (Yz jE aT bY)) (zB8 0 (zAQ (Yq Vj Uo))) WO)
  RN)
noncomputable def q0j:List W->Option nG:=mirW 4 q47
noncomputable abbrev q4g:vn:=top 67
theorem qaX:FnScope kd kd (Yu q4g):=ac
theorem q9x(F:Fun K "_law_gone" "_law_gone" q4g f fd):FnOk P w K mg base CX0 1 f fd kd (spW K 4 q0j):=by
 have h:=fnW (P:=P) (w:=w) (mg:=mg) (base:=base) (k:=0) (body:=q47) F qaX (λcdv A outer s H E hr=>
   (qb (qM (WY hr.units gu pC) (qc (qj0 Nj (Xu (Yp X4 Uq)))) qz)
   J7))
 exact h
noncomputable def q2H:FS:=(Y5 (XZ 7 (eOf (dOf (Yz oIx NP (vOf (Yz oMod (vOf (Yz oDiv gz gZ)) cn))))))
  (sIf (zAD (tOf (Yz fI (vOf (Yz oMod gz gZ)) aW)) (tOf (Yz fI fj (vOf GM)))) (zBx 4 pJ q0j (wPw 3 (wSh de (wSh (dOf (Yz oIx aE (vOf (Yz oMod IN Hs)))) (wSh Jf zCC))))) (Y5 (zAK 8 (mPop 5 (dOf (Yz oMod IN (vOf (Xi Ws MM))))))
  (Y5 (zAC pJ q0j (wPw 3 (wSh de (wSh Fm (wSh Jf zCC)))))
  (Y5 iq
  abg)))))
noncomputable def q2X:FS:=(Y5 (zAC pJ q0j (wPw 3 (wSh de (wSh Fm (wSh RE zCC)))))
  (Y5 iq
  abg))
noncomputable def q3g:FS:=(Y5 (XZ 3 GM)
  (Y5 (XZ 4 (eOf io))
  (Y5 (XZ 5 (Xi zAJ (Yq oj Y1)))
  (Y5 (Ww Vs (gN 6) q2H)
  (Xo 5 (Y5 (Ww (Xx ji) (gN 8) q2X)
  (Y5 (zAC pJ q0j (wPw 3 (wSh de (wSh Bw (wSh (dOf (Yz oIx NP (vOf (Yz oMod (vOf Bl) cn)))) zCC)))))
  (Wk 3))))))))
noncomputable def q19:List D->Option O:=mir 9 q3g
noncomputable abbrev q3k:vn:=top 68
theorem qJ:FnScope ["some", "boxes", "cells", "moves", "here", "left", "cell", "side", "k"] N9 (Yu q3k):=ac
variable{fc75:vF}{dc75:vN}(c75:CalW P w K mg base 1 fc75 dc75 "_law_gone" ["moves", "here", "there", "side"] 4 q0j)
include z15 z19 z55 c75 in
theorem q8P(F:Fun K "_law_drawn" "_law_drawn" q3k f fd):FnOk P w K mg base CX0 2 f fd N9 (spD K 3 q19):=by
 have h:=fnD (P:=P) (w:=w) (mg:=mg) (base:=base) (k:=1) (body:=q3g) F qJ (λcdv A outer s H E hr=>
   (qb (qq (i:=3) qJ.nd rfl (Or.inl rfl) GG)
   (qb (qq (i:=4) qJ.nd rfl (Or.inl rfl) (XD.toE bv))
   (qb (qq (i:=5) qJ.nd rfl (Or.inl rfl) (q6d rfl z19 rfl z55 (qm ir qp)))
   (qb (q05 PassesOwn.never rfl (qr iO) (qh (i:=6) qJ.nd rfl aF) (qb (qq (i:=7) qJ.nd rfl (Or.inl rfl) (XD.toE (XE.toD (Yt Kh SZ))))
   (qc (qM (XW.toT (q18 (Wo hr.units (XE.toV (qU BI af)) af) (q1J (Wo hr.units pB (XE.toV GG))))) (qc (qiv (i:=4) qJ.nd rfl (Or.inl rfl) c75 hr (q7m nN (q0R lF (q0R (XE.toD (Yt eJ SZ)) aag))))) (qb (qbx (i:=8) qJ.nd rfl (Or.inl rfl) (qko (pv 5) (XE.toD (qU Ft (XE.toV (qx qu q0g rfl z15 q0i Ml))))))
   (qb (q6t c75 hr (q7m nN (q0R lF (q0R bp aag))))
   (qb rh
   AY)))))))
   (q09 5 (qb (q05 PassesOwn.never rfl (qr CU) (qh (i:=8) qJ.nd rfl aF) (qb (q6t c75 hr (q7m nN (q0R lF (q0R bp (q0R bp q67)))))
   (qb rh
   AY)))
   (qb (q6t c75 hr (q7m nN (q0R lF (q0R bv (q0R (XE.toD (Yt Kh (XE.toV (qU RO af)))) q67)))))
   (qc (q2a nN))))))))))
 exact h
noncomputable def q2L:FS:=(Y5 (sAsg (dOf (fSl du (pAt (vOf (Yz zA5 (vOf (Xi Ws (Yq du Y1))) gZ))) pNo)) (gT 3 (Y4 Qt (Y4 Ue (Y4 (gN 6) Xv)))))
  (sIf (tOf (Yz fI gz aq)) (XZ 2 (eOf (dOf (Yz Xz bY (vOf (Yz oMod (vOf (Yz zA5 fj dU)) aE)))))) (XZ 2 (eOf (dOf (Yz Xz bY (vOf (Yz oMod (vOf (Yz zA5 dU fj)) aE))))))))
noncomputable def q3n:FS:=(Y5 (XZ 2 (eOf aW))
  (Y5 (Ww (Xx aG) (gN 3) q2L)
  RN))
noncomputable def q0I:List D->Option O:=mir 7 q3n
noncomputable abbrev q3B:vn:=top 69
theorem q08:FnScope ["size", "moves", "total", "move", "begin", "end", "side"] rA (Yu q3B):=ac
include z15 in
theorem q8Z(F:Fun K "_law_steps" "_law_steps" q3B f fd):FnOk P w K mg base CX0 1 f fd rA (spD K 2 q0I):=by
 have h:=fnD (P:=P) (w:=w) (mg:=mg) (base:=base) (k:=0) (body:=q3n) F q08 (λcdv A outer s H E hr=>
   (qb (qq (i:=2) q08.nd rfl (Or.inl rfl) KK)
   (qb (q05 PassesOwn.never rfl (qr dN) (qh (i:=3) q08.nd rfl aF) (qb (qjD (XE.toD (XL oE (XR (XE.toV (q1X (XE.toV (qx qu q0g rfl z15 q0i (qm oE qp))) af))) Xk)) (q2C rfl (qG (qh (i:=4) q08.nd rfl aF) (qG (qh (i:=5) q08.nd rfl aF) (qG (qh (i:=6) q08.nd rfl aF) q1C)))))
   (qc (qM (Wo hr.units BI af) (qc (qq (i:=2) q08.nd rfl (Or.inl rfl) (XD.toE (XE.toD (qN pC (XE.toV (qU (XE.toV (q1X pB l7)) eJ))))))) (qc (qq (i:=2) q08.nd rfl (Or.inl rfl) (XD.toE (XE.toD (qN pC (XE.toV (qU (XE.toV (q1X l7 pB)) eJ)))))))))))
   J7)))
 exact h
noncomputable def qcX:FS:=(Y5 (XZ 1 (eOf (dOf (Y0 q1s gM))))
  (Y5 (XZ 2 (eOf (dOf (Y0 q1t fT))))
  (Y5 (XZ 3 (eOf (dOf (Y0 q1d (Yq au Bx)))))
  (Y5 (XZ 4 (eOf (dOf (Y0 q19 (Yq bh (Yq bA (Yq (dOf (fSl aE (pAt (fC (.int 16))) (pAt (fC (.int 63))))) Y1)))))))
  (Y5 (sIf (tOf (Yz (oIs true) (vOf (Y0 q0K (Yq aG (Yq Fk (Yq Fj (Yq Nl Ir)))))) Vl)) bE WO)
  (Y5 (XZ 5 (eOf (dOf (Y0 q0I (Yq aG HS)))))
  (Y5 (XZ 6 (eOf (dOf (Y0 q0S (Yq aG Ir)))))
  (Y5 (sIf (zAD (Xh (WM (vOf (zAM .int gz)))) (zAD (WM (vOf (zAM .bl gz))) (tOf (Yz jE gz fj)))) bE WO)
  (Y5 (sIf (tOf (Yz oLt fj (vOf (Y0 q0o kD)))) bE WO)
  (XU (Yz oGe fj (vOf (Y0 q0I (Yq aG (Yq (dOf (Y0 q1r kD)) Y1)))))))))))))))
noncomputable def q5V:List D->Option O:=mir 7 qcX
noncomputable abbrev q5K:vn:=top 70
theorem q4F:FnScope ["script", "size", "some", "boxes", "moves", "gone", "told"] EW (Yu q5K):=ac
variable{fc76:vF}{dc76:vN}(c76:Cal P w K mg base 2 fc76 dc76 "_law_size" ["script"] 1 q1s)
variable{fc77:vF}{dc77:vN}(c77:Cal P w K mg base 2 fc77 dc77 "_law_menu" ["script", "size"] 2 q1t)
variable{fc78:vF}{dc78:vN}(c78:Cal P w K mg base 2 fc78 dc78 "_law_boxes" ["script", "some"] 2 q1d)
variable{fc79:vF}{dc79:vN}(c79:Cal P w K mg base 2 fc79 dc79 "_law_drawn" ["some", "boxes", "cells"] 3 q19)
variable{fc80:vF}{dc80:vN}(c80:Cal P w K mg base 6 fc80 dc80 "is_ring_tour" ["size", "home", "last", "boxes", "thing"] 5 q0K)
variable{fc81:vF}{dc81:vN}(c81:Cal P w K mg base 1 fc81 dc81 "_law_steps" ["size", "moves"] 2 q0I)
variable{fc82:vF}{dc82:vN}(c82:Cal P w K mg base 2 fc82 dc82 "ring_length" ["size", "moves"] 2 q0S)
variable{fc83:vF}{dc83:vN}(c83:Cal P w K mg base 9 fc83 dc83 "ring_least" ["size", "home", "last", "boxes"] 4 q0o)
variable{fc84:vF}{dc84:vN}(c84:Cal P w K mg base 10 fc84 dc84 "ring_tour" ["size", "home", "last", "boxes"] 4 q1r)
include z9 z10 z11 z12 z13 z19 c76 c77 c78 c79 c80 c81 c82 c83 c84 in
theorem qkr(F:Fun K "law" "law" q5K f fd):FnOk P w K mg base CX0 11 f fd EW (spD K 1 q5V):=by
 have h:=fnD (P:=P) (w:=w) (mg:=mg) (base:=base) (k:=10) (body:=qcX) F q4F (λcdv A outer s H E hr=>
   (qb (qq (i:=1) q4F.nd rfl (Or.inl rfl) (XD.toE (XE.toD (xc c76 hr gO))))
   (qb (qq (i:=2) q4F.nd rfl (Or.inl rfl) (XD.toE (XE.toD (xc c77 hr fU))))
   (qb (qq (i:=3) q4F.nd rfl (Or.inl rfl) (XD.toE (XE.toD (xc c78 hr (Yp cO Eb)))))
   (qb (qq (i:=4) q4F.nd rfl (Or.inl rfl) (XD.toE (XE.toD (xc c79 hr (Yp iO (Yp jM (Yp (XE.toD (XL eJ Ec Ec)) Yv)))))))
   (qb (qM (zBe (XE.toV (xc c80 hr (Yp dN (Yp eN (Yp eN (Yp kg AE)))))) (XD.toV Xw)) cv qz)
   (qb (qq (i:=5) q4F.nd rfl (Or.inl rfl) (XD.toE (XE.toD (xc c81 hr (Yp dN HV)))))
   (qb (qq (i:=6) q4F.nd rfl (Or.inl rfl) (XD.toE (XE.toD (xc c82 hr (Yp dN AE)))))
   (qb (qM (XW.toT (q18 (qW (qF (XE.toV (q0H BI z12 rfl z9 rfl z11 qf1)))) (q18 (qF (XE.toV (q0H BI z13 rfl z9 rfl z10 qb2))) (q1J (WY hr.units BI pB))))) cv qz)
   (qb (qM (qh8 pB (XE.toV (xc c83 hr HX))) cv qz)
   (qc (qj (qdo pB (XE.toV (xc c81 hr (Yp dN (Yp (XE.toD (xc c84 hr HX)) Yv)))))))))))))))))
 exact h
end
set_option compiler.extract_closed false
set_option hygiene false
local macro_rules|`(tactic| simp_arith $c:optConfig [$xs,*])=>`(tactic| simp $c only[qf7,qfC,qhb,qhn,qh4,qcd,e_cw,qhp,qhf,qgY,e_dp,qhj,e_sp,qhO,qhY,qha,qgU,qh7,qhr,qhi,qhR,qhx,qhG,qff,qbl,WI,eq_self,YR,Zq,Zr,reduceCtorEq,qbU,qfk,qec,qbL,e_wd,qeB,e_wz,qeL,qc7,qdV,qbm,qht,qdI,qdR,qh9,qhM,qhw,qef,qgV,qba,qbI,qhs,qe9,qcM,qd0,qhE,qbk,qbb,q0d,qbC,qbX,qgX,qi4,qck,qbF,e_if,qfc,qdB,qhK,qcx,qci,qeM,qc2,qgR,zBM,qhB,q9Q,q5o,qcv,qcb,qh1,e_fs,qhD,e_ag,e_gn,e_gt,e_gc,e_g0,qhd,qcA,qbv,e_c,e_e,e_ed,e_d,qbR,qbN,e_v,qbh,qc8,qbc,e_op,e_o2,qfp,e_cl,qc5,qbT,e_ac,e_ca,e_an,qgW,qh0,qh2,e_bl,qhW,e_sl,e_po,e_pa,e_ap,qhP,qe8,qfm,qhz,q83,q9K,q8y,q8l,q8d,q8q,e_t,e_tr,qen,e_ta,qi1,qhu,e_to,qhF,qdG,e_tn,qdM,qbZ,qav,qdw,e_va,qhQ,qi0,e_vo,qhh,qdW,qdQ,qdH,qhV,qhI,qfv,WQ,qhH,e_ng,qbd,qb1,qbw,q7C,qdF,qfq,qb4,qeV,qeX,qft,qbn,qbO,qhy,qhe,qhL,at0,at1,at2,q1j,qby,zAc,entry,yf,xH,zM,yy,zB,zO,yS,ZK,yP,yT,Zs,wq,wu,xF,xT,Nat.reduceSub,Nat.reduceAdd,Nat.reduceLT,Int.reduceLT,Int.reduceLE,Int.reduceSub,Int.reduceAdd,Int.reduceMul,Int.reduceMod,Int.reduceDiv,Int.reduceNeg,Zx,Int.reduceBEq,YV,↓reduceIte,Zw,Zy,Ze,Yl,wk,YH,Zv,Bool.or_true,wV,Yg,wG,beq_self_eq_true,yF,$xs,*])
set_option compiler.extract_closed true
set_option hygiene true
noncomputable def Xj(p:fW):D:=.tup lB
noncomputable def WL:D->Bool
 | .int _=>true
 | _=>false
noncomputable def nsD:D->Bool
 | .scr _=>false
 | .exc _=>false
 | .dic _ _=>false
 | _=>true
noncomputable def noScr:D->Bool
 | .scr _=>false
 | .exc _=>false
 | .dic _ _=>false
 | .tup [a,b]=>nsD a&&nsD b
 | _=>true
noncomputable def isBoxL:List D->Bool
 | []=>false
 | [_]=>false
 | [a,b]=>WL a&&WL b
 | _::_::_::_=>false
noncomputable def zA9:D->Bool
 | .tup ds=>isBoxL ds
 | _=>false
theorem q1w{d:D}(h:nsD d=true):qH [d]=↥(.bl (WL d)):=by
 cases d <;> first|rfl|cases h
theorem qk9{d:D}(h:noScr d=true):q3t [d]=↥(.bl (zA9 d)):=by
 unfold q3t q6K
 match d,h with
 | .non,_=>rfl
 | .bl _,_=>rfl
 | .int _,_=>rfl
 | .str _,_=>rfl
 | .lst _,_=>rfl
 | .tup [],_=>rfl
 | .tup [_],_=>simp_arith[q0d];rfl
 | .tup [a,b],h=>
  have h':=Zh.mp (show (_&&_)=true from h);have ha:=q1w h'.1;have hb:=q1w h'.2;simp_arith[ha,hb];simp_arith[show (((0+1+1:Nat):Int)==2)=true from rfl,ha,hb];cases a <;> cases b <;> rfl
 | .tup (a::b::c::r),_=>
  have hn:(((a::b::c::r).length:Int)==2)=false:=by
   simp only[zM,beq_eq_false_iff_ne,ne_eq];omega
  simp only[zM]at hn;simp_arith[hn];rfl
theorem q6w:∀(q:D->Bool)(ds:aO),allB N5=some (ds.all q)
 | _,[]=>rfl
 | q,d::ds=>by
  show (allB N5).map _=_;rw[q6w q ds];rfl
theorem qdP{h l:D}{ds:aO}(hh:nsD h=true)(hl:nsD l=true)(hd:∀d∈ds,noScr d=true)(hlen:Je):
  q0X [h,l,fK]=↥(.bl (WL h&&(WL l&&ds.all zA9))):=by
 unfold q0X q49;have e1:=q1w hh;have e2:=q1w hl;simp_arith[e1,e2,WQ hlen];cases WL h <;> cases WL l <;> simp_arith[e2,WQ hlen] <;> first|rfl|skip
 rw[q82 (λd=>D.bl (zA9 d))]
 ·simp_arith[zAy,q6w]
 ·intro d hd'
  unfold q5r;simp_arith[inW,qk9 (hd d hd')]
noncomputable def flat(bs:ah):List Int:=bs.flatMap λp=>[p.1,p.2]
noncomputable def plc(h l:Int)(bs:ah):List Int:=h::l::flat bs
theorem qga(bs:ah)(p:fW):flat (bs++[p])=flat bs++[p.1,p.2]:=by simp[flat]
theorem q4G(bs:ah):(flat bs).length=2*bs.length:=by
 induction bs with
 | nil=>rfl
 | cons p r ih=>simp[flat]at ih ⊢;omega
theorem qji(h l:Int)(bs:ah)(p:fW):plc h l (bs++[p])=plc h l bs++[p.1,p.2]:=by unfold plc;rw[qga];rfl
theorem zAe(x:Int):nsD Ix=true:=rfl
theorem qeH(p:fW):zA9 LT=true:=rfl
theorem qey(bs:ah):(bs.map Xj).all zA9=true:=by
 rw[ZN];exact yv.mpr λp _=>qeH p
theorem qe4{h l:Int}{bs:ah}(hb:bs.length<=1000):q0X aa9=↥cZ:=by
 have:=qdP (h:=.int h) (l:=.int l) (ds:=bs.map Xj) (zAe h) (zAe l) (λd hd=>by
  obtain⟨p,_,rfl⟩:=zT.mp hd;rfl) (by rw[zB];omega)
 rw[qey]at this;exact this
theorem qaa{h l:Int}{bs:ah}(hb:bs.length<=1000):q0l aa9=some Ic:=by
 unfold q0l q2d;simp_arith[qe4 hb]
theorem qgA{h l:Int}{bs:ah}(hb:PP):q4r aa9=some Nt:=by
 unfold q4r q7T;simp_arith[qaa (show bs.length<=1000 by omega)];obtain⟨ω',e,x4,rfl⟩:=qP (g:=gN 4) (b:=q6G) Xj bs
  (λpre ω=>∃x4,ω=[↥cu,↥cQ,↥kL,HH,x4])
  (λpre p post ω hd ⟨x4,hω⟩=>by
   subst hω;refine da;unfold q6G;have hl:(plc h l pre).length<=1000:=by
    have:=vm yh hd;rw[zE,zM]at this;show (flat pre).length+1+1<=1000;rw[q4G];omega
   have e1:=q9Q (i:=3) (ω:=[↥cu,↥cQ,↥kL,HH,↥LT]) (ds:=(plc h l pre).map D.int) (ds':=lB) (by rw[zB,zM,zi];omega);simp_arith[q0d];show zAm (extS 3 _ (some LT) _) _;rw[show Xj p=D.tup lB from rfl]at e1 ⊢;rw[e1,qji,zN];exact cf)
  (ω:=[↥cu,↥cQ,↥kL,some (.ow [cu,cQ]),none]) ⟨none,rfl⟩
 simp_arith[e];have hlen:(plc h l bs).length<64:=by
  show (flat bs).length+1+1<64;rw[q4G];omega
 have:W1 du [↥cu,↥cQ,↥kL,some (.ow Cy),x4]=some Nt:=by
  show zAR (.lst Cy)=_;show (intsOf Cy).bind _=_;rw[q0N];exact vC (qjO hlen)
 simp_arith[this]
theorem q85:∀(xs ys:aa),ZO pairD nB abT=(xs.zip ys).map Xj
 | [],_=>rfl
 | _::_,[]=>rfl
 | x::xs,y::ys=>by
  show _::ZO pairD nB abT=_::(xs.zip ys).map Xj;rw[q85 xs ys];rfl
theorem qg6(ds:aO):cutD ds FH none=ds.drop 1:=by
 unfold cutD;have e:HT.sIx ds.length 0 FH=min 1 ds.length:=HT.q39 ds.length 0 1;rw[e,HT.q4M];cases ds with
 | nil=>rfl
 | cons d r=>
  have:min 1 (d::r).length=1:=by rw[zM];omega
  rw[this];show List.take _ r=r;rw[zM,Z4,wO]
structure Stp (P:List Int):Prop where
 ne:P≠[]
 rise:P.Pairwise (· < ·)
 len:P.length<=1000
theorem stp(h l:Int){bs:ah}(hb:PP):Stp (XF Dy):=by
 refine⟨λe=>?_,qX,?_⟩
 ·have:h∈XF Dy:=qQ.mpr (by simp[plc])
  rw[e]at this;simp at this
 ·have:(XF Dy).length<=(plc h l bs).length:=q3R _
  have h2:(plc h l bs).length=2*bs.length+2:=by show (flat bs).length+1+1=_;rw[q4G]
  omega
theorem q1i{α:Type}{g:FG}{c:FT}{f:FD}(P:pP)(q:α->Bool)(B F:α->D):∀(xs:bN){ω:WSt},P ω ->
  (∀x∈xs,∀ω,P ω->∃w,g (B x) ω=some w/\P w/\c w=some (q x)/\(q x=true->f w=some (F x)))->X0 g c f Tx ω=some EI
 | [],_,_,_=>rfl
 | x::xs,ω,h,t=>by
  obtain⟨w,h1,h2,h3,h4⟩:=t x zG ω h;have ih:=q1i P q B F xs h2 VP;rw[zO,X0,h1,yf,h3,yf];cases hq:q x with
  | true=>rw[jT,h4 hq,yf,ih,xz hq];rfl
  | false=>rw[vG (by decide),ih,wA (by rw[hq];decide)]
theorem q35{α:Type}{i:Nat}{c:FT}{f:FD}(q:α->Bool)(B F:α->D)(xs:bN){ω:WSt}(h:∀x∈xs,c Ga=some (q x)/\(q x=true->f Ga=some (F x))):X0 Ud c f Tx ω=some EI :=
 q1i (g:=gN i) (c:=c) (f:=f) (λw=>∀x,w.set i x=ω.set i x) q B F xs (ω:=ω) (λx=>rfl) λd hd w hw=>
  ⟨w.set i ↥(B d),rfl,λx=>by rw[List.set_set,hw],by rw[hw];exact(h d hd).1,λz=>by rw[hw];exact(h d hd).2 z⟩
theorem qB{α:Type}{i:Nat}{f:FD}(B F:α->D)(xs:bN){ω:WSt}(h:∀x∈xs,f Ga=some (F x)):X0 Ud XQ f Tx ω=some (xs.map F):=by
 have:=q35 (c:=XQ) (i:=i) (f:=f) B6 B F xs (ω:=ω) λx hx=>⟨rfl,λ_=>h x hx⟩;rw[this,HF]
theorem qe5{α:Type}(f:k7):∀bs:List α,zCD Nn=some (bs.map f).sum
 | []=>rfl
 | b::r=>by
  show (zCD (r.map λp=>D.int (f p))).map _=_;rw[qe5 f r];rfl
theorem q7a{α:Type}(f:k7)(bs:bN):zCI [.lst Nn]=↥(.int (bs.map f).sum):=by
 show (zCD _).map _=_;rw[qe5];rfl
theorem q4X{ns:aa}{k:Int}(h:Tc):q0k [mM,kY]=↥(.int (ns.getD k.toNat 0)):=by
 unfold q0k q4l
 by_cases hk:k<ns.length
 ·simp_arith[hk,decide_true,q0z h hk]
  simp[zV,zD (show k.toNat<ns.length by omega)]
 ·simp_arith[hk,decide_false]
  simp[zV,yA (show ns.length<=k.toNat by omega)]
theorem q74{ds:aO}{i:Int}(P:D->Prop)(h0:0<=i)(h1:i<ds.length)(h:∀d∈ds,P d):∃d,atI ds i=some d/\P d :=
 ⟨_,q0z h0 h1,h _ UW⟩
noncomputable def tri(x:ag):D:=.tup [.int x.1,.int x.2.1,.int x.2.2]
theorem qiw{ns:aa}:∃n:Int,q1s [mM]=↥bI/\1<=n/\n<=10^39:=by
 unfold q1s q42;have hc:=q4X (ns:=ns) (k:=0) (by decide);generalize ns.getD (Zm 0) 0=c at hc;have p39:oPow (.int 10) (.int 39)=↥(.int (10^39)):=rfl;have md:∀x,oMod Ix (.int (10^39))=↥(.int (x%10^39)):=λx=>q1j (by decide);simp only[Zx]at p39 md ⊢;obtain⟨d,hd,n,rfl,hn⟩:=q74 (ds:=[.int (1+c/4%12),.int (1+c/4%100),.int (1+c/4%1000000000000000000000000000000000000000),.int 24]) (i:=c%4) (λd=>∃n:Int,d=D.int n/\1<=n/\n<=1000000000000000000000000000000000000000) ∅ (show c%4<4 by omega) (by
  intro d hd;simp only[zK,zq,or_false]at hd;rcases hd with rfl|rfl|rfl|rfl
  ·exact Hw
  ·exact Hw
  ·exact Hw
  ·exact⟨_,rfl,by decide,by decide⟩)
 simp_arith[hc,p39,md,hd];exact⟨n,rfl,hn⟩
theorem qgQ{ns:aa}{n:Int}(hn:1<=n):∃ps:List Int,q1t [mM,bI]=some (.fr fA)/\ps.length=7/\∀p∈ps,0<=p/\p<n:=by
 unfold q1t q3T;have rg:rg1I (some [.int 7])=some (upTo 0 7):=rfl;obtain⟨ω',e,ps,y3,y4,rfl,i1,i2⟩:=qep (g:=gN 3) (b:=q3D) 0 7
  (λi ω=>∃(ps:aa) (y3 y4:cc),ω=[↥mM,↥bI,some (.ow fA),y3,y4]/\ps.length=i/\∀p∈ps,0<=p/\p<n)
  (λi ω hi ⟨ps,y3,y4,hω,i1,i2⟩=>by
   subst hω;refine da;have hc:=q4X (ns:=ns) (k:=2+(0+mX)) ∅;generalize ns.getD (2+(0+mX)).toNat 0=c at hc;obtain⟨d,hd,q,rfl⟩:=q74 (ds:=[.int (0+mX+c/3),.int (c/3),.int (-1-c/3)]) (i:=c%3) (λd=>∃q:Int,d=D.int q) ∅ (show c%3<3 by omega) (by
    intro d hd;simp only[zK,zq,or_false]at hd;rcases hd with rfl|rfl|rfl <;> exact cf)
   have md:oMod (.int q) bI=↥(.int (q%n)):=q1j ∅;have hll:(ps.map D.int).length<1000000:=by rw[zB];omega
   unfold q3D;simp_arith[hc,hd,md];rw[zBM hll,q7C];refine⟨ps++[q%n],_,_,by rw[zN];rfl,by rw[zE,i1];rfl,λp hp=>?_⟩;rcases zL.mp hp with y|y
   ·exact i2 p y
   ·cases zR.mp y
    exact⟨xw _ ∅,wx _ ∅⟩)
  (ω:=[↥mM,↥bI,mQ,none,none]) ⟨[],none,none,rfl,rfl,by simp⟩
 have hc:=q4X (ns:=ns) (k:=1) (by decide);generalize ns.getD (Zm 1) 0=c at hc
 match ps,i1,i2,e with
 | p0::p1::r,i1,i2,e=>
  by_cases z:c/28%3=1
  ·simp_arith[rg,e,hc,z]
   refine⟨p0::p0::r,?_,i1,Ai⟩
   ·rw[qjb (by decide) (by simp;omega)]
    rfl
   ·rcases zK.mp hp with rfl|hp
    ·exact i2 _ zG
    ·rcases zK.mp hp with rfl|hp
     ·exact i2 _ zG
     ·exact i2 p (by simp[hp])
  ·have z':(c/28%3==1)=false:=by simpa using z
   simp_arith[rg,e,hc,z'];exact⟨p0::p1::r,rfl,i1,i2⟩
theorem zCB{xs:aa}(h7:xs.length=7)(x:Int):∃y,y∈xs/\atI nB (x%7)=some (.int y):=by
 refine⟨xs[(x%7).toNat]'∅,UW,?_⟩;rw[q0z ∅ (by rw[zB];omega),xX]
theorem qfz{ns ps:aa}(h7:TQ)(hl:ns.length<=63):∃bs:List ag,q1d [mM,.lst fA]=some (.fr A4)/\(∀b∈bs,b.1∈ps/\b.2.1∈ps/\eT)/\bs.length<=5:=by
 unfold q1d q3H;have hc:=q4X (ns:=ns) (k:=1) (by decide);generalize ns.getD (Zm 1) 0=c at hc;obtain⟨d,hd,k,rfl,hk⟩:=q74 (ds:=[acE,acE,.int (c/4%6),.int (c/4%3)]) (i:=c%4) (λd=>∃k:Nat,d=D.int bz/\k<=5) ∅ (show c%4<4 by omega) (by
  intro d hd;simp only[zK,zq,or_false]at hd;rcases hd with rfl|rfl|rfl|rfl
  ·exact⟨5,rfl,by decide⟩
  ·exact⟨5,rfl,by decide⟩
  ·exact⟨(c/4%6).toNat,by rw[Zt ∅],∅⟩
  ·exact⟨(c/4%3).toNat,by rw[Zt ∅],∅⟩)
 simp_arith[hc,hd,qhJ];have hcl:(cutD ns (some 9) NQ).length<=5:=by
  have e1:HT.sIx ns.length 0 (some 9)=min 9 ns.length:=HT.q39 ns.length 0 9;have e2:HT.sIx ns.length ns.length NQ=min (9+k) ns.length:=by
   have:=HT.q39 ns.length ns.length (9+k);rw[show ((9+k:Nat):Int)=9+bz by omega]at this;exact this
  unfold cutD;rw[e1,e2,zr];omega
 generalize cutD ns (some 9) NQ=cells at hcl;obtain⟨ω',e,bs,x5,rfl,i1,i2⟩:=qP (g:=gN 5) (b:=q2Q) D.int cells
  (λpre ω=>∃(bs:bP) (x5:cc),ω=[↥mM,Bu,↥mU,↥oT,some (.ow A4),x5]/\(∀b∈bs,b.1∈ps/\b.2.1∈ps/\eT)/\bs.length=pre.length)
  (λpre x post ω hd' ⟨bs,x5,hω,i1,i2⟩=>by
   subst hω;refine da;have hp:pre.length<cells.length:=by rw[hd',zE,zM];omega
   obtain⟨y1,m1,a1⟩:=zCB h7 (x/2);obtain⟨y2,m2,a2⟩:=zCB h7 (x/14);obtain⟨d,hd,q,rfl,hq⟩:=q74 (ds:=[a9,Id]) (i:=x%2) (λd=>∃q:Int,d=D.int q/\(q=1\/q=-1)) ∅ (show x%2<2 by omega) (by
    intro d hd;simp only[zK,zq,or_false]at hd;rcases hd with rfl|rfl
    ·exact⟨_,rfl,bD⟩
    ·exact⟨_,rfl,Iy⟩)
   have hll:(bs.map tri).length<1000000:=by rw[zB];omega
   unfold q2Q;simp_arith[a1,a2,hd,zBM hll];refine⟨bs++[(y1,y2,q)],_,by rw[zN];rfl,λb hb=>?_,by rw[zE,zE,i2];rfl⟩;rcases zL.mp hb with y|y
   ·exact i1 b y
   ·cases zR.mp y;exact⟨m1,m2,hq⟩)
  (ω:=[↥mM,Bu,↥mU,↥oT,mQ,none]) ⟨[],none,rfl,by simp,rfl⟩
 simp_arith[e];exact⟨bs,rfl,i1,∅⟩
noncomputable def wD:D->Bool
 | .int _=>true
 | _=>false
noncomputable def plD:D->Bool
 | .scr _=>false
 | .exc _=>false
 | .dic _ _=>false
 | _=>true
noncomputable def smD:D->Bool
 | .int w=>decide (w.natAbs<2^200)
 | d=>plD d
noncomputable def plB:D->Bool
 | .tup ds=>ds.all smD
 | d=>plD d
noncomputable def plL:D->Bool
 | .lst ds=>ds.all plB&&decide (ds.length<=20)
 | d=>plD d
noncomputable def inD(n:Int):D->Bool
 | .int x=>decide (0<=x)&&decide (x<n)
 | _=>false
noncomputable def zBr:D->Bool
 | .int w=>w==1 || w == -1
 | _=>false
noncomputable def zB2(n:Int):D->Bool
 | .tup [x,y,w]=>inD n x&&(inD n y&&zBr w)
 | _=>false
noncomputable def isRd:D->D->D->D->Bool
 | .int n,h,l,.lst ds=>inD n h&&BJ
 | _,_,_,_=>false
theorem qdb{d:D}(h:smD d=true):plD d=true:=by cases d <;> first|rfl|cases h
theorem q5v{d:D}(h:aah):qH [d]=↥(.bl (wD d)):=by
 cases d <;> first|rfl|cases h
theorem qiY(w:Int):oIn false jw (.tup [a9,Id])=↥(.bl (w==1 || w == -1)):=by
 have e:=q9c w [1,-1];have h:(WE jw&&([1,-1].map D.int).all WE)=true:=rfl;show (if (WE jw&&([1,-1].map D.int).all WE)=true then some (R.sh (D.bl (Hk.inD jw ([1,-1].map D.int))))else none)=_;rw[vC h,e]
 congr 3
 by_cases a:w=1 <;> by_cases b:w=-1 <;> simp[a,b]
theorem qbq{d:D}(h:aah):q26 [d]=↥(.bl (zBr d)):=by
 unfold q26 q6M;have e:=q5v h;cases d with
 | int w=>simp_arith[e,wD,qiY,zBr]
 | _=>first|(simp_arith[e,wD,zBr];done)|cases h
theorem q2A{n:Int}{d:D}(h:aah):qT [bI,d]=↥(.bl (inD n d)):=by
 unfold qT q3V;have e:=q5v h;cases d with
 | int x=>
  simp_arith[e,wD,inD,ge_iff_le]
 | _=>first|(simp_arith[e,wD,inD];done)|cases h
theorem qkC{n:Int}{d:D}(h:plB d=true):q0P [bI,d]=↥(.bl VS):=by
 unfold q0P q2V
 match d,h with
 | .non,_=>rfl
 | .bl _,_=>rfl
 | .int _,_=>rfl
 | .str _,_=>rfl
 | .lst _,_=>rfl
 | .tup [],_=>rfl
 | .tup [_],_=>rfl
 | .tup [_,_],_=>rfl
 | .tup (a::b::c::e::r),_=>
  have hn:(((a::b::c::e::r).length:Int)==3)=false:=by
   simp only[zM,beq_eq_false_iff_ne,ne_eq];omega
  simp only[zM]at hn;simp_arith[hn];rfl
 | .tup [a,b,c],h=>
  have h':smD a=true/\smD b=true/\smD c=true:=by simpa [plB]using h
  have e1:=q2A (n:=n) (qdb h'.1);have e2:=q2A (n:=n) (qdb h'.2.1);have e3:=qbq (qdb h'.2.2);have e4:OB=true:=rfl;simp_arith[e1,e2,e3];simp_arith[e4,e1,e2,e3];show _=some (O.sh (D.bl (inD n a&&(inD n b&&zBr c))));cases inD n a <;> cases inD n b <;> simp_arith[q0d]
theorem qem(n h l b:D)(hn:plD n=true)(hh:plD h=true)(hl:plD l=true)(hb:plL b=true):q2F [n,h,l,b]=↥(.bl (isRd n h l b)):=by
 unfold q2F q5H;have e1:=q5v hn;cases n with
 | int n=>
  have e2:=q2A (n:=n) hh;have e3:=q2A (n:=n) hl;have no:∀{b:D},(inD n h=false\/inD n l=false)->isRd bI h l b=false:=by
   intro b z;cases b with
   | lst ds=>
    show (inD n h&&BJ)=false;rcases z with z|z <;> rw[z]
    ·rfl
    ·cases inD n h <;> rfl
   | _=>rfl
  cases z1:inD n h with
  | false=>simp_arith[e1,wD,e2,z1,no (.inl z1)]
  | true=>
   cases z2:inD n l with
   | false=>simp_arith[e1,wD,e2,e3,z1,z2,no (.inr z2)]
   | true=>
    cases b with
    | lst ds=>
     have hb':ds.all plB=true/\ds.length<=20:=by simpa [plL]using hb
     have hll:ds.length<=1000000:=∅
     have cm:X0 jN XQ q4U ds RJ=some (ds.map λd=>D.bl VS):=by
      refine q82 (λd=>D.bl VS) ds λd hd=>?_;have:=qkC (n:=n) (yv.mp hb'.1 d hd);unfold q4U;simp_arith[this]
     simp_arith[e1,wD,e2,e3,z1,z2,WQ hll,inW,WZ,cm,zAy,q6w];show _=some (O.sh (D.bl (inD n h&&BJ)));rw[z1,z2];rfl
    | _=>first|(simp_arith[e1,wD,e2,e3,z1,z2,isRd];done)|cases hb
 | _=>first|(simp_arith[e1,wD,isRd];done)|cases hn
theorem q8B{n h l:Int}{bs:bP}(hn:n<=10^39)(hh:LA)(hl:Lz)(hb:iH)(hbs:∀b∈bs,Ay/\n8/\eT):
  q0J gm=some Ic:=by
 have smD':∀{x:Int},x.natAbs<=10^39->smD Ix=true:=λ{x} hx=>by
  show decide (x.natAbs<2^200)=true;exact vO (xx hx (by decide))
 have pb:(bs.map tri).all plB=true:=by
  rw[ZN];refine yv.mpr λb hb=>?_;obtain⟨a1,a2,a3⟩:=hbs b hb;show (smD AL&&(smD oi&&(smD CL&&true)))=true;rw[smD' ∅,smD' ∅,smD' ∅];rfl
 have pL:plL av=true:=by
  show ((bs.map tri).all plB&&decide ((bs.map tri).length<=20))=true;rw[pb,zB];simp;omega
 have e:=qem bI cu cQ av rfl rfl rfl pL;have ok:isRd bI cu cQ av=true:=by
  show (inD n cu&&(inD n cQ&&(bs.map tri).all (zB2 n)))=true;have i1:∀{x:Int},0<=x/\x<n->inD n Ix=true:=λ{x} hx=>by
   show (decide (0<=x)&&decide (x<n))=true;simp;exact hx
  rw[i1 hh,i1 hl,ZN];show bs.all _=true;refine yv.mpr λb hb=>?_;obtain⟨a1,a2,a3⟩:=hbs b hb;show (inD n AL&&(inD n oi&&zBr CL))=true;rw[i1 a1,i1 a2];show (b.2.2==1 || b.2.2 == -1)=true;rcases a3 with z|z <;> rw[z] <;> rfl
 rw[ok]at e;unfold q0J q3E;simp_arith[e]
noncomputable def two(b:ag):Int×Int:=(b.1,b.2.1)
theorem q6F{bs:bP}(hb:iH):q03 [av]=some (.fr gR):=by
 unfold q03 q2m;have hl:(bs.map tri).length<=1000000:=by rw[zB];omega
 have cm:=qB (i:=0) (f:=q3M) tri (λb=>Xj (two b)) bs (ω:=EV) (λb _=>rfl);simp_arith[WQ hl,inW,WZ,cm];rw[zj];rfl
noncomputable def rnd(P:aa):List fW:=P.zip (P.drop 1++P.take 1)
theorem qjr(ds:aO):cutD ds none FH=ds.take 1:=by
 unfold cutD;have e:HT.sIx ds.length ds.length FH=min 1 ds.length:=HT.q39 ds.length ds.length 1;rw[e,HT.q4M,YJ,wp,Zc];omega
theorem q9G{n h l:Int}{bs:bP}(hn:n<=10^39)(hh:LA)(hl:Lz)(hb:iH)(hbs:∀b∈bs,Ay/\n8/\eT):
  q16 gm=some (.fr ((rnd (XF cG)).map Xj)):=by
 unfold q16 q4h;have c:=q8B hn hh hl hb hbs;have w:=q6F hb;have s:=qgA (h:=h) (l:=l) (bs:=bs.map two) (by rw[zB];omega);have sl:(XF cG).length<=1000:=(stp h l (bs:=bs.map two) (by rw[zB];omega)).len;generalize XF cG=P at s sl;have ad:Xz (.lst (cutD Oi FH none)) (.lst (cutD Oi none FH))=some (.fr Jv):=by
  rw[qg6,qjr,<- ZE,<- ZD,zN];exact vC (by rw[zB,zB,yN,zr];omega)
 have hz:WW [.lst Oi,.lst Jv]=some (.fr ((rnd P).map Xj)):=by
  show some (R.fr (ZO pairD _ _))=_;rw[q85];rfl
 simp_arith[c,w,s,qi2,ad,hz]
inductive Rch (es:List (Int×Int)) (a:Int):Int->Prop where
 | refl:Rch es a a
 | step {b c:Int}:Rch es a b->((b,c)∈es\/(c,b)∈es)->Rch es a c
theorem Rch.trans{es:ah}{a b c:Int}(h:Rch es a b)(h':Rch es b c):Rch es a c:=by
 induction h' with
 | refl=>exact h
 | step _ e ih=>exact ih.step e
theorem Rch.symm{es:ah}{a b:Int}(h:Rch es a b):Rch es b a:=by
 induction h with
 | refl=>exact .refl
 | step _ e ih=>exact(Rch.refl.step e.symm).trans ih
theorem Rch.inv{es:ah}{a:Int}(P:Int->Prop)(h0:P a)(hs:∀b c,P b->((b,c)∈es\/(c,b)∈es)->P c){c:Int}(h:abq):P c:=by
 induction h with
 | refl=>exact h0
 | step _ e ih=>exact hs _ _ ih e
theorem q6D{α β:Type}(f:SD):∀(ks:aa)(xs:bN)(k:Int),XC ks (xs.map f) k=(XC ks xs k).map f
 | [],_,_=>rfl
 | _::_,[],_=>rfl
 | k'::ks,x::xs,k=>by
  show (if k'=k then some (f x)else XC ks (xs.map f) k)=(if k'=k then some x else XC ks xs k).map f
  by_cases z:k'=k
  ·rw[fG,fG];rfl
  ·rw[fm,fm,q6D f ks xs k]
theorem q3J{α:Type}:∀{ks:aa}{xs:bN}{k:Int},ks.length=xs.length->(XC ks xs k).isSome=decide (k∈ks)
 | [],[],_,_=>rfl
 | [],_::_,_,h=>by simp at h
 | _::_,[],_,h=>by simp at h
 | k'::ks,x::xs,k,h=>by
  show (if k'=k then some x else XC ks xs k).isSome=_
  by_cases z:k'=k
  ·rw[fG];simp[z]
  ·have z':¬k=k':=λy=>z y.symm
   rw[fm,q3J ⇑h];simp[z']
theorem q6J:∀(ks:aa)(xss:eO)(a' b a:Int),XC ks aas a=(XC ks xss a).map λxs=>if a=a' then xs++[b]else xs
 | [],_,_,_,_=>rfl
 | _::_,[],_,_,_=>rfl
 | k::ks,x::xss,a',b,a=>by
  unfold Wf
  by_cases z:k=a'
  ·rw[fG]
   show (if k=a then some Q5 else XC ks xss a)=(if k=a then some x else XC ks xss a).map _
   by_cases y:k=a
   ·rw[JZ,JZ,xH,vC (y▸z)]
   ·rw[K3,K3]
    have:¬a=a':=λe=>y (z.trans e.symm);cases XC ks xss a with
    | none=>rfl
    | some v=>rw[xH,vG this]
  ·rw[fm]
   show (if k=a then some x else XC ks aas a)=(if k=a then some x else XC ks xss a).map _
   by_cases y:k=a
   ·have:¬a=a':=λe=>z (y.trans e)
    rw[JZ,JZ,xH,vG this]
   ·rw[K3,K3];exact q6J ks xss a' b a
theorem qin(ts:aa)(a:Int)(ha:a∈ts):∀(es:ah),∃xs,XC ts (nbT ts es) a=some xs/\∀c,c∈xs↔((a,c)∈es\/(c,a)∈es):=by
 intro es;have key:∀(post pre:ah)(T:eO)(xs:aa),XC ts T a=some xs->(∀c,c∈xs↔((a,c)∈pre\/(c,a)∈pre))->∃xs',XC ts (post.foldl Vt T) a=some xs'/\∀c,c∈xs'↔((a,c)∈pre++post\/(c,a)∈pre++post):=by
  intro post
  induction post with
  | nil=>intro pre T xs h1 h2;exact⟨xs,h1,by rw[zo];exact h2⟩
  | cons e post ih=>
   intro pre T xs h1 h2;have h3:XC ts (WG ts T e) a=some (let ys:=if a=e.1 then xs++[e.2]else xs;if a=e.2 then ys++[e.1]else ys):=by
    unfold WG;rw[q6J,q6J,h1];rfl
   obtain⟨xs',g1,g2⟩:=ih (pre++[e]) (WG ts T e) _ h3 (λc=>by
    obtain⟨e1,e2⟩:=e;have m:∀x y:Int,(x,y)∈pre++[(e1,e2)]↔(x,y)∈pre\/(x=e1/\y=e2):=λx y=>by simp
    rw[m,m]
    by_cases y1:a=e1 <;> by_cases y2:a=e2 <;> simp[y1,y2,h2] <;> (try subst y1) <;> (try subst y2) <;> simp_all <;> grind)
   refine⟨xs',g1,λc=>?_⟩;rw[g2,yB];rfl
 have h0:XC ts LL a=some []:=by
  have:(XC ts LL a).isSome=true:=by rw[q3J (by rw[zB]),vO ha]
  obtain⟨x,hx⟩:=yu.mp this;rw[q6D]at hx ⊢;obtain⟨y,hy,e⟩:=wF.mp hx;rw[hy];rfl
 obtain⟨xs',g1,g2⟩:=key es [] _ [] h0 (by simp);exact⟨xs',g1,by simpa using g2⟩
structure Ok (ts:List Int) (es:List (Int×Int)):Prop where
 nd:ts.Nodup
 inn:∀e∈es,e.1∈ts/\e.2∈ts
 l1:ts.length<64
 l2:es.length<=1000
noncomputable def nbD(ts:aa)(es:ah):List D:=(nbT ts es).map λxs=>.lst nB
theorem q8V{ts:aa}{es:ah}(h:Om):q1T [bw,.lst Cj]=↥dj:=by
 have hl:=h.l1;have e:nbM cj Cj=some dj:=by
  unfold nbM;rw[q0N,q44];exact vC ⟨h.nd,h.inn,∅,h.l2⟩
 show outM ((nbM cj Cj).map _)=_;rw[e];rfl
theorem Rch.mem{ts:aa}{es:ah}(h:Om){a c:Int}(ha:a∈ts)(r:abq):c∈ts :=
 r.inv (λx=>x∈ts) ha λb c _ e=>by
  rcases e with e|e
  ·exact(h.inn _ e).2
  ·exact(h.inn _ e).1
noncomputable def WK(F:aa):List D:=F.map λ_=>.bl true
theorem q8z(F:aa):F.length=(WK F).length:=by unfold WK;rw[zB]
theorem qcj{F:aa}{c:Int}(h:c∉F):WN F c=F++[c]/\putA F (WK F) c cZ=WK (F++[c]):=by
 unfold WN putA WK;rw[vG h,vG h,zN];exact cH
theorem q24:∀{F ts:aa},F.Nodup->(∀c∈F,c∈ts)->F.length<=ts.length
 | [],_,_,_=>yG _
 | a::r,ts,hn,hs=>by
  obtain⟨h1,h2⟩:=yZ.mp hn;have ha:=hs a zG;have:=q24 (F:=r) (ts:=ts.erase a) h2 λc hc=>(List.mem_erase_of_ne (show c≠a from λz=>h1 (by rw[<- z];exact hc))).mpr (hs c (zH _ hc));rw[ZG ha]at this;have hp:0<ts.length:=List.length_pos_of_mem ha;rw[zM];omega
structure GI (ts:List Int) (es:List (Int×Int)) (a:Int) (F Wt:List Int):Prop where
 nd:F.Nodup
 st:a∈F
 wl:Wt.length<=F.length
 w:∀c∈Wt,c∈F
 r:∀c∈F,Rch es a c
 cl:∀b∈F,b∉Wt->∀c,((b,c)∈es\/(c,b)∈es)->c∈F
theorem qaC{ts:aa}{es:ah}(h:Om){a:Int}(ha:a∈ts):
  ∃F:List Int,q1P [cY,dj]=some (.fr oV)/\F.Nodup/\∀c,c∈F↔Rch es a c:=by
 unfold q1P q51;simp_arith[q0d];have hl1:=h.l1;obtain⟨ω',e,F,x4,x5,rfl,gi⟩:=qkq (fc:=q2r) (fb:=q4i) (n:=1000000)
  (λω=>∃(F Wt:aa) (x4 x5:cc),ω=[↥cY,↥dj,HJ,some (.ow (Wt.map D.int)),x4,x5]/\GI ts es a F Wt)
  (λω=>match ω with
   | [_,_,some (.od F _),some (.ow w),_,_]=>Ri+w.length
   | _=>0)
  (λω=>∃(F:aa) (x4 x5:cc),ω=[↥cY,↥dj,HJ,mQ,x4,x5]/\GI ts es a F [])
  (λω ⟨F,Wt,x4,x5,hω,gi⟩ hf=>by
   subst hω;unfold q2r at hf;simp -implicitDefEqProofs only[qf7,qfC,qhb,qhn,qh4,qcd,e_cw,qhp,qhf,qgY,e_dp,qhj,e_sp,qhO,qhY,qha,qgU,qh7,qhr,qhi,qhR,qhx,qhG,qff,qbl,WI,eq_self,YR,Zq,Zr,reduceCtorEq,qbU,qfk,qec,qbL,e_wd,qeB,e_wz,qeL,qc7,qdV,qbm,qht,qdI,qdR,qh9,qhM,qhw,qef,qgV,qba,qbI,qhs,qe9,qcM,qd0,qhE,qbk,qbb,q0d,qbC,qbX,qgX,qi4,qck,qbF,e_if,qfc,qdB,qhK,qcx,qci,qeM,qc2,qgR,zBM,qhB,q9Q,q5o,qcv,qcb,qh1,e_fs,qhD,e_ag,e_gn,e_gt,e_gc,e_g0,qhd,qcA,qbv,e_c,e_e,e_ed,e_d,qbR,qbN,e_v,qbh,qc8,qbc,e_op,e_o2,qfp,e_cl,qc5,qbT,e_ac,e_ca,e_an,qgW,qh0,qh2,e_bl,qhW,e_sl,e_po,e_pa,e_ap,qhP,qe8,qfm,qhz,q83,q9K,q8y,q8l,q8d,q8q,e_t,e_tr,qen,e_ta,qi1,qhu,e_to,qhF,qdG,e_tn,qdM,qbZ,qav,qdw,e_va,qhQ,qi0,e_vo,qhh,qdW,qdQ,qdH,qhV,qhI,qfv,WQ,qhH,e_ng,qbd,qb1,qbw,q7C,qdF,qfq,qb4,qeV,qeX,qft,qbn,qbO,qhy,qhe,qhL,at0,at1,at2,q1j,qby,zAc,entry,yf,xH,zM,yy,zB,zO,yS,ZK,yP,yT,Zs,wq,wu,xF,xT,Nat.reduceSub,Nat.reduceAdd,Nat.reduceLT,Int.reduceLT,Int.reduceLE,Int.reduceSub,Int.reduceAdd,Int.reduceMul,Int.reduceMod,Int.reduceDiv,Int.reduceNeg,Zx,Int.reduceBEq,YV,↓reduceIte,Zw,Zy,Ze,Yl,wk,YH,Zv,Bool.or_true,wV,Yg,wG,beq_self_eq_true,yF]at hf;cases Wt with
   | nil=>exact⟨F,x4,x5,rfl,gi⟩
   | cons w r=>cases hf)
  (λω ⟨F,Wt,x4,x5,hω,gi⟩=>by
   subst hω;refine⟨!Wt.isEmpty,?_,λhk=>?_⟩
   ·unfold q2r
    simp_arith[q0d];cases Wt <;> rfl
   ·obtain⟨Wr,here,rfl⟩:∃Wr here,Wt=Wr++[here]:=by
     cases Wt with
     | nil=>cases hk
     | cons w r=>exact⟨(w::r).dropLast,(w::r).getLast (by simp),(wc _).symm⟩
    have hF:here∈F:=gi.w here (by simp);have hts:here∈ts:=(gi.r here hF).mem h ha;obtain⟨xs,v1,v2⟩:=qin ts here hts es;have vd:XC ts (nbD ts es) here=some (.lst nB):=by unfold nbD;rw[q6D,v1];rfl
    have ew:(Wr++[here]).map D.int=Wr.map D.int++[D.int here]:=by rw[zN];rfl
    have ffl:=q24 gi.nd λc hc=>(gi.r c hc).mem h ha;unfold q4i;rw[ew];simp_arith[qiq,vd];obtain⟨ω',e,F',W',x5',rfl,i1,i2,i3,i4,i5,i6,i7,i8⟩:=qP (g:=gN 5) (b:=q43) D.int xs
     (λpre ω=>∃(F' W':aa) (x5:cc),ω=[↥cY,↥dj,some (.od F' (WK F')),some (.ow (W'.map D.int)),FZ,x5]/\F'.Nodup/\(∀c∈F,c∈F')/\(∀c∈Wr,c∈W')/\(∀c∈W',c∈F')/\(∀c∈F',Rch es a c)/\(∀c∈F',c∈F\/c∈W')/\(∀c∈pre,c∈F')/\F'.length+Wr.length=F.length+W'.length)
     (λpre c post ω hd ⟨F',W',x5,hω,i1,i2,i3,i4,i5,i6,i7,i8⟩=>by
      subst hω;refine da;have hcx:c∈xs:=by rw[hd];simp
      have hcr:Rch es a c:=(gi.r here hF).step ((v2 c).mp hcx);have fl:=q24 i1 λc hc=>(i5 c hc).mem h ha;have hs:(XC F' (WK F') c).isSome=decide (c∈F'):=q3J (q8z F');unfold q43
      by_cases hc:c∈F'
      ·simp_arith[hs,hc,decide_true]
       exact⟨F',W',_,rfl,i1,i2,i3,i4,i5,i6,λx hx=>(by rcases zL.mp hx with y|y;exact i7 x y;cases zR.mp y;exact hc),i8⟩
      ·obtain⟨p1,p2⟩:=qcj hc
       have hwl:(W'.map D.int).length<1000000:=by
        rw[zB];have:=gi.wl;rw[zE,zi]at this;omega
       simp_arith[hs,hc,decide_false,q4s (show F'.length<1000000 by omega),p1,p2,zBM hwl];refine⟨F'++[c],W'++[c],_,by rw[zN];rfl,?_,λx hx=>zI _ (i2 x hx),λx hx=>zI _ (i3 x hx),λx hx=>?_,λx hx=>?_,λx hx=>?_,λx hx=>?_,by rw[zE,zE,zi];omega⟩
       ·rw[yg]
        exact⟨i1,by simp,λx hx y hy z=>by cases zR.mp hy;exact hc (z▸hx)⟩
       ·rcases zL.mp hx with y|y
        ·exact zI _ (i4 x y)
        ·exact zF _ y
       ·rcases zL.mp hx with y|y
        ·exact i5 x y
        ·cases zR.mp y;exact hcr
       ·rcases zL.mp hx with y|y
        ·exact(i6 x y).elim .inl λz=>.inr (zI _ z)
        ·exact .inr (zF _ y)
       ·rcases zL.mp hx with y|y
        ·exact zI _ (i7 x y)
        ·exact zF _ y)
     (ω:=[↥cY,↥dj,HJ,some (.ow (Wr.map D.int)),FZ,x5])
     ⟨F,Wr,x5,rfl,gi.nd,λc hc=>hc,λc hc=>hc,λc hc=>gi.w c (zI _ hc),gi.r,λc hc=>.inl hc,λc hc=>(by cases hc),rfl⟩
    have fl':=q24 i1 λc hc=>(i5 c hc).mem h ha;simp_arith[e];have wl0:=gi.wl;rw[zE,zi]at wl0;refine⟨⟨F',W',_,_,rfl,i1,i2 a gi.st,∅,i4,i5,λb hb hw c hc=>?_⟩,?_⟩
    ·rcases i6 b hb with y|y
     ·by_cases z:b=here
      ·subst z
       exact i7 c ((v2 c).mpr hc)
      ·exact i2 c (gi.cl b y (λm=>by rcases zL.mp m with m|m;exact hw (i3 b m);exact z Mb) c hc)
     ·exact vM y hw
    ·show (ts.length-F'.length)+(W'.map D.int).length<Ri+(Wr.map D.int++[D.int here]).length
     rw[zB,zE,zB,zi];omega)
  (ω:=[↥cY,↥dj,some (.od [a] [cZ]),some (.ow [cY]),none,none])
  ⟨[a],[a],none,none,rfl,by simp,by simp,zQ _,λc hc=>hc,λc hc=>by cases zR.mp hc;exact .refl,λb hb hw=>vM hb hw⟩
  (by show (ts.length-1)+1<1000000;omega)
 have fl:=q24 gi.nd λc hc=>(gi.r c hc).mem h ha;simp_arith[e,qgJ (show F.length<64 by omega)];exact⟨F,rfl,gi.nd,λc=>⟨gi.r c,λr=>r.inv (λx=>x∈F) gi.st λb c hb hc=>gi.cl b hb (by simp) c hc⟩⟩
noncomputable def gD(g:aa):D:=.lst N0
structure Cls (ts:List Int) (es:List (Int×Int)) (g:List Int) (a:Int):Prop where
 inn:a∈ts
 up:g.Pairwise (· < ·)
 mem:∀c,c∈g↔Rch es a c
 hd:g.head?=some a
theorem qiS{F:aa}(h:F.Nodup):(XB F).Pairwise (· < ·):=by
 have h1:(XB F).Nodup:=(qE (l:=F)).nodup_iff.mpr h;have h2:=q1h (l:=F);have:=List.Pairwise.and h2 h1;exact this.imp λ{a b} h=>(by have h1:=h.1;have h2:=h.2;omega)
theorem qkv{ts:aa}{es:ah}{F:aa}{a:Int}(ha:a∈ts)(hn:F.Nodup)(hm:∀c,c∈F↔Rch es a c)(least:∀c∈F,a<=c):Cls ts es (XB F) a:=by
 have pm:=qE (l:=F);have up:=qiS hn;refine⟨ha,up,λc=>by rw[pm.mem_iff,hm],?_⟩;have haF:a∈XB F:=pm.mem_iff.mpr ((hm a).mpr .refl);cases q:XB F with
 | nil=>rw[q]at haF;cases haF
 | cons b r=>
  rw[q]at haF up;have hb:a<=b:=least b (pm.mem_iff.mp (by rw[q];exact zG));rcases zK.mp haF with rfl|hr
  ·rfl
  ·have:=(zt.mp up).1 a hr
   omega
structure GS (ts:List Int) (es:List (Int×Int)) (gs:List (List Int)) (hs:List Int):Prop where
 len:gs.length=hs.length
 cls:∀(j:Nat)g a,gs[j]?=some g->hs[j]?=some a->Cls ts es g a
 up:hs.Pairwise (· < ·)
theorem GS.snoc{ts:aa}{es:ah}{gs:eO}{hs:aa}(h:G8){g:aa}{a:Int}(c:Cls ts es g a)(hu:∀b∈hs,b<a):GS ts es (gs++[g]) (hs++[a]):=by
 refine⟨by rw[zE,zE,h.len];rfl,λj g' a' e1 e2=>?_,?_⟩
 ·rcases yH j gs.length with z|z
  ·rw[zg z]at e1
   rw[zg (by rw[<- h.len];exact z)]at e2;exact h.cls j g' a' e1 e2
  ·rw[zc z]at e1
   rw[zc (by rw[<- h.len];exact z),<- h.len]at e2;cases hj:j-gs.length with
   | zero=>rw[hj]at e1 e2;cases e1;cases e2;exact c
   | succ n=>rw[hj]at e1;cases e1
 ·rw[xk]
  exact⟨h.up,by simp,λb hb c hc=>by cases zR.mp hc;exact hu b hb⟩
theorem GS.one{ts:aa}{es:ah}{gs:eO}{hs:aa}(h:G8){g:aa}(hg:g∈gs):∃a∈hs,Cls ts es g a:=by
 obtain⟨j,hj,rfl⟩:=zw.mp hg;have hj2:j<hs.length:=by rw[<- h.len];exact hj
 exact⟨hs[j],UW,h.cls j _ _ OI (zD hj2)⟩
theorem qdA{ts:aa}{es:ah}(h:Om):∃gs hs,q2l [bw,.lst Cj]=some (.fr jX)/\GS ts es gs hs/\(∀t∈ts,∃g∈gs,t∈g)/\gs.length<=ts.length:=by
 unfold q2l q6O;have hl1:=h.l1;have sp:=qE (l:=ts);have sl:=q1h (l:=ts);simp_arith[q8V h,q68 hl1];obtain⟨ω',e,gs,hs,Gd,x5,x6,x7,rfl,i1,i2,i3,i4,i5,i6⟩:=qP (g:=gN 5) (b:=q5p) D.int (XB ts)
  (λpre ω=>∃(gs:eO) (hs Gd:aa) (x5 x6 x7:cc),ω=[↥bw,cw,↥dj,SH,some (.ow jX),x5,x6,x7]/\GS ts es gs hs/\Gd.Nodup/\(∀c,c∈Gd↔∃g∈gs,c∈g)/\(∀t∈pre,t∈Gd)/\(∀a∈hs,a∈pre)/\gs.length<=pre.length)
  (λpre t post ω hd ⟨gs,hs,Gd,x5,x6,x7,hω,i1,i2,i3,i4,i5,i6⟩=>by
   subst hω;refine da;have ht:t∈ts:=sp.mem_iff.mp (by rw[hd];simp);have hs1:(XC Gd (WK Gd) t).isSome=decide (t∈Gd):=q3J (q8z Gd);have gts:∀c∈Gd,c∈ts:=λc hc=>by
    obtain⟨g,hg,hcg⟩:=(i3 c).mp hc;obtain⟨a,_,cl⟩:=i1.one hg;exact((cl.mem c).mp hcg).mem h cl.inn
   have plen:pre.length<=ts.length:=by rw[<- sp.length_eq,hd,zE];omega
   unfold q5p
   by_cases hc:t∈Gd
   ·simp_arith[hs1,hc,decide_true]
    exact⟨gs,hs,Gd,_,_,_,rfl,i1,i2,i3,λx hx=>(by rcases zL.mp hx with y|y;exact i4 x y;cases zR.mp y;exact hc),λa ha=>zI _ (i5 a ha),by rw[zE];omega⟩
   ·obtain⟨F,f1,f2,f3⟩:=qaC h ht
    have least:∀c∈F,t<=c:=λc hcF=>by
     rcases Int.lt_or_le c t with z|z
     ·exfalso
      have rc:=(f3 c).mp hcF;have hcs:c∈XB ts:=sp.mem_iff.mpr (rc.mem h ht);rw[hd]at hcs sl;have hcp:c∈pre:=by
       rcases zL.mp hcs with y|y
       ·exact y
       ·rcases zK.mp y with rfl|y
        ·omega
        ·have:=(zt.mp (xk.mp sl).2.1).1 c y
         omega
      obtain⟨g,hg,hcg⟩:=(i3 c).mp (i4 c hcp);obtain⟨a,_,cl⟩:=i1.one hg;exact hc ((i3 t).mpr ⟨g,hg,(cl.mem t).mpr (((cl.mem c).mp hcg).trans rc.symm)⟩)
     ·exact z
    have cl:=qkv ht f2 f3 least;have dis:∀c∈XB F,c∉Gd:=λc hcg hcG=>by
     obtain⟨g,hg,hcg'⟩:=(i3 c).mp hcG;obtain⟨a,_,cl'⟩:=i1.one hg;exact hc ((i3 t).mpr ⟨g,hg,(cl'.mem t).mpr (((cl'.mem c).mp hcg').trans ((cl.mem c).mp hcg).symm)⟩)
    have hgl:(gs.map gD).length<1000000:=by rw[zB];omega
    simp_arith[hs1,hc,decide_false,f1,zBM hgl];obtain⟨ω',e,x7',rfl⟩:=qP (g:=gN 7) (b:=q5j) D.int (XB F)
     (λpre' ω=>∃(x7:cc),ω=[↥bw,cw,↥dj,some (.od (Gd++pre') (WK (Gd++pre'))),Mj,↥(.int t),↥oG,x7])
     (λpre' c post' ω hd' ⟨x7,hω⟩=>by
      subst hω;refine da;have ndF:(XB F).Nodup:=(qE (l:=F)).nodup_iff.mpr f2;have hnew:c∉Gd++pre':=λm=>by
       rcases zL.mp m with y|y
       ·exact dis c (by rw[hd'];simp) y
       ·rw[hd',yg]at ndF
        exact ndF.2.2 c y c zG rfl
      obtain⟨p1,p2⟩:=qcj hnew;have hlen:(Gd++pre').length<1000000:=by
       have z1:=q24 i2 gts;have z2:pre'.length<=ts.length:=by
        have a1:(XB F).length<=ts.length:=by
         rw[(qE (l:=F)).length_eq];exact q24 f2 λc hc=>((f3 c).mp hc).mem h ht
        rw[hd',zE]at a1;omega
       rw[zE];omega
      unfold q5j;simp_arith[q4s hlen,p1,p2,yB];exact cf)
     (ω:=[↥bw,cw,↥dj,SH,Mj,↥(.int t),↥oG,x7]) ⟨x7,by rw[zo]⟩
    simp_arith[e];refine⟨gs++[XB F],hs++[t],Gd++XB F,_,_,_,by rw[zN];rfl,i1.snoc cl λb hb=>?_,?_,λc=>?_,λx hx=>?_,λa ha=>?_,by rw[zE,zE,zi,zi];omega⟩
    ·have hbp:=i5 b hb
     rw[hd]at sl;have le:b<=t:=(xk.mp sl).2.2 b hbp t zG;have ne:b≠t:=λz=>hc (i4 t (z▸hbp));omega
    ·rw[yg]
     exact⟨i2,(qE (l:=F)).nodup_iff.mpr f2,λx hx y hy z=>dis y hy (z▸hx)⟩
    ·rw[zL,i3]
     constructor
     ·rintro(⟨g,hg,hcg⟩|hcF)
      ·exact⟨g,zI _ hg,hcg⟩
      ·exact⟨_,UY,hcF⟩
     ·rintro⟨g,hg,hcg⟩
      rcases zL.mp hg with y|y
      ·exact .inl ⟨g,y,hcg⟩
      ·cases zR.mp y;exact .inr hcg
    ·rcases zL.mp hx with y|y
     ·exact zI _ (i4 x y)
     ·cases zR.mp y
      exact zF _ ((cl.mem t).mpr .refl)
    ·rcases zL.mp ha with y|y
     ·exact zI _ (i5 a y)
     ·exact zF _ y)
  (ω:=[↥bw,cw,↥dj,rf,mQ,none,none,none])
  ⟨[],[],[],none,none,none,rfl,⟨rfl,λj g a e=>(by simp at e),.nil⟩,xV,by simp,by simp,by simp,cL⟩
 simp_arith[e];refine⟨gs,hs,rfl,i1,λt ht=>?_,by rw[<- sp.length_eq];exact i6⟩;exact(i3 t).mp (i4 t (sp.mem_iff.mpr ht))
theorem Rch.mono{es fs:ah}{a c:Int}(h:∀e∈es,e∈fs)(r:abq):Rch fs a c:=by
 induction r with
 | refl=>exact .refl
 | step _ e ih=>exact ih.step (e.elim (λz=>.inl (h _ z)) λz=>.inr (h _ z))
noncomputable def Xg(f:cM)(a b:Int):Int->Int:=λx=>if f x=b then a else f x
def Tells(ts:aa)(es:ah)(f:cM):Prop:=∀x∈ts,∀y∈ts,f x=f y↔Rch es x y
theorem Tells.join{ts:aa}{es:ah}{f:cM}(h:Tells ts es f)(inn:∀e∈es,e.1∈ts/\e.2∈ts){p q:Int}(hp:p∈ts)(hq:q∈ts):Tells ts N3 (Xg f (f p) (f q)):=by
 intro x hx y hy;have up:∀{u v:Int},Rch es u v->Rch N3 u v:=λr=>r.mono λe he=>zI _ he;have pq:Rch N3 p q:=Rch.refl.step (.inl (by simp))
 constructor
 ·intro e
  unfold Xg at e
  by_cases h1:f x=f q
  ·rw[U3]at e
   by_cases h2:f y=f q
   ·exact up ((h x hx y hy).mp (by rw[h1,h2]))
   ·rw[vG h2]at e
    exact((up ((h x hx q hq).mp h1)).trans pq.symm).trans (up ((h p hp y hy).mp e))
  ·rw[vG h1]at e
   by_cases h2:f y=f q
   ·rw[vC h2]at e
    exact((up ((h x hx p hp).mp e)).trans pq).trans (up ((h q hq y hy).mp h2.symm))
   ·rw[vG h2]at e
    exact up ((h x hx y hy).mp e)
 ·intro r
  have key:∀{u v:Int},(u,v)∈es++[(p,q)]->u∈ts/\v∈ts/\Xg f (f p) (f q) u=Xg f (f p) (f q) v:=λ{u v} m=>by
   rcases zL.mp m with m|m
   ·obtain⟨a,b⟩:=inn _ m
    have e:=(h u a v b).mpr (Rch.refl.step (.inl m));exact⟨a,b,by unfold Xg;rw[e]⟩
   ·cases zR.mp m
    refine⟨hp,hq,?_⟩;unfold Xg;rw[jT]
    by_cases z:f p=f q
    ·rw[fG]
    ·rw[fm]
  exact(Rch.inv (λz=>z∈ts/\Xg f (f p) (f q) x=Xg f (f p) (f q) z) ⟨hx,rfl⟩ (λb c hb hbc=>by
   rcases hbc with m|m
   ·obtain⟨a1,a2,a3⟩:=key m;exact⟨a2,hb.2.trans a3⟩
   ·obtain⟨a1,a2,a3⟩:=key m;exact⟨a1,hb.2.trans a3.symm⟩) r).2
noncomputable def lst1(f:cM)(ts:aa)(a:Int):Bool:=ts.all λc=>f c != f a || decide (a<=c)
noncomputable def many(f:cM)(ts:aa):Nat:=(ts.filter (lst1 f ts)).length
noncomputable abbrev Eg:=Int×Int×Int
noncomputable def Xd(e:Eg):Int×Int:=KC
noncomputable def Yy(e:Eg):Int:=e.2.2
noncomputable def Xb(s:cM×List Eg)(e:Eg):cM×List Eg:=if s.1 e.1=s.1 e.2.1 then s else (Xg s.1 (s.1 e.1) (s.1 e.2.1),s.2++[e])
noncomputable def Xn(f:cM)(es:df):cM×List Eg:=es.foldl Xb (f,[])
theorem q8I(f:cM)(es:df)(e:Eg):Xn f (es++[e])=Xb (Xn f es) e:=by unfold Xn;rw[ZB];rfl
theorem q8X{α:Type}{P:List α->Prop}(h0:P [])(hs:∀l a,P l->P (l++[a]))(l:bN):P l:=by
 have:∀l:List α,P l.reverse:=λl=>by
  induction l with
  | nil=>exact h0
  | cons a r ih=>rw[w9];exact hs _ _ ih
 have:=this l.reverse
 rwa [Zj]at this
theorem q0M(f:cM)(es:df):(Xn f es).2.Sublist es:=by
 refine q8X (P:=λes=>(Xn f es).2.Sublist es) (YK _) (λl e ih=>?_) es;rw[q8I];unfold Xb
 split
 ·exact ih.trans (List.sublist_append_left _ _)
 ·exact ih.append (YK _)
theorem Cls.low{ts:aa}{es:ah}{g:aa}{a:Int}(c:Cls ts es g a):∀x∈g,a<=x:=λx hx=>by
 have h:=c.hd;have u:=c.up;cases g with
 | nil=>cases hx
 | cons b r=>
  cases h;rcases zK.mp hx with rfl|hx
  ·exact yd _
  ·exact wH ((zt.mp u).1 x hx)
theorem GS.apart{ts:aa}{es:ah}{gs:eO}{hs:aa}(h:G8){i j:Nat}{g g':aa}{c:Int}(e1:gs[i]?=some g)(e2:gs[j]?=some g')(h1:c∈g)(h2:c∈g'):i=j:=by
 have li:=(ze.mp e1).1;have lj:=(ze.mp e2).1;rw[h.len]at li lj;have c1:=h.cls i g _ e1 (zD li);have c2:=h.cls j g' _ e2 (zD lj);have r1:=(c1.mem c).mp h1;have r2:=(c2.mem c).mp h2;have a1:=c1.low _ ((c1.mem _).mpr (r1.trans r2.symm));have a2:=c2.low _ ((c2.mem _).mpr (r2.trans r1.symm));rcases ZC i j with z|z|z
 ·have:=yY.mp h.up i j li lj z;omega
 ·exact z
 ·have:=yY.mp h.up j i lj li z;omega
theorem qc0:∀{gs:eO},(∀g∈gs,g.Nodup)->(∀(i j:Nat)g g' c,gs[i]?=some g->gs[j]?=some g'->c∈g->c∈g'->i=j)->gs.flatten.Nodup
 | [],_,_=>xV
 | g::gs,h1,h2=>by
  rw[yr,yg];refine⟨h1 g zG,qc0 (λg hg=>h1 g (zH _ hg)) (λi j a b c e1 e2 m1 m2=>?_),λx hx y hy e=>?_⟩
  ·have:=h2 (i+1) (j+1) a b c e1 e2 m1 m2;omega
  ·subst e
   obtain⟨g',hg',hx'⟩:=wR.mp hy;obtain⟨j,hj,rfl⟩:=zw.mp hg';have:=h2 0 (j+1) g _ x rfl (zD hj) hx hx';omega
theorem GS.flat{ts:aa}{es:ah}{gs:eO}{hs:aa}(ok:Om)(h:G8)(all:∀t∈ts,∃g∈gs,t∈g):gs.flatten.Perm ts:=by
 have nd:gs.flatten.Nodup:=qc0 (λg hg=>by
  obtain⟨a,_,c⟩:=h.one hg;exact c.up.imp λ{a b} h e=>∅) λi j g g' c e1 e2 m1 m2=>h.apart e1 e2 m1 m2
 refine(ym nd ok.nd).mpr λx=>⟨λhx=>?_,λhx=>?_⟩
 ·obtain⟨g,hg,hx⟩:=wR.mp hx
  obtain⟨a,_,c⟩:=h.one hg;exact((c.mem x).mp hx).mem ok c.inn
 ·obtain⟨g,hg,hx⟩:=all x hx
  exact wR.mpr ⟨g,hg,hx⟩
noncomputable def nmP:Nat->List aa->List kN
 | _,[]=>[]
 | k,g::gs=>(k,g)::nmP (k+1) gs
noncomputable def kkP(ps:RY):List Int:=ps.flatMap (·.2)
noncomputable def vvP(ps:RY):List D:=ps.flatMap λp=>p.2.map λ_=>D.int aai
theorem q66:∀(k:Nat)(gs:eO),kkP TY=gs.flatten
 | _,[]=>rfl
 | k,g::gs=>by show g++kkP Mq=_;rw[q66];rfl
theorem qfd:∀ps:List kN,(kkP ps).length=(vvP ps).length
 | []=>rfl
 | p::ps=>by show (p.2++kkP ps).length=((p.2.map λ_=>D.int aai)++vvP ps).length;rw[zE,zE,zB,qfd ps]
theorem qbV{α:Type}(v:α):∀(g:aa){x:Int},x∈g->XC g acl x=some v
 | [],_,h=>by cases h
 | y::g,x,h=>by
  show (if y=x then some v else XC g acl x)=some v
  by_cases z:y=x
  ·rw[fG]
  ·rw[fm]
   rcases zK.mp h with rfl|h
   ·exact vM rfl z
   ·exact qbV v g h
theorem q9R{α:Type}:∀{a:aa}{c:bN}{b:aa}{d:bN}{x:Int},a.length=c.length->x∈a->XC KG (c++d) x=XC a c x
 | [],_,_,_,_,_,h=>by cases h
 | _::_,[],_,_,_,h,_=>by simp at h
 | y::a,v::c,b,d,x,hl,h=>by
  show (if y=x then some v else XC KG (c++d) x)=if y=x then some v else XC a c x
  by_cases z:y=x
  ·rw[fG,fG]
  ·rw[fm,fm]
   rcases zK.mp h with rfl|h
   ·exact vM rfl z
   ·exact q9R ⇑hl h
theorem q84{α:Type}:∀{a:aa}{c:bN}{b:aa}{d:bN}{x:Int},a.length=c.length->x∉a->XC KG (c++d) x=XC b d x
 | [],[],_,_,_,_,_=>rfl
 | [],_::_,_,_,_,h,_=>by simp at h
 | _::_,[],_,_,_,h,_=>by simp at h
 | y::a,v::c,b,d,x,hl,h=>by
  show (if y=x then some v else XC KG (c++d) x)=_;rw[vG (λz=>h (by rw[z];exact zG))];exact q84 ⇑hl λz=>h (zH _ z)
theorem qak:∀{gs:eO}{k:Nat},gs.flatten.Nodup->∀{j:Nat}{g:aa}{x:Int},gs[j]?=some g->x∈g->XC (kkP TY) (vvP TY) x=some (.int ((k+j:Nat):Int))
 | [],k,_,j,g,x,h,_=>by cases h
 | g'::gs,k,hn,j,g,x,h,hx=>by
  rw[yr,yg]at hn;show XC (g'++kkP Mq) ((g'.map λ_=>D.int bz)++vvP Mq) x=_;cases j with
  | zero=>cases h;rw[q9R (by rw[zB]) hx,qbV _ _ hx];rfl
  | succ j=>
   have hg:gs[j]?=some g:=h;have hf:x∈gs.flatten:=wR.mpr ⟨g,yD hg,hx⟩;rw[q84 (by rw[zB]) (λz=>hn.2.2 x z x hf rfl),qak hn.2.1 hg hx,show k+1+j=k+(j+1) by omega]
theorem qcB{α:Type}{ks:aa}{xs:bN}{k:Int}(y:α)(h:k∉ks):WN ks k=ks++[k]/\putA ks xs k y=xs++[y]:=by
 unfold WN putA;rw[vG h,vG h];exact cH
noncomputable def nmD(p:kN):D:=.tup [.int aai,gD p.2]
theorem qc1:∀(k:Nat)(gs:eO),Wd k jX=(nmP k gs).map nmD
 | _,[]=>rfl
 | k,g::gs=>by show D.tup [oT,gD g]::Wd (k+1) jX=_;rw[qc1];rfl
theorem qe0(a b:RY):kkP KG=kkP a++kkP b:=by unfold kkP;rw[xr]
theorem qkd(a b:RY):vvP KG=vvP a++vvP b:=by unfold vvP;rw[xr]
theorem qdg{gs:eO}(nd:gs.flatten.Nodup)(fl:gs.flatten.length<64):q0e [Jr]=↥(.dic Rx Q6):=by
 unfold q0e q20;simp_arith[qc1];have nd':(kkP kc).Nodup:=by rw[q66];exact nd
 have fl':(kkP kc).length<64:=by rw[q66];exact fl
 generalize nmP 0 gs=ps at nd' fl';obtain⟨ω',e,x2,x3,x4,rfl⟩:=qP (g:=gT 2 MS) (b:=q1A) nmD ps
  (λpre ω=>∃x2 x3 x4,ω=[↥Jr,K7,x2,x3,x4])
  (λpre p post ω hd ⟨x2,x3,x4,hω⟩=>by
   subst hω;refine da;unfold q1A;obtain⟨k,g⟩:=p;rw[hd,qe0]at nd' fl';show zAm (Ww _ _ _ lH) _;simp_arith[q0d];obtain⟨ω',e,y4,rfl⟩:=qP (g:=gN 4) (b:=q1B) D.int g
    (λpre' ω=>∃y4,ω=[↥Jr,some (.od (kkP pre++pre') (vvP pre++pre'.map λ_=>D.int bz)),↥oT,↥(.lst N0),y4])
    (λpre' c post' ω hd' ⟨y4,hω⟩=>by
     subst hω;refine da;have nd2:(kkP pre++(pre'++c::post')).Nodup:=by
      have:(kkP pre++(g++kkP post)).Nodup:=nd';rw[hd',<- yB]at this;exact(yg.mp this).1
     have hnew:c∉kkP pre++pre':=λm=>by
      rw[<- yB]at nd2;exact(yg.mp nd2).2.2 c m c zG rfl
     have hlen:(kkP pre++pre').length<1000000:=by
      have:(kkP pre++(g++kkP post)).length<64:=fl';rw[hd']at this;simp only[zE,zM]at this ⊢;omega
     obtain⟨p1,p2⟩:=qcB (xs:=vvP pre++pre'.map λ_=>D.int bz) (D.int bz) hnew;unfold q1B;simp_arith[q4s hlen,p1,p2,yB];exact⟨_,by rw[zN];rfl⟩)
    (ω:=lH) ⟨x4,by rw[zo,yS,zo]⟩
   simp_arith[e];have ek:kkP acd=kkP pre++g:=by
    rw[qe0];show kkP pre++(g++[])=_;rw[zo]
   have ev:vvP acd=vvP pre++g.map λ_=>D.int bz:=by
    rw[qkd];show vvP pre++((g.map λ_=>D.int bz)++[])=_;rw[zo]
   rw[ek,ev];exact pz)
  (ω:=[↥Jr,rf,none,none,none]) CM
 simp_arith[e]
noncomputable def egD(e:Eg):D:=.tup rm
theorem q4R(e:Eg):q1q [N4]=↥(.int (Yy e)):=rfl
theorem qe7(e:Eg):Wa q1q N4=Yy e:=by unfold Wa;rw[q4R]
theorem qdp(e:Eg):keyOk q1q N4=true:=by unfold keyOk;rw[q4R]
theorem qeq(es:df):Y3 (Wa q1q) nO=(Y3 Yy es).map egD:=by
 rw[q2z,q4k λx _=>qe7 x]
noncomputable def W7(f:cM)(ks:aa):List D:=ks.map λk=>.int (f k)
theorem q4E{f:cM}:∀{ks:aa}{x:Int},x∈ks->XC ks OY x=some (.int (f x))
 | [],_,h=>by cases h
 | k::ks,x,h=>by
  by_cases e:k=x
  ·subst e
   show (if k=k then some (D.int (f k))else XC ks OY k)=_;rw[jT]
  ·show (if k=x then some (D.int (f k))else XC ks OY x)=_
   rw[vG e];exact q4E ((zK.mp h).elim (λz=>vM z.symm e) id)
theorem qky{f:cM}{ks:aa}{a b:Int}(hn:ks.Nodup)(hl:ks.length<1000):q0h [oB,cY,gG]=↥(.dic ks (W7 HY ks)):=by
 unfold q0h q1l;obtain⟨ω',e,x4,rfl⟩:=qP (g:=gN 4) (b:=q1c) D.int ks
  (λpre ω=>∃x4:Option W,ω=[↥oB,↥cY,↥gG,some (.od pre (W7 HY pre)),x4])
  (λpre k post ω hd ⟨x4,hω⟩=>by
   subst hω;refine da;have hk:k∈ks:=by rw[hd];simp
   have hnk:k∉pre:=λz=>by
    rw[hd]at hn;exact(yg.mp hn).2.2 k z k (by simp) rfl
   have hp:pre.length<ks.length:=by rw[hd,zE,zM];omega
   have hv:=q4E (f:=f) hk;have hds:pre.length<1000000:=∅
   obtain⟨p1,p2⟩:=qcB (xs:=W7 HY pre) (D.int (Xg f a b k)) hnk;have ev:W7 HY (pre++[k])=W7 HY pre++[.int (Xg f a b k)]:=by unfold W7;rw[zN];rfl
   unfold q1c
   by_cases z:f k=b
   ·have z':(f k==b)=true:=by simpa using z
    have jk:Xg f a b k=a:=vC z;rw[jk]at p2 ev;simp_arith[hv,z',q4s hds,p1,p2];exact⟨_,by rw[ev]⟩
   ·have z':(f k==b)=false:=by simpa using z
    have jk:Xg f a b k=f k:=vG z;rw[jk]at p2 ev;simp_arith[hv,z',q4s hds,p1,p2];exact⟨_,by rw[ev]⟩)
  (ω:=[↥oB,↥cY,↥gG,rf,none]) ⟨none,rfl⟩
 simp_arith[e]
noncomputable def zAX(ks:aa)(vs:aO)(x:Int):Int:=match XC ks vs x with
 | some (.int i)=>i
 | _=>0
theorem qc6:∀{ks:aa}{vs:aO},ks.Nodup->ks.length=vs.length->(∀v∈vs,∃i:Int,v=.int i)->vs=W7 (zAX ks vs) ks
 | [],[],_,_,_=>rfl
 | [],_::_,_,h,_=>by simp at h
 | _::_,[],_,h,_=>by simp at h
 | k::ks,v::vs,hn,hl,hv=>by
  obtain⟨n1,n2⟩:=yZ.mp hn;obtain⟨i,rfl⟩:=hv v zG;have ih:=qc6 n2 ⇑hl λu hu=>hv u (zH _ hu);have e1:zAX JG Jt k=i:=by
   unfold zAX;show (match (if k=k then some (D.int i)else XC ks vs k)with|some (.int i)=>i|_=>0)=i;rw[jT]
  have e2:∀x∈ks,zAX JG Jt x=zAX ks vs x:=λx hx=>by
   unfold zAX;have:XC JG (D.int i::vs) x=XC ks vs x:=vG (λz:k=x=>by subst z;exact n1 hx);rw[this]
  show D.int i::vs=D.int (zAX JG Jt k)::ks.map _;rw[e1]
  congr 1
  have:ks.map (λk'=>D.int (zAX JG Jt k'))=W7 (zAX ks vs) ks:=by
   unfold W7;exact yK λx hx=>by rw[e2 x hx]
  rw[this];exact ih
theorem qjh:∀(ps:RY),∀v∈vvP ps,∃i:Int,v=.int i:=λps v hv=>by
 unfold vvP at hv;obtain⟨p,_,h⟩:=yw.mp hv;obtain⟨_,_,rfl⟩:=zT.mp h;exact cf
theorem qai{ts:aa}{kn:ah}(ok:Ok ts kn):∃(gs:eO) (ks:aa) (f:cM),q2l [bw,Ct]=some (.fr jX)/\q0e [Jr]=↥oB/\ks.Nodup/\(∀x,x∈ks↔x∈ts)/\ks.length<64/\Tells ts kn f:=by
 obtain⟨gs,hs,g1,g2,g3,g4⟩:=qdA ok;have pf:=g2.flat ok g3;have nd:gs.flatten.Nodup:=pf.nodup_iff.mpr ok.nd;have fl:gs.flatten.length<64:=by rw[pf.length_eq];exact ok.l1
 have nm:=qdg nd fl;have kk:=q66 0 gs;have lv:=qc6 (ks:=kkP kc) (vs:=vvP kc) (by rw[kk];exact nd) (qfd _) (qjh _);refine⟨gs,kkP kc,zAX Rx Q6,g1,by rw[<- lv];exact nm,by rw[kk];exact nd,λx=>by rw[kk];exact pf.mem_iff,by rw[kk];exact fl,λx hx y hy=>?_⟩;obtain⟨gx,mx,hxg⟩:=g3 x hx;obtain⟨gy,my,hyg⟩:=g3 y hy;obtain⟨i,hi⟩:=xA.mp mx;obtain⟨j,hj⟩:=xA.mp my;have vx:=qak (k:=0) nd hi hxg;have vy:=qak (k:=0) nd hj hyg;have fx:zAX Rx Q6 x=abK:=by unfold zAX;rw[vx]
 have fy:zAX Rx Q6 y=((0+j:Nat):Int):=by unfold zAX;rw[vy]
 rw[fx,fy];obtain⟨a,_,cx⟩:=g2.one mx;obtain⟨b,_,cy⟩:=g2.one my
 constructor
 ·intro e
  have:i=j:=∅
  subst this;rw[hi]at hj;cases hj;exact((cx.mem x).mp hxg).symm.trans ((cx.mem y).mp hyg)
 ·intro r
  have:y∈gx:=(cx.mem y).mpr (((cx.mem x).mp hxg).trans r);have:=g2.apart hi hj this hyg;rw[this]
theorem qer{ts:aa}{kn:ah}{es:df}(ok:Ok ts kn)(he:∀e∈es,e.1∈ts/\e.2.1∈ts)(hl:RC):∃f:Int->Int,Tells ts kn f/\q3m [bw,Ct,Ov]=some L0:=by
 obtain⟨gs,ks,f,g1,g2,nd,mem,lk,tl⟩:=qai ok;refine⟨f,tl,?_⟩;unfold q3m q6L;have sk:=ql8 (m:=q1q) (ds:=es.map egD) (by rw[zB];exact hl) (λd hd=>by obtain⟨e,_,rfl⟩:=zT.mp hd;exact qdp e);rw[qeq]at sk;have pm:=qL (f:=Yy) (l:=es);have hS:∀e∈Y3 Yy es,e.1∈ts/\e.2.1∈ts:=λe h=>he e IW;have lS:(Y3 Yy es).length=es.length:=pm.length_eq;generalize Y3 Yy es=S at sk hS lS;simp_arith[g1,g2,sk];obtain⟨ω',e,x5,x6,x7,rfl⟩:=qP (g:=gN 5) (b:=q5l) egD S
  (λpre ω=>∃(x5 x6 x7:cc),ω=[↥bw,↥Ct,↥Ov,↥(.dic ks (W7 (Xn f pre).1 ks)),some (.ow ((Xn f pre).2.map egD)),x5,x6,x7])
  (λpre e post ω hd ⟨x5,x6,x7,hω⟩=>by
   subst hω;refine da;obtain⟨m1,m2⟩:=hS e (by rw[hd];simp);have v1:=q4E (f:=(Xn f pre).1) ((mem e.1).mpr m1);have v2:=q4E (f:=(Xn f pre).1) ((mem e.2.1).mpr m2);have lp:((Xn f pre).2.map egD).length<1000000:=by
    have:=(q0M f pre).length_le;have:pre.length<=S.length:=by rw[hd,zE];omega
    rw[zB];omega
   have tw:=qky (f:=(Xn f pre).1) (a:=(Xn f pre).1 e.1) (b:=(Xn f pre).1 e.2.1) nd ∅;have ed:egD e=.tup rm:=rfl;unfold q5l;rw[q8I];unfold Xb
   by_cases z:(Xn f pre).1 e.1=(Xn f pre).1 e.2.1
   ·have z':FB=true:=by simpa using z
    rw[fG];simp_arith[ed,v1,v2,z'];exact pz
   ·have z':FB=false:=by simpa using z
    rw[fm];simp_arith[ed,v1,v2,z',zBM lp,tw];exact⟨_,_,_,by rw[zN];rfl⟩)
  (ω:=[↥bw,↥Ct,↥Ov,↥oB,mQ,none,none,none]) CM
 simp_arith[e]
noncomputable def goN(n s g x:Int):Bool:=decide ((x-s)%n<(g-s)%n)
theorem q1u{n x s:Int}(hx:0<=x/\x<n)(hs:0<=s/\s<n):(x-s)%n=if s<=x then x-s else x-s+n:=by
 by_cases z:s<=x
 ·rw[fG];exact wI ∅ ∅
 ·have e:(x-s+n)%n=(x-s)%n:=by simp
  rw[fm,<- e];exact wI ∅ ∅
noncomputable def rts(n:Int)(bs:bP)(x:Int):List ag:=bs.filter λb=>b.2.2==1&&goN n b.1 b.2.1 x
noncomputable def lfs(n:Int)(bs:bP)(x:Int):List ag:=bs.filter λb=>b.2.2 == -1&&goN n b.2.1 b.1 x
theorem q6R{n a b:Int}(hn:0<n):q0t [bI,cY,gG,a9]=↥(.int ((b-a)%n)):=by
 unfold q0t q5W;have mu:zBP Ju a9=↥Ju:=by rw[q6S (by decide) (by decide),wX]
 have mo:oMod Ju bI=↥(.int ((b-a)%n)):=q1j hn;simp_arith[mu,mo]
theorem q7L{n s g:Int}(hn:0<n)(p:fW):q0G [bI,pG,.int g,LT]=↥(.bl (goN n s g p.1)):=by
 unfold q0G q4b;have s1:=q6R (a:=s) (b:=p.1) hn;have s2:=q6R (a:=s) (b:=g) hn;have pd:Xj p=.tup lB:=rfl;simp_arith[pd,s1,s2];rfl
noncomputable def Yw(n h l:Int)(bs:bP)(x:Int):Int:=(if goN n h l x=true then 1 else 0)-((rts n bs x).length:Int)+((lfs n bs x).length:Int)
theorem qiy{n h l:Int}{bs:bP}(hn:0<n)(hb:iH)(p:fW):q1p [bI,cu,cQ,av,LT]=↥(.int (Yw n h l bs p.1)):=by
 unfold q1p q3X;have o:=q7L (s:=h) (g:=l) hn p;have kl:(bs.map tri).length<=1000000:=by rw[zB];omega
 have td:∀b:Int×Int×Int,tri b=.tup [AL,oi,CL]:=λ_=>rfl;have cm1:=q35 (i:=0) (c:=q3c) (f:=q58) (λb=>b.2.2==1&&goN n b.1 b.2.1 p.1) tri tri bs (ω:=aao) (λb _=>⟨by
  have o1:=q7L (s:=b.1) (g:=b.2.1) hn p;unfold q3c;cases q:(b.2.2==1)with
  | true=>simp_arith[td,q,o1]
  | false=>simp_arith[td,q],λ_=>rfl⟩)
 have cm2:=q35 (i:=0) (c:=q3q) (f:=q5b) (λb=>b.2.2 == -1&&goN n b.2.1 b.1 p.1) tri tri bs (ω:=aao) (λb _=>⟨by
  have o1:=q7L (s:=b.2.1) (g:=b.1) hn p;unfold q3q;cases q:(b.2.2 == -1)with
  | true=>simp_arith[td,q,o1]
  | false=>simp_arith[td,q],λ_=>rfl⟩)
 unfold Yw rts lfs;generalize goN n h l p.1=go at o ⊢;cases go with
 | true=>simp_arith[o,WQ kl,inW,WZ,cm1,cm2,zB]
 | false=>simp_arith[o,WQ kl,inW,WZ,cm1,cm2,zB]
theorem q8v{n h l c:Int}{bs:bP}(hn0:1<=n)(hn:n<=10^39)(hh:LA)(hl:Lz)(hb:iH)(hbs:∀b∈bs,Ay/\n8/\eT):
  q0m Li=some (.fr ((XF cG).map λx=>D.int Jg)):=by
 unfold q0m q3e;have g:=q9G hn hh hl hb hbs;have sl:(XF cG).length<=1000:=(stp h l (bs:=bs.map two) (by rw[zB];omega)).len;generalize XF cG=P at g sl;have kl:((rnd P).map Xj).length<=1000000:=by
  rw[zB];unfold rnd;rw[yo];omega
 have cm:=qB (i:=0) (f:=q2N) Xj IG (rnd P) (ω:=[none,↥mU,↥bI,↥cu,↥cQ,↥av]) (λp _=>by
  have b:=qiy (h:=h) (l:=l) (show 0<n by omega) hb p;unfold q2N;simp_arith[b])
 have zf:(rnd P).map IG=P.map λx=>D.int Jg:=by
  have:(rnd P).map Prod.fst=P:=by
   unfold rnd;rw[wQ];rw[zE,yN,zr];omega
  conv=>rhs;rw[<- this]
  rw[zj];rfl
 simp_arith[g,WQ kl,inW,WZ,cm,zf]
theorem qcw{b:ag}{bs:bP}(h:b∈bs):b.1∈flat nQ/\b.2.1∈flat nQ:=by
 unfold flat;refine⟨NK,NK⟩
 ·exact zG
 ·exact zH _ zG
theorem qj4{x:Int}{bs:bP}(h:x∈flat nQ):∃b∈bs,x=b.1\/x=b.2.1:=by
 unfold flat at h;obtain⟨p,hp,hx⟩:=yw.mp h;obtain⟨b,hb,rfl⟩:=zT.mp hp;rcases zK.mp hx with z|z
 ·exact⟨b,hb,acI⟩
 ·exact⟨b,hb,.inr (zR.mp z)⟩
theorem qv{P:aa}{k:Nat}(h:IY):P.getD k 0=P[k]:=by rw[zV,zD h];rfl
noncomputable def stN(n:Int)(b:ag):Int:=(b.2.1-b.1)*b.2.2%n
theorem q5Q{α:Type}{f g:k7}:∀(l:bN),(l.map λx=>f x+g x).sum=(l.map f).sum+(l.map g).sum
 | []=>rfl
 | x::l=>by rw[zO,zO,zO,za,za,za,q5Q l];omega
noncomputable def glN(n:Int)(g:fW):Int:=if g.1=g.2 then n else (g.2-g.1)%n
theorem qjl{n:Int}(hn:0<n)(p:fW):q1g [bI,LT]=↥acF:=by
 unfold q1g q3A;have s:=q6R (a:=p.1) (b:=p.2) hn;have pd:Xj p=.tup lB:=rfl;unfold glN
 by_cases z:p.1=p.2
 ·have q:(p.1==p.2)=true:=by simpa using z
  simp_arith[pd,q,fG]
 ·have q:(p.1==p.2)=false:=by simpa using z
  simp_arith[pd,q,fm,s]
noncomputable def egN(n:Int)(p:fW):Eg:=(p.1,p.2,glN n p)
theorem q89{n h l:Int}{bs:bP}(hn0:1<=n)(hn:n<=10^39)(hh:LA)(hl:Lz)(hb:iH)(hbs:∀b∈bs,Ay/\n8/\eT):
  q06 gm=some (.fr (((rnd (XF cG)).map (egN n)).map egD)):=by
 unfold q06 q3s;have g:=q9G hn hh hl hb hbs;have sl:(XF cG).length<=1000:=(stp h l (bs:=bs.map two) (by rw[zB];omega)).len;generalize XF cG=P at g sl;have kl:((rnd P).map Xj).length<=1000000:=by
  rw[zB];unfold rnd;rw[yo];omega
 have cm:=qB (i:=0) (f:=q2Y) Xj QW (rnd P) (ω:=RJ) (λp _=>by
  have b:=qjl (show 0<n by omega) p;have pd:Xj p=.tup lB:=rfl;have ad:Xz LT (.tup [acF])=↥(egD (egN n p)):=by
   rw[pd];rfl
  unfold q2Y;simp_arith[b,ad])
 have mm:(rnd P).map QW=((rnd P).map (egN n)).map egD:=by rw[zj];rfl
 simp_arith[g,WQ kl,inW,WZ,cm,mm]
noncomputable def lkT(es:df)(ls:aa):List fW:=((es.zip ls).filter λq=>q.2 != 0).map λq=>Xd q.1
noncomputable def zpD(q:Eg×Int):D:=.tup [egD q.1,.int q.2]
theorem q5X:∀(es:df)(ls:aa),zAg nO ka=(es.zip ls).map zpD
 | [],_=>rfl
 | _::_,[]=>rfl
 | e::es,x::ls=>by
  show D.tup [N4,Ix]::zAg nO ka=_;rw[q5X];rfl
theorem qcm{c:FT}{f:FD}(q:Eg×Int->Bool)(F:Eg×Int->D)(xs:List (Eg×Int)){ω:WSt}(hω:∃a b,ω=pK)(h:∀x∈xs,c MF=some (q x)/\(q x=true->f MF=some (F x))):
  X0 Kd c f (xs.map zpD) ω=some EI :=
 q1i (λw=>∃a b,w=pK) q zpD F xs hω λx hx w hw=>by
  obtain⟨a,b,rfl⟩:=hw;exact⟨_,rfl,oW,(h x hx).1,(h x hx).2⟩
theorem q7n{h l:Int}{bs:bP}{es:df}{ls:aa}(hb:iH)(le:RC)(ok:Ok BX mJ)(he:∀e∈es,e.1∈es.map DO/\e.2.1∈es.map DO):
  ∃f:Int->Int,Tells BX mJ f/\q0u acq=some L0:=by
 obtain⟨f,f1,f2⟩:=qer ok he le;refine Pa;unfold q0u q2W;have w:=q6F hb;have zl:(es.zip ls).length<=64:=by rw[yo];omega
 have kz:((es.zip ls).map zpD).length<=1000000:=by rw[zB];omega
 have ke:(es.map egD).length<=1000000:=by rw[zB];omega
 have cm1:=qcm (c:=q2k) (f:=q4u) (λq=>q.2 != 0) To RB (ω:=LS) oW (λq _=>⟨by
  unfold q2k;simp_arith[q0d];rfl,λ_=>rfl⟩)
 have cm2:=qB (i:=0) (f:=q2b) egD VO es (ω:=EV) (λe _=>by
  unfold q2b;have ed:egD e=.tup rm:=rfl;simp_arith[ed])
 have m1:((es.zip ls).filter λq=>q.2 != 0).map To=(lkT es ls).map Yx:=by unfold lkT;rw[zj];rfl
 have m2:es.map VO=(es.map λe=>e.1).map D.int:=by rw[zj];rfl
 have lt:(lkT es ls).length<=64:=by
  unfold lkT;rw[zB];exact yL (xh _ _) zl
 have a1:Xz LB (.lst [.tup [cu,cQ]])=some (.fr Nw):=by
  have:(bs.map two++fq).map Yx=(bs.map two).map Xj++[.tup [cu,cQ]]:=by rw[zN];rfl
  rw[this];exact vC (by rw[zB,zB];show bs.length+1<=_;omega)
 have a2:Xz (.lst Nw) (.lst ((lkT es ls).map Yx))=some (.fr ((bs.map two++fq++lkT es ls).map Yx)):=by
  rw[zN (l₂:=lkT es ls)];exact vC (by rw[zB,zB,zE,zB];show bs.length+1+_<=_;omega)
 have zz:=q5X es ls;simp_arith[zz,WQ kz,WQ ke,inW,WZ,cm1,cm2,m1,m2,w,a1,a2,f2]
noncomputable def XJ(c:Int):Int:=if c<0 then -c else c
noncomputable def ewN(es:df)(ls:aa)(F:df):Int:=((es.zip ls).map λq=>Yy q.1*XJ q.2).sum+2*(F.map Yy).sum
theorem qdr{h l:Int}{bs:bP}{es:df}{ls:aa}(hb:iH)(le:RC)(hls:∀x∈ls,-1000<=x/\x<=1000)(ok:Ok BX mJ)(he:∀e∈es,e.1∈es.map DO/\e.2.1∈es.map DO):
  ∃f:Int->Int,Tells BX mJ f/\qK acq=↥(.int (ewN es ls (Xn f pc).2)):=by
 obtain⟨f,f1,f2⟩:=q7n hb le ok he;refine Pa;unfold qK q29;have zl:(es.zip ls).length<=64:=by rw[yo];omega
 have kz:((es.zip ls).map zpD).length<=1000000:=by rw[zB];omega
 have kl:=(q0M f pc).length_le;rw[q8t]at kl;generalize (Xn f pc).2=F at f2 kl;have kF:(F.map egD).length<=1000000:=by rw[zB];omega
 have cm1:=qcm (c:=XQ) (f:=q1K) B6 (λq=>D.int abc) RB (ω:=LS) oW (λq hq=>⟨rfl,λ_=>by
  have c:=q4R q.1;have bq:=hls _ (wb hq).2;have mu:zBP (.int (Yy q.1)) abH=↥(.int abc):=q6S (by unfold XJ;split <;> omega) (by unfold XJ;split <;> omega);have ab:bAbs [.int q.2]=↥abH:=rfl;unfold q1K;simp_arith[c,ab,mu]⟩)
 rw[HF]at cm1;have cm2:=qB (i:=0) (f:=q1L) egD (λe=>D.int (Yy e)) F (ω:=EV) (λe _=>by
  have c:=q4R e;unfold q1L;simp_arith[c])
 have s1:=q7a (λq:Eg×Int=>Yy q.1*XJ q.2) RB;have s2:=q7a Yy F;have zz:=q5X es ls;have m2:∀x:Int,zBP (.int 2) Ix=↥(.int (2*x)):=λx=>qgB (by decide) (by decide);simp_arith[zz,WQ kz,WQ kF,inW,WZ,cm1,cm2,s1,s2,f2,m2];rfl
noncomputable def nxN(N k:Nat):Nat:=if k+1<N then k+1 else 0
noncomputable def egs(n:Int)(P:aa):List Eg:=(rnd P).map (egN n)
theorem qjd(P:aa):(rnd P).length=P.length:=by
 unfold rnd;rw[yo,zE,yN,zr];omega
theorem qjs{P:aa}{k:Nat}(hk:IY):(rnd P)[k]?=some (m7,dH):=by
 have:(P.drop 1++P.take 1)[k]?=some dH:=by
  unfold nxN
  by_cases z:k+1<P.length
  ·rw[fG,zg (by rw[yN];omega),xN,Nat.add_comm 1 k,zD z,qv z]
  ·rw[fm,zc (by rw[yN];omega),yN,show k-(P.length-1)=0 by omega,xD,vC (by decide),zD lm,qv lm]
 unfold rnd;rw[yz];exact⟨by rw[zD hk,OO],this⟩
theorem q96(P:aa):rnd P=(zY P.length).map λk=>(m7,dH):=by
 apply xE;intro k
 by_cases z:k<P.length
 ·rw[qjs z,zZ,yq z];rfl
 ·rw[yA (by rw[qjd];omega),yA (by rw[zB,zk];omega)]
theorem q0c(n:Int)(P:aa):(egs n P).map DO=P:=by
 unfold egs;rw[zj];show (rnd P).map Prod.fst=P;unfold rnd;rw[wQ];rw[zE,yN,zr];omega
theorem qI{n:Int}{P:aa}:∀e∈egs n P,e.1∈P/\e.2.1∈P:=λe he=>by
 unfold egs at he;rw[q96,zj]at he;obtain⟨k,hk,rfl⟩:=zT.mp he;have hk':=yC.mp hk;have hx:nxN P.length k<P.length:=by unfold nxN;split <;> omega
 show P.getD k 0∈P/\P.getD eu 0∈P;rw[qv hk',qv hx];exact⟨UW,UW⟩
theorem q38{n h l x:Int}{bs:bP}(hb:iH):-21<=Yw n h l bs x/\Yw n h l bs x<=21:=by
 have a:(rts n bs x).length<=bs.length:=xh _ _;have b:(lfs n bs x).length<=bs.length:=xh _ _;unfold Yw
 split <;> omega
theorem qhX{n a b w:Int}(hn:0<n)(hw:VZ):q0t [bI,cY,gG,jw]=↥(.int ((b-a)*w%n)):=by
 unfold q0t q5W;have mu:zBP Ju jw=↥aaF:=q6S ∅ ∅;have mo:oMod aaF bI=↥(.int ((b-a)*w%n)):=q1j hn;simp_arith[mu,mo]
theorem qjt{n:Int}(hn:0<n){bs:bP}(hbs:∀b∈bs,b.2.2=1\/b.2.2=-1):
  X0 (gT 3 oO) XQ q3v A4 RK=some (bs.map λb=>D.int (stN n b)):=by
 have:=q1i (g:=gT 3 oO) (c:=XQ) (f:=q3v) (λw=>∃a b c,w=[a,b,c,↥bI]) B6 tri (λb=>D.int (stN n b)) bs (ω:=RK) pz λb hb w hw=>by
  obtain⟨x,y,z,rfl⟩:=hw;refine⟨_,rfl,pz,rfl,fN⟩;have s:=qhX (a:=b.1) (b:=b.2.1) hn (hbs b hb);show q3v [↥AL,↥oi,↥CL,↥bI]=_;unfold q3v stN;simp_arith[s]
 rw[this,HF]
noncomputable def WD(S:Int)(w:cM)(c:Int):D:=.tup [mU,.int (S+w c)]
noncomputable def loT(B:aa):Int:=-1-zAG B
noncomputable def nT(B:aa):Nat:=(2-WC B-loT B).toNat
theorem rngT{B:aa}(h0:B≠[])(hB:∀b∈B,-21<=b/\b<=21):(-22<=loT B/\loT B<=20)/\(-19<=2-WC B/\2-WC B<=23)/\nT B<=100/\0<nT B:=by
 have a:=hB _ (q1F h0).1;have b:=hB _ (q0U h0).1;have c:=(q1F h0).2 _ (q0U h0).1;unfold nT loT;omega
theorem qg8{n h l:Int}{bs:bP}(hn0:1<=n)(hn:n<=10^39)(hh:LA)(hl:Lz)(hb:iH)(hbs:∀b∈bs,Ay/\n8/\eT){P:aa}(eP:XF cG=P){w:cM}(hw:∀c:Int,-200<=c->c<=200->qK [cu,cQ,av,.lst Tj,.lst (P.map λx=>D.int BY)]=↥(.int (w c))):
  q1E gm=some (.fr ((zY (nT (P.map mG))).map λk:Nat=>WD (bs.map dy).sum w (loT (P.map mG)+bz))):=by
 have re:=q89 hn0 hn hh hl hb hbs;have rl:=q8v (c:=0) hn0 hn hh hl hb hbs;have S:=stp h l (bs:=bs.map two) (by rw[zB];omega);rw[eP]at re rl S;have re':q06 gm=some (.fr Tj):=re;have z0:(P.map λx=>D.int (0+Yw n h l bs x))=(P.map mG).map D.int:=by
  rw[zj];exact yK λx _=>by rw[xm];rfl
 rw[z0]at rl;generalize hB:P.map mG=B at rl;have B0:B≠[]:=λe=>by rw[e]at hB;exact S.ne (xK.mp hB)
 have Bb:∀b∈B,-21<=b/\b<=21:=λb hb'=>by
  rw[<- hB]at hb';obtain⟨x,_,rfl⟩:=zT.mp hb';exact q38 hb
 obtain⟨r1,r2,r3,_⟩:=rngT B0 Bb;have mx:=qjR B0;have mn:=qeN B0;have lo:=qjt (n:=n) ∅ (bs:=bs) λb h=>(hbs b h).2.2;have sm:=q7a dy bs;have kl:(bs.map tri).length<=1000000:=by rw[zB];omega
 have kB:(B.map D.int).length<=1000000:=by rw[zB,<- hB,zB];have:=S.len;omega
 generalize (bs.map dy).sum=Z at sm;generalize hE:(egs n P).map egD=E at re' hw;obtain⟨ω',e,x8,x9,rfl⟩:=qP (g:=gN 8) (b:=q4Q) (λk:Nat=>D.int iX) (zY AR)
  (λpre ω=>∃x8 x9:Option W,ω=[↥bI,↥cu,↥cQ,↥av,↥(.lst E),Qc,↥(.int Z),some (.ow (pre.map λk:Nat=>WD Z w iX)),x8,x9])
  (λpre k post ω hd ⟨x8,x9,hω⟩=>by
   subst hω;refine da;have hk:k<nT B:=yC.mp (by rw[hd];simp);have pl:pre.length<nT B:=by
    have:=vm yh hd;rw[zk,zE,zM]at this;omega
   generalize hc:loT B+bz=c;have W:=hw c ∅ ∅;have cm:=qB (i:=0) (f:=q6s) D.int Tn B (ω:=[none,↥mU]) (λx _=>by
    unfold q6s;simp_arith[q0d])
   have mm:B.map Tn=P.map λx=>D.int BY:=by rw[<- hB,zj];rfl
   rw[mm]at cm;have as:(pre.map λk:Nat=>WD Z w iX).length<1000000:=by rw[zB];omega
   show zAm (q4Q [_,_,_,_,_,_,_,_,↥mU,_]) _;unfold q4Q;simp_arith[WQ kB,inW,WZ,cm,W,zBM as];exact⟨_,_,by rw[zN,Z6,hc];rfl⟩)
  (ω:=[↥bI,↥cu,↥cQ,↥av,↥(.lst E),Qc,↥(.int Z),mQ,none,none]) ⟨none,none,rfl⟩
 have up:upTo (loT B) AR=(zY AR).map λk:Nat=>D.int iX:=rfl;have rg:rg2I (some [.int (-1-zAG B),.int (2-WC B)])=some (upTo (loT B) AR):=ql3 ⟨by unfold loT at r1;omega,by unfold loT at r1;omega⟩ Ao;unfold q1E q7z;simp_arith[re',rl,WQ kl,inW,WZ,lo,sm,mx,mn,rg,up,e]
theorem qf3{n h l:Int}{bs:bP}{ks:cJ}{f:UB}{Z:Int}{v:cM}(k0:ks≠[])(kl:ks.length<=1000)(ht:q1E gm=some (.fr (ks.map λk=>WD Z v (f k)))):
  q0o gm=↥(.int (WC (ks.map λk=>Z+v (f k)))):=by
 unfold q0o q3r;have kk:(ks.map λk=>WD Z v (f k)).length<=1000000:=by rw[zB];omega
 have cm:=q1i (g:=gT 2 fV) (c:=XQ) (f:=q56) (λw=>∃a b,w=pK) B6 (λk=>WD Z v (f k)) NF ks (ω:=LS) oW λk _ w hw=>by
  obtain⟨a,b,rfl⟩:=hw;exact Su
 rw[HF]at cm;have mm:ks.map NF=(ks.map λk=>Z+v (f k)).map D.int:=by rw[zj];rfl
 rw[mm]at cm;have mn:=qeN (ns:=ks.map λk=>Z+v (f k)) λe=>k0 NM;simp_arith[ht,WQ kk,inW,WZ,cm,mn]
theorem Rch.one{X:ah}{p q x y:Int}(r:Rch (X++[(p,q)]) x y):Rch X x y\/(Rch X x p/\Rch X q y)\/(Rch X x q/\Rch X p y):=by
 induction r with
 | refl=>exact .inl .refl
 | @step b c _ e ih=>
  have e':((b,c)∈X\/(c,b)∈X)\/(b=p/\c=q)\/(b=q/\c=p):=by
   rcases e with e|e
   ·rcases zL.mp e with e|e
    ·exact .inl UL
    ·have:=zR.mp e;simp only[Prod.mk.injEq]at this;exact .inr (.inl this)
   ·rcases zL.mp e with e|e
    ·exact .inl (.inr e)
    ·have:=zR.mp e;simp only[Prod.mk.injEq]at this;exact .inr (.inr ⟨this.2,this.1⟩)
  rcases e' with e'|⟨rfl,rfl⟩|⟨rfl,rfl⟩
  ·rcases ih with h|⟨h1,h2⟩|⟨h1,h2⟩
   ·exact .inl (h.step e')
   ·exact .inr (.inl US)
   ·exact .inr (.inr US)
  ·rcases ih with h|⟨h1,h2⟩|⟨h1,h2⟩
   ·exact .inr (.inl ⟨h,.refl⟩)
   ·exact .inr (.inl ⟨h1,.refl⟩)
   ·exact .inl h1
  ·rcases ih with h|⟨h1,h2⟩|⟨h1,h2⟩
   ·exact .inr (.inr ⟨h,.refl⟩)
   ·exact .inl h1
   ·exact .inr (.inr ⟨h1,.refl⟩)
theorem Rch.sub{X Y:ah}(h:∀e∈X,Rch Y e.1 e.2){x y:Int}(r:Rch X x y):Rch Y x y:=by
 induction r with
 | refl=>exact .refl
 | step _ e ih=>
  rcases e with e|e
  ·exact ih.trans (h _ e)
  ·exact ih.trans (h _ e).symm
theorem Rch.of{X:ah}{p q:Int}(h:(p,q)∈X):Rch X p q:=Rch.refl.step Sd
theorem qbe{a b:Int}:∀(C:df)(T:ah),¬Rch T a b->Rch (T++C.map Xd) a b->∃C1 c C2,C=C1++c::C2/\¬Rch acx a b/\Rch (T++C1.map Xd++[Xd c]) a b
 | [],T,h,r=>vM ⇑r h
 | c::C,T,h,r=>by
  by_cases z:Rch (T++[Xd c]) a b
  ·exact⟨[],c,C,rfl,by simpa using h,by simpa using z⟩
  ·obtain⟨C1,d,C2,e,h1,h2⟩:=qbe C (T++[Xd c]) z ⇑r
   exact⟨c::C1,d,C2,by rw[e];rfl,by simpa using h1,by simpa using h2⟩
noncomputable def kru(f:cM):List Eg->Int
 | []=>0
 | e::es=>if f e.1=f e.2.1 then kru f es else Yy e+kru jv es
theorem q7D:∀(es:df)(f:cM)(acc:df),((es.foldl Xb mY).2.map Yy).sum=(acc.map Yy).sum+kru f es
 | [],f,acc=>by show _=_+A9;rw[Int.add_zero];rfl
 | e::es,f,acc=>by
  show ((es.foldl Xb (Xb mY e)).2.map Yy).sum=_+(if f e.1=f e.2.1 then kru f es else Yy e+kru jv es)
  by_cases z:f e.1=f e.2.1
  ·have a:Xb mY e=mY:=vC z
   rw[a,fG,q7D es]
  ·have a:Xb mY e=(jv,acc++[e]):=vG z
   rw[a,fm,q7D es,zN,yR,Z6,List.sum_singleton,Zz]
theorem q4B:∀{C:df},(∀c∈C,0<=Yy c)->0<=(C.map Yy).sum
 | [],_=>yd _
 | c::C,h0=>by rw[zO,za];have:=h0 c zG;have:=q4B λx hx=>h0 x gX;omega
theorem kmin{ts:aa}:∀(es:df),es.Pairwise (λa b=>Yy a<=Yy b)->∀(f:cM)(T:ah)(C:df),Tells ts T f->(∀e∈T,e.1∈ts/\e.2∈ts)->(∀e∈es,e.1∈ts/\e.2.1∈ts)->(∀c∈C,0<=Yy c) ->
  (∀c∈C,Rch (T++(es.filter λx=>decide (Yy x<=Yy c)).map Xd) c.1 c.2.1)->(∀e∈es,Rch (T++C.map Xd) e.1 e.2.1)->kru f es<=(C.map Yy).sum
 | [],_,f,T,C,_,_,_,h0,_,_=>by
  show A9<=_;exact q4B h0
 | e::es,so,f,T,C,hf,hT,he,h0,hD,hc=>by
  obtain⟨s1,s2⟩:=zt.mp so;have ⟨m1,m2⟩:=he e zG;have he':∀x∈es,x.1∈ts/\x.2.1∈ts:=λx hx=>he x gX;show (if f e.1=f e.2.1 then kru f es else Yy e+kru jv es)<=_
  by_cases z:f e.1=f e.2.1
  ·rw[fG]
   refine kmin es s2 f T C hf hT he' h0 (λc hcc=>?_) λx hx=>hc x gX;refine(hD c hcc).sub λx hx=>?_;rcases zL.mp hx with m|m
   ·exact .of Mc
   ·obtain⟨y,hy,rfl⟩:=zT.mp m
    obtain⟨y1,y2⟩:=zm.mp hy;rcases zK.mp y1 with rfl|y1
    ·exact((hf _ m1 _ m2).mp z).mono λw hw=>zI _ hw
    ·exact .of (zF _ Ng)
  ·rw[fm]
   have nr:¬Rch T e.1 e.2.1:=λr=>z ((hf _ m1 _ m2).mpr r);obtain⟨C1,c,C2,eC,n1,r1⟩:=qbe C T nr (hc e zG);have hcC:c∈C:=by rw[eC];simp
   have le:Yy e<=Yy c:=by
    by_cases q:Yy e<=Yy c
    ·exact q
    ·exfalso
     have fe:((e::es).filter λx=>decide (Yy x<=Yy c))=[]:=xZ.mpr λx hx=>by
      rcases zK.mp hx with rfl|hx
      ·simpa using q
      ·have:=s1 x hx
       simp only[decide_eq_true_eq];omega
     have:=hD c hcC;rw[fe,yS,zo]at this;refine n1 (r1.sub λx hx=>?_);rcases zL.mp hx with m|m
     ·exact .of m
     ·rw[Mb]
      exact this.mono λw hw=>zI _ hw
   have rc:Rch Ad c.1 c.2.1:=by
    have up:∀{x y:Int},Rch acx x y->Rch Ad x y:=λr=>r.mono λw hw=>by
     rcases zL.mp hw with m|m
     ·exact zI _ Mc
     ·exact zF _ m
    have ee:Rch Ad e.1 e.2.1:=.of (by simp);rcases r1.one with h|⟨h1,h2⟩|⟨h1,h2⟩
    ·exact vM h n1
    ·exact((up h1).symm.trans ee).trans (up h2).symm
    ·exact((up h2).trans ee.symm).trans (up h1)
   have ih:=kmin es s2 jv (T++[KC]) (C1++C2) (hf.join hT m1 m2) (λx hx=>by
     rcases zL.mp hx with m|m
     ·exact hT x m
     ·rw[Mb];exact⟨m1,m2⟩) he' (λx hx=>h0 x (by
     rw[eC];rcases zL.mp hx with m|m
     ·exact zI _ m
     ·exact zF _ Q3)) (λx hx=>by
     have xC:x∈C:=by
      rw[eC];rcases zL.mp hx with m|m
      ·exact zI _ m
      ·exact zF _ Q3
     refine(hD x xC).mono λw hw=>?_;rcases zL.mp hw with m|m
     ·exact zI _ Mc
     ·obtain⟨y,hy,rfl⟩:=zT.mp m
      obtain⟨y1,y2⟩:=zm.mp hy;rcases zK.mp y1 with rfl|y1
      ·exact zI _ UY
      ·exact zF _ Ng) (λx hx=>by
     refine(hc x gX).sub λw hw=>?_;rcases zL.mp hw with m|m
     ·exact .of (zI _ Mc)
     ·obtain⟨y,hy,rfl⟩:=zT.mp m
      rw[eC]at hy;rcases zL.mp hy with k|k
      ·exact .of (zF _ (zu (zI _ k)))
      ·rcases zK.mp k with rfl|k
       ·refine rc.mono λw hw=>?_
        rcases zL.mp hw with m|m
        ·exact zI _ m
        ·rw[zN];exact zF _ Mc
       ·exact .of (zF _ (zu (zF _ k))))
   have su:(C.map Yy).sum=Yy c+((C1++C2).map Yy).sum:=by
    rw[eC,zN,yR,zO,za,zN,yR];omega
   omega
structure Ms (T:List (Int×Int)) (es:List Eg) (m:Int):Prop where
 ex:∃C:List Eg,(∀c∈C,c∈es)/\C.Nodup/\(∀e∈es,Rch (T++C.map Xd) e.1 e.2.1)/\(C.map Yy).sum=m
 lo:∀C:List Eg,(∀c∈C,c∈es)->(∀e∈es,Rch (T++C.map Xd) e.1 e.2.1)->m<=(C.map Yy).sum
theorem zBX{ts:aa}:∀(es:df)(f:cM)(T:ah)(acc:df),Tells ts (T++acc.map Xd) f->(∀e∈T,e.1∈ts/\e.2∈ts)->(∀e∈acc,e.1∈ts/\e.2.1∈ts)->(∀e∈es,e.1∈ts/\e.2.1∈ts)->∀e∈es,Rch (T++(es.foldl Xb mY).2.map Xd) e.1 e.2.1
 | [],_,_,_,_,_,_,_=>λe he=>by simp at he
 | e::es,f,T,acc,hf,hT,ha,he=>by
  have ⟨m1,m2⟩:=he e zG;have he':∀x∈es,x.1∈ts/\x.2.1∈ts:=λx hx=>he x gX;have inn:∀x∈T++acc.map Xd,x.1∈ts/\x.2∈ts:=λx hx=>by
   rcases zL.mp hx with m|m
   ·exact hT x m
   ·obtain⟨y,hy,rfl⟩:=zT.mp m;exact ha y hy
  have keep:∀(es:df)(g:cM)(acc:df),∀x∈acc,x∈(es.foldl Xb (g,acc)).2:=λes=>by
   induction es with
   | nil=>exact λg acc x hx=>hx
   | cons d es ih=>
    intro g acc x hx;show x∈(es.foldl Xb (Xb (g,acc) d)).2;unfold Xb
    split
    ·exact ih g acc x hx
    ·exact ih _ _ x (zI _ hx)
  intro x hx;show Rch (T++(es.foldl Xb (Xb mY e)).2.map Xd) x.1 x.2.1
  by_cases z:f e.1=f e.2.1
  ·have a:Xb mY e=mY:=vC z
   rw[a];rcases zK.mp hx with rfl|hx
   ·refine((hf _ m1 _ m2).mp z).mono λw hw=>?_
    rcases zL.mp hw with m|m
    ·exact zI _ m
    ·obtain⟨y,hy,rfl⟩:=zT.mp m
     exact zF _ (zu (keep es f acc y hy))
   ·exact zBX es f T acc hf hT ha he' x hx
  ·have a:Xb mY e=(jv,acc++[e]):=vG z
   rw[a];rcases zK.mp hx with rfl|hx
   ·exact .of (zF _ (zu (f:=Xd) (keep es _ _ x (by simp))))
   ·refine zBX es _ T (acc++[e]) ?_ hT HA he' x hx
    ·rw[zN,<- yB];exact hf.join inn m1 m2
    ·rcases zL.mp hy with m|m
     ·exact ha y m
     ·rw[Mb];exact⟨m1,m2⟩
theorem qbY{ts:aa}{T:ah}{f:cM}{es:df}(nd:es.Nodup)(hf:Tells ts T f)(hT:∀e∈T,e.1∈ts/\e.2∈ts)(he:∀e∈es,e.1∈ts/\e.2.1∈ts)(h0:∀e∈es,0<=Yy e):Ms T es ((Xn f pc).2.map Yy).sum:=by
 have pm:=qL (f:=Yy) (l:=es);have he':∀e∈Y3 Yy es,e.1∈ts/\e.2.1∈ts:=λe h=>he e IW;refine⟨⟨(Xn f pc).2,λc hc=>pm.mem_iff.mp ((q0M f _).subset hc),(pm.nodup_iff.mpr nd).sublist (q0M f _),λe h=>?_,rfl⟩,λC hC hc=>?_⟩
 ·have:=zBX pc f T [] (by rw[yS,zo];exact hf) hT (by simp) he' e (pm.mem_iff.mpr h)
  exact this
 ·have:=q7D pc f []
  unfold Xn;rw[this,yS,xa,xm];refine kmin (ts:=ts) _ q4K f T C hf hT he' (λc h=>h0 c (hC c h)) (λc h=>?_) (λe h=>hc e IW);exact .of (zF _ (zu (f:=Xd) (zm.mpr ⟨pm.mem_iff.mpr (hC c h),by simp⟩)))
theorem dd{n x s:Int}(hx:0<=x/\x<n)(hs:0<=s/\s<n):((x-s)%n=x-s/\s<=x)\/((x-s)%n=x-s+n/\x<s):=by
 rw[q1u hx hs]
 by_cases z:s<=x
 ·rw[fG];exact .inl ⟨rfl,z⟩
 ·rw[fm];exact .inr ⟨rfl,∅⟩
def Sc(n:Int)(P:aa)(x y:Int):Prop:=x∈P/\y∈P/\∀z∈P,z≠x->y≠x/\(y-x)%n<=(z-x)%n
def InR(n:Int)(P:aa):Prop:=∀p∈P,0<=p/\p<n
theorem Sc.uniq{n:Int}{P:aa}(hn:KP){x y y':Int}(h:Sc n P x y)(h':Sc n P x y'):y=y':=by
 obtain⟨hx,hy,a⟩:=h;obtain⟨_,hy',b⟩:=h'
 by_cases z:y=x
 ·by_cases z':y'=x
  ·rw[z,z']
  ·exact vM z (a y' hy' z').1
 ·have b':=(b y hy z)
  have a':=(a y' hy' b'.1);have d1:=dd (hn y hy) Bh;have d2:=dd (hn y' hy') Bh;have:=hn x hx;have:=hn y hy;have:=hn y' hy';omega
theorem Sc.pre{n:Int}{P:aa}(hn:KP){x a p:Int}(h:Sc n P x p)(h':Sc n P a p):x=a:=by
 obtain⟨hx,hp,u⟩:=h;obtain⟨ha,_,v⟩:=h'
 by_cases z:x=a
 ·exact z
 ·have u':=u a ha λq=>z q.symm
  have v':=v x hx z;have d1:=dd (hn p hp) Bh;have d2:=dd (hn p hp) aa2;have d3:=dd aa2 Bh;have d4:=dd Bh aa2;have:=hn x hx;have:=hn a ha;have:=hn p hp;omega
theorem q5u{P:aa}(hP:P.Pairwise (· < ·)){n:Int}(hn:KP){k:Nat}(hk:IY):Sc n P m7 dH:=by
 have hx:nxN P.length k<P.length:=by unfold nxN;split <;> omega
 rw[OO,qv hx];refine⟨UW,UW,λz hz ne=>?_⟩;obtain⟨j,hj,rfl⟩:=zw.mp hz;have jk:j≠k:=λq=>by subst q;exact ne rfl
 have up:∀{a b:Nat}(ha:EU)(hb:ET),a<b->P[a]<P[b]:=λha hb h=>yY.mp hP _ _ ha hb h;have b1:=hn _ (zd hk);have b2:=hn _ (zd hx);have b3:=hn _ (zd hj);have d1:=dd b2 b1;have d2:=dd b3 b1
 by_cases z:k+1<P.length
 ·have e:nxN P.length k=k+1:=vC z
  have lt:P[k]<P[eu]:=up hk hx ∅;rcases Nat.lt_or_gt_of_ne jk with q|q
  ·have:=up hj hk q;omega
  ·rcases yH j (k+1)with r|r
   ·omega
   ·rcases wo r with r|r
    ·have:P[eu]=P[j]:=by congr 1;omega
     omega
    ·have:=up hx hj ∅;omega
 ·have e:nxN P.length k=0:=vG z
  have q:j<k:=∅
  have:=up hj hk q;have lt:P[eu]<P[k]:=up hx hk ∅;rcases Z2 j with r|r
  ·have:P[eu]=P[j]:=by congr 1;omega
   omega
  ·have:=up hx hj ∅;omega
theorem q1Z{P:aa}(hP:P.Pairwise (· < ·)){n:Int}(hn:KP){e:Eg}:e∈egs n P↔Sc n P e.1 e.2.1/\e.2.2=glN n KC:=by
 unfold egs;rw[q96,zj,zT]
 constructor
 ·rintro⟨k,hk,rfl⟩
  exact⟨q5u hP hn (yC.mp hk),rfl⟩
 ·rintro⟨h1,h2⟩
  obtain⟨k,hk,ek⟩:=zw.mp h1.1;have s:=q5u hP hn hk;rw[OO,ek]at s;refine⟨k,yC.mpr hk,?_⟩;have u:=Sc.uniq hn h1 s;show Nd=e;rw[OO,ek,<- u];obtain⟨a,b,c⟩:=e;show (a,b,glN n (a,b))=(a,b,c);rw[show c=glN n (a,b)from h2]
theorem q4v{P:aa}(hP:P.Pairwise (· < ·))(n:Int):(egs n P).Nodup:=by
 have h:((egs n P).map λe=>e.1).Nodup:=by rw[q0c];exact hP.imp λq=>∅
 exact(xj.mp h).imp λq r=>q (by rw[r])
theorem q2y{P:aa}{n:Int}(hn:0<n):∀e∈egs n P,0<=Yy e:=λe he=>by
 unfold egs at he;obtain⟨p,_,rfl⟩:=zT.mp he;show 0<=glN n p;unfold glN
 split
 ·omega
 ·exact xw _ ∅
theorem qf4{P:aa}(hP:P.Pairwise (· < ·)){n:Int}(hn:KP){p:Int}(hp:p∈P):∃a,Sc n P a p:=by
 obtain⟨k,hk,rfl⟩:=zw.mp hp
 by_cases z:k=0
 ·subst z
  have s:=q5u hP hn (k:=P.length-1) ∅;have:nxN P.length (P.length-1)=0:=vG ∅;rw[this,OO]at s;exact⟨_,s⟩
 ·have s:=q5u hP hn (k:=k-1) ∅
  have:nxN P.length (k-1)=k:=by unfold nxN;rw[EO];omega
  rw[this,OO]at s;exact⟨_,s⟩
theorem qcC{P:aa}(hP:P.Pairwise (· < ·)){n:Int}(hn:KP){p:Int}(hp:p∈P):∃b,Sc n P p b:=by
 obtain⟨k,hk,rfl⟩:=zw.mp hp;have s:=q5u hP hn hk;rw[OO]at s;exact⟨_,s⟩
def Wv(Z:Int)(T:ah)(E:df)(a:ou)(w:Int):Prop :=
 ∃m,Ms (T++(E.filter λe=>a e != 0).map Xd) E m/\w=Z+(E.map λe=>Yy e*XJ (a e)).sum+2*m
theorem Rch.img{X Y:ah}(ρ:cM)(h:∀t∈X,Rch Y (ρ t.1) (ρ t.2)){x y:Int}(r:Rch X x y):Rch Y (ρ x) (ρ y):=by
 induction r with
 | refl=>exact .refl
 | step _ e ih=>
  rcases e with e|e
  ·exact ih.trans (h _ e)
  ·exact ih.trans (h _ e).symm
theorem q2i{α:Type}{f:k7}{l m:bN}(p:l.Perm m):(l.map f).sum=(m.map f).sum:=by
 induction p with
 | nil=>rfl
 | cons x _ ih=>rw[zO,zO,za,za,ih]
 | swap x y l=>simp only[zO,za];omega
 | trans _ _ a b=>exact a.trans b
theorem qjz{a b:Int}(h:XJ a=XJ b):(a != 0)=(b != 0):=by
 unfold XJ at h
 by_cases z:a=0 <;> by_cases z':b=0
 ·rw[z,z']
 ·split at h <;> split at h <;> omega
 ·split at h <;> split at h <;> omega
 ·rw[bne_iff_ne.mpr z,bne_iff_ne.mpr z']
theorem qcO{Z w w':Int}{T T':ah}{E E':df}{a a':ou}(h:Ez)(h':Wv Z T' E' a' w')(φ:Eg->Eg)(ρ:cM)(pm:E'.Perm (E.map φ))(co:∀e∈E,Yy (φ e)=Yy e)(ab:∀e∈E,XJ (a' (φ e))=XJ (a e))(ti:∀e∈E,Xd (φ e)=(VI,Pf)\/Xd (φ e)=(Pf,VI))(kn:∀t∈T,Rch T' (ρ t.1) (ρ t.2)):w'<=w:=by
 obtain⟨m,⟨⟨C,c1,_,c3,c4⟩,_⟩,rfl⟩:=h;obtain⟨m',⟨_,lo⟩,rfl⟩:=h';have su:(E'.map λe=>Yy e*XJ Qw).sum=(E.map λe=>Yy e*XJ (a e)).sum:=by
  rw[q2i pm,zj]
  congr 1
  exact yK λe he=>by show Yy (φ e)*XJ (a' (φ e))=_;rw[co e he,ab e he]
 have mem:∀e∈E,φ e∈E':=λe he=>pm.mem_iff.mpr (zu he);have tr:∀{Y:ah}(e:Eg),e∈E->Xd (φ e)∈Y->Rch Y VI Pf:=λe he hy=>by
  rcases ti e he with q|q
  ·rw[q]at hy;exact .of hy
  ·rw[q]at hy;exact(Rch.of hy).symm
 have key:∀e∈E,Rch (T'++(E'.filter λe=>a' e != 0).map Xd++(C.map φ).map Xd) VI Pf:=λe he=>(c3 e he).img ρ λt ht=>by
  rcases zL.mp ht with ht|ht
  ·rcases zL.mp ht with ht|ht
   ·exact(kn t ht).mono λx hx=>zI _ (zI _ hx)
   ·obtain⟨d,hd,rfl⟩:=zT.mp ht
    obtain⟨d1,d2⟩:=zm.mp hd;refine tr d d1 (zI _ (zF _ (zu (zm.mpr ⟨mem d d1,?_⟩))));rw[qjz (ab d d1)];exact d2
  ·obtain⟨d,hd,rfl⟩:=zT.mp ht
   exact tr d aa7 (zF _ (zu (zu hd)))
 have lo':=lo (C.map φ) (λc hc=>by obtain⟨d,hd,rfl⟩:=zT.mp hc;exact mem d aa7) λe he=>by
  obtain⟨d,hd,rfl⟩:=zT.mp (pm.mem_iff.mp he);have k:=key d hd;rcases ti d hd with q|q
  ·rw[show (φ d).1=ρ d.1 from vm Prod.fst q,show (φ d).2.1=ρ d.2.1 from vm Prod.snd q];exact k
  ·rw[show (φ d).1=ρ d.2.1 from vm Prod.fst q,show (φ d).2.1=ρ d.1 from vm Prod.snd q];exact k.symm
 have cs:((C.map φ).map Yy).sum=(C.map Yy).sum:=by
  rw[zj]
  congr 1
  exact yK λc hc=>co c aa8
 rw[su];omega
theorem q01{n:Int}(h:0<n)(a:Int):0<=a%n/\a%n<n:=⟨xw a ∅,wx a h⟩
theorem ad3{n:Int}(h:0<n)(s x y:Int):(y-s)%n=(x-s)%n+(y-x)%n\/(y-s)%n=(x-s)%n+(y-x)%n-n:=by
 have e:(y-s)%n=((x-s)%n+(y-x)%n)%n:=by rw[<- Int.add_emod];congr 1;omega
 have a:=q01 h (x-s);have b:=q01 h (y-x);generalize (x-s)%n=u at *;generalize (y-x)%n=v at *
 by_cases z:u+v<n
 ·exact .inl (e.trans (wI ∅ z))
 ·refine .inr (e.trans ?_)
  rw[show u+v=(u+v-n)+n*1 by omega,Int.add_mul_emod_self_left,wI ∅ ∅];omega
theorem em0{n x s:Int}(hx:0<=x/\x<n)(hs:0<=s/\s<n)(h:(x-s)%n=0):x=s:=by
 have:=dd hx hs;omega
theorem ss0(n s:Int):(s-s)%n=0:=by rw[wg,Int.zero_emod]
theorem qbz{A B C n:Int}(c:B=A+C\/B=A+C-n)(h:A<=B)(r:C<n):B=A+C:=∅
theorem qd1{n:Int}{Q:aa}(hn:Dh){p x s g:Int}(sc:abo)(hs:s∈Q)(hg:g∈Q):(if s=x then dC else 0)-(if g=x then dC else 0)=(if goN n s g x=true then dC else 0)-(if goN n s g p=true then dC else 0):=by
 obtain⟨a1,a2,a3⟩:=sc
 by_cases xp:x=p
 ·have al:∀z∈Q,z=p:=λz hz=>Classical.byContradiction λq=>(a3 z hz q).1 xp
  rw[al s hs,al g hg,xp,wg,wg]
 have rs:=hn s hs;have n0:0<n:=∅
 have e0:(x-p)%n≠0:=λz=>xp (em0 aa0 (hn p a1) z);have bg:g=p\/(x-p)%n<=(g-p)%n:=(Classical.em (g=p)).imp_right λq=>(a3 g hg q).2;have bs:s=p\/(x-p)%n<=(s-p)%n:=(Classical.em (s=p)).imp_right λq=>(a3 s hs q).2;have pe:∀z:Int,z=p->(z-s)%n=(p-s)%n:=λz q=>by rw[q]
 have gq:=pe g;have sq:=pe s;have ca:=ad3 n0 s p x;have cg:=ad3 n0 s p g;have cs:=ad3 n0 s p s;have gx:(g-s)%n=(x-s)%n->g=x:=λq=>by
  have u1:=dd aa1 rs;have u2:=dd aa0 rs;have u3:=hn g hg;have u4:=hn x a2;omega
 have sx:(x-s)%n=0->s=x:=λq=>(em0 aa0 rs q).symm;have xs:s=x->(x-s)%n=0:=λq=>by rw[q];exact ss0 n x
 have xg:g=x->(g-s)%n=(x-s)%n:=λq=>by rw[q]
 have r1:=q01 n0 (x-s);have r2:=q01 n0 (g-s);have r3:=q01 n0 (p-s);have r4:=q01 n0 (x-p);have r5:=q01 n0 (g-p);have r6:=q01 n0 (s-p);have s0:=ss0 n s;unfold goN;simp only[decide_eq_true_eq];rw[s0]at sq cs;generalize (x-s)%n=V at *;generalize (g-s)%n=T at *;generalize (p-s)%n=U at *;generalize (x-p)%n=E at *;generalize (g-p)%n=G at *;generalize (s-p)%n=S at *;clear pe hn a1 a2 a3 hs hg
 by_cases z1:s=x
 ·have v0:=xs z1
  rw[vC z1]
  by_cases z2:g=x
  ·have:=xg z2
   rw[vC z2,vG (show ¬V<T by omega),vG (show ¬U<T by omega)];omega
  ·have t0:T≠V:=λq=>z2 (gx q)
   have hu:¬U<T:=by
    clear gx sx xs xg;rcases bg with q|q
    ·have:=gq q;omega
    ·omega
   rw[vG z2,vC (show V<T by omega),vG hu]
 ·have hV:V=U+E:=by
   have v0:V≠0:=λq=>z1 (sx q);clear gx xs xg sx cg bg gq;rcases bs with q|q
   ·have:=sq q;omega
   ·omega
  rw[vG z1]
  by_cases z2:g=x
  ·have:=xg z2
   rw[vC z2,vG (show ¬V<T by omega),vC (show U<T by omega)]
  ·have t0:T≠V:=λq=>z2 (gx q)
   rw[vG z2]
   by_cases z3:U<T
   ·have:V<T:=by
     clear gx xs xg sx bs sq cs;rcases bg with q|q
     ·have:=gq q;omega
     ·omega
    rw[vC this,vC z3];rfl
   ·rw[vG (show ¬V<T by omega),vG z3]
theorem qco{q:Eg->Bool}:∀{C:df},(∀c∈C,0<=Yy c)->((C.filter q).map Yy).sum<=(C.map Yy).sum
 | [],_=>yd _
 | c::C,h=>by
  have ih:=qco (q:=q) (C:=C) λx hx=>h x gX;have:=h c zG;rw[yO,zO,za]
  split
  ·rw[zO,za];omega
  ·omega
theorem qbW{u v:Eg}(ne:u≠v){C:df}(nd:C.Nodup)(hu:u∈C)(hv:v∈C):C.Perm (u::v::C.filter λe=>e != u&&e != v):=by
 refine(ym nd ?_).mpr λx=>?_
 ·refine yZ.mpr ⟨λh=>?_,yZ.mpr ⟨λh=>?_,nd.filter _⟩⟩
  ·rcases zK.mp h with h|h
   ·exact ne h
   ·simpa using (zm.mp h).2
  ·simpa using (zm.mp h).2
 ·rw[zK,zK,zm]
  constructor
  ·intro h
   by_cases a:x=u
   ·exact .inl a
   ·by_cases b:x=v
    ·exact .inr (.inl b)
    ·exact .inr (.inr ⟨h,by simp[a,b]⟩)
  ·rintro(rfl|rfl|h)
   ·exact hu
   ·exact hv
   ·exact h.1
theorem qgf{Z w w':Int}{T:ah}{E E':df}{a:ou}{x y p u v:Int}(h:Ez)(h':Wv Z T E' a w')(nd:E.Nodup)(nd':E'.Nodup)(nn:∀e∈E',0<=Yy e)(hE:(kK:Eg)∈E)(mE:∀e,e∈E'↔e=lW\/e=nX\/(e∈E/\e≠kK))(xp:x≠p)(yp:y≠p)(eE:∀e∈E,e.1≠p/\e.2.1≠p)(tT:∀t∈T,t.1≠p/\t.2≠p)(al:a lW=a kK)(al':a nX=a kK):w<=w':=by
 obtain⟨m,⟨_,lo⟩,rfl⟩:=h;obtain⟨m',⟨⟨C,c1,c2,c3,c4⟩,_⟩,rfl⟩:=h';have ne:(lW:Eg)≠nX:=λq=>xp (vm Prod.fst q);have m1:(lW:Eg)∈E':=(mE _).mpr bD;have m2:(nX:Eg)∈E':=(mE _).mpr O6;have p1:=qbW ne nd' m1 m2;have fe:∀e,e∈E'.filter (λe=>e != lW&&e != nX)↔e∈E/\e≠kK:=λe=>by
  rw[zm,mE]
  constructor
  ·rintro⟨q|q|q,r⟩
   ·rw[q]at r;simp at r
   ·rw[q]at r;simp at r
   ·exact q
  ·intro q
   refine⟨.inr (.inr q),?_⟩;have n1:e≠lW:=λr=>(eE e q.1).2 (by rw[r]);have n2:e≠nX:=λr=>(eE e q.1).1 (by rw[r]);simp only[zv,bne_iff_ne,ne_eq];exact⟨n1,n2⟩
 have p2:E.Perm (kK::E'.filter λe=>e != lW&&e != nX):=by
  refine(ym nd (yZ.mpr ⟨λq=>((fe _).mp q).2 rfl,nd'.filter _⟩)).mpr λe=>?_;rw[zK,fe]
  constructor
  ·intro q
   by_cases z:e=kK
   ·exact .inl z
   ·exact .inr ⟨q,z⟩
  ·rintro(rfl|q)
   ·exact hE
   ·exact q.1
 have su:(E'.map λe=>Yy e*XJ (a e)).sum=(E.map λe=>Yy e*XJ (a e)).sum:=by
  rw[q2i p1,q2i p2,zO,zO,zO,za,za,za,al,al'];show u*_+(v*_+_)=(u+v)*_+_;rw[Int.add_mul];omega
 let π:Int->Int:=λz=>if z=p then (if a kK≠0\/lW∈C then x else y)else z
 have πn:∀{z},z≠p->π z=z:=λhz=>vG hz
 let C0:List Eg:=(C.filter λe=>e != lW&&e != nX)++(if lW∈C/\nX∈C then [kK]else [])
 have inC:∀e∈C,e≠lW->e≠nX->e∈C0:=λe he n1 n2=>zI _ (zm.mpr ⟨he,by simp only[zv,bne_iff_ne,ne_eq];exact⟨n1,n2⟩⟩);have keyL:∀t∈T++(E'.filter λe=>a e != 0).map Xd++C.map Xd,Rch (T++(E.filter λe=>a e != 0).map Xd++C0.map Xd) (π t.1) (π t.2):=λt ht=>by
  have edge:∀e∈E',(a e≠0\/e∈C)->Rch (T++(E.filter λe=>a e != 0).map Xd++C0.map Xd) (π e.1) (π e.2.1):=λe he q=>by
   rcases (mE e).mp he with r|r|r
   ·rw[r]
    show Rch _ (π x) (π p);have:π p=x:=by
     show (if p=p then _ else _)=x;rw[jT,vC];rw[r]at q;rcases q with q|q
     ·rw[al]at q;exact .inl q
     ·exact .inr q
    rw[this,πn xp];exact .refl
   ·rw[r]
    show Rch _ (π p) (π y);rw[πn yp]
    by_cases z:a kK≠0\/lW∈C
    ·have:π p=x:=by show (if p=p then _ else _)=x;rw[jT,fG]
     rw[this]
     by_cases z0:a kK≠0
     ·exact .of (zI _ (zF _ (zT.mpr ⟨_,zm.mpr ⟨hE,by simpa using z0⟩,rfl⟩)))
     ·rw[r]at q
      have q1:nX∈C:=q.resolve_left λq=>z0 (by rw[al']at q;exact q);have q2:lW∈C:=z.resolve_left z0;refine .of (zF _ (zT.mpr ⟨kK,zF _ ?_,rfl⟩));rw[vC ⟨q2,q1⟩];exact zR.mpr rfl
    ·have:π p=y:=by show (if p=p then _ else _)=y;rw[jT,fm]
     rw[this];exact .refl
   ·obtain⟨k1,k2⟩:=eE e r.1
    rw[πn k1,πn k2];rcases q with q|q
    ·exact .of (zI _ (zF _ (zT.mpr ⟨e,zm.mpr ⟨r.1,by simpa using q⟩,rfl⟩)))
    ·exact .of (zF _ (zT.mpr ⟨e,inC e q (λw=>k2 (by rw[w])) (λw=>k1 (by rw[w])),rfl⟩))
  rcases zL.mp ht with ht|ht
  ·rcases zL.mp ht with ht|ht
   ·obtain⟨k1,k2⟩:=tT t ht
    rw[πn k1,πn k2];exact .of (zI _ OE)
   ·obtain⟨d,hd,rfl⟩:=zT.mp ht
    obtain⟨d1,d2⟩:=zm.mp hd;exact edge d d1 (.inl ⇑d2)
  ·obtain⟨d,hd,rfl⟩:=zT.mp ht
   exact edge d aa7 (.inr hd)
 have ml:=lo C0 (λc hc=>by
   rcases zL.mp hc with hc|hc
   ·obtain⟨k1,k2⟩:=zm.mp hc
    exact((fe c).mp (zm.mpr ⟨c1 c k1,k2⟩)).1
   ·split at hc
    ·rw[zR.mp hc];exact hE
    ·simp at hc) λe he=>by
   obtain⟨k1,k2⟩:=eE e he
   by_cases z:e=kK
   ·have r1:=(c3 _ m1).img π keyL
    have r2:=(c3 _ m2).img π keyL;have r:=r1.trans r2;rw[show π (lW:Eg).1=x from πn xp,show π (nX:Eg).2.1=y from πn yp]at r;rw[z];exact r
   ·have r:=(c3 e ((mE e).mpr (.inr (.inr ⟨he,z⟩)))).img π keyL
    rw[πn k1,πn k2]at r;exact r
 have cl:(C0.map Yy).sum<=(C.map Yy).sum:=by
  show (((C.filter λe=>e != lW&&e != nX)++(if lW∈C/\nX∈C then [kK]else [])).map Yy).sum<=_;rw[zN,yR]
  by_cases z:lW∈C/\nX∈C
  ·rw[fG,q2i (qbW ne c2 z.1 z.2)]
   simp only[zO,za,yS,xa];have key:∀X:Int,X+(u+v+0)<=u+(v+X):=λX=>∅
   exact key _
  ·rw[fm,yS,xa,Int.add_zero]
   exact qco λc hc=>nn c aa8
 rw[su];omega
theorem q90{n x y:Int}(h:x≠y):glN n (x,y)=(y-x)%n:=vG h
theorem qhl{n x:Int}:glN n (x,x)=n:=vC rfl
theorem qgq{n:Int}{Q Q':aa}{p q:Int}(hQ:Q.Pairwise (· < ·))(hQ':Q'.Pairwise (· < ·))(hn:InR n Q')(mem:∀z,z∈Q'↔z=p\/z∈Q)(np:p∉Q)(hq:q∈Q):∃x y,Sc n Q x y/\Sc n Q' x p/\Sc n Q' p y/\x≠p/\y≠p/\glN n (x,y)=glN n (x,p)+glN n (p,y) /\
  ∀e:Eg,e∈egs n Q'↔e=(x,p,glN n (x,p))\/e=(p,y,glN n (p,y))\/(e∈egs n Q/\e≠(x,y,glN n (x,p)+glN n (p,y))):=by
 have hp:p∈Q':=(mem p).mpr bD;have sub:∀{z},z∈Q->z∈Q':=λh=>(mem _).mpr (.inr h);have hn0:InR n Q:=λz hz=>hn z JC;have neq:∀{z},z∈Q->z≠p:=λh r=>np (r▸h);obtain⟨x,sx⟩:=qf4 hQ' hn hp;obtain⟨y,sy⟩:=qcC hQ' hn hp;have yp:y≠p:=(sy.2.2 q (sub hq) (neq hq)).1;have xp:x≠p:=λr=>by
  have:=sx.2.2 q (sub hq) (by rw[r];exact neq hq);exact this.1 r.symm
 have xQ:x∈Q:=((mem x).mp sx.1).resolve_left xp;have yQ:y∈Q:=((mem y).mp sy.2.1).resolve_left yp;have rx:=hn x sx.1;have ry:=hn y sy.2.1;have rp:=hn p hp;have dpx:=dd rp rx;have dyp:=dd ry rp;have dyx:=dd ry rx;have dxp:=dd rx rp;have gx:glN n (x,p)=(p-x)%n:=q90 xp;have gy:glN n (p,y)=(y-p)%n:=q90 λr=>yp r.symm;have sQ:Sc n Q x y:=⟨xQ,yQ,λz hz ne=>by
  have a:=sx.2.2 z JC ne;have b:=sy.2.2 z JC (neq hz);have rz:=hn z JC;have d1:=dd rz rx;have d2:=dd rz rp;have:=neq hz
  constructor
  ·intro r;subst r;omega
  ·omega⟩
 have gl:glN n (x,y)=glN n (x,p)+glN n (p,y):=by
  rw[gx,gy]
  by_cases z:x=y
  ·subst z;rw[qhl];omega
  ·rw[q90 z]
   have a:=sx.2.2 y (sub yQ) λr=>z r.symm;omega
 refine⟨x,y,sQ,sx,sy,xp,yp,gl,λe=>?_⟩;rw[q1Z hQ' hn,q1Z hQ hn0];obtain⟨e1,e2,e3⟩:=e
 constructor
 ·rintro⟨s,c⟩
  simp only at s c
  by_cases z:e1=p
  ·subst z
   have:=Sc.uniq hn s sy;subst this;exact .inr (.inl (by rw[c]))
  ·by_cases z':e1=x
   ·subst z'
    have:=Sc.uniq hn s sx;subst this;exact .inl (by rw[c])
   ·have n2:e2≠p:=λr=>by subst r;exact z' (Sc.pre hn s sx)
    refine .inr (.inr ⟨⟨⟨((mem _).mp s.1).resolve_left z,((mem _).mp s.2.1).resolve_left n2,λw hw ne=>s.2.2 w (sub hw) ne⟩,c⟩,λr=>z' (vm Prod.fst r)⟩)
 ·rintro(r|r|⟨⟨s,c⟩,ne⟩)
  ·cases r;exact⟨sx,rfl⟩
  ·cases r;exact⟨sy,rfl⟩
  ·simp only at s c
   have n1:e1≠x:=λr=>by
    subst r;have:=Sc.uniq hn0 s sQ;subst this;exact ne (by rw[c,gl])
   refine⟨⟨sub s.1,sub s.2.1,λw hw nw=>?_⟩,c⟩;rcases (mem w).mp hw with rfl|hw
   ·have a:=s.2.2 x xQ λr=>n1 r.symm
    have b:=sx.2.2 e1 (sub s.1) n1;have r1:=hn e1 (sub s.1);have r2:=hn e2 (sub s.2.1);have d1:=dd r2 r1;have d2:=dd rp r1;have d3:=dd rx r1;have d4:=dd r1 rx;show e2≠e1/\(e2-e1)%n<=(w-e1)%n;refine⟨a.1,?_⟩;have:=a.2;have:=neq s.1;simp only at *;omega
   ·exact s.2.2 w hw nw
theorem q7A{n:Int}{Q:aa}(hn:Dh){x p s g:Int}(h:Sc n Q x p)(hs:s∈Q)(hg:g∈Q)(sp:s≠p)(gp:g≠p):goN n s g p=goN n s g x:=by
 have e:=qd1 hn h hs hg;rw[vG sp,vG gp]at e;generalize goN n s g p=u at *;generalize goN n s g x=v at *;cases u <;> cases v <;> first|rfl|(exfalso;revert e;decide)
theorem qex{n h l:Int}{bs:bP}{Q:aa}(hn:Dh){x p:Int}(sc:Sc n Q x p)(hh:h∈Q/\h≠p)(hl:l∈Q/\l≠p)(hb:∀b∈bs,(b.1∈Q/\b.1≠p)/\(b.2.1∈Q/\b.2.1≠p)):Yw n h l bs p=Yw n h l bs x:=by
 have r:rts n bs p=rts n bs x:=YL λb h=>by rw[q7A hn sc (hb b h).1.1 (hb b h).2.1 (hb b h).1.2 (hb b h).2.2]
 have f:lfs n bs p=lfs n bs x:=YL λb h=>by rw[q7A hn sc (hb b h).2.1 (hb b h).1.1 (hb b h).2.2 (hb b h).1.2]
 unfold Yw;rw[r,f,q7A hn sc hh.1 hl.1 hh.2 hl.2]
theorem q9d{Z w w' n c:Int}{h l:Int}{bs:bP}{Q Q':aa}{p:Int}(hQ:Q.Pairwise (· < ·))(hQ':Q'.Pairwise (· < ·))(n0:0<n)(hn:InR n Q')(mem:∀z,z∈Q'↔z=p\/z∈Q)(hh:h∈Q)(hl:l∈Q)(hb:∀b∈bs,b.1∈Q/\b.2.1∈Q)(v:Wv Z jY Bj aN w)(v':Wv Z jY (egs n Q') aN w'):w<=w':=by
 have sub:∀{z},z∈Q->z∈Q':=λh=>(mem _).mpr (.inr h);have hn0:InR n Q:=λz hz=>hn z JC
 by_cases np:p∈Q
 ·have same:∀z,z∈Q'↔z∈Q:=λz=>⟨λk=>by
   rcases (mem z).mp k with rfl|k
   ·exact np
   ·exact k,sub⟩
  have pm:(egs n Q).Perm ((egs n Q').map id):=by
   rw[wB];refine(ym TM (q4v hQ' n)).mpr λe=>?_;rw[q1Z hQ hn0,q1Z hQ' hn];have:∀x y,Sc n Q x y↔Sc n Q' x y:=λx y=>⟨λ⟨a,b,c⟩=>⟨sub a,sub b,λz hz=>c z ((same z).mp hz)⟩,λ⟨a,b,c⟩=>⟨(same _).mp a,(same _).mp b,λz hz=>c z JC⟩⟩;rw[this]
  exact qcO v' v id id pm jP jP II λt ht=>.of ht
 ·obtain⟨x,y,s1,s2,s3,xp,yp,gl,mE⟩:=qgq hQ hQ' hn mem np hh
  have neq:∀{z},z∈Q->z≠p:=λh r=>np (r▸h);have ls:=qex (bs:=bs) hn s2 ⟨sub hh,neq hh⟩ ⟨sub hl,neq hl⟩ λb k=>⟨⟨sub (hb b k).1,neq (hb b k).1⟩,⟨sub (hb b k).2,neq (hb b k).2⟩⟩;refine qgf (x:=x) (y:=y) (p:=p) (u:=glN n (x,p)) (v:=glN n (p,y)) v v' TM (q4v hQ' n) Rq ?_ mE xp yp (λe he=>⟨neq (qI e he).1,neq (qI e he).2⟩) (λt ht=>?_) rfl ?_
  ·exact(q1Z hQ hn0).mpr ⟨s1,gl.symm⟩
  ·rcases zL.mp ht with k|k
   ·obtain⟨b,kb,rfl⟩:=zT.mp k
    exact⟨neq (hb b kb).1,neq (hb b kb).2⟩
   ·rw[Q2];exact⟨neq hh,neq hl⟩
  ·show Yw n h l bs p+c=Yw n h l bs x+c
   rw[ls]
theorem q7u{n:Int}{Q:aa}(hQ:Q.Pairwise (· < ·))(hn:Dh){s g:Int}(hs:s∈Q)(hg:g∈Q){X:ah}(hX:∀e∈egs n Q,goN n s g e.1=true->Rch X e.1 e.2.1):Rch X s g:=by
 have n0:0<n:=by have:=hn s hs;omega
 have key:∀(k:Nat)(x:Int),x∈Q->((g-x)%n).toNat<=k->(x-s)%n<=(g-s)%n->Rch X x g:=λk=>by
  induction k with
  | zero=>
   intro x hx hk hw;have r:=q01 n0 (g-x);rw[em0 aa1 Bh ∅];exact .refl
  | succ k ih=>
   intro x hx hk hw
   by_cases z:x=g
   ·rw[z];exact .refl
   ·obtain⟨y,sy⟩:=qcC hQ hn hx
    have a:=sy.2.2 g hg λr=>z r.symm;have v0:(g-x)%n≠0:=λq=>z (em0 aa1 Bh q).symm;have y0:(y-x)%n≠0:=λq=>a.1 (em0 (hn y sy.2.1) Bh q);have b1:=qbz (ad3 n0 s x g) hw (q01 n0 (g-x)).2;have b2:=qbz (ad3 n0 x y g) a.2 (q01 n0 (g-y)).2;have c3:=ad3 n0 s y g;have r1:=(q01 n0 (x-s)).1;have r3:=(q01 n0 (g-x)).1;have r4:=(q01 n0 (y-x)).1;have r5:=(q01 n0 (g-y)).1;have r6:=(q01 n0 (y-s)).2;have r:=hX (x,y,glN n (x,y)) ((q1Z hQ hn).mpr ⟨sy,rfl⟩);have ih':=ih y sy.2.1;unfold goN at r;clear ih hX a hw;generalize (x-s)%n=A at *;generalize (g-s)%n=B at *;generalize (g-x)%n=C at *;generalize (y-x)%n=D' at *;generalize (g-y)%n=F at *;generalize (y-s)%n=G at *;have lt:A<B:=by clear c3;omega
    have k1:F.toNat<=k:=by clear c3;omega
    have gb:G<=B:=by
     clear hk k1;rcases c3 with c3|c3 <;> omega
    exact(r (vO lt)).trans (ih' k1 gb)
 refine key _ s hs cL ?_;rw[ss0];exact(q01 n0 _).1
noncomputable def Xt(N i t:Nat):Nat:=if i+t<N then i+t else i+t-N
noncomputable def Wy(N i k:Nat):Nat:=if i<=k then k-i else k+N-i
theorem qix{P:aa}(hP:P.Pairwise (· < ·)){n:Int}(hn:∀p∈P,0<=p/\p<n){i j k:Nat}(hi:aaZ)(hj:j<P.length)(hk:IY):goN n P[i] P[j] P[k]=decide (Wy P.length i k<Wy P.length i j):=by
 have get:∀{a b:Nat}(ha:EU)(hb:ET),a<b->P[a]<P[b]:=λha hb h=>yY.mp hP _ _ ha hb h;have cmp:∀{a b:Nat}(ha:EU)(hb:ET),(a<=b->P[a]<=P[b])/\(P[a]<=P[b]->a<=b):=λ{a b} ha hb=>by
  rcases ZC a b with z|z|z
  ·exact⟨λ_=>wH (get ha hb z),λ_=>yb z⟩
  ·subst z;exact⟨λ_=>yd _,λ_=>zQ _⟩
  ·have:=get hb ha z
   exact pH
 have mi:=hn _ (zd hi);have mj:=hn _ (zd hj);have mk:=hn _ (zd hk);have c1:=cmp hi hk;have c2:=cmp hi hj;have c3:=cmp hj hk;unfold goN Wy;rw[q1u mk mi,q1u mj mi];refine decide_eq_decide.mpr ?_
 by_cases z1:i<=k
 ·rw[vC z1,vC (c1.1 z1)]
  by_cases z2:i<=j
  ·rw[vC z2,vC (c2.1 z2)]
   constructor
   ·intro h
    have:¬j<=k:=λy=>by have:=c3.1 y;omega
    omega
   ·intro h
    have:¬P[j]<=P[k]:=λy=>by have:=c3.2 y;omega
    omega
  ·rw[vG z2,vG λy=>z2 (c2.2 y)]
   exact pH
 ·rw[vG z1,vG λy=>z1 (c1.2 y)]
  by_cases z2:i<=j
  ·rw[vC z2,vC (c2.1 z2)]
   exact⟨λh=>∅,λh=>∅⟩
  ·rw[vG z2,vG λy=>z2 (c2.2 y)]
   constructor
   ·intro h
    have:¬j<=k:=λy=>by have:=c3.1 y;omega
    omega
   ·intro h
    have:¬P[j]<=P[k]:=λy=>by have:=c3.2 y;omega
    omega
noncomputable def wlk(N i d:Nat):List Int:=(zY d).map λt=>((Xt N i t:Nat):Int)
theorem qil{N i j k:Nat}(hi:i<N)(hj:j<N)(hk:k<N):bz∈wlk N i (Wy N i j)↔Wy N i k<Wy N i j:=by
 unfold wlk;rw[zT]
 constructor
 ·rintro⟨t,ht,e⟩
  have ht:=yC.mp ht;have e:Xt N i t=k:=∅
  have:Wy N i k=t:=by
   have hd:Wy N i j<N:=by unfold Wy;split <;> omega
   unfold Xt at e;unfold Wy
   split at e <;> split <;> omega
  omega
 ·intro h
  refine⟨Wy N i k,yC.mpr h,?_⟩;have:Xt N i (Wy N i k)=k:=by
   unfold Xt Wy
   split <;> split <;> omega
  rw[this]
theorem qk1{N i d:Nat}(hi:i<N)(hd:d<N):(wlk N i d).Nodup:=by
 unfold wlk;rw[List.nodup_iff_pairwise_ne,xj];refine List.Pairwise.imp_of_mem (R:=λa b=>a<b) (λ{a b} ha hb h e=>?_) xY;have ha:=yC.mp ha;have hb:=yC.mp hb;have e:Xt N i a=Xt N i b:=∅
 unfold Xt at e
 split at e <;> split at e <;> omega
theorem qj6{N i d:Nat}(hi:i<N)(hd:d<N):∀k∈wlk N i d,0<=k/\k<(N:Int):=λk hk=>by
 obtain⟨t,ht,rfl⟩:=zT.mp hk;have ht:=yC.mp ht;have:Xt N i t<N:=by unfold Xt;split <;> omega
 omega
noncomputable def lgN(n:Int)(P:aa)(k:Nat):Int:=if k+1<P.length then P.getD (k+1) 0-P.getD k 0 else n-P.getD k 0+P.getD 0 0
theorem qch{N i t:Nat}(hi:i<N)(ht:t<N):Xt N i t<N:=by unfold Xt;split <;> omega
theorem qgP{N i j:Nat}(hi:i<N)(hj:j<N):Xt N i (Wy N i j)=j:=by unfold Xt Wy;split <;> split <;> omega
theorem qf6{N i t:Nat}(hi:i<N)(ht:t+1<N):Xt N i (t+1)=if Xt N i t+1<N then Xt N i t+1 else 0:=by
 unfold Xt;split <;> split <;> split <;> omega
theorem qfO{P:aa}(hP:P.Pairwise (· < ·)){n:Int}(hn:∀p∈P,0<=p/\p<n){i t:Nat}(hi:aaZ)(ht:t+1<P.length):
  (P.getD GF 0-P.getD i 0)%n=(P.getD Jl 0-P.getD i 0)%n+lgN n P Jl:=by
 have h1:=qch (t:=t) hi ∅;have h2:=qch hi ht;have nx:=qf6 hi ht;have up:∀{a b:Nat}(ha:EU)(hb:ET),a<b->P[a]<P[b]:=λha hb h=>yY.mp hP _ _ ha hb h;have b0:=hn _ (zd lm);have bi:=hn _ (zd hi);have b1:=hn _ (zd h1);have b2:=hn _ (zd h2);unfold lgN;rw[qv hi,qv h1,qv h2,q1u b2 bi,q1u b1 bi];have ord:∀{a b:Nat}(ha:EU)(hb:ET),P[a]<=P[b]↔a<=b:=λ{a b} ha hb=>by
  rcases ZC a b with z|z|z
  ·have:=up ha hb z;exact pH
  ·subst z;exact⟨λ_=>zQ _,λ_=>yd _⟩
  ·have:=up hb ha z;exact pH
 have o1:=ord hi h1;have o2:=ord hi h2
 by_cases z:Xt P.length i t+1<P.length
 ·rw[fG]at nx
  rw[fG];have e:P[GF]=P.getD (Xt P.length i t+1) 0:=by rw[qv z];congr 1
  rw[<- e];have ne:¬i=Xt P.length i t+1:=λq=>by
   have:Xt P.length i (t+1)=i:=by rw[nx];exact q.symm
   unfold Xt at this;split at this <;> omega
  have c:i<=Xt P.length i (t+1)↔i<=Xt P.length i t:=by rw[nx];omega
  by_cases y:i<=Xt P.length i t
  ·rw[vC (o2.mpr (c.mpr y)),vC (o1.mpr y)];omega
  ·rw[vG (λq=>y (c.mp (o2.mp q))),vG (λq=>y (o1.mp q))];omega
 ·rw[fm]at nx
  rw[fm];have e:P[GF]=P.getD 0 0:=by rw[qv lm];congr 1
  have y1:i<=Xt P.length i t:=∅
  have y2:¬i<=Xt P.length i (t+1):=λq=>by
   have z0:i=0:=∅
   subst z0;unfold Xt at nx;split at nx <;> omega
  rw[vG (λq=>y2 (o2.mp q)),vC (o1.mpr y1),<- e];omega
theorem qcg{P:aa}(hP:P.Pairwise (· < ·)){n:Int}(hn:∀p∈P,0<=p/\p<n){i:Nat}(hi:aaZ):∀{d:Nat},d<P.length ->
  (P.getD (Xt P.length i d) 0-P.getD i 0)%n=((zY d).map λt=>lgN n P Jl).sum
 | 0,_=>by
  have:Xt P.length i 0=i:=by unfold Xt;rw[EO];rfl
  rw[this,wg];simp
 | d+1,hd=>by
  rw[qfO hP hn hi hd,qcg hP hn hi ∅,ZZ,zN,yR];simp
theorem qfy{l m:aa}(p:l.Perm m):l.sum=m.sum:=by
 induction p with
 | nil=>rfl
 | cons x _ ih=>rw[za,za,ih]
 | swap x y l=>rw[za,za,za,za];omega
 | trans _ _ a b=>exact a.trans b
theorem qgo{f:cM}:∀{l:aa}{m:aa},l.Nodup->m.Nodup->(∀x∈m,x∈l)->(m.map f).sum=(l.map λx=>if x∈m then f x else 0).sum:=λ{l m} nl nm h=>by
 have p:m.Perm (l.filter λx=>decide (x∈m)):=by
  refine(ym nm (nl.filter _)).mpr λx=>?_;rw[zm];exact⟨λq=>⟨h x q,by simpa using q⟩,λq=>by simpa using q.2⟩
 have s:∀(l:aa),((l.filter λx=>decide (x∈m)).map f).sum=(l.map λx=>if x∈m then f x else 0).sum:=λl=>by
  induction l with
  | nil=>rfl
  | cons a l ih=>
   rw[yO,zO,za,<- ih]
   by_cases z:a∈m
   ·rw[vC ⇑z,fG,zO,za]
   ·rw[vG ⇑z,fm,xm]
 rw[<- s l];exact qfy (p.map f)
theorem qiW{P:aa}(hP:P.Pairwise (· < ·)){n:Int}(hn:∀p∈P,0<=p/\p<n){s g:Int}(hs:s∈P)(hg:g∈P):
  (g-s)%n=((zY P.length).map λk=>if goN n s g m7=true then lgN n P k else 0).sum:=by
 obtain⟨i,hi,rfl⟩:=zw.mp hs;obtain⟨j,hj,rfl⟩:=zw.mp hg;have hd:Wy P.length i j<P.length:=by unfold Wy;split <;> omega
 have a:=qcg hP hn hi hd;rw[qgP hi hj,qv hi,qv hj]at a;rw[a];have b:=qgo (f:=λx=>lgN n P x.toNat) (l:=(zY P.length).map λk:Nat=>bz) (m:=wlk P.length i (Wy P.length i j)) (xj.mpr (wS.imp λh q=>h ∅)) (qk1 hi hd) (λx hx=>by
  have:=qj6 hi hd x hx;exact zT.mpr ⟨x.toNat,yC.mpr ∅,∅⟩)
 rw[zj]at b;unfold wlk at b;rw[zj]at b;refine(show _=_ from b).trans ?_
 congr 1
 refine yK λk hk=>?_;have hk':=yC.mp hk;have m:=qil hi hj hk';unfold wlk at m;rw[qv hk',qix hP hn hi hj hk'];show (if bz∈_ then lgN n P k else 0)=_
 by_cases z:Wy P.length i k<Wy P.length i j
 ·rw[vC (m.mpr z),vC ⇑z]
 ·rw[vG λq=>z (m.mp q),vG ⇑z]
theorem qle{P:aa}(hP:P.Pairwise (· < ·)){n:Int}(hn:∀p∈P,0<=p/\p<n){k:Nat}(hk:IY):
  glN n (m7,P.getD (if k+1<P.length then k+1 else 0) 0)=lgN n P k:=by
 have up:∀{a b:Nat}(ha:EU)(hb:ET),a<b->P[a]<P[b]:=λha hb h=>yY.mp hP _ _ ha hb h;have b0:=hn _ (zd lm);have bk:=hn _ (zd hk);unfold glN lgN
 by_cases z:k+1<P.length
 ·have u:=up hk z ∅
  have b1:=hn _ (zd z);rw[fG,fG,OO,qv z,vG (show ¬P[k]=P[k+1] by omega),q1u b1 bk,EO]
 ·rw[fm,fm,OO,qv lm]
  by_cases y:k=0
  ·subst y
   show (if P[0]=P[0]then n else _)=_;rw[jT];omega
  ·have u:=up lm hk ∅
   show (if P[k]=P[0]then n else (P[0]-P[k])%n)=_;rw[Cf,q1u b0 bk,Cf];omega
theorem qkA{P:aa}(hP:P.Pairwise (· < ·)){n:Int}(hn:∀p∈P,0<=p/\p<n):egs n P=(zY P.length).map λk=>(m7,dH,lgN n P k):=by
 unfold egs;rw[q96,zj];refine yK λk hk=>?_;have:=qle hP hn (yC.mp hk);show Nd=_;unfold nxN;rw[this]
theorem q9p{α β γ:Type}(f:SD)(g:α->γ):∀l:List α,(l.map f).zip OQ=l.map λa=>(f a,g a)
 | []=>rfl
 | a::l=>by rw[zO,zO,List.zip_cons_cons,q9p f g l];rfl
theorem qaf{α:Type}{f g:k7}:∀{l:bN},(∀x∈l,f x<=g x)->(l.map f).sum<=(l.map g).sum
 | [],_=>yd _
 | x::l,h=>by
  rw[zO,zO,za,za];have:=h x zG;have:=qaf (l:=l) λy hy=>h y (zH _ hy);omega
theorem qal{α:Type}{f:k7}{q:α->Bool}:∀(l:bN),((l.filter q).map f).sum=(l.map λx=>if q x=true then f x else 0).sum
 | []=>rfl
 | x::l=>by
  rw[yO,zO,za,<- qal l]
  by_cases z:q x=true
  ·rw[fG,fG,zO,za]
  ·rw[fm,fm,xm]
theorem qb8{Z Zb w w':Int}{T:ah}{t0:fW}{E:df}{a a':ou}(v:Ez)(v':Wv (Zb+Z) (t0::T) E a' w')(nn:∀e∈E,0<=Yy e)(δ:Eg->Bool)(hz:Zb=(E.map λe=>if δ e=true then Yy e else 0).sum)(ha:∀e∈E,(δ e=false->a' e=a e)/\(δ e=true->a' e=a e+1\/a' e=a e-1))(way:∀X,(∀e∈E,δ e=true->Rch X e.1 e.2.1)->Rch X t0.1 t0.2):w<=w':=by
 obtain⟨m,⟨_,lo⟩,rfl⟩:=v;obtain⟨m',⟨⟨C,c1,_,c3,c4⟩,_⟩,rfl⟩:=v';have inY:∀{e},e∈E->δ e=true\/a e≠0->Rch (T++(E.filter λe=>a e != 0).map Xd++(C++E.filter λe=>δ e&&a e==0).map Xd) e.1 e.2.1:=λ{e} he q=>by
  by_cases z:a e=0
  ·refine .of (zF _ (zT.mpr ⟨e,zF _ Tt,rfl⟩))
   rw[q.resolve_right λr=>r z,z];rfl
  ·exact .of (zI _ (zF _ (zT.mpr ⟨e,zm.mpr ⟨he,by simpa using z⟩,rfl⟩)))
 have ml:=lo (C++E.filter λe=>δ e&&a e==0) (λc hc=>by
  rcases zL.mp hc with k|k
  ·exact c1 c k
  ·exact(zm.mp k).1) λe he=>(c3 e he).sub λt ht=>by
   rcases zL.mp ht with ht|ht
   ·rcases zL.mp ht with ht|ht
    ·rcases zK.mp ht with rfl|ht
     ·exact way _ λe he q=>inY he (.inl q)
     ·exact .of (zI _ OE)
    ·obtain⟨d,hd,rfl⟩:=zT.mp ht
     obtain⟨d1,d2⟩:=zm.mp hd;refine inY d1 ?_;cases q:δ d with
     | true=>exact .inl rfl
     | false=>rw[(ha d d1).1 q]at d2;exact .inr ⇑d2
   ·obtain⟨d,hd,rfl⟩:=zT.mp ht
    exact .of (zF _ (zT.mpr ⟨d,zI _ hd,rfl⟩))
 rw[zN,yR,qal]at ml;have s1:=qaf (l:=E) (f:=λe=>Yy e*XJ (a e)+((if abS=true then Yy e else 0)+(if abS=true then Yy e else 0))) (g:=λe=>Yy e*XJ Qw+(if δ e=true then Yy e else 0)) λe he=>by
  have n0:=nn e he;obtain⟨h1,h2⟩:=ha e he;cases q:δ e with
  | false=>rw[h1 q];simp
  | true=>
   by_cases z:a e=0
   ·have e1:XJ Qw=1:=by
     rcases h2 q with r|r <;> rw[r,z] <;> rfl
    have e0:XJ (a e)=0:=by rw[z];rfl
    simp only[z,e1,Zy,BEq.rfl,if_true];rw[show XJ 0=0 from rfl];omega
   ·have z':(true&&a e==0)=false:=by simpa using z
    have le:XJ (a e)<=XJ Qw+1:=by
     unfold XJ;rcases h2 q with r|r <;> rw[r] <;> split <;> split <;> omega
    have:=wY le n0;rw[Int.mul_add,wX]at this;simp only[z',yF,if_false,if_true];omega
 rw[q5Q,q5Q,q5Q,<- hz]at s1;omega
theorem q3N{n h l x:Int}{bs:bP}{b:ag}(hw:eT):Yw n h l GC x=Yw n h l bs x+(if b.2.2=1 then (if goN n b.1 b.2.1 x=true then -1 else 0)else (if goN n b.2.1 b.1 x=true then 1 else 0)):=by
 unfold Yw rts lfs;rw[yO,yO];rcases hw with w|w
 ·have e1:KF=goN n b.1 b.2.1 x:=by rw[w];rfl
  have e2:Jh=false:=by rw[w];rfl
  rw[e1,e2,vC w];cases goN n b.1 b.2.1 x
  ·simp
  ·simp only[if_true,zM,yF,if_false];omega
 ·have e1:KF=false:=by rw[w];rfl
  have e2:Jh=goN n b.2.1 b.1 x:=by rw[w];rfl
  rw[e1,e2,vG (show ¬b.2.2=1 by rw[w];decide)];cases goN n b.2.1 b.1 x
  ·simp
  ·simp only[if_true,zM,yF,if_false];omega
theorem q9l{P:aa}(hP:P.Pairwise (· < ·)){n:Int}(hn:KP){s g:Int}(hs:s∈P)(hg:g∈P):(g-s)%n=((egs n P).map λe=>if goN n s g e.1=true then Yy e else 0).sum:=by
 rw[qiW hP hn hs hg,qkA hP hn,zj];rfl
theorem qkI{Z w w' n c h l:Int}{bs:bP}{b:ag}{Q:aa}(hQ:Q.Pairwise (· < ·))(n0:0<n)(hn:Dh)(h1:b.1∈Q)(h2:b.2.1∈Q)(hw:eT)(v:Wv Z jY Bj aN w)(v':Wv (stN n b+Z) ((b::bs).map two++fq) Bj (λe=>Yw n h l GC e.1+c) w'):w<=w':=by
 rcases id hw with q|q
 ·have e:stN n b=(b.2.1-b.1)%n:=by unfold stN;rw[q,wX]
  refine qb8 v (t0:=two b) v' Rq (λe=>goN n b.1 b.2.1 e.1) (e.trans (q9l hQ hn h1 h2)) (λe _=>?_) λX hX=>q7u hQ hn h1 h2 hX;show (goN n b.1 b.2.1 e.1=false->Yw n h l GC e.1+c=Yw n h l bs e.1+c)/\(goN n b.1 b.2.1 e.1=true->Yw n h l GC e.1+c=Yw n h l bs e.1+c+1\/Yw n h l GC e.1+c=Yw n h l bs e.1+c-1);rw[q3N hw,vC q];exact⟨λk=>by rw[k];simp,λk=>by rw[k];right;simp only[if_true];omega⟩
 ·have e:stN n b=(b.1-b.2.1)%n:=by unfold stN;rw[q];congr 1;omega
  refine qb8 v (t0:=two b) v' Rq (λe=>goN n b.2.1 b.1 e.1) (e.trans (q9l hQ hn h2 h1)) (λe _=>?_) λX hX=>(q7u hQ hn h2 h1 hX).symm;show (goN n b.2.1 b.1 e.1=false->Yw n h l GC e.1+c=Yw n h l bs e.1+c)/\(goN n b.2.1 b.1 e.1=true->Yw n h l GC e.1+c=Yw n h l bs e.1+c+1\/Yw n h l GC e.1+c=Yw n h l bs e.1+c-1);rw[q3N hw,vG (by rw[q];decide)];exact⟨λk=>by rw[k];simp,λk=>by rw[k];left;simp only[if_true];omega⟩
noncomputable def St(h l:Int)(bs:bP):List Int:=XF cG
def WR(n h l:Int)(bs:bP)(c w:Int):Prop:=Wv (bs.map dy).sum jY ci aN w
structure RgO (n h l:Int) (bs:List (Int×Int×Int)):Prop where
 n1:1<=n
 n9:n<=10^39
 hh:0<=h/\h<n
 hl:0<=l/\l<n
 lb:bs.length<=20
 hb:∀b∈bs,(0<=b.1/\b.1<n)/\(0<=b.2.1/\b.2.1<n)/\(b.2.2=1\/b.2.2=-1)
theorem q02{x h l:Int}{bs:bP}:x∈St h l bs↔x=h\/x=l\/∃b∈bs,x=b.1\/x=b.2.1:=by
 unfold St;rw[qQ];unfold plc;rw[zK,zK];refine or_congr_right (or_congr_right ⟨qj4,?_⟩);rintro⟨b,hb,rfl|rfl⟩
 ·exact(qcw hb).1
 ·exact(qcw hb).2
section
variable{n h l:Int}{bs:List (Int×Int×Int)}(O:RgO n h l bs)
include O
theorem RgO.up:(St h l bs).Pairwise (· < ·):=qX
theorem RgO.inr:InR n ao:=λp hp=>by
 rcases q02.mp hp with rfl|rfl|⟨b,hb,rfl|rfl⟩
 ·exact O.hh
 ·exact O.hl
 ·exact(O.hb b hb).1
 ·exact(O.hb b hb).2.1
theorem RgO.len:(St h l bs).length<64:=by
 have a:(XF cG).length<=(plc h l nQ).length:=q3R _;have b:(plc h l nQ).length=2*bs.length+2:=by show (flat nQ).length+1+1=_;rw[q4G,zB]
 have:=O.lb;show (XF cG).length<64;omega
theorem RgO.bin:∀b∈bs,b.1∈St h l bs/\b.2.1∈St h l bs:=λb hb=>⟨q02.mpr (.inr (.inr ⟨b,hb,bD⟩)),q02.mpr (.inr (.inr ⟨b,hb,Iy⟩))⟩
end
theorem zipE{P:aa}{n:Int}(F:cM):(egs n P).zip abr=(egs n P).map λe=>(e,F e.1):=by
 have e:P.map F=(egs n P).map λe=>F e.1:=by
  conv=>lhs;rw[<- q0c n P]
  rw[zj];rfl
 have z:=q9p (λe:Eg=>e) (λe=>F e.1) aa6;rw[List.map_id']at z;rw[e,z]
theorem qgT{P:aa}{n:Int}(F:cM):lkT aa6 abr=((egs n P).filter λe=>F e.1 != 0).map Xd:=by
 unfold lkT;rw[zipE,List.filter_map,zj];rfl
theorem ql6{P:aa}{n:Int}(F:cM)(K:df):ewN aa6 abr K=((egs n P).map λe=>Yy e*XJ (F e.1)).sum+2*(K.map Yy).sum:=by
 unfold ewN;rw[zipE,zj];rfl
theorem ok_Q{n h l:Int}{bs:bP}{Q:aa}(hQ:Q.Pairwise (· < ·))(hl:Q.length<64)(lb:iH)(mh:h∈Q)(ml:l∈Q)(mb:∀b∈bs,b.1∈Q/\b.2.1∈Q)(c:Int):Ok Q (bs.map two++fq++((egs n Q).filter λe=>Yw n h l bs e.1+c != 0).map Xd):=by
 have el:(egs n Q).length=Q.length:=by have:=vm yh (q0c n Q);rwa [zB]at this
 refine⟨hQ.imp λq=>∅,λe m=>?_,hl,?_⟩
 ·rcases zL.mp m with m|m
  ·rcases zL.mp m with m|m
   ·obtain⟨b,hb',rfl⟩:=zT.mp m
    exact mb b hb'
   ·rw[Mb];exact⟨mh,ml⟩
  ·obtain⟨q,hq,rfl⟩:=zT.mp m
   exact qI q (zm.mp hq).1
 ·have a:=xh (λe:Eg=>Yw n h l bs e.1+c != 0) Bj
  rw[zE,zE,zB,zB];show bs.length+1+_<=1000;omega
section
variable{n h l:Int}{bs:List (Int×Int×Int)}(O:RgO n h l bs)
include O
theorem RgO.ok(c:Int):Ok ao (bs.map two++fq++((egs n ao).filter λe=>Yw n h l bs e.1+c != 0).map Xd):=ok_Q O.up O.len O.lb Pt Gp O.bin c
theorem RgO.wv(c:Int){f:cM}(hf:Tells ao (bs.map two++fq++((egs n ao).filter λe=>Yw n h l bs e.1+c != 0).map Xd) f):
  WR n h l bs c ((bs.map dy).sum+(((egs n ao).map λe=>Yy e*XJ bF).sum+2*((Xn f iY).2.map Yy).sum)) :=
 ⟨_,qbY (q4v O.up n) hf (O.ok c).inn qI (q2y (by have:=O.n1;omega)),(Zz _ _ _).symm⟩
theorem RgO.ex(c:Int):∃w,WR n h l bs c w:=by
 obtain⟨_,_,f,_,_,_,_,_,hf⟩:=qai (O.ok c);exact⟨_,O.wv c hf⟩
theorem RgO.weight(c:Int)(hc:-200<=c/\c<=200):∃w,qK eG=↥jw/\WR n h l bs c Tk:=by
 have el:(egs n ao).length=(St h l bs).length:=by have:=vm yh NW;rwa [zB]at this
 have k:=O.ok c;have lk:=qgT (P:=St h l bs) (n:=n) λx=>Yw n h l bs x+c;rw[<- lk]at k;rw[<- q0c n ao]at k;rw[NW]at k;obtain⟨f,f1,f2⟩:=qdr (es:=egs n ao) (ls:=(St h l bs).map λx=>Yw n h l bs x+c) O.lb (by rw[el];exact O.len) (λx hx=>by
  obtain⟨y,_,rfl⟩:=zT.mp hx;have:=q38 (n:=n) (h:=h) (l:=l) (x:=y) O.lb;omega) (by rw[q0c];exact k) (λe m=>by rw[q0c];exact qI e m)
 rw[q0c,lk]at f1;rw[zj,ql6]at f2;exact⟨_,f2,O.wv c f1⟩
end
theorem qeF{Z w w':Int}{T:ah}{E:df}{a a':ou}(v:Ez)(v':Wv Z T E a' w')(nn:∀e∈E,0<=Yy e)(h0:∀e∈E,a e≠0)(hl:∀e∈E,XJ (a e)<=XJ Qw):w<=w':=by
 obtain⟨m,⟨_,lo⟩,rfl⟩:=v;obtain⟨m',⟨⟨C,c1,_,_,c4⟩,_⟩,rfl⟩:=v';have ml:=lo [] (by simp) λe he=>.of (zI _ (zF _ (zT.mpr ⟨e,zm.mpr ⟨he,by simpa using h0 e he⟩,rfl⟩)));rw[yS,xa]at ml;have m0:=q4B λc hc=>nn c aa8;have su:=qaf (l:=E) (f:=λe=>Yy e*XJ (a e)) (g:=λe=>Yy e*XJ Qw) λe he=>wY (hl e he) (nn e he);omega
theorem q5L{Z w w':Int}{T:ah}{E:df}{a:ou}(v:Ez)(v':Wv Z T E a w'):w<=w':=qcO v' v id id (by rw[wB]) jP jP II λt ht=>.of ht
theorem rl2{n h l:Int}{bs:bP}(O:jZ):∃(W:cM) (B:aa),B=(St h l bs).map mG/\B≠[]/\(0<nT B/\nT B<=100)/\q1E gm=some (.fr ((zY AR).map λk:Nat=>WD (bs.map dy).sum W iX)) /\
  q0o gm=↥(.int (WC ((zY AR).map λk:Nat=>(bs.map dy).sum+W iX)))/\(∀k:Nat,k<nT B->WR n h l bs iX ((bs.map dy).sum+W iX))/\∀c w,WR n h l bs c w->WC ((zY AR).map λk:Nat=>(bs.map dy).sum+W iX)<=w:=by
 have key:∀c:Int,∃w,-200<=c->c<=200->qK eG=↥jw/\WR n h l bs c Tk:=λc=>by
  by_cases hc:-200<=c/\c<=200
  ·obtain⟨w,h1,h2⟩:=O.weight c hc
   exact⟨w,λ_ _=>Tm⟩
  ·exact⟨0,λa b=>vM ⟨a,b⟩ hc⟩
 obtain⟨W,hW⟩:∃W:Int->Int,∀c:Int,-200<=c->c<=200->qK eG=↥(.int (W c))/\WR n h l bs c ((bs.map dy).sum+W c):=⟨λc=>(key c).choose,λc=>(key c).choose_spec⟩;have TU:=qg8 O.n1 O.n9 O.hh O.hl O.lb O.hb (P:=St h l bs) rfl (w:=W) λc h1 h2=>(hW c h1 h2).1;have hm:h∈St h l bs:=q02.mpr bD;generalize hB:(St h l bs).map mG=B at TU ⊢;have B0:B≠[]:=λe=>by rw[<- hB]at e;rw[NM]at hm;simp at hm
 have Bb:∀b∈B,-21<=b/\b<=21:=λb hb'=>by
  rw[<- hB]at hb';obtain⟨x,_,rfl⟩:=zT.mp hb';exact q38 O.lb
 obtain⟨r1,r2,r3,r4⟩:=rngT B0 Bb;have k0:zY AR≠[]:=λe=>by have:=vm yh e;rw[zk]at this;exact vM this (by show ¬nT B=0;omega)
 have RL:=qf3 (f:=λk:Nat=>loT B+bz) k0 (by rw[zk];omega) TU;obtain⟨q1,q2⟩:=q0U (ns:=(zY AR).map λk:Nat=>(bs.map dy).sum+W iX) λe=>k0 NM;refine⟨W,B,rfl,B0,Ao,TU,RL,λk hk=>(hW _ ∅ ∅).2,λc w v=>?_⟩
 ·have mx:=(q1F B0)
  have mn:=(q0U B0);have ends:loT B+(nT B:Int)=2-WC B:=by
   have:=mx.2 _ mn.1;unfold nT loT;omega
  have inB:∀e∈egs n (St h l bs),Yw n h l bs e.1∈B:=λe he=>by rw[<- hB];exact zu (qI e he).1
  have nn:=q2y (P:=St h l bs) (n:=n) (by have:=O.n1;omega);have step:∀c0,loT B<=c0->c0<2-WC B->(bs.map dy).sum+W c0<=w->WC ((zY AR).map λk:Nat=>(bs.map dy).sum+W iX)<=w:=λc0 a b k=>by
   refine ZP (q2 _ (zT.mpr ⟨(c0-loT B).toNat,yC.mpr ∅,rfl⟩)) ?_;rw[show loT B+((c0-loT B).toNat:Int)=c0 by omega];exact k
  by_cases z1:c<loT B
  ·refine step (loT B) (yd _) ∅ AX
   ·have:=mx.2 _ Mu
    show Yw n h l bs e.1+loT B≠0;unfold loT;omega
   ·have:=mx.2 _ Mu
    show XJ (Yw n h l bs e.1+loT B)<=XJ bF;unfold loT at z1 ⊢;unfold XJ;rw[EO,EO];omega
  ·by_cases z2:c<2-WC B
   ·exact step c ∅ z2 (q5L (hW _ ∅ ∅).2 v)
   ·refine step (1-WC B) ∅ ∅ AX
    ·have:=mn.2 _ Mu
     show Yw n h l bs e.1+(1-WC B)≠0;omega
    ·have:=mn.2 _ Mu
     show XJ (Yw n h l bs e.1+(1-WC B))<=XJ bF;unfold XJ;rw[Cf,Cf];omega
def Ch:List ag->Int->Int->Prop
 | [],s,l=>s=l
 | b::r,s,l=>b.1=s/\Ch r b.2.1 l
def On(n:Int)(x:Int):Prop:=0<=x/\x<n
def OnB(n:Int)(b:ag):Prop:=On n b.1/\On n b.2.1/\eT
theorem qkL{n s g l x:Int}(hs:On n s)(hg:On n g)(hl:On n l)(hx:On n x):(if goN n s g x=true then dC else 0)+(if goN n g l x=true then 1 else 0)=(if goN n s l x=true then 1 else 0)+(if (g-s)%n+(l-g)%n=(l-s)%n then 0 else 1):=by
 have n0:0<n:=by unfold On at hs;omega
 have c1:=ad3 n0 s g x;have c2:=ad3 n0 s g l;have r1:=q01 n0 (x-s);have r2:=q01 n0 (g-s);have r3:=q01 n0 (x-g);have r4:=q01 n0 (l-g);have r5:=q01 n0 (l-s);unfold goN;simp only[decide_eq_true_eq];generalize (x-s)%n=U at *;generalize (g-s)%n=G at *;generalize (x-g)%n=X at *;generalize (l-g)%n=M at *;generalize (l-s)%n=L at *;clear hs hg hl hx;rcases c1 with c1|c1 <;> rcases c2 with c2|c2
 ·rw[vG (show ¬U<G by clear c2;omega),vC (show G+M=L from c2.symm)]
  by_cases z:X<M
  ·rw[fG,vC (show U<L by omega)];rfl
  ·rw[fm,vG (show ¬U<L by omega)]
 ·rw[vG (show ¬U<G by clear c2;omega),vG (show ¬G+M=L by clear c1;omega),vC (show X<M by omega),vG (show ¬U<L by omega)]
 ·rw[vC (show U<G by clear c2;omega),vC (show G+M=L from c2.symm),vG (show ¬X<M by omega),vC (show U<L by omega)]
 ·rw[vC (show U<G by clear c2;omega),vG (show ¬G+M=L by clear c1;omega)]
  by_cases z:X<M
  ·rw[fG,vC (show U<L by omega)]
  ·rw[fm,vG (show ¬U<L by omega)];rfl
theorem qiU{n s g x:Int}(hs:On n s)(hg:On n g)(hx:On n x):(if goN n s g x=true then dC else 0)+(if goN n g s x=true then 1 else 0)=if s=g then 0 else 1:=by
 have d1:=dd hg hs;have d2:=dd hs hg;have d4:=dd hx hs;have d5:=dd hx hg;unfold On at *;unfold goN;simp only[decide_eq_true_eq]
 split <;> split <;> split <;> omega
theorem qbE{n:Int}:∀(ms:bP)(s l:Int),Ch ms s l->On n s->On n l->(∀b∈ms,OnB n b)->∃c,∀x,On n x->Yw n s l ms x+c=0
 | [],s,l,h,hs,_,_=>⟨0,λx hx=>by
  cases (show s=l from h);have d1:=dd hs hs;have d2:=dd hx hs;unfold On at *;unfold Yw goN;rw[vG (by rw[decide_eq_true_eq];omega)];rfl⟩
 | (a,g,w)::r,s,l,h,hs,hl,hb=>by
  obtain⟨e,h⟩:=h;cases (show a=s from e);have ob:=hb (a,g,w) zG;obtain⟨_,hg,hw⟩:=ob;obtain⟨c0,ih⟩:=qbE r g l h hg hl λb m=>hb b Q3;refine⟨c0+(if (g-a)%n+(l-g)%n=(l-a)%n then 0 else 1)-(if w=1 then 0 else if a=g then 0 else 1),L8⟩;have i:=ih x hx;have ga:=qkL hs hg hl hx;have gb:=qiU hs hg hx;rw[q3N hw];have ex:Yw n a l r x=Yw n g l r x-(if goN n g l x=true then dC else 0)+(if goN n a l x=true then dC else 0):=by unfold Yw;omega
  rw[ex];generalize Yw n g l r x=L at *
  dsimp only at *
  rcases hw with q|q
  ·rw[vC q,vC q]
   generalize goN n a g x=u1 at *;generalize goN n g l x=u2 at *;generalize goN n a l x=u3 at *;cases u1 <;> cases u2 <;> cases u3 <;> simp only[yF,if_false,if_true]at*<;> omega
  ·have q1:¬w=1:=∅
   rw[vG q1,vG q1];generalize goN n a g x=u1 at *;generalize goN n g l x=u2 at *;generalize goN n a l x=u3 at *;generalize goN n g a x=u4 at *;cases u1 <;> cases u2 <;> cases u3 <;> cases u4 <;> simp only[yF,if_false,if_true]at*<;> omega
theorem qdX:∀(ms:bP)(s l:Int),Ch ms s l->∀b∈ms,Rch (ms.map two) s b.1/\Rch (ms.map two) s b.2.1
 | [],_,_,_,b,hb=>by cases hb
 | a::r,s,l,h,b,hb=>by
  obtain⟨e,h⟩:=h;have one:Rch ((a::r).map two) s a.2.1:=by rw[<- e];exact .of zG
  rcases zK.mp hb with rfl|hb
  ·exact⟨by rw[e];exact .refl,one⟩
  ·obtain⟨i1,i2⟩:=qdX r _ _ h b hb
   exact⟨one.trans (i1.mono λt ht=>zH _ ht),one.trans (i2.mono λt ht=>zH _ ht)⟩
theorem qfP(ts:aa)(T:ah):∃f,Tells ts T f:=by
 classical
 refine⟨λx=>(ts.find? λy=>decide RV).getD 0,λx hx y hy=>?_⟩;have own:∀z∈ts,Rch T z ((ts.find? λy=>decide (Rch T z y)).getD 0):=λz hz=>by
  cases q:ts.find? λy=>decide (Rch T z y)with
  | none=>
   have:=List.find?_eq_none.mp q z hz;exact vM (vO (Rch.refl (a:=z))) this
  | some v=>
   have:=List.find?_some q;exact of_decide_eq_true this
 constructor
 ·intro e
  have e':(ts.find? λy=>decide RV).getD 0=(ts.find? λz=>decide (Rch T y z)).getD 0:=e;have a:=own x hx;rw[e']at a;exact a.trans (own y hy).symm
 ·intro r
  have:(λz=>decide (Rch T x z))=λz=>decide (Rch T y z):=funext λz=>decide_eq_decide.mpr ⟨λk=>r.symm.trans k,λk=>r.trans k⟩;show (ts.find? λy=>decide RV).getD 0=_;rw[this]
theorem q6W{Z n h l:Int}{bs:bP}{Q:aa}(n0:0<n)(hQ:Q.Pairwise (· < ·))(mh:h∈Q)(ml:l∈Q)(mb:∀b∈bs,b.1∈Q/\b.2.1∈Q)(c:Int):∃w,Wv Z jY Bj aN w:=by
 obtain⟨f,hf⟩:=qfP Q (bs.map two++fq++((egs n Q).filter λe=>Yw n h l bs e.1+c != 0).map Xd);refine⟨_,_,qbY TM hf (λe m=>?_) qI Rq,rfl⟩;rcases zL.mp m with m|m
 ·rcases zL.mp m with m|m
  ·obtain⟨b,hb',rfl⟩:=zT.mp m
   exact mb b hb'
  ·rw[Mb];exact⟨mh,ml⟩
 ·obtain⟨q,hq,rfl⟩:=zT.mp m
  exact qI q (zm.mp hq).1
theorem qi7{Z n h l c:Int}{ms:bP}{Q:aa}(n0:0<n)(hc:∀e∈egs n Q,Yw n h l ms e.1+c=0)(hr:∀q∈Q,Rch rX h q):Wv Z rX Bj (λe=>Yw n h l ms e.1+c) Z:=by
 refine⟨0,⟨⟨[],by simp,xV,λe he=>?_,rfl⟩,λC hC _=>q4B λx hx=>q2y n0 x (hC x hx)⟩,?_⟩
 ·have i:=qI e he
  have r:=(hr _ i.1).symm.trans (hr _ i.2);exact r.mono λt ht=>zI _ OE
 ·have z:((egs n Q).map λe=>Yy e*XJ SU)=(egs n Q).map λ_=>A9:=yK λe he=>by rw[hc e he];exact ZQ _
  have s0:∀L:List Eg,(L.map λ_=>A9).sum=0:=λL=>by
   induction L with
   | nil=>rfl
   | cons _ _ ih=>rw[zO,za,ih];rfl
  rw[z,s0];omega
theorem qac{n h l c:Int}{bs:bP}{Q:aa}(n0:0<n)(hQ:Q.Pairwise (· < ·))(hn:Dh)(mh:h∈Q)(ml:l∈Q)(mb:∀b∈bs,b.1∈Q/\b.2.1∈Q):∀(gos:bP)(Z w w':Int),(∀b∈gos,b.1∈Q/\b.2.1∈Q/\eT) ->
  Wv Z jY Bj aN w->Wv ((gos.map dy).sum+Z) ((gos++bs).map two++fq) Bj (λe=>Yw n h l aa4 e.1+c) w'->w<=w'
 | [],Z,w,w',_,v,v'=>by
  rw[yS,xa,xm]at v';exact q5L v v'
 | b::r,Z,w,w',hg,v,v'=>by
  have gb:=hg b zG;have mr:∀x∈r++bs,x.1∈Q/\x.2.1∈Q:=λx hx=>(zL.mp hx).elim (λk=>⟨(hg x (zH _ k)).1,(hg x (zH _ k)).2.1⟩) (mb x);obtain⟨w1,v1⟩:=q6W (Z:=(r.map dy).sum+Z) n0 hQ mh ml mr c;have a1:=qac n0 hQ hn mh ml mb r Z w w1 (λx hx=>hg x gX) v v1;rw[zO,za,Zz]at v';have a2:=qkI hQ n0 hn gb.1 gb.2.1 gb.2.2 v1 v';omega
theorem qfI{Z n c h l:Int}{bs:bP}(O:jZ):∀(ex:aa)(w w':Int),(∀p∈ex,On n p)->Wv Z jY ci aN w ->
  Wv Z jY (egs n (XF ma)) aN w'->w<=w':=by
 have n0:0<n:=by have:=O.n1;omega
 have mh:h∈St h l bs:=q02.mpr bD;have ml:l∈St h l bs:=q02.mpr O6;have inr:∀ex:List Int,(∀p∈ex,On n p)->InR n (XF ma):=λex he p hp=>by
  rw[qQ]at hp;exact(zL.mp hp).elim (he p) (O.inr p)
 intro ex
 induction ex with
 | nil=>
  intro w w' he v v';refine q9d (p:=h) O.up qX n0 (inr [] he) JR mh ml O.bin v v';rw[qQ,yP];exact⟨.inr,λk=>k.elim (λe=>e▸mh) id⟩
 | cons p ex ih=>
  intro w w' he v v';have he':∀q∈ex,On n q:=λq hq=>he q OF;have sub:∀z∈St h l bs,z∈XF ma:=λz hz=>qQ.mpr (zF _ hz);obtain⟨w1,v1⟩:=q6W (Z:=Z) (bs:=bs) n0 (qX (ns:=ex++St h l bs)) (sub _ mh) (sub _ ml) si c;have a1:=ih w w1 he' v v1;have a2:=q9d (p:=p) qX qX n0 (inr (p::ex) he) (λz=>by rw[qQ,qQ,ZK,zK]) (sub _ mh) (sub _ ml) si v1 v';omega
theorem qfA{n h l x:Int}{as bs:bP}(p:as.Perm bs):Yw n h l as x=Yw n h l bs x:=by
 unfold Yw rts lfs;rw[Sn,Sn]
theorem qg4{n h l:Int}{bs ms gos:bP}(O:jZ)(hc:Ch ms h l)(pm:ms.Perm aa4)(hm:∀b∈ms,OnB n b):∃c w,WR n h l bs c w/\w<=(ms.map dy).sum:=by
 have n0:0<n:=by have:=O.n1;omega
 obtain⟨c,hz⟩:=qbE ms h l hc O.hh O.hl hm
 let ex:List Int:=ms.map (·.1)++ms.map (·.2.1)
 have he:∀p∈ex,On n p:=λp hp=>by
  rcases zL.mp hp with k|k
  ·obtain⟨b,hb,rfl⟩:=zT.mp k;exact(hm b hb).1
  ·obtain⟨b,hb,rfl⟩:=zT.mp k;exact(hm b hb).2.1
 have inr:InR n (XF ma):=λp hp=>by
  rw[qQ]at hp;exact(zL.mp hp).elim (he p) (O.inr p)
 have up:=qX (ns:=ex++St h l bs);have sub:∀z∈St h l bs,z∈XF ma:=λz hz=>qQ.mpr (zF _ hz);have mh:=sub h Pt;have ml:=sub l Gp;have inm:∀b∈ms,b.1∈XF ma/\b.2.1∈XF ma:=λb hb=>⟨qQ.mpr (zI _ (zI _ (zu (f:=(·.1)) hb))),qQ.mpr (zI _ (zF _ (zu (f:=(·.2.1)) hb)))⟩;have inB:∀b∈gos++bs,b∈ms:=λb hb=>pm.mem_iff.mpr hb;have rc:∀q∈XF (ex++St h l bs),Rch rX h q:=λq hq=>by
  have mv:∀b∈ms,Rch rX h b.1/\Rch rX h b.2.1:=λb hb=>by
   obtain⟨a1,a2⟩:=qdX ms h l hc b hb;exact⟨a1.mono λt ht=>zI _ ht,a2.mono λt ht=>zI _ ht⟩
  rw[qQ]at hq;rcases zL.mp hq with k|k
  ·rcases zL.mp k with k|k
   ·obtain⟨b,hb,rfl⟩:=zT.mp k;exact(mv b hb).1
   ·obtain⟨b,hb,rfl⟩:=zT.mp k;exact(mv b hb).2
  ·rcases q02.mp k with rfl|rfl|⟨b,hb,rfl|rfl⟩
   ·exact .refl
   ·exact .of OG
   ·exact(mv b BW).1
   ·exact(mv b BW).2
 have v0:=qi7 (Z:=(ms.map dy).sum) (c:=c) (h:=h) (l:=l) (ms:=ms) n0 (λe he'=>hz _ (inr _ (qI e he').1)) rc;obtain⟨w2,v2⟩:=q6W (Z:=(ms.map dy).sum) (bs:=gos++bs) n0 up mh ml (λb hb=>inm b (inB b hb)) c;have a2:w2<=(ms.map dy).sum:=qcO v0 v2 id id (by rw[wB]) jP (λe _=>by
  show XJ (Yw n h l aa4 e.1+c)=XJ SU;rw[qfA pm]) II λt ht=>.of (by
   rcases zL.mp ht with k|k
   ·exact zI _ ((pm.map two).mem_iff.mp k)
   ·exact zF _ k)
 have zs:(ms.map dy).sum=(gos.map dy).sum+(bs.map dy).sum:=by
  rw[q2i pm,zN,yR]
 rw[zs]at v2;obtain⟨w1,v1⟩:=q6W (Z:=(bs.map dy).sum) (bs:=bs) n0 up mh ml Ts c;have a1:=qac n0 up inr mh ml Ts gos _ w1 w2 (λb hb=>⟨(inm b IZ).1,(inm b IZ).2,(hm b IZ).2.2⟩) v1 v2;obtain⟨w,v⟩:=O.ex c;have a0:=qfI O ex w w1 he v v1;exact⟨c,w,v,∅⟩
theorem qhv{kf:Ta}{ds:aO}:∀k:Nat,uC eM k<=k/\∀j,j<=k->kn kf ds OK<=kn kf ds j
 | 0=>⟨zQ _,λj hj=>by rw[show j=0 by omega];exact yd _⟩
 | k+1=>by
  obtain⟨h1,h2⟩:=qhv (kf:=kf) (ds:=ds) k;show (if kbt kf ds (k+1) OK=true then k+1 else uC eM k)<=k+1/\∀j,j<=k+1->kn kf ds (if kbt kf ds (k+1) OK=true then k+1 else uC eM k)<=kn kf ds j
  by_cases z:kn kf ds (k+1)<kn kf ds OK
  ·rw[vC (vO z)]
   refine⟨cL,λj hj=>?_⟩
   by_cases e:j=k+1
   ·rw[e];exact yd _
   ·have:=h2 j ∅
    omega
  ·rw[vG (λq=>z (of_decide_eq_true q))]
   refine⟨∅,λj hj=>?_⟩
   by_cases e:j=k+1
   ·rw[e];omega
   ·exact h2 j ∅
theorem qhN{Z:Int}{v:cM}{c:Int}:qC [WD Z v c]=↥(.int (Z+v c)):=by
 unfold qC q2J WD;simp_arith[q0d]
theorem qic{n h l:Int}{bs:bP}(O:jZ):∃c R,q0Y gm=↥mU/\q0o gm=↥(.int R)/\WR n h l bs c R/\(∀c w,WR n h l bs c w->R<=w)/\Oy:=by
 obtain⟨W,B,hB,B0,⟨k0,k1⟩,tu,rl,wr,lo⟩:=rl2 O;generalize hZ:(bs.map dy).sum=Z at *
 let ds:List D:=(zY AR).map λk:Nat=>WD Z W iX
 have dl:ds.length=nT B:=by rw[zB,zk]
 have dg:∀j,j<nT B->ds[j]?=some S7:=λj hj=>by
  rw[zZ,yq hj];rfl
 have ko:∀d∈ds,keyOk qC d=true:=λd hd=>by
  obtain⟨k,_,rfl⟩:=zT.mp hd;unfold keyOk;rw[qhN]
 have kk:∀j,j<nT B->kn (Wa qC) ds j=Z+W (loT B+oZ):=λj hj=>by
  unfold kn;rw[dg j hj];show Wa qC S7=_;unfold Wa;rw[qhN]
 obtain⟨i1,i2⟩:=qhv (kf:=Wa qC) (ds:=ds) (nT B-1);generalize hi:uC (kbt (Wa qC) ds) (nT B-1)=i at i1 i2;have il:i<nT B:=∅
 have mk:=ql5 ko;have ix:zBv (Wa qC) ds=i:=by unfold zBv;rw[dl,hi]
 rw[ix,dg i il]at mk;have Re:WC ((zY AR).map λk:Nat=>Z+W iX)=Z+W T7:=by
  have q:=q0U (ns:=(zY AR).map λk:Nat=>Z+W iX) λe=>by have:=vm yh e;rw[zB,zk]at this;exact vM this (by show ¬nT B=0;omega)
  obtain⟨k,hk,e⟩:=zT.mp q.1;have hk:=yC.mp hk;have a:=i2 k ∅;rw[kk i il,kk k hk]at a;have b:=q.2 _ (zT.mpr ⟨i,yC.mpr il,rfl⟩);omega
 refine⟨loT B+mX,Z+W T7,?_,by rw[rl,Re],wr i il,λc w v=>by rw[<- Re];exact lo c w v,?_⟩
 ·have mk':mkR qC (some (.lst ((zY AR).map λk:Nat=>WD Z W iX)))=↥(WD Z W T7):=mk
  unfold q0Y q41;simp_arith[tu,qkM,mk'];rfl
 ·rw[<- hB]
  unfold nT loT at *;omega
noncomputable def goD(m:ag):D:=.tup [iU, .int m.1,j8,.int m.2.2]
noncomputable def rE(e:Eg):Int×Int×Int:=(e.1,e.2.1,1)
noncomputable def lE(e:Eg):Int×Int×Int:=(e.2.1,e.1,-1)
noncomputable def emE(a:ou)(e:Eg):List ag:=z8 (XJ (a e)).toNat (if 0<a e then rE e else lE e)
noncomputable def emS(a:ou)(E K:df):List ag:=E.flatMap PM++K.flatMap λe=>nR
theorem qho(e:Eg):q1k [N4]=↥(goD LM):=by
 unfold q1k q4W egD;simp_arith[q0d];rfl
theorem qhU(e:Eg):q1D [N4]=↥(goD LN):=by
 unfold q1D q5y egD;simp_arith[q0d];rfl
theorem qcP{α:Type}(d:α):∀n:Nat,(z8 n [d]).flatten=z8 n d
 | 0=>rfl
 | n+1=>by rw[yT,yr,qcP d n,yT];rfl
theorem qap{a:ou}:∀{E:df},(∀e∈E,XJ (a e)<=100)->(E.flatMap PM).length<=100*E.length
 | [],_=>yG _
 | e::E,h=>by
  have ih:=qap (a:=a) (E:=E) λx hx=>h x gX;have t:=h e zG;have q:(emE a e).length<=100:=by unfold emE;rw[yX];omega
  rw[xG,zE,zM];omega
theorem qcz{K:df}:(K.flatMap λe=>nR).length=2*K.length:=by
 induction K with
 | nil=>rfl
 | cons e K ih=>rw[xG,zE,ih,zM];simp only[zM,yy];omega
theorem qk5{n h l c:Int}{bs:bP}(O:jZ)(hc:-30<=c/\c<=30):∃f:Int->Int,Tells ao (bs.map two++fq++((egs n ao).filter λe=>Yw n h l bs e.1+c != 0).map Xd) f /\
  q0Q Li=some (.fr ((emS aN ci (Xn f iY).2).map goD)):=by
 have el:(egs n ao).length=(St h l bs).length:=by have:=vm yh NW;rwa [zB]at this
 have k:=O.ok c;have lk:=qgT (P:=St h l bs) (n:=n) λx=>Yw n h l bs x+c;rw[<- lk]at k;have eF:=q0c n ao;obtain⟨f,f1,f2⟩:=q7n (h:=h) (l:=l) (es:=egs n ao) (ls:=(St h l bs).map λx=>Yw n h l bs x+c) O.lb (by rw[el];exact O.len) (by rw[eF];exact k) (λe m=>by rw[eF];exact qI e m);rw[eF,lk]at f1;refine Pa;have re:q06 gm=some (.fr So):=q89 O.n1 O.n9 O.hh O.hl O.lb O.hb;have rl:q0m Li=some (.fr (((St h l bs).map λx=>Yw n h l bs x+c).map D.int)):=by
  have:=q8v (c:=c) O.n1 O.n9 O.hh O.hl O.lb O.hb;rw[this,zj]
  congr 2
  refine yK λx _=>?_;show D.int Jg=D.int BY;rw[Int.add_comm]
 have zp:=zipE (P:=St h l bs) (n:=n) λx=>Yw n h l bs x+c;have ab:∀e∈egs n (St h l bs),XJ bF<=100:=λe he=>by
  have:=q38 (n:=n) (h:=h) (l:=l) (x:=e.1) O.lb;unfold XJ;split <;> omega
 have Ol:=O.len;have kl:(Xn f iY).2.length<=64:=by
  have a1:=(q0M f iY).length_le;have a2:=(qL (f:=Yy) (l:=egs n ao)).length_eq;omega
 generalize (Xn f iY).2=K at *;generalize hls:(St h l bs).map (λx=>Yw n h l bs x+c)=ls at *;have lsl:ls.length=(egs n ao).length:=by rw[<- hls,zB,el]
 generalize egs n ao=E at *;have ez:zAg (E.map egD) ka=E.map λe=>D.tup [N4,.int bF]:=by
  rw[q5X,zp,zj];rfl
 obtain⟨ω',e1,x8,x9,x10,rfl⟩:=qP (g:=gT 2 MR) (b:=q27) (λe:Eg=>D.tup [N4,.int bF]) E
  (λpre ω=>∃x8 x9 x10:Option W,ω=[↥bI,↥cu,↥cQ,↥av,↥mU,sf,↥Jq,some (.ow ((pre.flatMap jy).map goD)),x8,x9,x10])
  (λpre e post ω hd ⟨x8,x9,x10,hω⟩=>by
   subst hω;refine da;have he:e∈E:=by rw[hd];simp
   have pl:pre.length<=E.length:=by rw[hd,zE];omega
   have hpre:∀x∈pre,XJ SW<=100:=λx hx=>ab x (by rw[hd];exact zI _ hx);have e1:=qap (a:=λe:Eg=>Yw n h l bs e.1+c) hpre;have ae:=ab e he;have gr:=qho e;have gl:=qhU e;have ba:bAbs [.int bF]=↥(.int (XJ bF)):=rfl;have a0:0<=XJ bF:=by unfold XJ;split <;> omega
   have hr:=λd:D=>qku (ds:=[d]) (k:=XJ bF) a0 ∅ (by simp);have ea:(pre.flatMap jy).map goD++z8 (XJ bF).toNat (goD (if 0<Yw n h l bs e.1+c then rE e else lE e))=((pre++[e]).flatMap jy).map goD:=by
    rw[xr,ZR,zN];unfold emE;rw[List.map_replicate]
   have l1:∀d:D,((pre.flatMap jy).map goD).length+(z8 (XJ bF).toNat d).length<=1000000:=λd=>by rw[zB,yX];omega
   unfold q27
   by_cases z:0<Yw n h l bs e.1+c
   ·have dz:decide QG=true:=vO z
    rw[fG]at ea;simp_arith[dz,gr,ba,hr,qcP,q5o (l1 _),ea];exact pz
   ·have dz:decide QG=false:=vT z
    rw[fm]at ea;simp_arith[dz,gl,ba,hr,qcP,q5o (l1 _),ea];exact pz)
  (ω:=[↥bI,↥cu,↥cQ,↥av,↥mU,sf,↥Jq,mQ,none,none,none]) CM
 have M1:=qap (a:=λe:Eg=>Yw n h l bs e.1+c) ab;generalize hM:E.flatMap jy=M at *;obtain⟨ω2,e2,x8',rfl⟩:=qP (g:=gN 8) (b:=q2h) egD K
  (λpre ω=>∃x8:Option W,ω=[↥bI,↥cu,↥cQ,↥av,↥mU,sf,↥Jq,some (.ow ((M++pre.flatMap λe=>nR).map goD)),x8,x9,x10])
  (λpre e post ω hd ⟨x8,hω⟩=>by
   subst hω;refine da;have pl:pre.length<=K.length:=by rw[hd,zE];omega
   have gr:=qho e;have gl:=qhU e;have l1:((M++pre.flatMap λe=>nR).map goD).length+[goD LM,goD LN].length<=1000000:=by
    rw[zB,zE,qcz];simp only[zM,yy];omega
   have ea:(M++pre.flatMap λe=>nR).map goD++[goD LM,goD LN]=(M++(pre++[e]).flatMap λe=>nR).map goD:=by
    rw[xr,ZR,<- yB,zN (l₂:=nR)];rfl
   unfold q2h;simp_arith[gr,gl,q5o l1,ea];exact cf)
  (ω:=[↥bI,↥cu,↥cQ,↥av,↥mU,sf,↥Jq,some (.ow (M.map goD)),x8,x9,x10]) ⟨x8,by rw[List.flatMap_nil,zo]⟩
 unfold q0Q q2O emS;rw[hM];simp_arith[re,rl,ez,e1,f2,e2]
noncomputable def sts(as:ah):List Int:=as.map (·.1)
noncomputable def gls(as:ah):List Int:=as.map (·.2)
theorem q9P:∀(a b:aa),PyData.eqvAll UJ EC=decide (a=b)
 | [],[]=>rfl
 | [],_::_=>rfl
 | _::_,[]=>rfl
 | x::a,y::b=>by
  show (x==y&&PyData.eqvAll UJ EC)=_;rw[q9P a b]
  by_cases z:x=y
  ·subst z
   simp
  ·have:(x==y)=false:=by simpa using z
   rw[this];simp[z]
theorem q9u(a:aa):shp (.lst Cl)=true:=qbH 2 (by decide) λd hd=>by
 obtain⟨m,_,rfl⟩:=zT.mp hd;exact⟨rfl,by show 0<=2;decide⟩
theorem qad(a b:aa):oEq false (.lst Cl) (.lst (b.map D.int))=↥(.bl (decide (a=b))):=by
 unfold oEq;rw[q9u,q9u];show some (R.sh (.bl (PyData.eqvAll UJ EC)))=_;rw[q9P]
noncomputable def Xm(ls:cJ):List Int:=ls.map Int.ofNat
theorem qiQ{as:ah}(hl:as.length<64):qS [bb]=↥VB:=by
 unfold qS q0F;have hl2:(as.map Yx).length<=1000000:=by rw[zB];omega
 have c1:=qB (i:=0) (f:=q0s) Yx (λp=>D.int p.1) as (ω:=EV) (λp _=>by
  unfold q0s Yx;simp_arith[q0d])
 have c2:=qB (i:=0) (f:=q0r) Yx (λp=>D.int p.2) as (ω:=EV) (λp _=>by
  unfold q0r Yx;simp_arith[q0d])
 have e1:(as.map λp=>D.int p.1)=(sts as).map D.int:=by unfold sts;rw[zj];rfl
 have e2:(as.map λp=>D.int p.2)=(gls as).map D.int:=by unfold gls;rw[zj];rfl
 rw[e1]at c1;rw[e2]at c2;have s1:=q68 (ns:=sts as) (by unfold sts;rw[zB];exact hl);have s2:=q68 (ns:=gls as) (by unfold gls;rw[zB];exact hl);have q:oEq false (.lst ((XB (sts as)).map D.int)) (.lst ((XB (gls as)).map D.int))=↥VB:=by
  rw[qad,decide_eq_decide.mpr (qa9 (l:=sts as) (m:=gls as))]
 simp_arith[WQ hl2,inW,WZ,c1,c2,s1,s2,q]
noncomputable def Xc(as:ah)(n:Nat):Int:=(as.getD n (0,0)).1
noncomputable def WU(as:ah)(n:Nat):Int:=(as.getD n (0,0)).2
inductive Wlk (as:List (Int×Int)):Int->List Nat->Int->Prop where
 | nil (a:Int):Wlk as a [] a
 | cons {a b:Int} {n:Nat} {r:List Nat} (h:Xc as n=a) (t:Wlk as (WU as n) r b):Wlk as a (n::r) b
theorem Wlk.app{as:ah}{a b c:Int}{r q:cJ}(h:Wlk as a r b)(h':Wlk as b q c):Wlk as a (r++q) c:=by
 induction h with
 | nil _=>exact h'
 | cons e _ ih=>exact .cons e (ih h')
theorem Wlk.snoc{as:ah}{a b:Int}{r:cJ}{n:Nat}(h:Wlk as a r b)(e:Xc as n=b):Wlk as a (r++[n]) OX:=h.app (.cons e (.nil _))
theorem Wlk.last{as:ah}:∀{r:cJ}{a b:Int}{n:Nat},Wlk as a (r++[n]) b->b=WU as n/\Wlk as a r og
 | [],a,b,n,h=>by
  cases h with
  | cons e t=>cases t;exact⟨rfl,by rw[<- e];exact .nil _⟩
 | m::r,a,b,n,h=>by
  cases h with
  | cons e t=>
   obtain⟨h1,h2⟩:=Wlk.last t;exact⟨h1,.cons e h2⟩
noncomputable def cS(as:ah)(U:cJ)(v:Int):Nat:=U.countP λn=>decide (Xc as n=v)
noncomputable def cD(as:ah)(U:cJ)(v:Int):Nat:=U.countP λn=>decide (WU as n=v)
noncomputable def ind(v h:Int):Int:=if v=h then 1 else 0
def bal(as:ah)(U:cJ)(h x:Int):Prop:=∀v,(cS as U v:Int)-cD as U v=ind v h-ind v x
structure HI (as:List (Int×Int)) (s:Int) (U T B:List Nat) (h:Int):Prop where
 all:(U++(T++B)).Perm (zY as.length)
 inv:∃x T0 T1,T=T0++T1/\Wlk as s T0 x/\Wlk as x T1 h/\Wlk as x B.reverse s/\bal as U h x
 shut:∀n∈B,∀m∈U,Xc as m≠WU as n
theorem qjc{as:ah}{U U':cJ}{n:Nat}(h:Og)(v:Int):cS as U v=cS as U' v+if Xc as n=v then 1 else 0:=by
 unfold cS;rw[h.countP_eq,wT];simp
theorem qiZ{as:ah}{U U':cJ}{n:Nat}(h:Og)(v:Int):cD as U v=cD as U' v+if WU as n=v then 1 else 0:=by
 unfold cD;rw[h.countP_eq,wT];simp
theorem HI.start{as:ah}{s:Int}{U:cJ}(hU:U.Perm jm)(hb:∀v,cS as U v=cD as U v):HI as s U [] [] s :=
 ⟨by simpa using hU,⟨s,[],[],rfl,.nil _,.nil _,.nil _,λv=>by rw[hb v];omega⟩,λn hn=>by cases hn⟩
theorem HI.push{as:ah}{s h:Int}{U U' T B:cJ}{n:Nat}(I:HI as s U T B h)(hn:Og)(hs:Xc as n=h):HI as s U' (T++[n]) B OX:=by
 obtain⟨x,T0,T1,rfl,w0,w1,w2,b⟩:=I.inv;refine⟨?_,⟨x,T0,T1++[n],by rw[yB],w0,w1.snoc hs,w2,λv=>?_⟩,λk hk m hm=>I.shut k hk m (hn.mem_iff.mpr (zH _ hm))⟩
 ·refine xv ?_ I.all
  have h1:(U++Cz).Perm ((n::U')++Cz):=hn.append_right _;refine xv ?_ h1.symm;rw[yB (T0++T1) [n] B];have h2:(U'++((T0++T1)++([n]++B))).Perm (U'++([n]++Cz)):=xO _ (by
   rw[<- yB,<- yB];exact List.Perm.append_right _ xi)
  refine h2.trans ?_;show (U'++(n::Cz)).Perm (n::(U'++Cz));exact wN
 ·have:=b v
  have e1:=qjc (as:=as) hn v;have e2:=qiZ (as:=as) hn v;unfold ind at this ⊢;rw[hs]at e1
  by_cases z1:v=h <;> by_cases z2:v=WU as n
  ·rw[vC z1.symm]at e1;rw[vC z2.symm]at e2;rw[vC z1]at this;rw[vC z2];omega
  ·rw[vC z1.symm]at e1;rw[vG VJ]at e2;rw[vC z1]at this;rw[vG z2];omega
  ·rw[vG VL]at e1;rw[vC z2.symm]at e2;rw[vG z1]at this;rw[vC z2];omega
  ·rw[vG VL]at e1;rw[vG VJ]at e2;rw[vG z1]at this;rw[vG z2];omega
theorem qcr{as:ah}{U:cJ}{v:Int}(h:∀m∈U,Xc as m≠v):cS as U v=0:=by
 unfold cS;rw[Zu];intro m hm;simpa using h m hm
theorem stuck{as:ah}{U:cJ}{h x:Int}(b:bal as U h x)(hs:∀m∈U,Xc as m≠h):h=x:=by
 have:=b h;rw[qcr hs]at this;unfold ind at this;rw[jT]at this
 by_cases z:h=x
 ·exact z
 ·rw[fm]at this;omega
theorem HI.pop{as:ah}{s h:Int}{U T B:cJ}{n:Nat}(I:HI as s U (T++[n]) B h)(hs:∀m∈U,Xc as m≠h):HI as s U T (B++[n]) og:=by
 obtain⟨x,T0,T1,e,w0,w1,w2,b⟩:=I.inv;have hx:=stuck b hs;subst hx;have w:Wlk as s (T++[n]) h:=by rw[e];exact w0.app w1
 obtain⟨e1,e2⟩:=w.last;refine⟨?_,⟨Xc as n,T,[],by rw[zo],e2,.nil _,?_,λv=>by have:=b v;omega⟩,λk hk m hm=>?_⟩
 ·refine xv (xO _ ?_) I.all
  rw[yB];exact xO _ xi
 ·rw[Zp]
  exact .cons rfl (by rw[<- e1];exact w2)
 ·rcases zL.mp hk with y|y
  ·exact I.shut k y m hm
  ·cases zR.mp y
   rw[<- e1];exact hs m hm
structure Rnd (as:List (Int×Int)) (s:Int) (row U:List Nat):Prop where
 all:(U++row).Perm (zY as.length)
 walk:Wlk as s row s
 s0:∀m∈U,Xc as m≠s
 shut:∀n∈row,∀m∈U,Xc as m≠WU as n
 even:∀v,cS as U v=cD as U v
theorem HI.done{as:ah}{s h:Int}{U B:cJ}(I:HI as s U [] B h)(hs:∀m∈U,Xc as m≠h):Rnd as s B.reverse U:=by
 obtain⟨x,T0,T1,e,w0,w1,w2,b⟩:=I.inv;obtain⟨rfl,rfl⟩:=List.append_eq_nil_iff.mp e.symm;cases w0;cases w1;refine⟨?_,w2,hs,λn hn=>I.shut n (List.mem_reverse.mp hn),λv=>by have:=b v;omega⟩;have:=I.all;rw[yP]at this;exact(xO _ (List.reverse_perm B)).trans this
theorem Wlk.mem{as:ah}{V:Int->Prop}:∀{r:cJ}{a b:Int},Wlk as a r b->V a->(∀n∈r,V OX)->∀n∈r,V og
 | [],_,_,_,_,_,n,hn=>by cases hn
 | m::r,a,b,h,ha,hv,n,hn=>by
  cases h with
  | cons e t=>
   rcases zK.mp hn with rfl|hn
   ·rw[e];exact ha
   ·exact t.mem (hv m zG) (λk hk=>hv k (zH _ hk)) n hn
theorem Rnd.full{as:ah}{s:Int}{row U:cJ}(R:Rnd as s row U)(hr:∀a∈as,Rch as s a.1):row.length=as.length:=by
 have hU:U=[]:=by
  cases U with
  | nil=>rfl
  | cons m U'=>
   exfalso
   let V:Int->Prop:=λv=>v=s\/∃n∈row,WU as n=v
   have out:∀v,V v->∀k∈m::U',Xc as k≠v:=λv hv k hk=>by
    rcases hv with rfl|⟨n,hn,rfl⟩
    ·exact R.s0 k hk
    ·exact R.shut n hn k hk
   have inn:∀v,V v->∀k∈m::U',WU as k≠v:=λv hv k hk e=>by
    have h1:=qcr (as:=as) (out v hv);have h2:=R.even v;rw[h1]at h2;have:cD as (m::U') v=0:=h2.symm;unfold cD at this;rw[Zu]at this;exact this k hk ⇑e
   have row_of:∀(n:Nat),n<as.length->(V og\/V OX)->n∈row:=λn hn hv=>by
    have:n∈(m::U')++row:=R.all.mem_iff.mpr (yC.mpr hn);rcases zL.mp this with y|y
    ·rcases hv with hv|hv
     ·exact vM rfl (out _ hv n y)
     ·exact vM rfl (inn _ hv n y)
    ·exact y
   have sv:∀n∈row,V og:=R.walk.mem (V:=V) bD λn hn=>.inr ⟨n,hn,rfl⟩;have cl:∀c,Rch as s c->V c:=λc h=>h.inv V bD λb c hb e=>by
    rcases e with e|e
    ·obtain⟨n,hn,he⟩:=zw.mp e
     have es:Xc as n=b/\WU as n=c:=by
      unfold Xc WU;rw[zV,zD hn,he];exact cH
     exact .inr ⟨n,row_of n hn (.inl (by rw[es.1];exact hb)),es.2⟩
    ·obtain⟨n,hn,he⟩:=zw.mp e
     have es:Xc as n=c/\WU as n=b:=by
      unfold Xc WU;rw[zV,zD hn,he];exact cH
     rw[<- es.1];exact sv n (row_of n hn (.inr (by rw[es.2];exact hb)))
   have hm:m<as.length:=yC.mp (R.all.mem_iff.mp (by simp));have hrm:=hr _ (zd hm);have es:Xc as m=(as[m]).1:=by unfold Xc;rw[zV,zD hm];rfl
   exact out _ (cl _ (by rw[<- es]at hrm;exact hrm)) m zG rfl
 have:=R.all.length_eq;rw[hU,yP,zk]at this;exact this
noncomputable def cst(l:cJ):List Int:=l.map λ(n:Nat)=>ky
structure WT (as:List (Int×Int)) (ks:List Int) (xss:List (List Int)) (U:List Nat):Prop where
 len:ks.length=xss.length
 nd:U.Nodup
 mem:∀(v k:Int),k∈Xs ks xss v↔∃n:Nat,k=n/\n∈U/\Xc as n=v
 gn:∀v,(Xs ks xss v).Nodup
theorem q5c:∀{ks:aa}{xss:eO}(h v:Int),ks.length=xss.length->Xs ks mH v=if v=h then (Xs ks xss h).dropLast else Xs ks xss v
 | [],[],h,v,_=>by
  show ([]:List Int)=if v=h then ([]:List Int).dropLast else []
  split <;> rfl
 | [],_::_,_,_,hl=>by simp at hl
 | _::_,[],_,_,hl=>by simp at hl
 | k::ks,x::xss,h,v,hl=>by
  have ih:=q5c (ks:=ks) (xss:=xss) h v ⇑hl;unfold Xs at ih ⊢;show (XC JG (if k=h then x.dropLast::xss else x::X5 ks xss h) v).getD []=if v=h then ((if k=h then some x else XC ks xss h).getD []).dropLast else (if k=v then some x else XC ks xss v).getD []
  by_cases z:k=h
  ·rw[fG,fG]
   show (if k=v then some x.dropLast else XC ks xss v).getD []=_
   by_cases y:k=v
   ·rw[JZ,vC (by rw[<- y,z])];rfl
   ·rw[K3,vG (λe=>y (by rw[z,e])),K3]
  ·rw[fm,fm]
   show (if k=v then some x else XC ks mH v).getD []=_
   by_cases y:k=v
   ·rw[JZ,vG (λe=>z (by rw[y,e])),JZ]
   ·rw[K3,ih,K3]
theorem q8x:∀(ks:aa)(xss:eO)(h:Int),(X5 ks xss h).length=xss.length
 | [],_,_=>rfl
 | _::_,[],_=>rfl
 | k::ks,x::xss,h=>by
  show (if k=h then x.dropLast::xss else x::X5 ks xss h).length=_
  split
  ·rfl
  ·rw[zM,q8x,zM]
theorem q9O{l:aa}{k a:Int}(nd:l.Nodup)(e:l.getLast?=some k):a∈l.dropLast↔a∈l/\a≠k:=by
 have hl:l=l.dropLast++[k]:=by
  have hne:l≠[]:=λz=>by rw[z]at e;cases e
  have:=wc hne;rw[List.getLast?_eq_getLast hne]at e;rw[zy e]at this;exact this.symm
 rw[hl]at nd;have nd':=yg.mp nd
 constructor
 ·intro h
  exact⟨by rw[hl];exact zI _ h,λz=>nd'.2.2 a h k (by simp) z⟩
 ·rintro⟨h1,h2⟩
  rw[hl]at h1;rcases zL.mp h1 with y|y
  ·exact y
  ·exact vM (zR.mp y) h2
theorem WT.pop{as:ah}{ks:aa}{xss:eO}{U:cJ}(W:WT as ks xss U){h:Int}{m:Nat}(e:(Xs ks xss h).getLast?=some jo):WT as ks mH (U.erase m):=by
 have hm:jo∈Xs ks xss h:=Zk e;obtain⟨n,en,hn,hs⟩:=(W.mem h m).mp hm;have:n=m:=∅
 subst this;refine⟨by rw[q8x];exact W.len,W.nd.erase _,λv k=>?_,λv=>?_⟩
 ·rw[q5c h v W.len]
  by_cases z:v=h
  ·rw[fG,q9O (W.gn h) e,W.mem h]
   constructor
   ·rintro⟨⟨n',rfl,h1,h2⟩,h3⟩
    exact⟨n',rfl,(W.nd.mem_erase_iff).mpr ⟨λq=>h3 (by rw[q]),h1⟩,by rw[z];exact h2⟩
   ·rintro⟨n',rfl,h1,h2⟩
    obtain⟨a,b⟩:=(W.nd.mem_erase_iff).mp h1;exact⟨⟨n',rfl,b,by rw[<- z];exact h2⟩,λq=>a ∅⟩
  ·rw[fm,W.mem v]
   constructor
   ·rintro⟨n',rfl,h1,h2⟩
    exact⟨n',rfl,(W.nd.mem_erase_iff).mpr ⟨λq=>z (by rw[<- h2,q,hs]),h1⟩,h2⟩
   ·rintro⟨n',rfl,h1,h2⟩
    exact⟨n',rfl,((W.nd.mem_erase_iff).mp h1).2,h2⟩
 ·rw[q5c h v W.len]
  split
  ·exact(W.gn h).sublist (List.dropLast_sublist _)
  ·exact W.gn v
theorem qbS{as:ah}{m:Nat}:(as.getD (jo).toNat (0,0)).1=Xc as m/\(as.getD (jo).toNat (0,0)).2=WU as m:=by
 rw[yc];exact cH
theorem q9N{as:ah}{s:Int}(hl:as.length<=9000){ks:aa}:∀(n:Nat)(xss:eO)(U T B:cJ)(h:Int),HI as s U T B h->WT as ks xss U->2*U.length+T.length<n ->
  ∃row U',X3 as ks n xss (cst T) (cst B) h=some (cst row)/\Rnd as s row U'
 | 0,_,_,_,_,_,_,_,hn=>vM hn Tw
 | n+1,xss,U,T,B,h,I,W,hn=>by
  have tot:U.length+(T.length+B.length)=as.length:=by
   have:=I.all.length_eq;rw[zE,zE,zk]at this;exact this
  unfold X3;cases e:(Xs ks xss h).getLast? with
  | some k=>
   obtain⟨m,rfl,hm,hs⟩:=(W.mem h k).mp (Zk e);have hlt:m<as.length:=yC.mp (I.all.mem_iff.mp (zI _ hm));have pm:=wZ hm;have I':=I.push pm hs;have ul:U.length=(U.erase m).length+1:=by have:=pm.length_eq;rw[zM]at this;exact this
   obtain⟨row,U',r1,r2⟩:=q9N hl n mH (U.erase m) (T++[m]) B _ I' (W.pop e) (by rw[zE,zi];omega);refine VG;show (if 0<=jo/\jo<as.length/\(cst T).length<1000000 then X3 as ks n mH (cst T++[jo]) (cst B) (as.getD (jo).toNat (0,0)).2 else none)=_;rw[vC ⟨∅,∅,by unfold cst;rw[zB];omega⟩,qbS.2];rw[show cst T++[jo]=cst (T++[m]) by unfold cst;rw[zN];rfl];exact r1
  | none=>
   have hem:Xs ks xss h=[]:=xq.mp e;have hs:∀m∈U,Xc as m≠h:=λm hm z=>by
    have:jo∈Xs ks xss h:=(W.mem h m).mpr ⟨m,rfl,hm,z⟩;rw[hem]at this;cases this
   rcases List.eq_nil_or_concat T with rfl|⟨T0,m,rfl⟩
   ·refine⟨B.reverse,U,?_,I.done hs⟩
    show some (cst B).reverse=_;unfold cst;rw[YQ]
   ·rw[List.concat_eq_append]at I hn tot ⊢
    have hlt:m<as.length:=yC.mp (I.all.mem_iff.mp (zF _ (zI _ (by simp))));have I':=I.pop hs;rw[zE,zi]at hn tot;obtain⟨row,U',r1,r2⟩:=q9N hl n xss U T0 (B++[m]) _ I' W ∅;refine VG;have ec:cst (T0++[m])=cst T0++[jo]:=by unfold cst;rw[zN];rfl
    rw[ec];show (match (cst T0++[jo]).getLast? with
     | some k=>if 0<=k/\k<as.length/\(cst B).length<1000000 then X3 as ks n xss (cst T0++[jo]).dropLast (cst B++[k]) (as.getD k.toNat (0,0)).1 else none
     | none=>some (cst B).reverse)=_
    rw[List.getLast?_concat];show (if 0<=jo/\jo<as.length/\(cst B).length<1000000 then X3 as ks n xss (cst T0++[jo]).dropLast (cst B++[jo]) (as.getD (jo).toNat (0,0)).1 else none)=_;rw[vC ⟨∅,∅,by unfold cst;rw[zB];omega⟩,qbS.1,List.dropLast_concat];rw[show cst B++[jo]=cst (B++[m]) by unfold cst;rw[zN];rfl];exact r1
theorem q6A:∀{ks:aa}{xss:eO}(a b v:Int),ks.length=xss.length->a∈ks->Xs ks Ed v=if v=a then Xs ks xss v++[b]else Xs ks xss v
 | [],_,_,_,_,_,h=>by cases h
 | _::_,[],_,_,_,hl,_=>by simp at hl
 | k::ks,x::xss,a,b,v,hl,ha=>by
  unfold Xs;show (XC JG (if k=a then Q5::xss else x::Wf ks xss a b) v).getD []=if v=a then ((if k=v then some x else XC ks xss v).getD [])++[b]else (if k=v then some x else XC ks xss v).getD []
  by_cases z:k=a
  ·rw[fG]
   show (if k=v then some Q5 else XC ks xss v).getD []=_
   by_cases y:k=v
   ·rw[JZ,vC (by rw[<- y,z]),JZ];rfl
   ·rw[K3,vG (λe=>y (by rw[z,e])),K3]
  ·rw[fm]
   have ha':a∈ks:=(zK.mp ha).resolve_left λe=>z e.symm;have ih:=q6A (ks:=ks) (xss:=xss) a b v ⇑hl ha';unfold Xs at ih;show (if k=v then some x else XC ks Ed v).getD []=_
   by_cases y:k=v
   ·rw[JZ,vG (λe=>z (by rw[y,e])),JZ]
   ·rw[K3,ih,K3]
theorem q9n:∀{ks:aa}{xss:eO}(a v:Int),ks.length=xss.length->Xs OR Q4 v=Xs ks xss v
 | [],[],a,v,_=>by
  unfold Xs;show (if a=v then some []else none).getD []=_
  split <;> rfl
 | [],_::_,_,_,hl=>by simp at hl
 | _::_,[],_,_,hl=>by simp at hl
 | k::ks,x::xss,a,v,hl=>by
  have ih:=q9n (ks:=ks) (xss:=xss) a v ⇑hl;unfold Xs at ih ⊢;show (if k=v then some x else XC OR Q4 v).getD []=(if k=v then some x else XC ks xss v).getD []
  by_cases y:k=v
  ·rw[JZ,JZ]
  ·rw[K3,K3,ih]
theorem qhT(as:ah):∀n:Nat,n<=as.length->(byS as n).1.length=(byS as n).2.length/\∀v,Xs (byS as n).1 (byS as n).2 v=cst mV
 | 0,_=>⟨rfl,λv=>rfl⟩
 | n+1,hn=>by
  obtain⟨h1,h2⟩:=qhT as n ∅;have hlt:n<as.length:=∅
  have eb:byS as (n+1)=Xp ME n og:=by
   show (match as[n]? with|some a=>Xp ME n a.1|none=>byS as n)=_;rw[Jz];unfold Xc;rw[zV,Jz];rfl
  have er:∀v,cst ((zY (n+1)).filter λj=>decide KJ)=if v=Xc as n then cst mV++[ky]else cst mV:=λv=>by
   rw[ZZ,Z5]
   by_cases z:v=Xc as n
   ·rw[fG]
    have:([n].filter λj=>decide KJ)=[n]:=by rw[yO,vC (vO z.symm)];rfl
    rw[this];unfold cst;rw[zN];rfl
   ·rw[fm]
    have:([n].filter λj=>decide KJ)=[]:=by rw[yO,vG ⇑(λe=>z e.symm)];rfl
    rw[this,zo]
  rw[eb];unfold Xp
  by_cases ha:Xc as n∈(byS as n).1
  ·rw[vC ha]
   exact⟨by show (byS as n).1.length=(Wf _ _ _ _).length;rw[q6B];exact h1,λv=>by
    show Xs (byS as n).1 (Wf (byS as n).1 (byS as n).2 og n) v=_;rw[q6A _ _ v h1 ha,er v,h2 v]⟩
  ·rw[vG ha]
   have hl':((byS as n).1++[og]).length=((byS as n).2++[[]]).length:=by rw[zE,zE,h1];rfl
   exact⟨by show ((byS as n).1++[og]).length=(Wf _ _ _ _).length;rw[q6B];exact hl',λv=>by
    show Xs Sq (Wf Sq ((byS as n).2++[[]]) og n) v=_;rw[q6A _ _ v hl' (by simp),q9n _ v h1,er v,h2 v]⟩
theorem qkD{l:cJ}(h:l.Nodup):(cst l).Nodup:=by
 unfold cst List.Nodup;rw[xj];exact h.imp λ{a b} z e=>z ∅
theorem qgn(as:ah):WT as (byS as as.length).1 (byS as as.length).2 jm:=by
 obtain⟨h1,h2⟩:=qhT as as.length cL;refine⟨h1,wS,λv k=>?_,λv=>by rw[h2 v];exact qkD (wS.filter _)⟩;rw[h2 v];unfold cst;rw[zT]
 constructor
 ·rintro⟨n,hn,rfl⟩
  obtain⟨a,b⟩:=zm.mp hn;exact⟨n,rfl,a,of_decide_eq_true b⟩
 ·rintro⟨n,rfl,a,b⟩
  exact⟨n,zm.mpr ⟨a,vO b⟩,rfl⟩
theorem q4c{α:Type}(d:α):∀bs:List α,(zY bs.length).map (λk=>bs.getD k d)=bs:=λbs=>by
 apply List.ext_getElem
 ·rw[zB,zk]
 ·intro i h1 h2
  rw[xX,List.getElem_range,zV,zD h2];rfl
theorem qdT(as:ah)(v:Int):cS as jm v=(sts as).count v/\cD as jm v=(gls as).count v:=by
 have h:∀f:Int×Int->Int,(zY as.length).countP (λn=>decide (f Vq=v))=(as.map f).count v:=λf=>by
  have e:=q4c (0,0) as;have:(as.map f)=(zY as.length).map λn=>f Vq:=by
   have:=vm (List.map f) e;rw[zj]at this;exact this.symm
  rw[this,List.count,List.countP_map];rfl
 exact⟨h (·.1),h (·.2)⟩
theorem qgj{as:ah}{s:Int}(hl:as.length<=9000)(hp:Dm):∃row U,Wu s as=some (cst row)/\Rnd as s row U:=by
 have hb:∀v,cS as jm v=cD as jm v:=λv=>by
  rw[(qdT as v).1,(qdT as v).2,hp.count_eq]
 obtain⟨row,U,r1,r2⟩:=q9N (s:=s) hl 100000 (byS as as.length).2 jm [] [] s (HI.start (.refl _) hb) (qgn as) (by rw[zk,yy];omega);exact⟨row,U,by unfold Wu;rw[vC hl];exact r1,r2⟩
structure Rg (as:List (Int×Int)):Prop where
 pm:(sts as).Perm (gls as)
 hg:∀p∈as,∀q∈as,Rch as p.1 q.1
theorem q94{as:ah}{s:Int}{row:aa}(h:Wu s as=some row):q1V [pG,bb]=some (.fr K8):=by
 show ((pairsOf Fn).bind λas=>(Wu s as).map λrow=>O.fr K8)=_;rw[q44,yf,h];rfl
theorem qk0{as:ah}{s:Int}(hl:as.length<64)(hg:Rg as)(hs:∃p∈as,p.1=s):∃row:List Nat,q3y [pG,bb]=↥(.lst EK)/\row.Perm jm/\Wlk as s row s:=by
 have hm:=qiQ (as:=as) hl;rw[vO hg.pm]at hm;obtain⟨row,U,hr,R⟩:=qgj (s:=s) ∅ hg.pm;have hrf:=q94 hr;obtain⟨p,hp,rfl⟩:=hs;have ha:row.length=as.length:=R.full λq hq=>hg.hg p hp q hq;have e1:((((cst row).length:Nat):Int)==Lh)=true:=by
  have:(cst row).length=row.length:=by unfold cst;rw[zB]
  simp only[beq_iff_eq];omega
 have hU:U=[]:=by
  have:=R.all.length_eq;rw[zE,zk]at this;exact yt ∅
 refine⟨row,?_,by have:=R.all;rw[hU,yP]at this;exact this,R.walk⟩;unfold q3y q6r;simp_arith[hm,hrf,e1]
theorem q9o{s:Int}:∀{P:aa},s∈P->∃i,zBT s P=some i/\P[i]?=some s
 | a::r,h=>by
  unfold zBT
  by_cases z:a=s
  ·exact⟨0,vC z,by rw[z];rfl⟩
  ·obtain⟨i,h1,h2⟩:=q9o ((zK.mp h).resolve_left λe=>z e.symm)
   exact⟨i+1,by rw[fm,h1];rfl,h2⟩
theorem qjG{f g:FD}{ω:WSt}:fIdx f g ω=(f ω).bind λd=>(g ω).bind λc=>idxD d c:=rfl
theorem Wlk.split{as:ah}:∀{r q:cJ}{a c:Int},Wlk as a (r++q) c->∃b,Wlk as a r b/\Wlk as b q c
 | [],_,a,_,h=>⟨a,.nil _,h⟩
 | n::r,q,a,c,h=>by
  cases h with
  | cons e t=>
   obtain⟨b,h1,h2⟩:=t.split;exact⟨b,.cons e h1,h2⟩
inductive Mv where
 | go (p q:Int)|box (k:Nat) (p q:Int)
noncomputable def Mv.frm:Mv->Int
 | .go p _=>p
 | .box _ p _=>p
noncomputable def Mv.to:Mv->Int
 | .go _ q=>q
 | .box _ _ q=>q
noncomputable def ends(h:Int):List Mv->Option Int
 | []=>some h
 | m::r=>if m.frm=h then ends m.to r else none
noncomputable def zAv(k:Nat):D:=.int bz
theorem q9C(k:Nat):zAv k=.int bz:=rfl
theorem qgC(ls:cJ):shp He=true:=qbH 2 (by decide) λd hd=>by
 obtain⟨m,_,rfl⟩:=zT.mp hd;exact⟨rfl,by show 0<=2;decide⟩
theorem qis{ds:aO}(h:shp fK=true):oEq false fK jC=↥(.bl ds.isEmpty):=by
 unfold oEq;rw[h];cases ds <;> rfl
noncomputable def bx(bs:ah)(k:Nat):Int×Int:=bs.getD k (0,0)
theorem qfN{α:Type}{xs:bN}{k:Int}(h:Tc):cutD xs none Do=xs.take k.toNat:=by
 unfold cutD;have e:HT.sIx xs.length xs.length Do=min k.toNat xs.length:=by
  have:=HT.q39 xs.length xs.length k.toNat;rw[show Ti=k by omega]at this;exact this
 rw[HT.q4M,e,YJ,wp,Zc];omega
theorem qgv{α:Type}{xs:bN}{k:Int}(h:Tc):cutD xs Do none=xs.drop k.toNat:=by
 unfold cutD;have e:HT.sIx xs.length 0 Do=min k.toNat xs.length:=by
  have:=HT.q39 xs.length 0 k.toNat;rw[show Ti=k by omega]at this;exact this
 rw[HT.q4M,e,wE (by rw[yN];omega)];rcases YG k.toNat xs.length with z|z
 ·rw[ZY z]
 ·rw[Nat.min_eq_right z,wP,List.drop_of_length_le z]
theorem qiL{as x:ah}{n:Nat}(h:n<as.length):Xc (as++x) n=Xc as n/\WU (as++x) n=WU as n:=by
 unfold Xc WU;rw[zV,zV,zg h];exact cH
theorem Wlk.low{as x:ah}:∀{r:cJ}{a b:Int},Wlk (as++x) a r b->(∀n∈r,n<as.length)->Wlk as a r b
 | [],_,_,h,_=>by cases h;exact .nil _
 | n::r,a,b,h,hl=>by
  cases h with
  | cons e t=>
   have sa:=qiL (x:=x) (hl n zG);rw[sa.1]at e;rw[sa.2]at t;exact .cons e (t.low λk hk=>hl k (zH _ hk))
theorem qjf{row:cJ}{j n:Nat}(h:(cst row)[j]?=some ky):row[j]?=some n:=by
 unfold cst at h;rw[zZ]at h;cases e:row[j]? with
 | none=>rw[e]at h;cases h
 | some m=>
  rw[e]at h;have:jo=n:=zy h;rw[show m=n by omega]
theorem qkj{as:ah}{h l:Int}(hl:as.length<63)(hg:Rg RI):∃q:List Nat,q0w [cu,cQ,bb]=some (.fr ((cst q).map D.int))/\q.Perm jm/\Wlk as h q l:=by
 have hs:∃p∈as++[(l,h)],p.1=h:=by
  have m:h∈gls RI:=zT.mpr ⟨(l,h),by simp,rfl⟩;obtain⟨p,hp,e⟩:=zT.mp (hg.pm.mem_iff.mpr m);exact⟨p,hp,e⟩
 have hn:(as++De).length=as.length+1:=by rw[zE,zi]
 obtain⟨row,hr,hp,hw⟩:=qk0 (s:=h) ∅ hg hs;rw[hn]at hp;have mn:Lh∈cst row:=zT.mpr ⟨as.length,hp.mem_iff.mpr (yC.mpr Qe),rfl⟩;obtain⟨j,j1,j2⟩:=q9o mn;have j3:=qjf j2;obtain⟨jl,j4⟩:=ze.mp j3;have er:row=row.take j++as.length::row.drop (j+1):=by
  rw[<- j4,List.getElem_cons_drop,y9]
 have pm:(row.drop (j+1)++row.take j).Perm jm:=by
  have p1:(as.length::mC).Perm row:=by
   have:(row.take j++as.length::row.drop (j+1)).Perm (as.length::mC):=wN.trans (List.Perm.cons _ xi);rw[<- er]at this;exact this.symm
  have p2:(zY (as.length+1)).Perm (as.length::zY as.length):=by
   rw[ZZ];exact xi
  exact((p1.trans hp).trans p2).cons_inv
 have lt:∀n∈row.drop (j+1)++row.take j,n<as.length:=λn hn=>yC.mp (pm.mem_iff.mp hn);refine⟨mC,?_,pm,?_⟩
 ·unfold q0w q2I
  have ad:Xz bb (.lst [.tup [cQ,cu]])=some (.fr ((as++De).map Yx)):=by
   rw[q7B (by rw[zB,zi];omega),zN];rfl
  have ix:idxD (.lst EK) (.int Lh)=↥Js:=by
   show (intsOf EK).bind _=_;rw[q0N,yf,j1];rfl
  have cl:(cst row).length=as.length+1:=by unfold cst;rw[zB,hp.length_eq,zk]
  have c1:=qgv (xs:=(cst row).map D.int) (k:=oZ+1) ∅;have c2:=qfN (xs:=(cst row).map D.int) (k:=oZ) ∅;have a2:Xz (.lst (((cst row).map D.int).drop (oZ+1).toNat)) (.lst (((cst row).map D.int).take (j:Int).toNat))=some (.fr ((cst mC).map D.int)):=by
   rw[q7B (by rw[yN,zr,zB];omega),show (oZ+1).toNat=j+1 by omega,show (j:Int).toNat=j by omega];unfold cst;rw[zN,zN,ZE,ZE,ZD,ZD]
  simp_arith[ad,hr,qjG,ix,qi2,c1,c2,a2]
 ·rw[er]at hw
  obtain⟨b,w1,w2⟩:=hw.split;cases w2 with
  | cons e t=>
   have s1:Xc RI as.length=l/\WU RI as.length=h:=by
    unfold Xc WU;rw[zV,zc cL,wf];exact cH
   rw[s1.1]at e;rw[s1.2]at t;subst e;exact(t.app w1).low lt
noncomputable def i1(p:Prop)[Decidable p]:Int:=if p then 1 else 0
noncomputable def dl(x:Int)(m:ag):Int:=(if m.1=x then dC else 0)-(if m.2.1=x then dC else 0)
noncomputable def crx(n x:Int)(m:ag):Int:=if m.2.2=1 then (if goN n m.1 m.2.1 x=true then dC else 0)else -(if goN n m.2.1 m.1 x=true then dC else 0)
theorem qhk{n:Int}{Q:aa}(hn:Dh){p x:Int}(sc:abo){m:ag}(h1:m.1∈Q)(h2:m.2.1∈Q)(hw:oo):dl x m=crx n x m-crx n p m:=by
 unfold dl crx;rcases hw with q|q
 ·rw[vC q,vC q];exact qd1 hn sc h1 h2
 ·have q1:¬m.2.2=1:=∅
  rw[vG q1,vG q1];have:=qd1 hn sc h2 h1;omega
theorem qh3{n h l x:Int}:∀{bs:bP},(∀b∈bs,b.2.2=1\/b.2.2=-1)->(bs.map GB).sum=(if goN n h l x=true then dC else 0)-Yw n h l bs x
 | [],_=>by unfold Yw rts lfs;simp
 | b::bs,hb=>by
  rw[zO,za,qh3 (h:=h) (l:=l) λc hc=>hb c (zH _ hc),q3N (hb b zG)];unfold crx;rcases hb b zG with q|q
  ·rw[vC q,vC q];split <;> omega
  ·have q1:¬b.2.2=1:=∅
   rw[vG q1,vG q1];split <;> omega
theorem qkB{n:Int}{Q:aa}(hn:Dh){u v x:Int}(sc:Sc n Q u v)(ne:u≠v)(hx:x∈Q):(if goN n u v x=true then dC else 0)=if u=x then 1 else 0:=by
 obtain⟨a1,a2,a3⟩:=sc;have b1:=a3 x hx;have rx:=hn x hx;have ru:=hn u a1;have rv:=hn v a2;have d1:=dd rx ru;have d2:=dd rv ru;unfold goN;simp only[decide_eq_true_eq]
 split <;> split <;> omega
theorem q7M{f:Int×Int×Int->Int}{m:ag}:∀k:Nat,((z8 k m).map f).sum=bz*f m
 | 0=>by simp
 | k+1=>by
  rw[yT,zO,za,q7M k];have:((k+1:Nat):Int)*f m=bz*f m+f m:=by rw[Int.natCast_succ,Int.add_mul,Int.one_mul]
  omega
theorem qjS{n x:Int}{a:ou}{e:Eg}:((emE a e).map GB).sum=a e*(if goN n e.1 e.2.1 x=true then dC else 0):=by
 unfold emE;rw[q7M]
 by_cases z:0<a e
 ·rw[fG]
  have e1:DN=a e:=by unfold XJ;rw[Cf];omega
  rw[e1];rfl
 ·rw[fm]
  have e1:DN=-(a e):=by unfold XJ;split <;> omega
  rw[e1];show -(a e)*(-(if goN n e.1 e.2.1 x=true then dC else 0))=_;rw[Int.neg_mul_neg]
theorem qcp{n x:Int}{a:ou}:∀E:List Eg,((E.flatMap PM).map GB).sum=(E.map λe=>a e*(if goN n e.1 e.2.1 x=true then dC else 0)).sum
 | []=>rfl
 | e::E=>by rw[xG,zN,yR,qcp E,qjS,zO,za]
theorem cr_K{n x:Int}:∀K:List Eg,((K.flatMap λe=>nR).map GB).sum=0
 | []=>rfl
 | e::K=>by
  rw[xG,zN,yR,cr_K K,zO,zO,yS,za,za,xa];show (if goN n e.1 e.2.1 x=true then dC else 0)+(-(if goN n e.1 e.2.1 x=true then dC else 0)+0)+0=0;omega
theorem qeR{f:cM}{x:Int}:∀{E:df},(E.map λe=>e.1).Nodup->x∈E.map DO->(E.map λe=>f e.1*(if e.1=x then dC else 0)).sum=f x
 | [],_,h=>by simp at h
 | e::E,nd,h=>by
  rw[zO,yZ]at nd;rw[zO,za]
  by_cases z:e.1=x
  ·have z0:(E.map λe=>f e.1*(if e.1=x then dC else 0))=E.map λ_=>A9:=yK λq hq=>by
    rw[vG (λw=>nd.1 (by rw[z,<- w];exact zu hq)),ZQ]
   have s0:∀L:List Eg,(L.map λ_=>A9).sum=0:=λL=>by
    induction L with
    | nil=>rfl
    | cons _ _ ih=>rw[zO,za,ih];rfl
   rw[z0,s0,fG,z];omega
  ·rw[zO,zK]at h
   rw[qeR nd.2 (h.resolve_left λw=>z w.symm),fm];omega
theorem qfr{x:Int}:∀ms:List ag,(ms.map (dl x)).sum=((ms.map two).map (·.1)).count x-(((ms.map two).map (·.2)).count x:Int)
 | []=>rfl
 | m::ms=>by
  rw[zO,za,qfr ms];simp only[zO,YW];unfold dl two;have e1:(m.1==x)=decide (m.1=x):=rfl;have e2:(m.2.1==x)=decide (m.2.1=x):=rfl;simp only[beq_iff_eq]
  split <;> split <;> push_cast <;> omega
theorem qf9{n:Int}{Q:aa}(hn:Dh){p x:Int}(sc:abo):∀{ms:bP},(∀m∈ms,m.1∈Q/\m.2.1∈Q/\oo)->(ms.map (dl x)).sum=(ms.map GB).sum-(ms.map (crx n p)).sum
 | [],_=>rfl
 | m::ms,h=>by
  have h0:=h m zG;rw[zO,za,zO,za,zO,za,qf9 hn sc λq hq=>h q OF,qhk hn sc h0.1 h0.2.1 h0.2.2];omega
theorem qhA{n:Int}{Q:aa}{a:ou}{K:df}(hK:∀e∈K,e∈egs n Q):∀m∈emS a (egs n Q) K,m.1∈Q/\m.2.1∈Q/\oo:=λm hm=>by
 have both:∀e∈egs n Q,∀m,(m=rE e\/m=lE e)->m.1∈Q/\m.2.1∈Q/\oo:=λe he m hm=>by
  have i:=qI e he;rcases hm with rfl|rfl
  ·exact⟨i.1,i.2,bD⟩
  ·exact⟨i.2,i.1,Iy⟩
 rcases zL.mp hm with k|k
 ·obtain⟨e,he,k⟩:=yw.mp k
  have:=(wz.mp k).2;refine both e he m ?_
  split at this
  ·exact .inl this
  ·exact .inr this
 ·obtain⟨e,he,k⟩:=yw.mp k
  simp only[zK,zq,or_false]at k;exact both e (hK e he) m k
theorem qjo{n h l c:Int}{bs:bP}(O:jZ){K:df}(hK:∀e∈K,e∈egs n ao)(con:∀e∈egs n (St h l bs),Rch (bs.map two++fq++((egs n ao).filter λe=>Yw n h l bs e.1+c != 0).map Xd++K.map Xd) e.1 e.2.1):
  Rg jI:=by
 have up:=O.up;have inr:=O.inr;have mh:h∈St h l bs:=q02.mpr bD;have ml:l∈St h l bs:=q02.mpr O6;have ei:=qhA (a:=λe=>Yw n h l bs e.1+c) hK;have ain:∀m∈bs++emS (λe=>Yw n h l bs e.1+c) (egs n (St h l bs)) K,m.1∈St h l bs/\m.2.1∈St h l bs/\oo:=λm hm=>(zL.mp hm).elim (λk=>⟨(O.bin m k).1,(O.bin m k).2,(O.hb m k).2.2⟩) (ei m);have Ein:∀t∈(bs++emS (λe=>Yw n h l bs e.1+c) (egs n (St h l bs)) K).map two++[(l,h)],t.1∈St h l bs/\t.2∈St h l bs:=λt ht=>by
  rcases zL.mp ht with k|k
  ·obtain⟨m,hm,rfl⟩:=zT.mp k;exact⟨(ain m hm).1,(ain m hm).2.1⟩
  ·rw[Q2];exact⟨ml,mh⟩
 constructor
 ·refine List.perm_iff_count.mpr λx=>?_
  have c1:∀A:List fW,sts (A++De)=A.map (·.1)++[l]:=λA=>by unfold sts;rw[zN];rfl
  have c2:∀A:List fW,gls (A++De)=A.map (·.2)++[h]:=λA=>by unfold gls;rw[zN];rfl
  rw[c1,c2,wJ,wJ]
  by_cases hx:x∈St h l bs
  ·obtain⟨p,sc⟩:=qf4 up inr hx
   have s1:=qf9 inr sc ain;have s2:=qfr (x:=x) (bs++emS aN ci K);have cl:=qhk inr sc (m:=PB) mh ml bD;have key:((bs++emS aN ci K).map GB).sum-((bs++emS aN ci K).map (crx n p)).sum=crx n x PB-crx n p PB:=by
    by_cases xp:x=p
    ·rw[xp];omega
    ·have all:∀y∈St h l bs,((bs++emS aN ci K).map (crx n y)).sum=crx n y PB+c:=λy hy=>by
      unfold emS;rw[zN,yR,zN,yR,cr_K,qcp,qh3 (h:=h) (l:=l) λb hb=>(O.hb b hb).2.2];have z:((egs n ao).map λe=>bF*(if goN n e.1 e.2.1 y=true then dC else 0))=(egs n ao).map λe=>bF*(if e.1=y then dC else 0):=yK λe he=>by
       have se:=((q1Z up inr).mp he).1;have ne:e.1≠e.2.1:=λw=>by
        have q1:x=e.1:=Classical.byContradiction λq=>(se.2.2 x hx q).1 w.symm;have q2:p=e.1:=Classical.byContradiction λq=>(se.2.2 p sc.1 q).1 w.symm;exact xp (q1.trans q2.symm)
       rw[qkB inr se ne hy]
      have sa:=qeR (f:=λz=>Yw n h l bs z+c) (E:=egs n ao) (x:=y) (by rw[q0c];exact up.imp λq=>∅) (by rw[q0c];exact hy);rw[z,sa];show _=(if dC=1 then (if goN n h l y=true then dC else 0)else _)+c;rw[jT];omega
     rw[all x hx,all p sc.1];omega
   have dh:dl x PB=(if h=x then dC else 0)-(if l=x then dC else 0):=rfl;simp only[YW,List.count_nil,beq_iff_eq];have a1:(if l=x then 1 else 0:Nat)=(if l=x then dC else 0):=by split <;> rfl
   have a2:(if h=x then 1 else 0:Nat)=(if h=x then dC else 0):=by split <;> rfl
   omega
  ·have z1:∀L:List Int,(∀y∈L,y∈St h l bs)->L.count x=0:=λL hL=>List.count_eq_zero.mpr λk=>hx (hL x k)
   rw[<- wJ,<- wJ,<- c1,<- c2,z1 _ λy hy=>?_,z1 _ λy hy=>?_]
   ·obtain⟨t,ht,rfl⟩:=zT.mp hy;exact(Ein t ht).2
   ·obtain⟨t,ht,rfl⟩:=zT.mp hy;exact(Ein t ht).1
 ·have eR:∀e∈egs n (St h l bs),Rch jI e.1 e.2.1:=λe he=>Rch.sub (λt ht=>by
   have inM:∀m∈bs++emS (λe=>Yw n h l bs e.1+c) (egs n (St h l bs)) K,Rch jI m.1 m.2.1:=λm hm=>.of (zI _ (zu (f:=two) hm));rcases zL.mp ht with k|k
   ·rcases zL.mp k with k|k
    ·rcases zL.mp k with k|k
     ·obtain⟨b,hb,rfl⟩:=zT.mp k
      exact inM b (zI _ hb)
     ·rw[Q2]
      exact(Rch.of OG).symm
    ·obtain⟨q,hq,rfl⟩:=zT.mp k
     obtain⟨hq,nz⟩:=zm.mp hq;have nz:Yw n h l bs q.1+c≠0:=by simpa using nz
     have pos:(XJ (Yw n h l bs q.1+c)).toNat≠0:=by unfold XJ;split <;> omega
     by_cases z:0<Yw n h l bs q.1+c
     ·have m:rE q∈bs++emS aN ci K:=zF _ (zI _ (yw.mpr ⟨q,hq,by
       unfold emE;rw[fG];exact wz.mpr ⟨pos,rfl⟩⟩))
      exact inM (rE q) m
     ·have m:lE q∈bs++emS aN ci K:=zF _ (zI _ (yw.mpr ⟨q,hq,by
       unfold emE;rw[fm];exact wz.mpr ⟨pos,rfl⟩⟩))
      exact(inM (lE q) m).symm
   ·obtain⟨q,hq,rfl⟩:=zT.mp k
    exact inM (rE q) (zF _ (zF _ (yw.mpr ⟨q,hq,zG⟩)))) (con e he)
  have hR:∀x∈St h l bs,Rch jI h x:=λx hx=>q7u up inr mh hx λe he _=>eR e he;exact λp hp q hq=>(hR _ (Ein p hp).1).symm.trans (hR _ (Ein q hq).1)
noncomputable def mvR(m:cq):D:=match m.1 with
 | none=>goD m.2
 | some k=>.tup [cR, oT,j8,iu,lV]
noncomputable def zA8(bs:bP):List cq:=bs.zipIdx.map λp=>ab8
theorem q4P(bs:bP):(zA8 bs).map (·.2)=bs:=by
 unfold zA8;rw[zj];exact List.zipIdx_map_fst 0 bs
theorem q9M:∀(bs:bP)(k:Nat),Wd k A4=(bs.zipIdx k).map λp=>D.tup Dc
 | [],_=>rfl
 | b::bs,k=>by
  rw[zO,List.zipIdx_cons,zO,<- q9M bs (k+1)];rfl
theorem qdf{bs:bP}(hb:iH):q2v [av]=some (.fr UQ):=by
 unfold q2v q5I;have en:=q9M bs 0;have kl:(bs.zipIdx.map λp=>D.tup Dc).length<=1000000:=by rw[zB,List.length_zipIdx];omega
 have cm:=q1i (g:=gT 2 fV) (c:=XQ) (f:=q75) (λw=>∃a b,w=pK) B6 (λp:ag×Nat=>D.tup Dc) (λp=>mvR ab8) bs.zipIdx (ω:=LS) oW λp _ w hw=>by
  obtain⟨a,b,rfl⟩:=hw;exact Su
 rw[HF]at cm;simp_arith[qcM,qd0,en,WQ kl,inW,WZ,cm];unfold zA8;rw[zj];rfl
theorem qkg(m:cq):oSl (mvR m) (some (-3)) (some (-1))=↥(Yx V3):=by
 obtain⟨o,a,b,w⟩:=m;cases o <;> rfl
theorem qes{A:bP}:∀{q:cJ}{s l:Int},Wlk R6 s q l->(∀k∈q,k<A.length)->Ch (q.map λk=>A.getD k Ek) s l
 | [],_,_,h,_=>by cases h;rfl
 | k::q,s,l,h,hk=>by
  cases h with
  | cons e t=>
   have kl:=hk k zG;have g:(A.map two).getD k (0,0)=two (A.getD k Ek):=by
    rw[zV,zV,zZ,zD kl];rfl
   have e1:Xc R6 k=(A.getD k Ek).1:=by unfold Xc;rw[g];rfl
   have e2:WU R6 k=(A.getD k Ek).2.1:=by unfold WU;rw[g];rfl
   rw[e2]at t;exact⟨e1.symm.trans e,qes t λj hj=>hk j (zH _ hj)⟩
theorem qeU{α:Type}(d:α){A:bN}{q:cJ}(h:q.Perm (zY A.length)):(q.map λk=>A.getD k d).Perm A:=by
 have e:=q4c d A;have:=h.map λk=>A.getD k d;rw[e]at this;exact this
theorem qkR{n h l c:Int}{bs:bP}(O:jZ)(hc:-30<=c/\c<=30)(bt:q0Y gm=↥mU)(sh:∀f,Tells ao (bs.map two++fq++((egs n ao).filter λe=>Yw n h l bs e.1+c != 0).map Xd) f->(emS aN ci (Xn f iY).2).length+bs.length<63):
  ∃(f:cM) (ms:KO),Tells ao (bs.map two++fq++((egs n ao).filter λe=>Yw n h l bs e.1+c != 0).map Xd) f/\q1r gm=some (.fr lU) /\
   ms.Perm (zA8 bs++(emS aN ci (Xn f iY).2).map λm=>Rt)/\Ch (ms.map (·.2)) h l:=by
 obtain⟨f,hf,em⟩:=qk5 O hc;have hlen:=sh f hf;have ca:=qdf (bs:=bs) O.lb;have pmK:=qL (f:=Yy) (l:=egs n ao);have hK:∀e∈(Xn f (Y3 Yy (egs n (St h l bs)))).2,e∈egs n ao:=λe he=>pmK.mem_iff.mp EJ;have con:∀e∈egs n (St h l bs),Rch (bs.map two++fq++((egs n ao).filter λe=>Yw n h l bs e.1+c != 0).map Xd++(Xn f iY).2.map Xd) e.1 e.2.1:=λe he=>
  zBX iY f _ [] (by rw[yS,zo];exact hf) (O.ok c).inn (by simp) (λe he=>qI e (pmK.mem_iff.mp he)) e (pmK.mem_iff.mpr he)
 have rg:=qjo O hK con;refine⟨f,?_⟩;generalize emS aN ci (Xn f iY).2=em' at *
 let A:List cq:=zA8 bs++em'.map λm=>Rt
 have A2:A.map (·.2)=bs++em':=by
  show List.map (λm:Option Nat×ag=>m.2) (zA8 bs++em'.map λm=>Rt)=_;rw[zN,q4P,zj]
  congr 1
  exact wB _
 have Al:A.length=bs.length+em'.length:=by
  have t:(A.map (·.2)).length=(bs++em').length:=vm yh A2;rw[zB]at t;rw[t,zE]
 rw[<- A2]at rg;have rg':Rg ((A.map λm=>two m.2)++De):=by rw[zj]at rg;exact rg
 obtain⟨q,q1,q2,q3⟩:=qkj (as:=A.map λm=>two m.2) (h:=h) (l:=l) (by rw[zB];omega) rg';rw[zB]at q2;have ql:∀k∈q,k<A.length:=λk hk=>yC.mp (q2.mem_iff.mp hk);refine⟨q.map λk=>A.getD k DA,hf,?_,qeU _ q2,?_⟩
 ·have ad:Xz (.lst UQ) (.lst (em'.map goD))=some (.fr R7):=by
   have cl:(zA8 bs).length=bs.length:=by have:=vm yh (q4P bs);rwa [zB]at this
   rw[q7B (by rw[zB,zB,cl];omega)];show _=some (R.fr ((zA8 bs++em'.map λm=>Rt).map mvR));rw[zN,zj (l:=em')];rfl
  have k1:(A.map mvR).length<=1000000:=by rw[zB];omega
  have c1:=qB (i:=0) (f:=q3w) mvR (λm=>Yx V3) A (ω:=EV) (λm _=>by
   have s:=qkg m;unfold q3w;simp_arith[s])
  have k2:((cst q).map D.int).length<=1000000:=by unfold cst;rw[zB,zB,q2.length_eq,zk];omega
  have c2:=qB (i:=0) (f:=q3h) (λk:Nat=>D.int bz) (λk=>mvR (A.getD k DA)) q (ω:=[none,↥(.lst R7)]) (λk hk=>by
   have kl:=ql k hk;have at':atI R7 bz=some (mvR (A.getD k DA)):=by
    rw[q0z ∅ (by rw[zB];omega)];rw[zV,zD kl];simp
   unfold q3h;simp_arith[at'])
  have q1':q0w [cu,cQ,.lst Nr]=some (.fr (q.map λk:Nat=>D.int bz)):=by
   rw[zj]at q1;rw[show Nr=A.map (Yx ∘ λm=>two m.2)from rfl,q1];unfold cst;rw[zj];rfl
  have k2':(q.map λk:Nat=>D.int bz).length<=1000000:=by rw[zB,q2.length_eq,zk];omega
  clear_value A
  unfold q1r q4e;simp_arith[bt,ca,em,ad,WQ k1,inW,WZ,c1,q1',WQ k2',c2];rw[zj];rfl
 ·have w2:Wlk ((A.map (·.2)).map two) h q l:=by rw[zj];exact q3
  have:=qes w2 λk hk=>by rw[zB];exact ql k hk
  rw[zj];rw[show (q.map ((·.2) ∘ λk=>A.getD k DA))=q.map λk=>(A.map (·.2)).getD k Ek from yK λk hk=>by
   show (A.getD k DA).2=_;rw[zV,zV,zZ,zD (ql k hk)];rfl]
  exact this
theorem k_ne:∀(es:df)(f:cM)(acc:df),(∀e∈acc,e.1≠e.2.1)->∀e∈(es.foldl Xb (f,acc)).2,e.1≠e.2.1
 | [],_,_,h,e,he=>h e he
 | q::es,f,acc,h,e,he=>by
  rw[ZT]at he
  by_cases z:f q.1=f q.2.1
  ·rw[show Xb mY q=mY by unfold Xb;simp[z]]at he
   exact k_ne es f acc h e he
  ·obtain⟨g,hg⟩:∃g,Xb mY q=(g,acc++[q]):=⟨_,by unfold Xb;rw[fm]⟩
   rw[hg]at he;refine k_ne es g (acc++[q]) L8 e he;rcases zL.mp hx with k|k
   ·exact h x k
   ·rw[Q2]
    exact λw=>z (by rw[w])
theorem qeS:∀(es:df)(f:cM)(acc:df),(∀e∈es,f e.1=f e.2.1)->(es.foldl Xb mY).2=acc
 | [],_,_,_=>rfl
 | q::es,f,acc,h=>by
  have z:=h q zG;rw[ZT,show Xb mY q=mY by unfold Xb;simp[z]];exact qeS es f acc λe he=>h e JW
theorem qeI{n:Int}{Q:aa}(hn:Dh)(hQ:Q.Pairwise (· < ·)){e:Eg}(he:e∈egs n Q)(ne:e.1≠e.2.1):stN n LM=Yy e/\stN n LN=Yy e:=by
 have q:=((q1Z hQ hn).mp he).2;rw[q90 ne]at q;unfold Yy;rw[q];unfold stN rE lE
 constructor
 ·show (e.2.1-e.1)*1%n=_
  rw[wX]
 ·show (e.1-e.2.1)*-1%n=_
  congr 1;omega
theorem qi9{n:Int}{a:ou}{e:Eg}(h:a e≠0->stN n LM=Yy e/\stN n LN=Yy e):((emE a e).map dy).sum=Yy e*XJ (a e):=by
 unfold emE;rw[q7M]
 by_cases z:a e=0
 ·rw[z];show Ah*_=Yy e*0;rw[ZQ];exact Int.zero_mul _
 ·have e0:DN=XJ (a e):=by unfold XJ;split <;> omega
  rw[e0]
  split
  ·rw[(h z).1,Int.mul_comm]
  ·rw[(h z).2,Int.mul_comm]
theorem qb7{n:Int}{a:ou}:∀{E:df},(∀e∈E,a e≠0->stN n LM=Yy e/\stN n LN=Yy e)->((E.flatMap PM).map dy).sum=(E.map λe=>Yy e*XJ (a e)).sum
 | [],_=>rfl
 | e::E,h=>by rw[xG,zN,yR,qb7 λx hx=>h x gX,qi9 (h e zG),zO,za]
theorem qhC{n:Int}:∀{K:df},(∀e∈K,stN n LM=Yy e/\stN n LN=Yy e)->((K.flatMap λe=>nR).map dy).sum=2*(K.map Yy).sum
 | [],_=>rfl
 | e::K,h=>by
  have q:=h e zG;rw[xG,zN,yR,qhC λx hx=>h x gX,zO,zO,yS,za,za,xa,q.1,q.2,zO,za];omega
theorem qe1{n h l c R:Int}{bs:bP}(O:jZ)(wr:WR n h l bs c R)(lo:∀c w,WR n h l bs c w->R<=w){e:Eg}(he:e∈egs n ao)(z:e.1=e.2.1):Yw n h l bs e.1+c=0:=by
 have se:=((q1Z O.up O.inr).mp he);have all:∀x∈St h l bs,x=e.1:=λx hx=>Classical.byContradiction λq=>(se.1.2.2 x hx q).1 z.symm;have eh:=all h Pt;have ell:=all l Gp;have eb:∀b∈bs,b.1=e.1/\b.2.1=e.1:=λb hb=>⟨all _ (O.bin b hb).1,all _ (O.bin b hb).2⟩;have go:∀y,goN n e.1 e.1 y=false:=λy=>by
  unfold goN;have:=xw (y-e.1) (show n≠0 by have:=O.n1;omega);rw[vT];rw[wg,Int.zero_emod];omega
 have l0:∀y,Yw n h l bs y=0:=λy=>by
  have r0:rts n bs y=[]:=xZ.mpr λb hb=>by rw[(eb b hb).1,(eb b hb).2,go];simp
  have f0:lfs n bs y=[]:=xZ.mpr λb hb=>by rw[(eb b hb).1,(eb b hb).2,go];simp
  unfold Yw;rw[eh,ell,go,r0,f0];rfl
 obtain⟨w0,v0⟩:=O.ex 0;have R0:=lo 0 w0 v0;obtain⟨m0,⟨_,lo0⟩,e0⟩:=v0;obtain⟨m,⟨⟨C,c1,_,_,c4⟩,_⟩,eR⟩:=wr;have eR:R=(bs.map dy).sum+((egs n ao).map λe=>Yy e*XJ bF).sum+2*m:=eR;have e0:w0=(bs.map dy).sum+((egs n ao).map λe=>Yy e*XJ SX).sum+2*m0:=e0;have n0:0<n:=by have:=O.n1;omega
 have nn:=q2y (P:=St h l bs) n0;have mp:=q4B λx hx=>nn x (c1 x hx);have m00:=lo0 [] (by simp) λq hq=>by
  rw[all _ (qI q hq).1,all _ (qI q hq).2];exact .refl
 rw[yS,xa]at m00;have z0:((egs n ao).map λe=>Yy e*XJ SX)=(egs n ao).map λ_=>A9:=yK λq _=>by rw[l0];exact ZQ _
 have s0:∀L:List Eg,(L.map λ_=>A9).sum=0:=λL=>by
  induction L with
  | nil=>rfl
  | cons _ _ ih=>rw[zO,za,ih];rfl
 rw[z0,s0]at e0;have le:∀L:List Eg,(∀x∈L,x∈egs n ao)->e∈L->Yy e*XJ bF<=(L.map λe=>Yy e*XJ bF).sum/\0<=(L.map λe=>Yy e*XJ bF).sum:=λL=>by
  have pos:∀x∈egs n (St h l bs),0<=Yy x*XJ SW:=λx hx=>Int.mul_nonneg (nn x hx) (by unfold XJ;split <;> omega);have p0:∀L:List Eg,(∀x∈L,x∈egs n ao)->0<=(L.map λe=>Yy e*XJ bF).sum:=λL=>by
   induction L with
   | nil=>exact λ_=>yd _
   | cons y L ih=>
    intro hL;have a:=pos y (hL y zG);have b:=ih λx hx=>hL x gX;rw[zO,za];omega
  induction L with
  | nil=>exact λ_ h=>by cases h
  | cons y L ih=>
   intro hL hm;have a:=pos y (hL y zG);have b:=p0 L λx hx=>hL x gX;refine⟨?_,p0 _ hL⟩;rw[zO,za];rcases zK.mp hm with rfl|hm
   ·omega
   ·have:=(ih (λx hx=>hL x gX) hm).1
    omega
 have l1:=(le _ (λx hx=>hx) he).1;generalize ((egs n ao).map λe=>Yy e*XJ bF).sum=SS at eR l1;have ce:Yy e=n:=by
  show e.2.2=n;rw[se.2,<- z];exact qhl
 rw[ce]at l1;generalize Yw n h l bs e.1+c=A at *
 by_cases zA:A=0
 ·exact zA
 ·have:0<n*XJ A:=Int.mul_pos n0 (by unfold XJ;split <;> omega)
  omega
theorem qgz{n h l c R:Int}{bs:bP}(O:jZ)(wr:WR n h l bs c R)(lo:∀c w,WR n h l bs c w->R<=w){f:cM}(hf:Tells ao (bs.map two++fq++((egs n ao).filter λe=>Yw n h l bs e.1+c != 0).map Xd) f):
  (bs.map dy).sum+((emS aN ci (Xn f iY).2).map dy).sum=R:=by
 have w2:=O.wv c hf;have a1:=q5L wr w2;have a2:=q5L w2 wr;have pmK:=qL (f:=Yy) (l:=egs n ao);have hK:∀e∈(Xn f (Y3 Yy (egs n (St h l bs)))).2,e∈egs n ao:=λe he=>pmK.mem_iff.mp EJ;unfold emS;rw[zN,yR,qb7 λe he ne=>qeI O.inr O.up he λz=>ne (qe1 O wr lo he z),qhC λe he=>qeI O.inr O.up (hK e he) (k_ne _ f [] (by simp) e he)];omega
theorem q6z{B:Nat}{a:ou}:∀{E:df},(∀e∈E,XJ (a e)<=B)->(E.flatMap PM).length<=B*E.length
 | [],_=>yG _
 | e::E,h=>by
  have ih:=q6z (a:=a) (E:=E) λx hx=>h x gX;have t:=h e zG;have q:(emE a e).length<=B:=by unfold emE;rw[yX];omega
  rw[xG,zE,zM,Nat.mul_succ];omega
theorem qew{n h l:Int}{bs:bP}(x y:Int):Yw n h l bs x-Yw n h l bs y<=bs.length+1:=by
 have r:∀z,(rts n bs z).length<=bs.countP λb=>b.2.2==1:=λz=>by
  unfold rts;rw[<- wd];exact Zd λb _ hb=>by rw[zv]at hb;exact hb.1
 have f:∀z,(lfs n bs z).length<=bs.countP λb=>b.2.2 == -1:=λz=>by
  unfold lfs;rw[<- wd];exact Zd λb _ hb=>by rw[zv]at hb;exact hb.1
 have s:∀bs:List ag,(bs.countP λb=>b.2.2==1)+(bs.countP λb=>b.2.2 == -1)<=bs.length:=λbs=>by
  induction bs with
  | nil=>exact zQ _
  | cons b bs ih=>
   rw[wT,wT,zM];have:¬((b.2.2==1)=true/\(b.2.2 == -1)=true):=λk=>by
    have k1:=eq_of_beq k.1;have k2:=eq_of_beq k.2;omega
   split <;> split <;> first|omega|(exfalso;exact this ⟨by assumption,by assumption⟩)
 have s1:=s bs;have r1:=r y;have f1:=f x;unfold Yw
 split <;> split <;> omega
theorem qgx{n h l c:Int}{bs:bP}(O:jZ)(b5:bs.length<=5)(s7:(St h l bs).length<=7)(hc:Oy){f:cM}(hf:Tells ao (bs.map two++fq++((egs n ao).filter λe=>Yw n h l bs e.1+c != 0).map Xd) f):
  (emS aN ci (Xn f iY).2).length+bs.length<63:=by
 have el:(egs n ao).length=(St h l bs).length:=by have:=vm yh NW;rwa [zB]at this
 have B0:(St h l bs).map mG≠[]:=λe=>by have m:h∈St h l bs:=q02.mpr bD;rw[NM]at m;cases m
 obtain⟨x1,hx1,e1⟩:=zT.mp (q1F B0).1;obtain⟨x2,hx2,e2⟩:=zT.mp (q0U B0).1;have mx:∀x∈St h l bs,Yw n h l bs x<=zAG dn:=λx hx=>(q1F B0).2 _ (zu hx);have mn:∀x∈St h l bs,WC dn<=Yw n h l bs x:=λx hx=>(q0U B0).2 _ (zu hx);have sp:=qew (n:=n) (h:=h) (l:=l) (bs:=bs) x1 x2;rw[e1,e2]at sp;generalize zAG dn=MX at *;generalize WC dn=MN at *;have kl:(Xn f iY).2.length<=7:=by
  have a1:=(q0M f iY).length_le;have a2:=(qL (f:=Yy) (l:=egs n ao)).length_eq;omega
 unfold emS;rw[zE,qcz]
 by_cases z:-MX<=c/\c <= -MN
 ·have s:=q6z (B:=6) (a:=λe=>Yw n h l bs e.1+c) (E:=egs n ao) λe he=>by
   have a:=mx _ (qI e he).1;have b:=mn _ (qI e he).1;unfold XJ;split <;> omega
  omega
 ·have s:=q6z (B:=7) (a:=λe=>Yw n h l bs e.1+c) (E:=egs n ao) λe he=>by
   have a:=mx _ (qI e he).1;have b:=mn _ (qI e he).1;unfold XJ;split <;> omega
  have k0:(Xn f iY).2=[]:=qeS _ f [] λe he=>by
   have he:=(qL (f:=Yy) (l:=egs n ao)).mem_iff.mp he;have a:=mx _ (qI e he).1;have b:=mn _ (qI e he).1;refine(hf _ (qI e he).1 _ (qI e he).2).mpr (.of (zF _ (zT.mpr ⟨e,Tt,rfl⟩)));simp only[bne_iff_ne];omega
  rw[k0,yy];omega
noncomputable def zAF(a b w:Int):List D:=if a=b then []else [Td]
theorem q4Z{ds:aO}{a b w:Int}(hl:Ke):q0j [jB,.sh cY,.sh gG,.sh jw]=some (gG,[some (.pw (ds++zAF a b w)),↥cY,↥gG,↥jw]):=by
 unfold q0j q47 zAF
 by_cases h:a=b
 ·subst h
  rw[jT,zo];simp_arith[q0d]
 ·have h':Qv=false:=by simpa using h
  rw[vG h];simp_arith[h',p_as hl]
theorem rside(x:Int):∃w:Int,atI [D.int 1,D.int (-1)] (x%2)=some (D.int w)/\VZ:=by
 have h2:x%2=0\/x%2=1:=∅
 rcases h2 with h|h <;> rw[h]
 ·exact⟨1,rfl,bD⟩
 ·exact⟨-1,rfl,Iy⟩
theorem qah{bs:bP}{k:Nat}{b:ag}(h:bs[k]?=some b):atI A4 bz=some (tri b):=by
 have hk:k<bs.length:=(ze.mp h).1;rw[q0z ∅ (by rw[zB];omega)];rw[zD hk]at h;simp only[yc,xX,zy h]
noncomputable def X1(a b w:Int):List cq:=if a=b then []else [(none,(a,b,w))]
theorem q6a(a b w:Int):zAF a b w=(X1 a b w).map mvR:=by unfold zAF X1;split <;> rfl
theorem q3Q(a b w:Int):(X1 a b w).length<=1:=by unfold X1;split <;> simp
noncomputable def rs(bs:bP)(n:Int)(s:Op)(m:cq):Option Op:=match m.1 with
 | none=>if m.2.1=s.1/\0<=m.2.2.1/\m.2.2.1<n/\DB/\m.2.2.1≠s.1 then some (m.2.2.1,s.2)else none
 | some k=>if m.2.1=s.1/\0<=m.2.2.1/\m.2.2.1<n/\DB/\k∈s.2/\bs[k]?=some m.2 then some (m.2.2.1,s.2.erase k)else none
structure Dr (n p0:Int) (bs:List (Int×Int×Int)) (ms:List (Option Nat×(Int×Int×Int))) (here:Int) (ls:List Nat):Prop where
 ch:Ch (ms.map (·.2)) p0 here
 on:∀m∈ms,OnB n m.2
 oh:On n here
 pm:∃gos,((ms.map (·.2))++ls.map λk=>bs.getD k (0,0,0)).Perm (gos++bs)
 fo:ms.foldlM (rs bs n) (p0,zY bs.length)=some (here,ls)
 nd:ls.Nodup
 lt:∀k∈ls,k<bs.length
theorem Ch.app:∀{a b:bP}{s m l:Int},Ch a s m->Ch b m l->Ch KG s l
 | [],_,_,_,_,h,h'=>by cases (show _=_ from h);exact h'
 | _::_,_,_,_,_,h,h'=>⟨h.1,Ch.app h.2 h'⟩
section
variable{n p0 here:Int}{bs:List (Int×Int×Int)}{ms:List (Option Nat×(Int×Int×Int))}{ls:List Nat}
theorem Dr.go(h:S9){there w:Int}(ht:On n there)(hw:VZ):Dr n p0 bs (ms++X1 here there w) there ls:=by
 unfold X1
 by_cases z:here=there
 ·rw[fG,zo,<- z];exact h
 ·rw[fm]
  refine⟨?_,K1,ht,?_,?_,h.nd,h.lt⟩
  ·rw[zN];exact h.ch.app cH
  ·rcases zL.mp hm with k|k
   ·exact h.on m k
   ·rw[Q2];exact⟨h.oh,ht,hw⟩
  ·obtain⟨gos,p⟩:=h.pm
   refine⟨(here,there,w)::gos,?_⟩;rw[zN,yB];exact wN.trans (p.cons _)
  ·rw[Z7,h.fo]
   show (rs bs n (here,ls) (none,here,there,w)).bind _=_;unfold rs
   dsimp only
   rw[vC ⟨rfl,ht.1,ht.2,hw,λe=>z e.symm⟩];rfl
theorem Dr.box(h:S9){k:Nat}{b:ag}(hk:k∈ls)(hb:bs[k]?=some b)(e:b.1=here)(ob:OnB n b):Dr n p0 bs (ms++[(Do,b)]) b.2.1 (ls.erase k):=by
 have gb:bs.getD k Ek=b:=by rw[zV,hb];rfl
 refine⟨?_,K1,ob.2.1,?_,?_,h.nd.erase _,λj hj=>h.lt j (List.mem_of_mem_erase hj)⟩
 ·rw[zN];exact h.ch.app ⟨e,rfl⟩
 ·rcases zL.mp hm with q|q
  ·exact h.on m q
  ·rw[zR.mp q];exact ob
 ·obtain⟨gos,p⟩:=h.pm
  refine⟨gos,?_⟩;rw[zN,yB];have p1:(ls.map λk=>bs.getD k Ek).Perm (b::(ls.erase k).map λk=>bs.getD k Ek):=by
   have:=(wZ hk).map λk=>bs.getD k Ek;rw[zO,gb]at this;exact this
  exact(p1.symm.append_left _).trans p
 ·rw[Z7,h.fo]
  show (rs bs n (here,ls) (Do,b)).bind _=_;unfold rs
  dsimp only
  rw[vC ⟨e,ob.2.1.1,ob.2.1.2,ob.2.2,hk,hb⟩];rfl
end
theorem Dr.start{n p0:Int}{bs:bP}(hp:On n p0):Dr n p0 bs [] p0 E2:=by
 refine⟨rfl,(λm hm=>by cases hm),hp,⟨[],?_⟩,rfl,wS,λk hk=>yC.mp hk⟩;rw[yS,yP,yP,q4c]
theorem qh6:∀(ls:cJ)(i:Nat)(h:i<ls.length),ls.Nodup->ls.eraseIdx i=ls.erase ls[i]
 | a::r,0,_,_=>by rw[List.eraseIdx_cons_zero,List.getElem_cons_zero,Zl]
 | a::r,i+1,h,nd=>by
  have h':i<r.length:=by rw[zM]at h;omega
  rw[yZ]at nd;have ne:¬(a==r[i])=true:=λz=>nd.1 (by rw[eq_of_beq z];exact zd h');rw[ZH,List.getElem_cons_succ,List.erase_cons_tail ne,qh6 r i h' nd.2]
theorem zBW{n:Int}{ps:aa}{p0 p1:Int}{r:aa}{bs:bP}{cells:aa}(e0:ps=p0::p1::r)(h7:TQ)(hps:∀p∈ps,On n p)(hbs:∀b∈bs,OnB n b)(hb:bs.length<=5)(hc:cells.length<=47):
  ∃ms,q19 [.lst fA,av,k6]=some (.fr lU)/\ms.length<=60/\Dr n p0 bs ms p1 []:=by
 unfold q19 q3g;have hr:zAJ [.int Lg]=some (.fr Oz):=by
  rw[qcy Ao];unfold zAW;rw[zj,yc]
  congr 2
  apply yK;intro k _;show D.int (0+bz)=D.int k;rw[xm]
 have i0:atI fA 0=some abF:=by rw[e0,q0z (by decide) (by simp;omega)];rfl
 have i1:atI fA 1=some (.int p1):=by rw[e0,q0z (by decide) (by simp;omega)];rfl
 have s0:On n p0:=hps p0 (by rw[e0];simp);have s1:On n p1:=hps p1 (by rw[e0];simp);simp_arith -implicitDefEqProofs [hr,zB,i0];obtain⟨ω',e,ms,here,ls,x6,x7,x8,rfl,d1,d2⟩:=qP (g:=gN 6) (b:=q2H) D.int cells
  (λpre ω=>∃(ms:KO) (here:Int) (ls:cJ) (x6 x7 x8:cc),ω=[Bu,↥av,↥k6,some (.ow lU),FZ,some (.ow (ls.map zAv)),x6,x7,x8]/\Dr n p0 bs ms here ls/\ms.length+2*ls.length<=pre.length+2*bs.length)
  (λpre c post ω hd ⟨ms,here,ls,x6,x7,x8,hω,d1,d2⟩=>by
   subst hω;refine da;have hp:pre.length<cells.length:=by rw[hd,zE,zM];omega
   have hl:(ms.map mvR).length<1000000:=by rw[zB];omega
   obtain⟨w,hw,hw'⟩:=rside (c/3);have hne:=qis (qgC ls);unfold q2H
   by_cases q:c%3=0\/ls=[]
   ·have qt:(c%3==0 || (ls.map zAv).isEmpty)=true:=by
     rcases q with q|q
     ·rw[q];rfl
     ·rw[q];simp
    obtain⟨y,my,hy⟩:=zCB h7 (c/6);have gl:=q3Q here y w;have gd:ms.map mvR++zAF here y w=(ms++X1 here y w).map mvR:=by rw[q6a,zN]
    simp_arith -implicitDefEqProofs [hw,hne,qt,hy,q4Z hl,gd];refine⟨_,_,_,_,_,_,rfl,d1.go (hps y my) hw',?_⟩;rw[zE,zE,zi];omega
   ·have q1:¬c%3=0:=λz=>q acI
    have q2:ls≠[]:=λz=>q (.inr z);have qf:(c%3==0 || (ls.map zAv).isEmpty)=false:=by
     have:(c%3==0)=false:=by simpa using q1
     rw[this];cases ls with
     | nil=>exact vM rfl q2
     | cons a r=>rfl
    have hpos:0<ls.length:=we.mpr q2;have hmm:oMod (.int (c/6)) (.int Lb)=↥(.int (c/6%(ls.length:Int))):=q1j ∅;have k0:=xw (c/6) (show Lb≠0 by omega);have k1:=wx (c/6) (show 0<Lb by omega);generalize c/6%(ls.length:Int)=k at hmm k0 k1;have hkl:k.toNat<ls.length:=∅
    have lsl:ls.length<=bs.length:=by
     have:=wU d1.nd (l₂:=zY bs.length) λj hj=>yC.mpr (d1.lt j hj)
     rwa [zk]at this
    have hp':=λω=>qka (i:=8) (j:=5) (ω:=ω) (k:=k) (ds:=ls.map zAv) k0 (by rw[zB];exact k1) (by rw[zB];omega);simp only[xX,q8s,q9C]at hp';have hin:ls[k.toNat]<bs.length:=d1.lt _ (zd hkl);have hml:ls[k.toNat]∈ls:=zd hkl;have er:ls.eraseIdx k.toNat=ls.erase ls[k.toNat]:=qh6 ls k.toNat hkl d1.nd;have el:(ls.erase ls[k.toNat]).length=ls.length-1:=ZG hml;rw[er]at hp';generalize ls[k.toNat]=j at hp' hin hml el;have hbj:bs[j]?=some bs[j]:=zD hin;have ob:=hbs bs[j] (zd hin);have at':=qah hbj;generalize bs[j]=b at hbj ob at';have gl:=q3Q here b.1 w;have gd:ms.map mvR++zAF here b.1 w=(ms++X1 here b.1 w).map mvR:=by rw[q6a,zN]
    have hl2:((ms++X1 here b.1 w).map mvR).length<1000000:=by rw[zB,zE];omega
    have ea:(ms++X1 here b.1 w).map mvR++[D.tup [cR, Js,AL,oi,CL]]=(ms++X1 here b.1 w++[(some j,b)]).map mvR:=by rw[zN (l₂:=[(some j,b)])];rfl
    simp_arith -implicitDefEqProofs [hw,hne,qf,hmm,zB,hp',at',tri,q4Z hl,gd,zBM hl2,ea];refine⟨_,_,_,_,_,_,rfl,(d1.go ob.1 hw').box hml hbj rfl ob,?_⟩;rw[zE,zE,zE,zi,zi];omega)
  (ω:=[Bu,↥av,↥k6,mQ,↥abF,some (.ow Oz),none,none,none])
  ⟨[],p0,zY bs.length,none,none,none,rfl,Dr.start s0,by rw[zk];exact zQ _⟩
 simp_arith -implicitDefEqProofs [e];obtain⟨ω',e,ms',here',x6,x7,x8,rfl,g1,g2⟩:=qP (g:=gN 8) (b:=q2X) zAv ls
  (λpre ω=>∃(ms':KO) (here':Int) (x6 x7 x8:cc),ω=[Bu,↥av,↥k6,some (.ow (ms'.map mvR)),↥(.int here'),↥He,x6,x7,x8]/\Dr n p0 bs ms' here' (ls.drop pre.length)/\ms'.length+2*(ls.drop pre.length).length<=cells.length+2*bs.length)
  (λpre k post ω hd ⟨ms',here',x6,x7,x8,hω,g1,g2⟩=>by
   subst hω;refine da;have ed:ls.drop pre.length=k::post:=by rw[hd,Yh]
   have ed':ls.drop (pre++[k]).length=post:=by rw[hd,zE,zi,<- Zi,Yh];rfl
   rw[ed]at g1 g2;rw[ed'];rw[zM]at g2;have hl:(ms'.map mvR).length<1000000:=by rw[zB];omega
   have hin:k<bs.length:=g1.lt k zG;have hbj:bs[k]?=some bs[k]:=zD hin;have ob:=hbs bs[k] (zd hin);have at':=qah hbj;generalize bs[k]=b at hbj ob at';have gl:=q3Q here' b.1 b.2.2;have gd:ms'.map mvR++zAF here' b.1 b.2.2=(ms'++X1 here' b.1 b.2.2).map mvR:=by rw[q6a,zN]
   have hl2:((ms'++X1 here' b.1 b.2.2).map mvR).length<1000000:=by rw[zB,zE];omega
   have ea:(ms'++X1 here' b.1 b.2.2).map mvR++[D.tup [cR, oT,AL,oi,CL]]=(ms'++X1 here' b.1 b.2.2++[(Do,b)]).map mvR:=by rw[zN (l₂:=[(Do,b)])];rfl
   have bx:=(g1.go ob.1 ob.2.2).box zG hbj rfl ob;rw[Zl]at bx;unfold q2X;simp_arith -implicitDefEqProofs [q9C,at',tri,q4Z hl,gd,zBM hl2,ea];refine⟨_,_,_,_,_,rfl,bx,?_⟩;rw[zE,zE,zi];omega)
  (ω:=[Bu,↥av,↥k6,some (.ow lU),FZ,↥He,x6,x7,x8])
  ⟨ms,here,x6,x7,x8,rfl,d1,d2⟩
 rw[wP]at g1 g2;have hl:(ms'.map mvR).length<1000000:=by rw[zB];omega
 obtain⟨w,hw,hw'⟩:=rside (cells.length:Int);have gl:=q3Q here' p1 w;have gd:ms'.map mvR++zAF here' p1 w=(ms'++X1 here' p1 w).map mvR:=by rw[q6a,zN]
 simp_arith -implicitDefEqProofs [e,i1,zB,hw,q4Z hl,gd];exact⟨_,rfl,by rw[zE];omega,g1.go s1 hw'⟩
theorem qdq{a b:cJ}:(Xm a).Perm (Xm b)↔a.Perm b:=by
 refine⟨λh=>?_,λh=>h.map _⟩;have:=h.map Zm;unfold Xm at this;rw[zj,zj]at this;have e:(Zm ∘ Int.ofNat)=id:=by funext k;rfl
 rw[e,wB,wB]at this;exact this
theorem qjV(n:Nat):(Xm Ij).Pairwise (· <= ·):=by
 unfold Xm;rw[xj];exact(xY (n:=n)).imp λ{a b} h=>(by show (a:Int)<=(b:Int);omega)
theorem qfl(n:Nat):zAW 0 n=Xm Ij:=by
 unfold zAW Xm;apply yK;intro k _;show A9+bz=bz;rw[xm]
theorem qge(a:cJ)(n:Nat):decide (XB (Xm a)=Xm Ij)=decide (a.Perm Ij):=by
 have e:XB (Xm Ij)=Xm Ij:=q1O q1h (qjV n) qE;have:XB (Xm a)=Xm Ij↔a.Perm Ij:=by
  rw[<- qdq,<- qa9,e]
 simp only[this]
noncomputable def Wl(m:cq):D:=match m.1 with
 | none=>.tup [iU, j8,iu]
 | some k=>.tup [cR, oT,j8,iu]
theorem qhm:shp iU=true:=⋯
theorem q92:shp cR=true:=⋯
theorem qhZ(b:Bool):oEq b iU cR=some (.sh FU):=by
 show (if (shp iU&&shp cR)=true then _ else none)=_;rw[qhm,q92];cases b <;> rfl
theorem ql9{a b:Int}(h:a≠b):q28 [.tup [iU, cY,gG]]=some Hu:=by
 have s0:oEq true iU iU=some (.sh l5):=q9U qhm;have w0:=q1w (d:=.int a) rfl;have w1:=q1w (d:=.int b) rfl;have ne:Qv=false:=by simpa using h
 unfold q28 q5Z;simp_arith[s0,w0,w1];simp_arith[show OB=true from rfl,s0,w0,w1,WL,ne]
theorem qln{k a b:Int}:q28 [.tup [cR, kY,cY,gG]]=some (.sh l5):=by
 unfold q28 q5Z;simp_arith[q0d];simp_arith[show (QR==3)=false from rfl]
theorem qkW{bs:bP}{k:Nat}{b:ag}(h:bs[k]?=some b):q1Q [iZ,LB]=some Hu:=by
 have kl:k<bs.length:=(ze.mp h).1;have s0:oEq true cR cR=some (.sh l5):=q9U q92;have c1:oSl iZ FH none=some (.sh (.tup ([bz,b.1,b.2.1].map D.int))):=rfl;have c2:oSl iZ (some 2) none=some (.sh acD):=rfl;have cm:=qB (i:=0) (f:=q1m) D.int rS [bz,b.1,b.2.1] (ω:=EV) (λx _=>by
  have w:=q1w (d:=.int x) rfl;unfold q1m;simp_arith[w,WL])
 have k1:([bz,b.1,b.2.1].map D.int).length<=1000000:=by simp only[zO,yS,zM,yy];omega
 have ba:zAy [.lst ([bz,b.1,b.2.1].map λ_=>D.bl true)]=↥cZ:=rfl;have at':atI gR bz=some (Xj (two b)):=by
  rw[q0z ∅ (by rw[zB,zB];omega)];rw[zD kl]at h;simp only[yc,xX,zy h]
 have eq:oEq false acD (Xj (two b))=some Hu:=q6m rfl;have g1:decide (bz>=0)=true:=vO ∅;have g2:decide (bz<Lg)=true:=vO ∅;have hf:q0q [iZ,LB]=some Hu:=by
  generalize [bz,b.1,b.2.1].map D.int=P at c1 cm k1;generalize [bz,b.1,b.2.1].map rS=Q at cm ba;unfold q0q q1y;simp_arith[s0,c1,WQ k1,inW,WZ,cm,ba];simp_arith[show (QR==4)=true from rfl,s0,c1,WQ k1,inW,WZ,cm,ba,zB,g1,g2]
 unfold q1Q q4V;simp_arith[hf,c2,at',eq]
section
variable{n h l:Int}{bs:List (Int×Int×Int)}{ms:List (Option Nat×(Int×Int×Int))}
def zBb(n:Int)(bs:bP)(m:cq):Prop:=OnB n m.2/\(m.1=none->m.2.1≠m.2.2.1)/\∀k,m.1=some k->bs[k]?=some m.2
theorem qlo{m:cq}(g:zBb n bs m):q2D [OW,LB]=↥cZ:=by
 obtain⟨o,b⟩:=m;obtain⟨_,g2,g3⟩:=g;unfold q2D q5a Wl;cases o with
 | none=>have e:=ql9 (g2 rfl);simp_arith[e]
 | some k=>have e:=qkW (g3 k rfl);simp_arith[qln,e]
theorem qld{m:cq}(g:zBb n bs m):q0C [bI,av,mvR m]=↥cZ:=by
 obtain⟨o,a,b,w⟩:=m;obtain⟨⟨g1,g2,g3⟩,_,g4⟩:=g;have wy:=qbq (d:=.int w) rfl;have wt:zBr jw=true:=by
  show (w==1 || w == -1)=true;rcases g3 with z|z <;> rw[show w=_ from z] <;> rfl
 rw[wt]at wy;have pl:∀{x:Int},On n x->qT [bI,Ix]=↥cZ:=λ{x} hx=>by
  rw[q2A rfl];show some (O.sh (.bl (decide (0<=x)&&decide (x<n))))=_;rw[vO hx.1,vO hx.2];rfl
 unfold q0C q1I mvR goD;cases o with
 | none=>
  have p0:=pl g1;have p1:=pl g2;have i1:oIx Td Id=some (.sh jw):=rfl;simp_arith[i1,wy,qhZ,p0,p1]
 | some k=>
  have i1:oIx (.tup [cR, oT,cY,gG,jw]) Id=some (.sh jw):=rfl;have sb:oEq false cR cR=some Hu:=q6m q92;have at':=qah (g4 k rfl);have i2:atI [D.int a,gG,jw] 2=some jw:=rfl;have ww:(w==w)=true:=beq_self_eq_true w;simp_arith[i1,wy,sb,at',tri,i2,ww]
theorem qgZ:∀{ms:KO}{h l:Int}{x0 x1 x2 x4:cc},Ch (ms.map (·.2)) h l->∃y,zAd Qt q4J Fh [x0,x1,x2,↥cu,x4]=some (.nx,[x0,x1,x2,↥cQ,y])
 | [],h,l,x0,x1,x2,x4,c=>by cases (show h=l from c);exact⟨x4,rfl⟩
 | m::ms,h,l,x0,x1,x2,x4,c=>by
  obtain⟨c1,c2⟩:=c;obtain⟨y,ih⟩:=qgZ (x0:=x0) (x1:=x1) (x2:=x2) (x4:=↥OW) c2;refine⟨y,?_⟩;have i1:oIx OW (.int (-2))=↥j8:=by unfold Wl;cases m.1 <;> rfl
  have i2:oIx OW Id=↥iu:=by unfold Wl;cases m.1 <;> rfl
  have e1:(m.2.1==h)=true:=by rw[show m.2.1=h from c1];exact beq_self_eq_true h
  have st:q4J [x0,x1,x2,↥cu,↥OW]=some (.nx,[x0,x1,x2,↥iu,↥OW]):=by
   unfold q4J;simp_arith[i1,i2,e1]
  rw[zO,zAd];simp only[e_gn,yf,wq,wu,st];exact ih
theorem q7R:∀ms:List cq,((ms.filter λm=>m.1.isSome).map λm=>D.int Qa)=(Xm (ms.filterMap (·.1))).map D.int
 | []=>rfl
 | (none,b)::ms=>by rw[wA (by simp),yk];exact q7R ms
 | (some k,b)::ms=>by rw[xz rfl,zO,q7R ms,yk];rfl
theorem qkX(O:jZ)(hb:PP)(hz:ms.length<=1000)(g:∀m∈ms,zBb n bs m)(c:Ch (ms.map (·.2)) h l)(pm:(ms.filterMap (·.1)).Perm E2):
  q0K [bI,cu,cQ,av,Ow]=↥cZ:=by
 have ck:=q8B O.n9 O.hh O.hl O.lb O.hb;have ww:=q6F O.lb;have allT:∀xs:List cq,zAy [.lst CT]=↥cZ:=λxs=>by
  have a:allB CT=some true:=by
   induction xs with
   | nil=>rfl
   | cons x xs ih=>rw[zO,allB,ih];rfl
  show (allB CT).map _=_;rw[a];rfl
 have k1:(ms.map mvR).length<=1000000:=by rw[zB];omega
 have k2:(ms.map Wl).length<=1000000:=by rw[zB];omega
 have cA:=qB (i:=0) (f:=q1Y) mvR rS ms (ω:=EV) (λm _=>by
  unfold q1Y mvR goD;cases m.1 <;> simp_arith -implicitDefEqProofs [q0d])
 have cB:=qB (i:=0) (f:=q1R) mvR Wl ms (ω:=EV) (λm _=>by
  have s:oSl (mvR m) none (some (-1))=↥OW:=by unfold mvR Wl goD;cases m.1 <;> rfl
  unfold q1R;simp_arith -implicitDefEqProofs [s])
 have cC:=qB (i:=0) (f:=q4C) Wl rS ms (ω:=[none,↥LB]) (λm hm=>by
  have e:=qlo (g m hm);unfold q4C;simp_arith -implicitDefEqProofs [e])
 have cE:=qB (i:=0) (f:=q1S) mvR rS ms (ω:=[none,↥bI,↥av]) (λm hm=>by
  have e:=qld (g m hm);unfold q1S;simp_arith -implicitDefEqProofs [e])
 have cD:X0 jN q32 q33 Fh EV=some ((Xm (ms.filterMap (·.1))).map D.int):=by
  have:=q35 (i:=0) (c:=q32) (f:=q33) (λm=>m.1.isSome) Wl (λm=>D.int Qa) ms (ω:=EV) (λm _=>by
   have sb:oEq false cR cR=some Hu:=q6m q92;obtain⟨o,b⟩:=m;unfold q32 q33 Wl;cases o with
   | none=>exact⟨by simp_arith -implicitDefEqProofs [qhZ];rfl,λz=>by cases z⟩
   | some k=>exact⟨by simp_arith -implicitDefEqProofs [sb];rfl,λ_=>by simp_arith -implicitDefEqProofs [q0d];rfl⟩)
  rw[this,q7R]
 have nl:(Xm (ms.filterMap (·.1))).length<64:=by
  unfold Xm;rw[zB,pm.length_eq,zk];omega
 have e4:=q68 nl;have e5:zAJ [.int Lg]=some (.fr ((Xm E2).map D.int)):=by
  rw[qcy Ao,yc,qfl]
 have eq:=qad (XB (Xm (ms.filterMap (·.1)))) (Xm E2);rw[qge,vO pm]at eq;obtain⟨y,ld⟩:=qgZ (x0:=↥cu) (x1:=↥cQ) (x2:=↥(.lst Fh)) (x4:=none) c;have ll:(l==l)=true:=beq_self_eq_true l;have le:q4m [cu,cQ,.lst Fh]=↥cZ:=by
  unfold q4m q7F;simp_arith -implicitDefEqProofs [ld,ll]
 have co:=qaa (h:=h) (l:=l) (bs:=bs.map two) (by rw[zB];omega);have it:q2w [cu,cQ,LB,.lst Fh]=↥cZ:=by
  unfold q2w q5d;simp_arith -implicitDefEqProofs [co,WQ k2,inW,WZ,cC,allT,cD,zB,e5];simp_arith -implicitDefEqProofs [e4,eq,le]
 unfold q0K q23;simp_arith -implicitDefEqProofs [ck,ww,WQ k1,inW,WZ,cA,allT,cB,it,cE]
end
theorem qcD{bs:bP}{n:Int}:∀(ms:KO)(s t:Op),(∀m∈ms,OnB n m.2)->ms.foldlM (rs bs n) s=some t->(∀m∈ms,zBb n bs m)/\(ms.filterMap (·.1)++t.2).Perm s.2
 | [],s,t,_,h=>by cases h;exact⟨(λm hm=>by cases hm),xU _⟩
 | m::ms,s,t,on,h=>by
  rw[List.foldlM_cons]at h;obtain⟨u,h1,h2⟩:=bnd h;obtain⟨g,p⟩:=qcD ms u t (λx hx=>on x gX) h2;have o:=on m zG;obtain⟨k,b⟩:=m;unfold rs at h1;cases k with
  | none=>
   dsimp only at h1
   split at h1
   ·rename_i z
    cases h1;refine⟨λx hx=>?_,by rw[yk];exact p⟩;rcases zK.mp hx with rfl|hx
    ·exact⟨o,λ_ e=>z.2.2.2.2 (e.symm.trans z.1),λk hk=>by cases hk⟩
    ·exact g x hx
   ·cases h1
  | some k=>
   dsimp only at h1
   split at h1
   ·rename_i z
    cases h1;refine⟨L8,?_⟩
    ·rcases zK.mp hx with rfl|hx
     ·exact⟨o,(λe=>by cases e),λj hj=>by cases hj;exact z.2.2.2.2.2⟩
     ·exact g x hx
    ·rw[yk]
     exact(p.cons k).trans (wZ z.2.2.2.2.1).symm
   ·cases h1
theorem qkE{n:Int}(n0:0<n){m:cq}(hw:DB):q0t [bI,j8,iu,lV]=↥(.int (stN n m.2)):=qhX n0 hw
theorem qiX{n:Int}(n0:0<n){ms:KO}(hl:ms.length<=1000)(hw:∀m∈ms,m.2.2.2=1\/m.2.2.2=-1):q0S [bI,Ow]=↥(.int ((ms.map (·.2)).map dy).sum):=by
 unfold q0S q2T;have k1:(ms.map mvR).length<=1000000:=by rw[zB];omega
 have cm:=qB (i:=0) (f:=q2j) mvR (λm=>D.int (stN n m.2)) ms (ω:=RJ) (λm hm=>by
  have s:=qkE n0 (hw m hm);have a3:atI (match m.1 with|none=>Ey|some k=>BN) (-3)=some j8:=by cases m.1 <;> rfl
  have a2:atI (match m.1 with|none=>Ey|some k=>BN) (-2)=some iu:=by cases m.1 <;> rfl
  have a1:atI (match m.1 with|none=>Ey|some k=>BN) (-1)=some lV:=by cases m.1 <;> rfl
  obtain⟨o,p,q,w⟩:=m;unfold q2j mvR goD;cases o with
  | none=>dsimp only at *;simp_arith[a1,a2,a3,s]
  | some k=>dsimp only at *;simp_arith[a1,a2,a3,s])
 have s1:=q7a (λm:Option Nat×ag=>stN n m.2) ms;simp_arith[WQ k1,inW,WZ,cm,s1];rw[zj];rfl
theorem q8h{n:Int}(n0:0<n){ms:KO}(hw:∀m∈ms,m.2.2.2=1\/m.2.2.2=-1):q0I [bI,Ow]=↥(.int ((ms.map (·.2)).map dy).sum):=by
 unfold q0I q3n;simp_arith[q0d];obtain⟨ω',e,x3,x4,x5,x6,rfl⟩:=qP (g:=gN 3) (b:=q2L) mvR ms
  (λpre ω=>∃x3 x4 x5 x6:Option W,ω=[↥bI,↥Ow,↥(.int ((pre.map (·.2)).map dy).sum),x3,x4,x5,x6])
  (λpre m post ω hd ⟨x3,x4,x5,x6,hω⟩=>by
   subst hω;refine da;have hm:m∈ms:=by rw[hd];simp
   have hw':=hw m hm;have su:(((pre++[m]).map (·.2)).map dy).sum=((pre.map (·.2)).map dy).sum+stN n m.2:=by
    rw[zN,zN,yR];simp
   rw[su];generalize ((pre.map (·.2)).map dy).sum=S;obtain⟨o,p,q,w⟩:=m;have m1:=q1j (a:=q-p) n0;have m2:=q1j (a:=p-q) n0;have sl1:oSl (.tup [iU, .int p,.int q,jw]) (some (((4:Nat):Int)-3)) none=some JM:=rfl;have sl2:∀k:Int,oSl (.tup [cR, kY,.int p,.int q,jw]) (some (((5:Nat):Int)-3)) none=some JM:=λ_=>rfl;unfold q2L mvR goD stN
   dsimp only at hw' ⊢
   rcases hw' with z|z
   ·have zb:(w==1)=true:=by rw[z];rfl
    rw[z,wX];cases o with
    | none=>dsimp only;simp_arith[<- z,sl1,zb,m1];exact CA
    | some k=>dsimp only;simp_arith[<- z,sl2,zb,m1];exact CA
   ·have zb:(w==1)=false:=by rw[z];rfl
    rw[show (q-p)*w=p-q by rw[z];omega];cases o with
    | none=>dsimp only;simp_arith[sl1,zb,m2];exact CA
    | some k=>dsimp only;simp_arith[sl2,zb,m2];exact CA)
  (ω:=[↥bI,↥Ow,↥Sb,none,none,none,none]) ⟨none,none,none,none,rfl⟩
 simp_arith[e]
theorem qjW{h l:Int}{bs:bP}{ps:aa}(h7:TQ)(mh:h∈ps)(ml:l∈ps)(mb:∀b∈bs,b.1∈ps/\b.2.1∈ps):(St h l bs).length<=7:=by
 have nd:(St h l bs).Nodup:=(qX (ns:=plc h l nQ)).imp λq=>∅
 have:=wU nd (l₂:=ps) λx hx=>by
  rcases q02.mp hx with rfl|rfl|⟨b,hb,rfl|rfl⟩
  ·exact mh
  ·exact ml
  ·exact(mb b hb).1
  ·exact(mb b hb).2
 omega
theorem qfF(ns:aa)(hl:ns.length<=63):q5V [mM]=↥cZ:=by
 obtain⟨n,sz,n1,n9⟩:=qiw (ns:=ns);obtain⟨ps,me,h7,hps⟩:=qgQ (ns:=ns) n1;obtain⟨bs,bo,mb,b5⟩:=qfz (ps:=ps) h7 hl;obtain⟨p0,p1,r,e0⟩:∃p0 p1 r,ps=p0::p1::r:=by
  match ps,h7 with
  | p0::p1::r,_=>exact⟨p0,p1,r,rfl⟩
 have n0:0<n:=∅
 have m0:p0∈ps:=by rw[e0];simp
 have m1:p1∈ps:=by rw[e0];simp
 have hbs:∀b∈bs,OnB n b:=λb hb=>⟨hps _ (mb b hb).1,hps _ (mb b hb).2.1,(mb b hb).2.2⟩;have O:RgO n p0 p1 bs:=⟨n1,n9,hps p0 m0,hps p1 m1,∅,hbs⟩;have i0:atI fA 0=some abF:=by rw[e0,q0z (by decide) (by simp;omega)];rfl
 have i1:atI fA 1=some (.int p1):=by rw[e0,q0z (by decide) (by simp;omega)];rfl
 have cl:(cutD ns (some 16) (some 63)).length<=47:=by
  unfold cutD HT.sIx
  dsimp only
  rw[zr,yN,vG (by decide),vG (by decide)];omega
 obtain⟨ms,dr,dl',D0⟩:=zBW (n:=n) (bs:=bs) (cells:=cutD ns (some 16) (some 63)) e0 h7 (λp hp=>hps p hp) hbs b5 cl;have wy:∀m∈ms,m.2.2.2=1\/m.2.2.2=-1:=λm hm=>(D0.on m hm).2.2;obtain⟨gos,pm⟩:=D0.pm;rw[yS,zo]at pm;obtain⟨c0,w0,wr0,le0⟩:=qg4 O D0.ch pm λb hb=>by
  obtain⟨m,hm,rfl⟩:=zT.mp hb;exact D0.on m hm
 obtain⟨c,R,bt,rl,wr,lo,cb⟩:=qic O;have R0:=lo c0 w0 wr0;have cr:-30<=c/\c<=30:=by
  have B0:(St p0 p1 bs).map (Yw n p0 p1 bs)≠[]:=λe=>by have m:p0∈St p0 p1 bs:=q02.mpr bD;rw[NM]at m;cases m
  obtain⟨x1,_,e1⟩:=zT.mp (q1F B0).1;obtain⟨x2,_,e2⟩:=zT.mp (q0U B0).1;have a1:=q38 (n:=n) (h:=p0) (l:=p1) (x:=x1) (bs:=bs) ∅;have a2:=q38 (n:=n) (h:=p0) (l:=p1) (x:=x2) (bs:=bs) ∅;rw[e1]at a1;rw[e2]at a2;omega
 obtain⟨f,mt,hf,rt,pt,_⟩:=qkR O cr bt λf hf=>qgx O b5 (qjW h7 m0 m1 λb hb=>⟨(mb b hb).1,(mb b hb).2.1⟩) cb hf;have tl:=qgz O wr lo hf;have ts:((mt.map (·.2)).map dy).sum=R:=by
  rw[q2i (pt.map (·.2)),zN,q4P,zj (l:=emS _ _ _),zN,yR,<- tl]
  congr 2
  congr 1
  exact wB _
 have hK:∀e∈(Xn f (Y3 Yy (egs n (St p0 p1 bs)))).2,e∈egs n (St p0 p1 bs):=λe he=>(qL (f:=Yy)).mem_iff.mp EJ;have wt:∀m∈mt,m.2.2.2=1\/m.2.2.2=-1:=λm hm=>by
  rcases zL.mp (pt.mem_iff.mp hm)with k|k
  ·have:m.2∈(zA8 bs).map (·.2):=zu (f:=(·.2)) k
   rw[q4P]at this;exact(hbs _ this).2.2
  ·obtain⟨q,hq,rfl⟩:=zT.mp k
   exact(qhA hK q hq).2.2
 obtain⟨gd,pf⟩:=qcD ms _ _ D0.on D0.fo;rw[zo]at pf;have it:=qkX O ∅ ∅ gd D0.ch pf;have s1:=q8h n0 wy;have s2:=q8h n0 wt;have r1:=qiX n0 ∅ wy;rw[ts]at s2;have bl:∀ds:List D,zAP [fK]=some Ds:=λ_=>rfl;generalize ((ms.map (·.2)).map dy).sum=G at *;have z1:decide (G<R)=false:=vT ∅;have z2:decide (R<=G)=true:=vO ∅;have zz:(G==G)=true:=beq_self_eq_true G;unfold q5V qcX;simp_arith -implicitDefEqProofs [sz,me,bo,qhJ,dr,i0,i1,bl,it,s1,r1,rl,rt,s2,z1,z2,zz]
theorem qjZ{l:ZU}{w:vY}{K:zC}{h:vf}{mg:bO}{fa:vF}(X:K.In h)(G:h.Ns vS mg)(hfa:mg "law" = some Km){f0:vF}{f1:vF}{f2:vF}{f3:vF}{f4:vF}{f5:vF}{f6:vF}{f7:vF}{f8:vF}{f9:vF}{f10:vF}{f11:vF}{f12:vF}{f13:vF}{f14:vF}{f15:vF}{f16:vF}{f17:vF}{f18:vF}{f19:vF}{f20:vF}{f21:vF}{f22:vF}{f23:vF}{f24:vF}{f25:vF}{f26:vF}{f27:vF}{f28:vF}{f29:vF}{f30:vF}{f31:vF}{f32:vF}{f33:vF}{f34:vF}{f35:vF}{f36:vF}{f37:vF}{f38:vF}{f39:vF}{f40:vF}{f41:vF}{f42:vF}{f43:vF}{f44:vF}{f45:vF}{f46:vF}{f47:vF}{f48:vF}{f49:vF}{f50:vF}{f51:vF}{f52:vF}{f53:vF}{f54:vF}{f55:vF}{f56:vF}{f57:vF}(D0:Fd K "is_whole" q4Y f0)(D1:Fd K "is_box" q6y f1)(D2:Fd K "is_errand" q3U f2)(D3:Fd K "check_errand" q2g f3)(D4:Fd K "stops" q7r f4)(D5:Fd K "neighbours" q3o f5)(D6:Fd K "group_of" q4S f6)(D7:Fd K "groups" q6P f7)(D8:Fd K "cost" qaw f8)(D9:Fd K "group_numbers" q1M f9)(D10:Fd K "with_two_joined" q1o f10)(D11:Fd K "forest" q6Q f11)(D12:Fd K "is_way" q6p f12)(D13:Fd K "has_place" q45 f13)(D14:Fd K "is_ring_box" q2M f14)(D15:Fd K "is_ring" q5w f15)(D16:Fd K "check_ring" q3l f16)(D17:Fd K "without_ways" q2e f17)(D18:Fd K "steps" q7Q f18)(D19:Fd K "ring_gaps" q4f f19)(D20:Fd K "gap_length" q3d f20)(D21:Fd K "ring_edges" q3u f21)(D22:Fd K "goes_over" q48 f22)(D23:Fd K "bare_lack" q3W f23)(D24:Fd K "ring_lacks" q3a f24)(D25:Fd K "ring_forest" q2K f25)(D26:Fd K "empty_weight" q2n f26)(D27:Fd K "turns" q7W f27)(D28:Fd K "ring_least" q3i f28)(D29:Fd K "numbers_by_start" q0y f29)(D30:Fd K "as_many_begin_as_end" q0E f30)(D31:Fd K "round_from" q1a f31)(D32:Fd K "row_of" q6E f32)(D33:Fd K "row_between" q2P f33)(D34:Fd K "is_go" q7J f34)(D35:Fd K "has_carry_form" q1x f35)(D36:Fd K "is_carry" q4O f36)(D37:Fd K "is_move" q5B f37)(D38:Fd K "leads" q7P f38)(D39:Fd K "is_tour" q5s f39)(D40:Fd K "keeps_to_ring" q1N f40)(D41:Fd K "is_ring_tour" q2c f41)(D42:Fd K "ring_length" q2Z f42)(D43:Fd K "turn_weight" q2U f43)(D44:Fd K "best_turn" q3Z f44)(D45:Fd K "carries" q5h f45)(D46:Fd K "go_right" q52 f46)(D47:Fd K "go_left" q5g f47)(D48:Fd K "empty_moves" q2S f48)(D49:Fd K "ring_tour" q46 f49)(D50:Fd K "_law_cell" q4d f50)(D51:Fd K "_law_size" q3Y f51)(D52:Fd K "_law_menu" q3S f52)(D53:Fd K "_law_boxes" q3F f53)(D54:Fd K "_law_gone" q4g f54)(D55:Fd K "_law_drawn" q3k f55)(D56:Fd K "_law_steps" q3B f56)(D57:Fd K "law" q5K f57)(z9:yU K vS "isinstance" = some none)(z10:yU K vS "bool" = some none)(z11:yU K vS "int" = some none)(z15:yU K vS "len" = some none)(z16:yU K vS "tuple" = some none)(z19:yU K vS "list" = some none)(z20:yU K vS "all" = some none)(z24:yU K vS "sorted" = some none)(z25:yU K vS "set" = some none)(z28:yU K vS "enumerate" = some none)(z40:yU K vS "zip" = some none)(z48:yU K vS "abs" = some none)(z49:yU K vS "sum" = some none)(z53:yU K vS "min" = some none)(z54:yU K vS "max" = some none)(z55:yU K vS "range" = some none)(z_reversed:yU K vS "reversed" = some none)(z12:IsT K .int)(z13:IsT K .bl)(z17:IsT K .tup)(z21:IsT K .lst): ∃fd:vN,(∀(s:vH)(v:vB),sD s fd ⟨[v],[]⟩ [("script", v)])/\∀base:vf,K.In base->base.Ns vS mg->FnOk l.prog w K mg base CX0 11 fa fd EW (spD K 1 q5V):=by
 have e:=hfa.symm.trans (wW X G D57.1);cases e;obtain⟨d0,F0⟩:=D0.2;obtain⟨d1,F1⟩:=D1.2;obtain⟨d2,F2⟩:=D2.2;obtain⟨d3,F3⟩:=D3.2;obtain⟨d4,F4⟩:=D4.2;obtain⟨d5,F5⟩:=D5.2;obtain⟨d6,F6⟩:=D6.2;obtain⟨d7,F7⟩:=D7.2;obtain⟨d8,F8⟩:=D8.2;obtain⟨d9,F9⟩:=D9.2;obtain⟨d10,F10⟩:=D10.2;obtain⟨d11,F11⟩:=D11.2;obtain⟨d12,F12⟩:=D12.2;obtain⟨d13,F13⟩:=D13.2;obtain⟨d14,F14⟩:=D14.2;obtain⟨d15,F15⟩:=D15.2;obtain⟨d16,F16⟩:=D16.2;obtain⟨d17,F17⟩:=D17.2;obtain⟨d18,F18⟩:=D18.2;obtain⟨d19,F19⟩:=D19.2;obtain⟨d20,F20⟩:=D20.2;obtain⟨d21,F21⟩:=D21.2;obtain⟨d22,F22⟩:=D22.2;obtain⟨d23,F23⟩:=D23.2;obtain⟨d24,F24⟩:=D24.2;obtain⟨d25,F25⟩:=D25.2;obtain⟨d26,F26⟩:=D26.2;obtain⟨d27,F27⟩:=D27.2;obtain⟨d28,F28⟩:=D28.2;obtain⟨d29,F29⟩:=D29.2;obtain⟨d30,F30⟩:=D30.2;obtain⟨d31,F31⟩:=D31.2;obtain⟨d32,F32⟩:=D32.2;obtain⟨d33,F33⟩:=D33.2;obtain⟨d34,F34⟩:=D34.2;obtain⟨d35,F35⟩:=D35.2;obtain⟨d36,F36⟩:=D36.2;obtain⟨d37,F37⟩:=D37.2;obtain⟨d38,F38⟩:=D38.2;obtain⟨d39,F39⟩:=D39.2;obtain⟨d40,F40⟩:=D40.2;obtain⟨d41,F41⟩:=D41.2;obtain⟨d42,F42⟩:=D42.2;obtain⟨d43,F43⟩:=D43.2;obtain⟨d44,F44⟩:=D44.2;obtain⟨d45,F45⟩:=D45.2;obtain⟨d46,F46⟩:=D46.2;obtain⟨d47,F47⟩:=D47.2;obtain⟨d48,F48⟩:=D48.2;obtain⟨d49,F49⟩:=D49.2;obtain⟨d50,F50⟩:=D50.2;obtain⟨d51,F51⟩:=D51.2;obtain⟨d52,F52⟩:=D52.2;obtain⟨d53,F53⟩:=D53.2;obtain⟨d54,F54⟩:=D54.2;obtain⟨d55,F55⟩:=D55.2;obtain⟨d56,F56⟩:=D56.2;obtain⟨_,F57⟩:=D57.2;obtain⟨_,_,kV,dc,pm,an,cd,ct,_,rfl,_,_⟩:=F57.ex;have y_isinstance:=yJ X G z9;have y_bool:=yJ X G z10;have y_int:=yJ X G z11;have y_len:=yJ X G z15;have y_tuple:=yJ X G z16;have y_list:=yJ X G z19;have y_all:=yJ X G z20;have y_sorted:=yJ X G z24;have y_set:=yJ X G z25;have y_enumerate:=yJ X G z28;have y_zip:=yJ X G z40;have y_abs:=yJ X G z48;have y_sum:=yJ X G z49;have y_min:=yJ X G z53;have y_max:=yJ X G z54;have y_range:=yJ X G z55;have y_reversed:=yJ X G z_reversed;refine⟨xR "law" "law" (X6 q5K) (Xl q5K) (Yu q5K) .none kV dc pm an cd ct,λs v=>.of_eq rfl,λbase _ _=>?_⟩;have C0:=qo l.prog w base X G D0 F0 (qaO y_isinstance y_bool y_int z12 z13 F0) λ_ _ _ _ _ _ us hl=>match us,hl with|[_],_=>rfl
 have C1:=qo l.prog w base X G D1 F1 (qeD y_isinstance C0 y_len y_tuple z17 F1) λ_ _ _ _ _ _ us hl=>match us,hl with|[_],_=>rfl
 have C2:=qo l.prog w base X G D2 F2 (q9I y_isinstance C0 C1 y_list y_all z21 F2) λ_ _ _ _ _ _ us hl=>match us,hl with|[_,_,_],_=>rfl
 have C3:=qo l.prog w base X G D3 F3 (q7g C2 F3) λ_ _ _ _ _ _ us hl=>match us,hl with|[_,_,_],_=>rfl
 have C4:=qo l.prog w base X G D4 F4 (qfH C3 y_sorted y_set F4) λ_ _ _ _ _ _ us hl=>match us,hl with|[_,_,_],_=>rfl
 have C5:=qo l.prog w base X G D5 F5 (q8Q F5) λ_ _ _ _ _ _ us hl=>match us,hl with|[_,_],_=>rfl
 have C6:=qo l.prog w base X G D6 F6 (qay y_sorted F6) λ_ _ _ _ _ _ us hl=>match us,hl with|[_,_],_=>rfl
 have C7:=qo l.prog w base X G D7 F7 (qdZ y_sorted C5 C6 F7) λ_ _ _ _ _ _ us hl=>match us,hl with|[_,_],_=>rfl
 have C8:=qo l.prog w base X G D8 F8 (qi8 F8) λ_ _ _ _ _ _ us hl=>match us,hl with|[_],_=>rfl
 have C9:=qo l.prog w base X G D9 F9 (q6N y_enumerate F9) λ_ _ _ _ _ _ us hl=>match us,hl with|[_],_=>rfl
 have C10:=qo l.prog w base X G D10 F10 (q5z F10) λ_ _ _ _ _ _ us hl=>match us,hl with|[_,_,_],_=>rfl
 have C11:=qo l.prog w base X G D11 F11 (qfb y_sorted C9 C7 C8 C10 F11) λ_ _ _ _ _ _ us hl=>match us,hl with|[_,_,_],_=>rfl
 have C12:=qo l.prog w base X G D12 F12 (qeb C0 F12) λ_ _ _ _ _ _ us hl=>match us,hl with|[_],_=>rfl
 have C13:=qo l.prog w base X G D13 F13 (q9H C0 F13) λ_ _ _ _ _ _ us hl=>match us,hl with|[_,_],_=>rfl
 have C14:=qo l.prog w base X G D14 F14 (q7x y_isinstance y_len y_tuple z17 C12 C13 F14) λ_ _ _ _ _ _ us hl=>match us,hl with|[_,_],_=>rfl
 have C15:=qo l.prog w base X G D15 F15 (qds y_isinstance C0 y_list y_all z21 C13 C14 F15) λ_ _ _ _ _ _ us hl=>match us,hl with|[_,_,_,_],_=>rfl
 have C16:=qo l.prog w base X G D16 F16 (q8N C15 F16) λ_ _ _ _ _ _ us hl=>match us,hl with|[_,_,_,_],_=>rfl
 have C17:=qo l.prog w base X G D17 F17 (q7f F17) λ_ _ _ _ _ _ us hl=>match us,hl with|[_],_=>rfl
 have C18:=qo l.prog w base X G D18 F18 (qfQ F18) λ_ _ _ _ _ _ us hl=>match us,hl with|[_,_,_,_],_=>rfl
 have C19:=qo l.prog w base X G D19 F19 (q97 y_list C16 C4 C17 y_zip F19) λ_ _ _ _ _ _ us hl=>match us,hl with|[_,_,_,_],_=>rfl
 have C20:=qo l.prog w base X G D20 F20 (q8U C18 F20) λ_ _ _ _ _ _ us hl=>match us,hl with|[_,_],_=>rfl
 have C21:=qo l.prog w base X G D21 F21 (q8O C19 C20 F21) λ_ _ _ _ _ _ us hl=>match us,hl with|[_,_,_,_],_=>rfl
 have C22:=qo l.prog w base X G D22 F22 (qag C18 F22) λ_ _ _ _ _ _ us hl=>match us,hl with|[_,_,_,_],_=>rfl
 have C23:=qo l.prog w base X G D23 F23 (q9E y_len C22 F23) λ_ _ _ _ _ _ us hl=>match us,hl with|[_,_,_,_,_],_=>rfl
 have C24:=qo l.prog w base X G D24 F24 (q8J C19 C23 F24) λ_ _ _ _ _ _ us hl=>match us,hl with|[_,_,_,_,_],_=>rfl
 have C25:=qo l.prog w base X G D25 F25 (q7v C17 y_zip C11 F25) λ_ _ _ _ _ _ us hl=>match us,hl with|[_,_,_,_,_],_=>rfl
 have C26:=qo l.prog w base X G D26 F26 (q76 C8 y_zip C25 y_abs y_sum F26) λ_ _ _ _ _ _ us hl=>match us,hl with|[_,_,_,_,_],_=>rfl
 have C27:=qo l.prog w base X G D27 F27 (qfV C18 y_sum C21 C24 C26 y_min y_max y_range F27) λ_ _ _ _ _ _ us hl=>match us,hl with|[_,_,_,_],_=>rfl
 have C28:=qo l.prog w base X G D28 F28 (q8Y y_min C27 F28) λ_ _ _ _ _ _ us hl=>match us,hl with|[_,_,_,_],_=>rfl
 have C29:=q57 (P:=l.prog) (w:=w) (mg:=mg) (base:=base) F29 y_enumerate;have C30:=qo l.prog w base X G D30 F30 (q3I y_sorted F30) λ_ _ _ _ _ _ us hl=>match us,hl with|[_],_=>rfl
 have C31:=qo l.prog w base X G D31 F31 (q8S F31 C29 (wW X G D29.1) F29.kp (F29.binds (ps:=DZ) λ_ _ _ _ _ _ us hl=>match us,hl with|[_],_=>rfl) y_list y_reversed) λ_ _ _ _ _ _ us hl=>match us,hl with|[_,_],_=>rfl
 have C32:=qo l.prog w base X G D32 F32 (qfh y_len C30 C31 F32) λ_ _ _ _ _ _ us hl=>match us,hl with|[_,_],_=>rfl
 have C33:=qo l.prog w base X G D33 F33 (q7X y_len C32 F33) λ_ _ _ _ _ _ us hl=>match us,hl with|[_,_,_],_=>rfl
 have C34:=qo l.prog w base X G D34 F34 (qgO y_isinstance C0 y_len y_tuple z17 F34) λ_ _ _ _ _ _ us hl=>match us,hl with|[_],_=>rfl
 have C35:=qo l.prog w base X G D35 F35 (q6c y_isinstance C0 y_len y_tuple z17 y_all F35) λ_ _ _ _ _ _ us hl=>match us,hl with|[_,_],_=>rfl
 have C36:=qo l.prog w base X G D36 F36 (qaR C35 F36) λ_ _ _ _ _ _ us hl=>match us,hl with|[_,_],_=>rfl
 have C37:=qo l.prog w base X G D37 F37 (qcN C36 C34 F37) λ_ _ _ _ _ _ us hl=>match us,hl with|[_,_],_=>rfl
 have C38:=qo l.prog w base X G D38 F38 (qgd F38) λ_ _ _ _ _ _ us hl=>match us,hl with|[_,_,_],_=>rfl
 have C39:=qo l.prog w base X G D39 F39 (qcL y_isinstance y_len y_list y_all z21 C3 y_sorted y_range C37 C38 F39) λ_ _ _ _ _ _ us hl=>match us,hl with|[_,_,_,_],_=>rfl
 have C40:=qo l.prog w base X G D40 F40 (q6o C12 C13 F40) λ_ _ _ _ _ _ us hl=>match us,hl with|[_,_,_],_=>rfl
 have C41:=qo l.prog w base X G D41 F41 (q7j y_isinstance y_tuple z17 y_list y_all z21 C16 C17 C39 C40 F41) λ_ _ _ _ _ _ us hl=>match us,hl with|[_,_,_,_,_],_=>rfl
 have C42:=qo l.prog w base X G D42 F42 (q7Y C18 y_sum F42) λ_ _ _ _ _ _ us hl=>match us,hl with|[_,_],_=>rfl
 have C43:=qo l.prog w base X G D43 F43 (q7I F43) λ_ _ _ _ _ _ us hl=>match us,hl with|[_],_=>rfl
 have C44:=qo l.prog w base X G D44 F44 (q9b y_min C27 C43 F44) λ_ _ _ _ _ _ us hl=>match us,hl with|[_,_,_,_],_=>rfl
 have C45:=qo l.prog w base X G D45 F45 (qcJ y_enumerate F45) λ_ _ _ _ _ _ us hl=>match us,hl with|[_],_=>rfl
 have C46:=qo l.prog w base X G D46 F46 (qaL F46) λ_ _ _ _ _ _ us hl=>match us,hl with|[_],_=>rfl
 have C47:=qo l.prog w base X G D47 F47 (qd7 F47) λ_ _ _ _ _ _ us hl=>match us,hl with|[_],_=>rfl
 have C48:=qo l.prog w base X G D48 F48 (q7N y_zip C25 y_abs C21 C24 C46 C47 F48) λ_ _ _ _ _ _ us hl=>match us,hl with|[_,_,_,_,_],_=>rfl
 have C49:=qo l.prog w base X G D49 F49 (q9k C44 C45 C48 C33 F49) λ_ _ _ _ _ _ us hl=>match us,hl with|[_,_,_,_],_=>rfl
 have C50:=qo l.prog w base X G D50 F50 (q9S y_len F50) λ_ _ _ _ _ _ us hl=>match us,hl with|[_,_],_=>rfl
 have C51:=qo l.prog w base X G D51 F51 (q9A C50 F51) λ_ _ _ _ _ _ us hl=>match us,hl with|[_],_=>rfl
 have C52:=qo l.prog w base X G D52 F52 (qau y_range C50 F52) λ_ _ _ _ _ _ us hl=>match us,hl with|[_,_],_=>rfl
 have C53:=qo l.prog w base X G D53 F53 (q8M C50 F53) λ_ _ _ _ _ _ us hl=>match us,hl with|[_,_],_=>rfl
 have C54:CalW _ _ _ _ _ _ _ _ _ _ _ _:=⟨q9x (P:=l.prog) (w:=w) (mg:=mg) (base:=base) F54,wW X G D54.1,F54.kp,F54.binds (ps:=kd) λ_ _ _ _ _ _ us hl=>match us,hl with|[_,_,_,_],_=>rfl⟩;have C55:=qo l.prog w base X G D55 F55 (q8P y_len y_list y_range C54 F55) λ_ _ _ _ _ _ us hl=>match us,hl with|[_,_,_],_=>rfl
 have C56:=qo l.prog w base X G D56 F56 (q8Z y_len F56) λ_ _ _ _ _ _ us hl=>match us,hl with|[_,_],_=>rfl
 exact qkr y_isinstance y_bool y_int z12 z13 y_list C51 C52 C53 C55 C41 C56 C42 C28 C49 F57
theorem walk{l:ZU}{q:vQ}{loose:dI}{XP:RF}{YP:Q7}{d:DefRec}{K:Params->zC}(hn:l.most=some 63)(hdf:GA)(hY:∀(w:vY)(h:vf),YP w h->(K w.params).In h)(F:∀(w:vY)(mg:bO)(fa:vF)(h:vf),(K w.params).In h->h.Ns vS mg->mg d.name=some Km ->
   ∃fd:vN,(∀(s:vH)(u:vB),sD s fd QT [("script", u)])/\∀base:vf,(K w.params).In base->base.Ns vS mg->FnOk l.prog w DI mg base CX0 11 fa fd EW (spD DI 1 q5V)) :
  Yi q loose XP YP l.row.toRowW d [] BG :=
 L2.qbG (n:=63) (k:=11) (x := "script") (CX:=λ_=>CX0) (sp:=λw=>spD DI 1 q5V) hn (by decide) hdf ⟨rfl,by decide,by decide⟩ hY F
  (λ_ H a ns hl _ hS=>⟨H,[mM],Hu,qfF ns hl,rfl,ig,⟨dF,[],rfl,⟨a,rfl,hS⟩,rfl⟩,λ_ _ _ _ y=>y⟩) λ_ _ _ _ _ z=>z
end Kx
end
namespace PySem.W.Fast
def tw1002647128248722050:=0
def tw13094993583577671879:=0
def tw6106121055456365915:=0
def tw16679511377082633009:=0
def tw18085000774639751739:=0
def tw5577505165497303068:=0
def tw16759144439820909688:=0
def tw281045427992862386:=0
def tw2908309558322193415:=0
def tw14108083891228288803:=0
def tw12359964198106778664:=0
def tw7563550753512465663:=0
def tw15786104694494567415:=0
def tw15429381952267773703:=0
def tw394633163775823314:=0
def tw14586806698845937993:=0
def tw2801170531832711565:=0
def tw44787289414262158:=0
def tw8616677722144409567:=0
def tw11906773956081829822:=0
def tw1451444368927123256:=0
def tw14683927081994124216:=0
def tw13111989037527738852:=0
def tw14838848968062366935:=0
def tw16888441327063268664:=0
def tw697095529261498725:=0
def tw10743267798754433025:=0
def tw6843930916595897395:=0
def tw2406882903563476221:=0
def tw6083067889714737449:=0
def tw4435440917556568224:=0
def tw3913172438422699061:=0
def tw18132331039233220387:=0
def tw15296975637426418684:=0
def tw1989856273250078256:=0
def tw13526243641959065137:=0
def tw2205870522829329361:=0
def tw13808085060527122728:=0
def tw10009453092036055877:=0
def tw17546261566256610454:=0
def tw10833202630113507317:=0
def tw2062303947866562551:=0
def tw4452601054577140013:=0
def tw3453080436428835099:=0
def tw7873416630618501699:=0
def tw1039128835923461204:=0
def tw17807474189271741254:=0
def tw15148069557148339428:=0
def tw12314546637597076070:=0
def tw7430527325313452945:=0
def tw7822133299117932634:=0
def tw12491166833846855621:=0
def tw2113541808035411155:=0
def tw6639478316009091260:=0
def tw14136709016745737910:=0
def tw8992343551566023957:=0
def tw12269239198481533789:=0
def tw13296068610562443736:=0
def tw8267151516768667899:=0
def tw16646897674200570265:=0
def tw17688552249181638974:=0
def tw1037425128684690537:=0
def tw13301061134255799959:=0
def tw7989959948465864353:=0
def tw9604660949132590842:=0
def tw144663870947813971:=0
def tw15592216426374256817:=0
def tw16039951308943775505:=0
def tw7367956693109042060:=0
def tw16370537466302249838:=0
def tw18071488778725071600:=0
def tw7847870861639946320:=0
def tw176309995732459261:=0
def tw8766493910847560735:=0
def tw9094298188741363433:=0
def tw139421153029888068:=0
def tw3489531148441516388:=0
def tw10633012788359653067:=0
def tw2233026920906007268:=0
def tw3216369993099947891:=0
def tw1872561522798165001:=0
def tw16486025709676007874:=0
def tw8998036452025717463:=0
def tw8658242405592617377:=0
def tw17854919669049576392:=0
def tw5010710265363187686:=0
def tw14627247908433973817:=0
def tw10925556281677218159:=0
def tw2671199200891042766:=0
def tw12323216747346586280:=0
def tw7111967515659112871:=0
def tw17062007451906490866:=0
def tw6202753393050052318:=0
def tw2862968358274597813:=0
def tw1001279378385403597:=0
def tw18003828230142082233:=0
def tw9277456042001425970:=0
def tw14186098236069936716:=0
def tw15862504254707928251:=0
def tw12401153774641346695:=0
def tw1488390611497080254:=0
def tw15552669826957804611:=0
def tw631500839493770258:=0
def tw3920971151086954904:=0
def tw10858739647280165204:=0
def tw1844602054388473845:=0
def tw15630928798371075663:=0
def tw4495524498216231137:=0
def tw3927793567214277888:=0
def tw11949683042285980874:=0
def tw16085600270688172178:=0
def tw7003297683054121270:=0
def tw6628628061617645047:=0
def tw16422479441024341837:=0
def tw14916264294954281152:=0
def tw15050454920882464415:=0
def tw16279526261164636181:=0
def tw14146935238361630646:=0
def tw4146689270534402168:=0
def tw952179710433743486:=0
def tw1143655965992911699:=0
def tw8375797656501330605:=0
def tw10496601058421296874:=0
def tw12504919033936222258:=0
def tw17921904990462611628:=0
def tw2804886443502049125:=0
def tw17081102935941329598:=0
def tw7113631950454133603:=0
def tw2048606401551085126:=0
def tw16509582591466717983:=0
def tw2999643286813074262:=0
def tw15386523144545632387:=0
def tw14334914431180596606:=0
def tw6825667449199913476:=0
def tw8583573929725027618:=0
def tw741977085069856148:=0
def tw6102290872525465040:=0
def tw4983286097971419103:=0
def tw15717715795414648670:=0
def tw9857007945570810130:=0
def tw8438271743933563436:=0
def tw9512774415182151021:=0
def tw6843732264380883163:=0
def tw1139308400898302175:=0
def tw7750076806358658665:=0
def tw15486601574624136553:=0
def tw6431485156401559577:=0
def tw4897874983615363432:=0
def tw14235713973008334617:=0
def tw4606013728883558949:=0
def tw16459578349867486116:=0
def tw10634687738015807929:=0
def tw11486847837550379821:=0
def tw7976601871484537280:=0
def tw13605095688524647176:=0
def tw4485935927935904073:=0
def tw16084456017865269070:=0
def tw14547640193450992442:=0
def tw1655006740198251601:=0
def tw2947452244266622121:=0
def tw17146415417865340056:=0
def tw8020672833028884867:=0
def tw5200727512746345998:=0
def tw18069952144693772010:=0
def tw7552115709146754752:=0
def tw5886529812124907712:=0
def tw14358945379527835352:=0
def tw12258122798021775242:=0
def tw4438391460643546917:=0
def tw14273565767047413081:=0
def tw16346967859011184246:=0
def tw12261753752373576254:=0
def tw780546617988071498:=0
def tw10334862011651803951:=0
def tw9671039388842152520:=0
def tw7553885868842676922:=0
def tw18135038205872961093:=0
def tw4955891891186941426:=0
def tw12724354088181215385:=0
def tw13670222768492562810:=0
def tw1405645827908865920:=0
def tw18004374328802061573:=0
def tw10980629165045056009:=0
def tw15672708349504133068:=0
def tw7615055458095187965:=0
def tw15709458216482167969:=0
def tw8554541915650205632:=0
def tw9752168651762138533:=0
def tw3585196004714890519:=0
def tw14958119426527528304:=0
def tw7976595204378623773:=0
def tw1511117079816617028:=0
def tw13720548529045455952:=0
def tw2292559923910786378:=0
def tw677885235624946174:=0
def tw3119806486298182232:=0
def tw15746868874249840464:=0
def tw17257085173714230892:=0
def tw4296909268858821419:=0
def tw13700188151507412414:=0
def tw8368348695995333525:=0
def tw17969581375519565734:=0
def tw8320916670716737390:=0
def tw15796607662564761732:=0
def tw17929234441137416240:=0
def tw10442871157661343041:=0
def tw8580261781948623769:=0
def tw6172893308149142076:=0
def tw14866908687240303824:=0
def tw7963681026499190756:=0
def tw1096096261503036670:=0
def tw14463423117061193966:=0
def tw18440733339363655086:=0
def tw6917599364084499571:=0
def tw6596540839371501216:=0
def tw14152843893571669985:=0
def tw17109181200061844969:=0
def tw12832575262408416935:=0
def tw15101547207818754900:=0
def tw5926667802817993065:=0
def tw6703740224464499759:=0
def tw3392466197055338179:=0
def tw5768187199856965399:=0
def tw10863148221025588373:=0
def tw11815473548932841089:=0
def tw6366800755131971329:=0
def tw5622556491742685725:=0
def tw5716169448425520891:=0
def tw14676320452295874499:=0
def tw13399413550717793311:=0
def tw2573851363876948240:=0
def tw5508433038486002004:=0
def tw4332537974934577069:=0
def tw2629222598868996993:=0
def tw5154095871516273329:=0
def tw12866867788662231645:=0
def tw15328346993115875847:=0
def tw280080369155877693:=0
def tw11710342513135359551:=0
def tw17504269513260759643:=0
def tw5229893102226991376:=0
def tw9053992675586296337:=0
def tw18059572621621731916:=0
def tw3545584816087882101:=0
def tw4886228755282505483:=0
def tw3871374066048651358:=0
def tw8965808987349575571:=0
def tw9222444814272280115:=0
def tw14214417374654239833:=0
def tw18034930865694166558:=0
def tw16871494396492848764:=0
def tw8462423911111115066:=0
def tw16000531722218236397:=0
def tw8282389886067539216:=0
def tw17652556902015592592:=0
def tw10494506852520318212:=0
def tw144972144690991402:=0
def tw17685425303082655683:=0
def tw2004944697991511216:=0
def tw12427160459247308962:=0
def tw16509025716569115749:=0
def tw1282417751872966048:=0
def tw496363553253343533:=0
def tw11371113408055346013:=0
def tw17295653765280104149:=0
def tw15148021096787670817:=0
def tw9469583073251473603:=0
def tw17068982547428102376:=0
def tw3865450565374250441:=0
def tw2600128784688055093:=0
def tw1510062311885275981:=0
def tw18441950275758601273:=0
def tw8063313786248765335:=0
def tw7112399911810090979:=0
def tw17601284374921099106:=0
def tw593016064590466495:=0
def tw13556547938030599680:=0
def tw9168239306692815944:=0
def tw6328211977755282128:=0
def tw11720023323698723775:=0
def tw11953423579688096601:=0
def tw11956437491102736811:=0
def tw12486851162181922381:=0
def tw14401792958369291373:=0
def tw13435298691399667919:=0
def tw8109115562961726047:=0
def tw3479644865576746377:=0
def tw9104022355158701989:=0
def tw2494039828943528404:=0
def tw17102506174441918179:=0
def tw17038917632319011556:=0
def tw8161736685168279423:=0
def tw7268018504280962315:=0
def tw9257435236858121592:=0
def tw17421330128597972894:=0
def tw6304666093353696846:=0
def tw4541088746167133180:=0
def tw4794428598280738194:=0
def tw9066794167267513358:=0
def tw12387216381145571505:=0
def tw11567163984314794192:=0
def tw903707962260304308:=0
def tw13422298133894681251:=0
def tw11710863525946006965:=0
def tw6899890975997027376:=0
def tw7376574878859068644:=0
def tw12318813468152683417:=0
def tw8585336100814857270:=0
def tw17290476030486770778:=0
def tw911229693691520997:=0
def tw8379883653389497602:=0
def tw4270545672723818791:=0
def tw18067236064169999779:=0
def tw12656309340278537720:=0
def tw8132260809454736674:=0
def tw2319577538764009713:=0
def tw16242473676527935677:=0
def tw13748693665776387749:=0
def tw2984222592073641371:=0
def tw1536474369534158604:=0
def tw13404909240972002561:=0
def tw433175391101498476:=0
def tw13387673257160762175:=0
def tw9662079931542185099:=0
def tw16766440594089155041:=0
def tw16082576484744204438:=0
def tw10893418768860463969:=0
def tw11973140386408086387:=0
def tw13027356754817166821:=0
def tw15647186697027669511:=0
def tw11248489191128707364:=0
def tw7179609567567737932:=0
def tw15453938335761516646:=0
def tw13662446041701155024:=0
def tw9959971201267167057:=0
def tw13775716210814678846:=0
def tw8229525024964769123:=0
def tw13757376363185273904:=0
def tw4761394376490270112:=0
def tw4600351542826968651:=0
def tw897212287939849623:=0
def tw10011159901021132322:=0
def tw5348437474080511670:=0
def tw12004400172880589718:=0
def tw5343879646483992194:=0
def tw9698810203258189263:=0
def tw6130079482349260385:=0
def tw2667862983749813189:=0
def tw510941627955266854:=0
def tw8983440841873997745:=0
def tw3961150792121799894:=0
def tw13697373890059621803:=0
def tw6224841543289677309:=0
def tw10563835697859773428:=0
def tw17404973950055382965:=0
def tw4861978607337157489:=0
def tw7335373229972554608:=0
def tw8927649037797568446:=0
def tw1082050640103854254:=0
def tw7309998997930302942:=0
def tw17508613990266178693:=0
def tw3416938691546633480:=0
def tw18288624075307937977:=0
def tw4345253741205119086:=0
def tw17999932923268049930:=0
def tw10993593165461539014:=0
def tw13134956011965644384:=0
def tw14272276519562427472:=0
def tw1469531826928681854:=0
def tw815584450480809265:=0
def tw9996894764690322073:=0
def tw16651072788355130780:=0
def tw9388603465048929022:=0
def tw4991577768078009981:=0
def tw1342929803754558529:=0
def tw10427079824758366212:=0
def tw10739018532942006995:=0
def tw18091101349887474824:=0
def tw8934984409780271822:=0
def tw12080498848384495551:=0
def tw4116078037216243026:=0
def tw1424759851393415447:=0
def tw9794055603743408898:=0
def tw14411848144427504174:=0
def tw14761836780458464843:=0
def tw11417121762795158688:=0
def tw12561087169246284695:=0
def tw9384542244775826055:=0
def tw15737715797334305720:=0
def tw14660471950933244026:=0
def tw12686207047982590308:=0
def tw74390606301983650:=0
def tw6485601410788039985:=0
def tw10997846993131143000:=0
def tw16067931027510480452:=0
def tw12385346155726233221:=0
def tw8183246120821186455:=0
def tw9058556253083077564:=0
def tw1473180188730897961:=0
def tw3502407420609197862:=0
end PySem.W.Fast
open PySem PySem.W PyProof.Rows
set_option maxRecDepth 100000 in
set_option maxHeartbeats 0 in
theorem PySem.Challenge.cw_hookrail_k67_whole_no_ring_tour_is_short_holds : PySem.Challenge.rw_hookrail_k67_whole_no_ring_tour_is_short.Holds := by
 w_on;o_law;k_head;(case hw=>w_witness2)
 k_fill
 refine Kx.walk (l:=PySem.Challenge.rw_hookrail_k67_whole_no_ring_tour_is_short) rfl rfl (λw h Y=>YZ Y) ?F
 case F =>
  intro w mg fa h KX G hmg;refine' Kx.qjZ KX G hmg ?D0 ?D1 ?D2 ?D3 ?D4 ?D5 ?D6 ?D7 ?D8 ?D9 ?D10 ?D11 ?D12 ?D13 ?D14 ?D15 ?D16 ?D17 ?D18 ?D19 ?D20 ?D21 ?D22 ?D23 ?D24 ?D25 ?D26 ?D27 ?D28 ?D29 ?D30 ?D31 ?D32 ?D33 ?D34 ?D35 ?D36 ?D37 ?D38 ?D39 ?D40 ?D41 ?D42 ?D43 ?D44 ?D45 ?D46 ?D47 ?D48 ?D49 ?D50 ?D51 ?D52 ?D53 ?D54 ?D55 ?D56 ?D57 ?z9 ?z10 ?z11 ?z15 ?z16 ?z19 ?z20 ?z24 ?z25 ?z28 ?z40 ?z48 ?z49 ?z53 ?z54 ?z55 ?z_reversed ?z12 ?z13 ?z17 ?z21
  (case D0|D1|D2|D3|D4|D5|D6|D7|D8|D9|D10|D11|D12|D13|D14|D15|D16|D17|D18|D19|D20|D21|D22|D23|D24|D25|D26|D27|D28|D29|D30|D31|D32|D33|D34|D35|D36|D37|D38|D39|D40|D41|D42|D43|D44|D45|D46|D47|D48|D49|D50|D51|D52|D53|D54|D55|D56|D57=>(refine' Hk.qlj ?a ?l ?c ?k;(case a=>k_is);(case l=>k_is);(case c=>k_is);(case k=>k_is)))
  (case z9|z10|z11|z15|z16|z19|z20|z24|z25|z28|z40|z48|z49|z53|z54|z55|z_reversed=>k_is)
  (case z12=>intro t ht;cases t <;> first|(exact absurd rfl ht)|rfl|k_is)
  (case z13=>intro t ht;cases t <;> first|(exact absurd rfl ht)|rfl|k_is)
  (case z17=>intro t ht;cases t <;> first|(exact absurd rfl ht)|rfl|k_is)
  (case z21=>intro t ht;cases t <;> first|(exact absurd rfl ht)|rfl|k_is)
#print axioms PySem.Challenge.cw_hookrail_k67_whole_no_ring_tour_is_short_holds
